import PyProof.Rows.All
import Wide.All
import OpenK.AllK
import Wide.FinOn
import PyProof.ReprRoads
import HandS.ForMost
import HandS.ForExc
import HandS.Evl
import HandS.Wide
import HandS.Conv
import HandS.More
import HandS.WideBits
import HandS.ExcInit
import HandS.ExcField
import HandS.IsInst
import KE.KDictPairs
import KE.GoesMore
import HandS.TupMul
import HandS.TupAny
import HandS.Style
import HandS.SlotsOwn
import HandS.Property
import PyProof.InstNe
import OpenK.KMeth
import KE.KOpsOwn
import HandS.SortKw
import KE.SortKeyHeap
import KE.DataMinKey
import HandS.ExcIs
import HandS.TryOnly
import HandS.Zip
import HandS.SetTxt0
import HandS.Set
import HandS.SetFor
import KE.SortData
import KE.LtData
import HandS.TupSets
import HandS.NoneIn
import HandS.Dict
import PySem.Challenge.RW_refusedahead_k40_seven_words
set_option Elab.async false
set_option linter.all false
set_option maxRecDepth 100000
set_option maxHeartbeats 2000000
/-! Calls made while no repr is under way (needed for repr); repr and == of data; wide division. -/
namespace Gx
open PySem PySem.Spec PyProof.Rows L2
abbrev Quiet (A : Around) : Prop := A.guards = some []
structure FnQ (P : Program) (w : World) (K : PySem.W.Frag) (mg : Str → Option Value)
    (base : Heap) (CX : CXT) (k : Nat) (f : Addr) (fd : FuncData) (ps : List Str) (sp : Sp) : Prop where
  argc : ∀ vs H Q E, sp vs H Q E → vs.length = ps.length
  goes : ∀ (A : Around) (outer : List Env) (s : Shared) (H : Hp) (args : Args) (us : List Value)
    (vs : List V) (Q : VK) (E : XK), Room k A → Quiet A → Env0 P w K mg base A outer s H →
    BindsTo s fd args (ps.zip us) → Vals vs us → sp vs H Q E →
    codeAny (model P w) A (.call (.ref f) args) (CR CX outer P w H s Q E) s
section
variable {P : Program} {w : World} {K : PySem.W.Frag} {mg : Str → Option Value} {base : Heap} {CX : CXT}
/-- a def whose promise holds at any call holds it at a quiet one -/
theorem FnQ.of {k : Nat} {f : Addr} {fd : FuncData} {ps : List Str} {sp : Sp}
    (G : FnOk P w K mg base CX k f fd ps sp) : FnQ P w K mg base CX k f fd ps sp :=
  ⟨G.len, fun A o s H ar us vs Q E r _ => G.run A o s H ar us vs Q E r⟩
theorem FnQ.mono {j k : Nat} {f : Addr} {fd : FuncData} {ps : List Str} {sp : Sp}
    (G : FnQ P w K mg base CX j f fd ps sp) (h : j ≤ k) : FnQ P w K mg base CX k f fd ps sp :=
  ⟨G.argc, fun A o s H ar us vs Q E r => G.goes A o s H ar us vs Q E (r.mono h)⟩
/-- a def's body, walked at quiet calls alone -/
theorem fnq_of {x qual : Str} {st : Stmt} {f : Addr} {fd : FuncData} {N ps : List Str} {k : Nat} {sp : Sp}
    (F : Fun K x qual st f fd) (S : FnScope N ps (defScope st))
    (len : ∀ vs H Q E, sp vs H Q E → vs.length = ps.length)
    (walk : ∀ (cdv : Value) (A : Around) (outer : List Env) (s : Shared) (H : Hp) (vs : List V) (Q : VK) (E : XK),
      Room k (A.deeper (envOfC qual (defScope st) s.heap.objs.size f cdv)) → Quiet A → sp vs H Q E →
      ∃ t, PSs (cxOf CX P w K mg base N qual (defScope st) f cdv A outer s H E) (defBody st) t ∧
        t { nx := fun _ H' => Q .non H', rt := Q } (start N vs) H) :
    FnQ P w K mg base CX (k + 1) f fd ps sp := by
  obtain ⟨oc, od, kV, doc, pm, an, cdv, ct, osl, rfl, lk, hcd⟩ := F.ex
  refine ⟨len, fun A o s H ar us vs Q E rm qu e0 bd rv hs => ?_⟩
  have argl := len _ _ _ _ hs
  have inK : K.In s.heap := e0.mod.kin.keeps fun b ob z => (e0.bs b ob z).1
  have nolim : s.heap.NoLimit := e0.mod.nolimit.keeps fun b ob z => (e0.bs b ob z).1
  refine codeAny_call_function rm.depth (inK _ _ lk) rfl S.co S.gen rfl
    (PySem.W.codeRec_of inK hcd) (bd _ _ _ _ ?_)
  refine wpAny_newFunctionEnv_cells S.kind (fun y hy => ?_) fun en hen s1 ic => ?_
  · obtain ⟨nm, vl⟩ := y
    rcases S.par nm (List.of_mem_zip hy).1 with loc | cel
    · exact .inl loc
    · exact .inr ⟨cel, PySem.W.cellsFrom_some _ _ _ (.inl cel)⟩
  · subst hen
    refine ⟨nolim.keeps ic.toInCall.keep, codeAny_func ?_⟩
    obtain ⟨t, pt, ht⟩ := walk cdv A o s H vs Q E (rm.deeper _) qu hs
    have I := inv_start (CX := CX) (E := E) S rm.hd e0 argl rv ic
    refine wpAny_mono (pt.run [] s1 (start N vs) H _ I ht) (fun fl s' hq => ?_) fun _ _ hq => hq
    cases fl with
    | brk => obtain ⟨_, _, _, no⟩ := hq; exact no.elim
    | cont => obtain ⟨_, _, _, no⟩ := hq; exact no.elim
    | next => obtain ⟨σ, H', J, q⟩ := hq; exact ⟨.non, H', J.os, J.bare, J.base, J.hok, rfl, q⟩
    | ret u => obtain ⟨v, σ, H', J, r, q⟩ := hq; exact ⟨v, H', J.os, J.bare, J.base, J.hok, r, q⟩
end
section
variable {X : Cx} {CX : CXT} {k : Nat} {f : Addr} {fd : FuncData} {ps : List Str} {sp : Sp} {E : XK}
  {x : Str} {p pos : Pos} {e : Expr} {es : List Expr} {t : TA}
/-- f(..) at a quiet place -/
theorem pe_callQ (G : FnQ X.prog X.w X.K X.mg X.base CX k f fd ps sp) (qu : Quiet X.A) (rm : Room k X.A)
    (hg : Gl X x) (hm : X.mg x = some (.ref f)) (hk : PySem.W.keepIn X.K (.ref f) = true)
    (bd : Binds X.K fd ps []) (pass : Passes CX X E) (ha : PA X (e :: es) t)
    (hdb : (x == ("__debug__" : Str)) = false := by decide)
    (he : starEach (e :: es) X.env = (false, eval e X.env) :: starEach es X.env := by rfl)
    (hpl : (backTo pos (starEach es X.env)).any (·.1) = false := by rfl) :
    PE X (.Call (.Name x p) (e :: es) [] pos) (tCall sp [] E t) := by
  constructor
  intro pins s σ H Q I h
  refine wpAny_Call_Name_kw (ld_glob I hg hm ?_ hdb)
  refine PySem.W.callWith_K (h₀ := X.base) I.ok.mod.kin hk (thn (ha.run pos pins s σ H _ I h) ?_) he hpl
  rintro us s1 ⟨vs, H1, I1, rv, q⟩
  refine ⟨I1.kIn, wpAny_call (codeAny_mono (G.goes X.A X.stack s1 H1 ⟨us, []⟩ us vs Q E rm qu I1.env0 ?_ rv ?_) ?_)⟩
  · have b := bd s1 us I1.kIn (by rw [List.append_nil, ← rv.length, ← List.append_nil vs]; exact G.argc _ _ _ _ q)
    rwa [List.append_nil] at b
  · rwa [List.append_nil] at q
  · intro r s' hq
    match r, hq with
    | .error z, hq => exact pass pins σ H1 s1 z s' I1 hq
    | .ok (.ret u), hq => exact I1.after hq
end
end Gx

set_option Elab.async false
set_option linter.all false
set_option maxRecDepth 100000
set_option maxHeartbeats 2000000
namespace Gx
open PySem PySem.Spec PyProof.Rows L2
/-- the law's call from outside: nothing is tracked but the script, where that is no object of the module -/
theorem law_goes {P : Program} {w : World} {K : PySem.W.Frag} {mg mb : Str → Option Value} {CX : CXT} {k : Nat}
    {fa a : Addr} {fd : FuncData} {x : Str} {sp : Sp} {z : Shared} {vs : List Value} {ns : List Int}
    (inK : K.In z.heap) (gl : z.heap.Ns mainGlobals mg) (bl : z.heap.Ns builtinsNs mb)
    (bb : ∀ x : Str, x ≠ "__name__" → mb x = bootBuiltins x) (lim : z.heap.NoLimit) (gs : z.gens = #[])
    (ha : z.heap.get? a = some { cls := .type "list", data := .seq vs.toArray }) (hi : IntsAre vs ns)
    (hl : ns.length ≤ sizeLine) (rm : Room k callerA)
    (G : ∀ base : Heap, K.In base → base.Ns mainGlobals mg → FnQ P w K mg base CX k fa fd [x] sp)
    (bd : ∀ (s : Shared) (u : Value), BindsTo s fd ⟨[u], []⟩ [(x, u)])
    (hsp : ∀ H : Hp, Only H → SqL K H a (ns.map V.int) → sp [.ref a] H (fun v _ => v = .bl true) fun _ _ _ => False)
    (no : ∀ H e s', CX [] H z (fun _ _ _ => False) e s' → False) :
    codeAny (model P w) callerA (.call (.ref fa) ⟨[.ref a], []⟩)
      (fun r s' => r = .ok (.ret (.bool true)) ∧ OldK z.heap s'.heap ∧ s'.os = z.os ∧ AllBare s'.gens) z := by
  have rv := vals_ints hi
  have go : ∀ H : Hp, Only H → SqL K H a (ns.map V.int) → HOk P w H z.heap →
      (∀ b u, H b = some u → b = a ∧ K.lookup a = none) →
      codeAny (model P w) callerA (.call (.ref fa) ⟨[.ref a], []⟩)
        (fun r s' => r = .ok (.ret (.bool true)) ∧ OldK z.heap s'.heap ∧ s'.os = z.os ∧ AllBare s'.gens) z := by
    intro H on sq ok at_
    -- a namespace is no list: it is not tracked
    have free : ∀ (b : Addr) (o : Obj), z.heap.get? b = some o → (∀ u n, o.data ≠ .seq u n) → H b = none := by
      intro b o e d
      rcases hb : H b with _ | u
      · rfl
      · obtain ⟨rfl, _⟩ := at_ b u hb
        rw [ha] at e
        cases e
        exact absurd rfl (d _ _)
    have ns_ : ∀ (b : Addr) (m : Str → Option Value), z.heap.Ns b m → (hidT z.heap H).Ns b m := by
      rintro b m ⟨o, es, ep, e, d, r⟩
      exact ⟨o, es, ep, hidT_get e (free b o e fun u n q => by rw [d] at q; cases q), d, r⟩
    have kin : K.In (hidT z.heap H) := by
      intro b o e
      refine hidT_get (inK b o e) ?_
      rcases hb : H b with _ | u
      · rfl
      · obtain ⟨rfl, q⟩ := at_ b u hb
        rw [q] at e
        cases e
    obtain ⟨mc, l1, l2⟩ := lim
    have md : Mod K mg (hidT z.heap H) := ⟨kin, ns_ _ _ gl, ⟨mb, ns_ _ _ bl, bb⟩, ⟨mc, ns_ _ _ l1, l2⟩⟩
    have e0 : Env0 P w K mg (hidT z.heap H) callerA [] z H :=
      ⟨rfl, md, fun _ _ => of_hidT, Nat.le_of_eq (hidT_size _ _), trivial, (fun b (hb : b ∈ ([] : List Addr)) => (List.not_mem_nil hb).elim), ok, .of_eq gs⟩
    refine codeAny_mono ((G _ kin (ns_ _ _ gl)).goes callerA [] z H ⟨[.ref a], []⟩ [.ref a] [.ref a] _ _
      rm rfl e0 (bd z (.ref a)) (.cons rfl .nil) (hsp H on sq)) ?_
    intro r s' h
    match r, h with
    | .error e, h => exact (no H e s' h).elim
    | .ok (.ret u), h =>
      obtain ⟨v, H', os, bare, un, ok', r', q⟩ := h
      subst q
      obtain rfl : u = Value.bool true := r'
      refine ⟨rfl, OldK.of_keep fun b o e => ?_, os, bare⟩
      rcases hb : H b with _ | u
      · exact un.keep b o e hb (fun q => by cases q) (fun q => by cases q)
      · rcases on b with q | ⟨ob, xs, q⟩
        · rw [hb] at q; cases q
        · obtain ⟨e1, _⟩ := ok b _ q
          obtain ⟨e2, _⟩ := ok' b _ (un.frzs b ob _ q)
          rw [e] at e1
          cases e1
          exact e2
  rcases hk : K.lookup a with _ | o
  · let H : Hp := fun b => if b = a then some (.frz { cls := .type "list", data := .seq vs.toArray } (.lst (ns.map V.int))) else none
    have Ha : H a = some (.frz { cls := .type "list", data := .seq vs.toArray } (.lst (ns.map V.int))) := if_pos rfl
    have Hn : ∀ b, b ≠ a → H b = none := fun b hb => if_neg hb
    refine go H (fun b => ?_) (.inl (.inr ⟨_, Ha⟩)) (fun b u e => ?_) (fun b u e => ?_)
    · by_cases hb : b = a
      · subst hb; exact .inr ⟨_, _, Ha⟩
      · exact .inl (Hn b hb)
    · by_cases hb : b = a
      · subst hb
        rw [Ha] at e
        cases e
        exact ⟨ha, by rw [List.length_map]; exact hl, vs, _, rv, ha⟩
      · rw [Hn b hb] at e; cases e
    · by_cases hb : b = a
      · exact ⟨hb, hk⟩
      · rw [Hn b hb] at e; cases e
  · have e := inK a o hk
    rw [ha] at e
    cases e
    refine go (fun _ => none) (fun _ => .inl rfl)
      (.inr ⟨_, vs.toArray, _, hk, rfl, rfl, rfl, by rw [List.size_toArray, hi.length]; exact hl, by simpa using rv⟩)
      (fun b u e => by cases e) (fun b u e => by cases e)
theorem walkQ {l : PySem.W.OpenLaw} {n k : Nat} {q : Program} {loose : List Str}
    {XP : (Str → Option Value) → Heap → Prop} {YP : World → Heap → Prop} {d : DefRec}
    {K : Params → PySem.W.Frag} {CX : World → CXT} {sp : World → Sp} {x : Str}
    (hn : l.most = some n) (hn2 : n ≤ sizeLine) (hdf : d.params.defaults = []) (rm : Room k callerA)
    (hY : ∀ (w : World) (h : Heap), YP w h → (K w.params).In h)
    (F : ∀ (w : World) (mg : Str → Option Value) (fa : Addr) (h : Heap), (K w.params).In h →
      h.Ns mainGlobals mg → mg d.name = some (.ref fa) →
      ∃ fd : FuncData, (∀ (s : Shared) (u : Value), BindsTo s fd ⟨[u], []⟩ [(x, u)]) ∧
        ∀ base : Heap, (K w.params).In base → base.Ns mainGlobals mg →
          FnQ l.prog w (K w.params) mg base (CX w) k fa fd [x] (sp w))
    (hsp : ∀ (w : World) (H : Hp) (a : Addr) (ns : List Int), ns.length ≤ n → Only H →
      SqL (K w.params) H a (ns.map V.int) → sp w [.ref a] H (fun v _ => v = .bl true) fun _ _ _ => False)
    (hCX : ∀ (w : World) (H : Hp) (s : Shared) (e : Value) (s' : Shared), CX w [] H s (fun _ _ _ => False) e s' → False) :
    PySem.W.WalkO q loose XP YP l.row.toRowW d [] (fun f vs => PySem.call f vs) := by
  refine Att.attach_call hn hdf ?_
  intro w s₀ z mg mb fa o pm cd doc a vs ns G Y ho hd hcd hmg hobj hints hlen hg
  obtain ⟨fd, hb, hF⟩ := F w mg fa _ (hY w _ Y) G.T.g hmg
  exact law_goes (hY w _ Y) G.T.g G.T.b G.T.builtins G.T.nolimit hg hobj hints (Nat.le_trans hlen hn2) rm hF hb
    (fun H hO hS => hsp w H a ns hlen hO hS) fun H e s' => hCX w H z e s'
end Gx

set_option Elab.async false
set_option linter.all false
set_option maxRecDepth 100000
set_option maxHeartbeats 2000000
namespace Gx
open PySem PySem.Spec PyProof.Rows L2
/-- what a first clause 'except x as n' that takes every exception of the body wishes of it -/
def wFst (K : PySem.W.Frag) (c : Value) (i : Nat) (ts : Addr → Value → Option Addr → TS) (D : Ends) : WX :=
  fun cls d σ H => PySem.W.exmOne K cls c = some true ∧ ∀ a, H a = none →
    ts a cls d ⟨fun σ' H' => D.nx (σ'.set i none) H', D.rt, fun σ' H' => D.bk (σ'.set i none) H',
      fun σ' H' => D.ct (σ'.set i none) H'⟩ (σ.set i (some (.ref a))) H
section
variable {X : Cx} {x n : Str} {c : Value} {i : Nat} {body suite : List Stmt} {b₀ : Stmt} {np pos pos' : Pos}
  {tb : WX → TS} {ts : Addr → Value → Option Addr → TS} {more : List ExceptHandler}
/-- try: body / except x as n: suite / further clauses, which are never looked at -/
theorem ps_try_fst (hs : X.stack = X.env :: X.outer) (hf : X.env.frame = some X.env.locals) (hN : X.N.Nodup)
    (hi : X.N[i]? = some n) (hln : X.env.kindOf n = some .local) (hc : Names X x c)
    (hb : ∀ (W : WX) (pn : List (Addr × Obj)) (xe : Value → Shared → Prop), L2.Takes (X.tr pn xe) W →
      PassesOwn (model X.prog X.w) X.A X.env xe → PSs (X.tr pn xe) body (tb W))
    (hsu : ∀ (a : Addr) (oe : Obj) (cls : Value) (d : Option Addr) (pn : List (Addr × Obj)), Zc cls d oe →
      (∃ vs, oe.data = .fields vs) → PSs (X.suite a ((a, oe) :: pn)) (b₀ :: suite) (ts a cls d)) :
    PS X (.Try body (.ExceptHandler (some (.Name x np)) (some n) (b₀ :: suite) pos' :: more) [] [] pos)
      (fun D σ H => tb (wFst X.K c i ts D) D σ H) := by
  constructor
  intro pins s σ H D I h
  have ok := I.ok
  have frs_ : X.A.frames = some (X.env :: X.outer) := by rw [ok.frames, hs]
  refine wpAny_Try_except ?_
  refine wpAny_mono ((hb (wFst X.K c i ts D) (X.pn ++ pins) _ ?tk PassesOwn.looking).run [] s σ H D (I.toTry _) h) ?_
    fun e s1 he => he
  case tk =>
    rintro u z ⟨a, B, sI, ps, σ1, H1, cls, d, rfl, J', nb, up, sky, na, os, ag, hm, hy⟩
    have J : Inv X pins σ1 H1 sI := J'.ofTry ok
    rw [show (X.tr (X.pn ++ pins) _).stack = X.env :: X.outer from hs] at sky
    show wpAny (model X.prog X.w) X.A (noteFrame (.ref a) X.env) _ _ _
    refine Sky.land Zc.steady frs_ hf sky fun h3 fl up3 => ?_
    have J3 : Inv X pins σ1 H1 { z with heap := h3 } := J.landed nb fl.1 (up.trans up3) os ag
    obtain ⟨oe, vs, he, hz, hd⟩ := fl.there
    -- an exception is no frame
    have nfr : a ∉ frs (X.env :: X.outer) := by
      intro hin
      obtain ⟨_, o', e', hnf⟩ := fl.2.2.1.mem hin
      rw [he] at e'
      cases e'
      exact hnf _ hd
    have nL : a ≠ X.env.locals := fun q => nfr (List.mem_filterMap.mpr ⟨X.env, List.mem_cons_self, by rw [hf, q]⟩)
    have nF : a ∉ X.fs := fun hin => by
      obtain ⟨e, q1, q2⟩ := List.mem_filterMap.mp hin
      exact nfr (List.mem_filterMap.mpr ⟨e, List.mem_cons_of_mem _ q1, q2⟩)
    have S3 := J3.suite he hd na nL nF
    refine wpAny_handleBy_cons (codeAny_handlers_test ?_) (by intro q; cases q)
    have lt : PySem.W.Looks (model X.prog X.w) h3 (typeOf (.ref a)) cls :=
      fun A Q E s k q => wpAny_typeOf_ref (k _ _ he) (by rw [hz.1]; exact q)
    have lm := PySem.W.exm_one (M := model X.prog X.w) J3.kIn lt hm
    have nm : ∀ {Q : Value → Shared → Prop} {E : Value → Shared → Prop}, Q c { z with heap := h3 } →
        wpAny (model X.prog X.w) (X.A.mark (some (.ref a))) (eval (.Name x np) X.env) Q E { z with heap := h3 } := by
      intro Q E q
      rcases hc with ⟨g1, g2, g3 | ⟨g3, g4, g5⟩⟩
      · exact ld_glob (X := X.suite a ((a, oe) :: (X.pn ++ pins))) S3 g1 g3 q g2
      · exact ld_blt (X := X.suite a ((a, oe) :: (X.pn ++ pins))) S3 g1 g3 g4 q g5 g2
    refine nm (lm.here (codeAny_handlers_suite_as ?_))
    refine HandSPX.lands_againZ fl fun h4 fl4 up4 => ?_
    have J4 : Inv X pins σ1 H1 { z with heap := h4 } := J.landed nb fl4.1 ((up.trans up3).trans up4) os ag
    obtain ⟨oe4, vs4, he4, hz4, hd4⟩ := fl4.there
    have S4 := J4.suite he4 hd4 na nL nF
    refine store_ok (X := X.suite a ((a, oe4) :: (X.pn ++ pins))) (v := .ref a) S4 hN hi (.inl hln) rfl ?_ (.inr hln)
    intro s5 S5
    refine wpAny_mono ((hsu a oe4 cls d (X.pn ++ pins) hz4 ⟨_, hd4⟩).run [] s5 _ H1 _ S5 (hy a na)) ?_ fun _ _ q => q.elim
    intro f s6 hsp
    have fin : ∀ {σ6 : L2.St} {H6 : Hp} {Q : Shared → Prop}, Inv (X.suite a ((a, oe4) :: (X.pn ++ pins))) [] σ6 H6 s6 →
        (∀ s7, Inv X pins (σ6.set i none) H6 s7 → Q s7) →
        wpAny (model X.prog X.w) X.A (do bindName X.env n .none; unbindBehindTheSuite X.env n pos')
          (fun _ s7 => Q s7) X.xe s6 := fun S6 q => gone_ok (S6.unsuite ok) hN hi hln q
    match f, hsp with
    | .next, ⟨σ6, H6, S6, q⟩ => exact fin S6 fun s7 J7 => ⟨_, _, J7, q⟩
    | .brk, ⟨σ6, H6, S6, q⟩ => exact fin S6 fun s7 J7 => ⟨_, _, J7, q⟩
    | .cont, ⟨σ6, H6, S6, q⟩ => exact fin S6 fun s7 J7 => ⟨_, _, J7, q⟩
    | .ret u, ⟨v, σ6, H6, S6, r, q⟩ => exact fin S6 fun s7 J7 => ⟨_, _, _, J7, r, q⟩
  · intro f s1 hsp
    match f, hsp with
    | .next, ⟨σ', H', J', q⟩ => exact wpAny_execs_nil ⟨σ', H', J'.ofTry ok, q⟩
    | .brk, ⟨σ', H', J', q⟩ => exact ⟨σ', H', J'.ofTry ok, q⟩
    | .cont, ⟨σ', H', J', q⟩ => exact ⟨σ', H', J'.ofTry ok, q⟩
    | .ret u, ⟨v, σ', H', J', r, q⟩ => exact ⟨v, σ', H', J'.ofTry ok, r, q⟩
end
end Gx

set_option Elab.async false
set_option linter.all false
set_option maxRecDepth 100000
set_option maxHeartbeats 2000000
namespace Gx
open PySem PySem.Spec PyProof.Rows L2 Evl
section
variable {K : PySem.W.Frag} {H H' : Hp}
mutual
theorem dp_ex (e : Ex H H') : ∀ (d : PyData) (v : V), Dp K H v d → Dp K H' v d
  | .none, _, h => by cases h; exact .non
  | .bool b, _, h => by cases h; exact .bl b
  | .int i, _, h => by cases h; exact .int i
  | .str x, _, h => by cases h; exact .str x
  | .list ds, _, h => by
    cases h with
    | lst hs ha => exact .lst (ex_l e hs) (dpAll_ex e ds _ ha)
  | .tuple ds, _, h => by
    cases h with
    | tup hs ha => exact .tup (ex_t e hs) (dpAll_ex e ds _ ha)
  | .dict _, _, h => by cases h
theorem dpAll_ex (e : Ex H H') : ∀ (ds : List PyData) (vs : List V), DpAll K H vs ds → DpAll K H' vs ds
  | [], _, h => by cases h; exact .nil
  | d :: ds, _, h => by
    cases h with
    | cons h1 h2 => exact .cons (dp_ex e d _ h1) (dpAll_ex e ds _ h2)
end
theorem _root_.L2.Dp.to {v : V} {d : PyData} (h : Dp K H v d) (e : Ex H H') : Dp K H' v d := dp_ex e d v h
theorem _root_.L2.DpAll.to {vs : List V} {ds : List PyData} (h : DpAll K H vs ds) (e : Ex H H') : DpAll K H' vs ds := dpAll_ex e ds vs h
theorem _root_.L2.Dp.tup_inv {v : V} {ds : List PyData} (h : Dp K H v (.tuple ds)) : ∃ a xs, v = .ref a ∧ SqT K H a xs ∧ DpAll K H xs ds := by
  cases h with
  | tup hs ha => exact ⟨_, _, rfl, hs, ha⟩
theorem _root_.L2.Dp.lst_inv {v : V} {ds : List PyData} (h : Dp K H v (.list ds)) : ∃ a xs, v = .ref a ∧ SqL K H a xs ∧ DpAll K H xs ds := by
  cases h with
  | lst hs ha => exact ⟨_, _, rfl, hs, ha⟩
theorem _root_.L2.DpAll.len {vs : List V} {ds : List PyData} (h : DpAll K H vs ds) : vs.length = ds.length := by
  induction ds generalizing vs with
  | nil => cases h; rfl
  | cons d ds ih => cases h with | cons h1 h2 => simp [ih h2]
theorem _root_.L2.DpAll.get {vs : List V} {ds : List PyData} (h : DpAll K H vs ds) {i : Nat} {v : V} (e : vs[i]? = some v) : ∃ d, ds[i]? = some d ∧ Dp K H v d := by
  induction ds generalizing vs i with
  | nil => cases h; simp at e
  | cons d ds ih =>
    cases h with
    | cons h1 h2 =>
      cases i with
      | zero => simp at e; subst e; exact ⟨d, by simp, h1⟩
      | succ i => obtain ⟨d', q1, q2⟩ := ih h2 (i := i) (by simpa using e); exact ⟨d', by simpa using q1, q2⟩
theorem _root_.L2.DpAll.get' {vs : List V} {ds : List PyData} (h : DpAll K H vs ds) {i : Nat} {d : PyData} (e : ds[i]? = some d) : ∃ v, vs[i]? = some v ∧ Dp K H v d := by
  have hl := h.len
  have hi : i < ds.length := (List.getElem?_eq_some_iff.mp e).1
  have hv : vs[i]? = some (vs[i]'(by omega)) := List.getElem?_eq_getElem (by omega)
  obtain ⟨d', q1, q2⟩ := h.get hv
  rw [e] at q1; cases q1
  exact ⟨_, hv, q2⟩
theorem _root_.L2.DpAll.two {vs : List V} {a b : PyData} (h : DpAll K H vs [a, b]) : ∃ x y, vs = [x, y] ∧ Dp K H x a ∧ Dp K H y b := by
  cases h with
  | cons h1 h2 => cases h2 with
    | cons h2 h3 => cases h3; exact ⟨_, _, rfl, h1, h2⟩
theorem _root_.L2.DpAll.app {vs ws : List V} {ds es : List PyData} (h : DpAll K H vs ds) (h' : DpAll K H ws es) : DpAll K H (vs ++ ws) (ds ++ es) := by
  induction ds generalizing vs with
  | nil => cases h; exact h'
  | cons d ds ih => cases h with | cons h1 h2 => exact .cons h1 (ih h2)
theorem _root_.L2.DpAll.one {v : V} {d : PyData} (h : Dp K H v d) : DpAll K H [v] [d] := .cons h .nil
theorem _root_.L2.DpAll.take {vs : List V} {ds : List PyData} (n : Nat) (h : DpAll K H vs ds) : DpAll K H (vs.take n) (ds.take n) := by
  induction ds generalizing vs n with
  | nil => cases h; simp; exact .nil
  | cons d ds ih =>
    cases h with
    | cons h1 h2 =>
      cases n with
      | zero => exact .nil
      | succ n => exact .cons h1 (ih n h2)
theorem dpAll_ints : ∀ ns : List Int, DpAll K H (ns.map V.int) (ns.map PyData.int)
  | [] => .nil
  | n :: ns => .cons (.int n) (dpAll_ints ns)
theorem dpAll_ints_inv : ∀ {ns : List Int} {vs : List V}, DpAll K H vs (ns.map PyData.int) → vs = ns.map V.int
  | [], _, h => by cases h; rfl
  | n :: ns, _, h => by
    cases h with
    | cons h1 h2 => cases h1; rw [dpAll_ints_inv h2]; rfl
end
/-- how many signs repr may take -/
def wide : PyData → Nat
  | .none => 4
  | .bool _ => 5
  | .int _ => 1921
  | .str x => (reprText x).length
  | .list xs => wideAll xs + 2
  | .tuple xs => wideAll xs + 3
  | .dict _ => 0
where wideAll : List PyData → Nat
  | [] => 0
  | x :: xs => wide x + 2 + wideAll xs
theorem listText_wide (ts : List Str) : (listText ts).length ≤ piled ts + 2 := by
  unfold listText
  rw [strLen_append]
  have e1 : ((("]" : String) : Str)).length = 1 := rfl
  have e2 : ((("[" : String) : Str)).length = 1 := rfl
  have : ∀ (ts : List Str) (k : Nat) (acc : Str), (textFrom k acc ts).length ≤ acc.length + piled ts := by
    intro ts
    induction ts with
    | nil => intro k acc; simp [textFrom, piled]
    | cons t ts ih =>
      intro k acc
      unfold textFrom
      refine Nat.le_trans (ih _ _) ?_
      rw [piled_cons]
      have e3 : (((", " : String) : Str)).length = 2 := rfl
      have e4 : ((("" : String) : Str)).length = 0 := rfl
      split <;> (simp only [strLen_append]; omega)
  have h := this ts 0 (("[" : String) : Str)
  omega
theorem tupText_wide (ts : List Str) : (tupleText ts).length ≤ piled ts + 3 := by
  have e3 : (((if ts.length == 1 then ",)" else ")" : String) : Str)).length ≤ 2 := by split <;> decide +kernel
  have e1 : ((("(" : String) : Str)).length = 1 := rfl
  unfold tupleText
  rw [strLen_append, strLen_append, e1]
  by_cases h : ts = []
  · subst h
    have : (Str.join ", " ([] : List Str)).length = 0 := rfl
    omega
  · have := join_length_add ts h
    omega
mutual
theorem shown_wide : ∀ d : PyData, d.showable = true → d.hasDict = false → d.shown.length ≤ wide d
  | .none, _, _ => by simp only [PyData.shown, wide]; decide
  | .bool b, _, _ => by cases b <;> (simp only [PyData.shown, wide]; decide)
  | .int i, h, _ => by
    simp only [PyData.shown, wide]
    exact PyProof.Rows.int_text_len_1921 (of_decide_eq_true (by simpa only [PyData.showable] using h))
  | .str x, _, _ => by simp only [PyData.shown, wide]; exact Nat.le_refl _
  | .list xs, h, h' => by
    simp only [PyData.shown, wide]
    have q := shown_wideAll xs (by simpa only [PyData.showable] using h) (by simpa only [PyData.hasDict] using h')
    exact Nat.le_trans (listText_wide _) (by omega)
  | .tuple xs, h, h' => by
    simp only [PyData.shown, wide]
    have q := shown_wideAll xs (by simpa only [PyData.showable] using h) (by simpa only [PyData.hasDict] using h')
    exact Nat.le_trans (tupText_wide _) (by omega)
  | .dict _, _, h' => by simp [PyData.hasDict] at h'
theorem shown_wideAll : ∀ ds : List PyData, PyData.showableAll ds = true → PyData.hasDictAll ds = false → piled (PyData.shownAll ds) ≤ wide.wideAll ds
  | [], _, _ => by simp [PyData.shownAll, piled, wide.wideAll]
  | d :: ds, h, h' => by
    simp only [PyData.showableAll, Bool.and_eq_true] at h
    simp only [PyData.hasDictAll, Bool.or_eq_false_iff] at h'
    have q1 := shown_wide d h.1 h'.1
    have q2 := shown_wideAll ds h.2 h'.2
    simp only [PyData.shownAll, piled_cons, wide.wideAll]
    omega
end
section
variable {X : Cx}
def rRep (K : PySem.W.Frag) : List V → Hp → VK → Prop := fun xs H Q =>
  ∃ v d, xs = [v] ∧ Dp K H v d ∧ d.showable = true ∧ d.hasDict = false ∧ d.depth ≤ 100 ∧ wide d ≤ 10000000 ∧ Q (.str d.shown) H
theorem big_sz : (10000000 : Nat) ≤ sizeLine := by rw [sizeLine_eq]; decide
theorem call_repD (qu : Quiet X.A) (hu : X.A.units + 200 < cLine) : CallR X (.builtin "repr") (rRep X.K) := by
  intro pins s σ H xs us Q I rv h
  obtain ⟨v, d, rfl, hd, h1, h2, h3, h4, q⟩ := h
  obtain ⟨u, rfl, ru⟩ := vals1 rv
  obtain ⟨as, rd⟩ := Dp.reads I d v u hd ru
  have sz : d.shown.length ≤ sizeLine := Nat.le_trans (shown_wide d h1 h2) (Nat.le_trans h4 big_sz)
  have fin : ∀ h' t tk, (∀ b o, s.heap.get? b = some o → h'.get? b = some o) → EP X pins σ Q (.str d.shown t) { s with heap := h', toks := tk } :=
    fun h' t tk k => ⟨.str _, H, I.kept k, ⟨_, rfl⟩, q⟩
  cases hd with
  | non =>
    obtain rfl : u = Value.none := ru
    exact PySem.P.repr_of_none (fin s.heap _ _ fun _ _ e => e)
  | bl b =>
    obtain rfl : u = Value.bool b := ru
    refine PySem.P.repr_of_bool ?_
    have z := fin s.heap s.toks (s.toks + 1) fun _ _ e => e
    simp only [PyData.shown] at z
    cases b <;> exact z
  | int i =>
    obtain ⟨t, rfl⟩ := ru
    refine PySem.P.repr_of_int (of_decide_eq_true (by simpa only [PyData.showable] using h1)) ?_
    exact fin s.heap _ _ fun _ _ e => e
  | str x =>
    obtain ⟨t, rfl⟩ := ru
    exact PySem.P.repr_of_str (fin s.heap _ _ fun _ _ e => e) sz
  | lst hs ha =>
    obtain rfl : u = Value.ref _ := ru
    exact repr_of_reads' rd h1 (PyData.noDict_hsm h2) qu (by omega) (fun _ _ e => e) (fun h' t tk k => fin h' t tk k) sz
  | tup hs ha =>
    obtain rfl : u = Value.ref _ := ru
    exact repr_of_reads' rd h1 (PyData.noDict_hsm h2) qu (by omega) (fun _ _ e => e) (fun h' t tk k => fin h' t tk k) sz
/-- // by any divisor but 0, of fewer than 9000 bits -/
def CDivZ (_ j : Int) : Prop := j ≠ 0 ∧ j.natAbs.log2 < 9000
theorem op_fdivZ : OpR X (binaryOp .FloorDiv) (rI CDivZ fun i j => .int (i.fdiv j)) := opI fun i j _ _ _ _ _ hc q =>
  floordiv_int hc.1 q (.inl (PyProof.noPylong_of_log2 hc.2))
end
end Gx

set_option Elab.async false
set_option linter.all false
set_option maxRecDepth 100000
set_option maxHeartbeats 2000000
namespace Gx
open PySem PySem.Spec PyProof.Rows L2 Evl
/-! A list of the law's own that calls change, told by what stays true of it: the abstract heap stays as it is. -/
def plainO : HO → Bool
  | .tup _ => false
  | .frz _ _ => false
  | .tbl _ => false
  | .own _ => false
  | _ => true
section
variable {P : Program} {w : World} {H H1 : Hp} {h h' : Heap} {b : Addr} {u u1 u2 : HO} {fs ex : List Addr}
theorem hok_swap (ok : HOk P w H h) (hb : H b = some u) (hp : plainO u = true) (ob : ObjOk P w (upd H b u1) h b u1) :
    HOk P w (upd H b u1) h := by
  intro a o e
  by_cases hab : a = b
  · subst hab
    rw [upd_same] at e
    cases e
    exact ob
  · rw [upd_ne hab] at e
    refine (ok a o e).stay (fun _ _ _ q => q) (fun c q => ?_) (fun c xs q => ?_)
    · rw [upd_ne (fun z => by rw [z, hb] at q; cases q; cases hp)]; exact q
    · rw [upd_ne (fun z => by rw [z, hb] at q; cases q; cases hp)]; exact q
theorem un_seal (hb : H b = some u) (un : Un fs ex (upd H b u1) (upd H b u2) h h') : Un fs ex H H h h' := by
  have nb : ∀ c, H c = none → c ≠ b := fun c n z => by rw [z, hb] at n; cases n
  refine ⟨fun c o q n hc hx => ?_, fun c o q n hc hx => ?_, fun _ _ _ n _ => n, fun c o q hx => un.there c o q hx,
    fun _ _ q => q, fun _ _ _ q => q, fun c ps q => ⟨#[], by rw [q]; simp⟩⟩
  · exact un.keep c o q (by rw [upd_ne (nb c n)]; exact n) hc hx
  · exact un.slot c o q (by rw [upd_ne (nb c n)]; exact n) hc hx
theorem un_new (hb : H1 b = some u) (hp : plainO u = true) (un : Un fs ex H H1 h h') : Un fs ex H (upd H1 b u1) h h' := by
  refine ⟨un.keep, un.slot, fun c o q n hx => ?_, un.there, fun c xs q => ?_, fun c o v q => ?_, fun c ps q => ?_⟩
  · have z := un.free c o q n hx
    rw [upd_ne (fun e => by rw [e, hb] at z; cases z)]; exact z
  · have z := un.tups c xs q
    rw [upd_ne (fun e => by rw [e, hb] at z; cases z; cases hp)]; exact z
  · have z := un.frzs c o v q
    rw [upd_ne (fun e => by rw [e, hb] at z; cases z; cases hp)]; exact z
  · obtain ⟨more, z⟩ := un.tbls c ps q
    exact ⟨more, by rw [upd_ne (fun e => by rw [e, hb] at z; cases z; cases hp)]; exact z⟩
end
theorem upd_self {H : Hp} {b : Addr} {u : HO} (h : H b = some u) : upd H b u = H := by
  funext c
  by_cases e : c = b
  · subst e; rw [upd_same, h]
  · rw [upd_ne e]
/-! ### the bag -/
def BagAt (b l : Addr) (h : Heap) : Prop := ∃ (p q r : Int) (t1 t2 t3 : Tok) (n : Nat),
  h.get? b = some { cls := .type "list", data := .seq #[.int p t1, .int q t2, .int r t3, .ref l] n } ∧
    0 ≤ p ∧ 0 ≤ q ∧ q < 2147483647 ∧ 0 ≤ r
def BagO (b l : Addr) : HO := .ext (BagAt b l)
def bagL (p q r : Int) (l : Addr) : List V := [.int p, .int q, .int r, .ref l]
structure Bag (H : Hp) (b : Addr) : Prop where
  ex : ∃ (l : Addr) (cs : List Int), H b = some (BagO b l) ∧ H l = some (.lst (cs.map V.int)) ∧ ∀ c ∈ cs, 0 ≤ c
theorem Bag.to {H H' : Hp} {b : Addr} (g : Bag H b) (e : Ex H H') : Bag H' b := by
  obtain ⟨l, cs, h1, h2, h3⟩ := g.ex
  exact ⟨l, cs, e _ _ h1, e _ _ h2, h3⟩
theorem bag_objOk {P : Program} {w : World} {H : Hp} {h : Heap} {b l : Addr} (x : BagAt b l h) : ObjOk P w H h b (BagO b l) := by
  refine ⟨x, ?_, fun h1 h2 y k => ?_⟩
  · obtain ⟨p, q, r, t1, t2, t3, n, e, _⟩ := x
    exact ⟨_, e⟩
  · obtain ⟨p, q, r, t1, t2, t3, n, e, z⟩ := y
    exact ⟨p, q, r, t1, t2, t3, n, k _ e, z⟩
theorem bag_open {P : Program} {w : World} {H : Hp} {h : Heap} {b l : Addr} (ok : HOk P w H h) (hb : H b = some (BagO b l)) :
    ∃ p q r : Int, (0 ≤ p ∧ 0 ≤ q ∧ q < 2147483647 ∧ 0 ≤ r) ∧ HOk P w (upd H b (.lst (bagL p q r l))) h := by
  obtain ⟨⟨p, q, r, t1, t2, t3, n, e, z⟩, _⟩ := ok b _ hb
  refine ⟨p, q, r, z, hok_swap ok hb rfl ⟨by show 4 ≤ sizeLine; decide, [.int p t1, .int q t2, .int r t3, .ref l], n, ?_, e⟩⟩
  exact .cons ⟨_, rfl⟩ (.cons ⟨_, rfl⟩ (.cons ⟨_, rfl⟩ (.cons rfl .nil)))
theorem bag_close {P : Program} {w : World} {H : Hp} {h : Heap} {b l : Addr} {p q r : Int} (ok : HOk P w H h)
    (hb : H b = some (.lst (bagL p q r l))) (z : 0 ≤ p ∧ 0 ≤ q ∧ q < 2147483647 ∧ 0 ≤ r) : BagAt b l h := by
  obtain ⟨_, its, n, rv, e⟩ := ok b _ hb
  unfold bagL at rv
  cases rv with
  | cons r1 rv => cases rv with
    | cons r2 rv => cases rv with
      | cons r3 rv => cases rv with
        | cons r4 rv =>
          cases rv
          obtain ⟨t1, rfl⟩ := r1
          obtain ⟨t2, rfl⟩ := r2
          obtain ⟨t3, rfl⟩ := r3
          obtain rfl := r4
          exact ⟨p, q, r, t1, t2, t3, n, e, z⟩
/-- what _law_take promises: some number below many, and nothing that is told has changed -/
def spTake : Sp := fun vs H Q _ => ∃ (b : Addr) (many : Int), vs = [.ref b, .int many] ∧ Bag H b ∧ 0 < many ∧ many < 1073741824 ∧
  ∀ x : Int, 0 ≤ x → x < many → Q (.int x) H
/-- .. and what its body does to the list -/
def spTakeI : Sp := fun vs H Q _ => ∃ (b l : Addr) (many p q r : Int) (cs : List Int), vs = [.ref b, .int many] ∧
  H b = some (.lst (bagL p q r l)) ∧ H l = some (.lst (cs.map V.int)) ∧ b ≠ l ∧ (∀ c ∈ cs, 0 ≤ c) ∧
  (0 ≤ p ∧ 0 ≤ q ∧ q < 2147483647 ∧ 0 ≤ r) ∧ 0 < many ∧ many < 1073741824 ∧
  ∀ x p' q' r' : Int, 0 ≤ x → x < many → (0 ≤ p' ∧ 0 ≤ q' ∧ q' < 2147483647 ∧ 0 ≤ r') →
    Q (.int x) (upd H b (.lst (bagL p' q' r' l)))
def spBag (K : PySem.W.Frag) : Sp := fun vs H Q _ => ∃ (a : Addr) (ns : List Int), vs = [.ref a] ∧ SqL K H a (ns.map V.int) ∧ ns.length ≤ 1000 ∧
  ∀ b H', Ex H H' → Bag H' b → Q (.ref b) H'
def spBagI (K : PySem.W.Frag) : Sp := fun vs H Q _ => ∃ (a : Addr) (ns : List Int), vs = [.ref a] ∧ SqL K H a (ns.map V.int) ∧ ns.length ≤ 1000 ∧
  ∀ (b l : Addr) (cs : List Int) (H' : Hp), Ex H H' → H b = none → H' b = some (.lst (bagL 0 1234567891 0 l)) →
    H' l = some (.lst (cs.map V.int)) → (∀ c ∈ cs, 0 ≤ c) → Q (.ref b) H'
section
variable {P : Program} {w : World} {K : PySem.W.Frag} {mg : Str → Option Value} {base : Heap} {k : Nat} {f : Addr} {fd : FuncData}
theorem take_sealed (F : FnOk P w K mg base CX0 k f fd ["_law_bag_here", "_law_many"] spTakeI) :
    FnOk P w K mg base CX0 k f fd ["_law_bag_here", "_law_many"] spTake := by
  refine ⟨fun vs H Q E h => ?_, fun A outer s H args us vs Q E rm e0 bd rv h => ?_⟩
  · obtain ⟨b, many, rfl, _⟩ := h; rfl
  · obtain ⟨b, many, rfl, ⟨l, cs, hb, hl, hc⟩, m0, m1, kq⟩ := h
    obtain ⟨p, q, r, z, ok1⟩ := bag_open e0.hok hb
    have nbl : b ≠ l := fun e => by rw [e, hl] at hb; cases hb
    have e1 : Env0 P w K mg base A outer s (upd H b (.lst (bagL p q r l))) := by
      refine ⟨e0.frames, e0.mod, fun c o q => ?_, e0.bsz, e0.funs, fun c hc => ?_, ok1, e0.bare⟩
      · obtain ⟨x1, x2⟩ := e0.bs c o q
        exact ⟨x1, by rw [upd_ne (fun e => by rw [e, hb] at x2; cases x2)]; exact x2⟩
      · have x2 := e0.frf c hc
        rw [upd_ne (fun e => by rw [e, hb] at x2; cases x2)]; exact x2
    refine codeAny_mono (F.run A outer s _ args us [.ref b, .int many]
      (fun v H' => ∃ (x p' q' r' : Int), v = .int x ∧ 0 ≤ x ∧ x < many ∧ (0 ≤ p' ∧ 0 ≤ q' ∧ q' < 2147483647 ∧ 0 ≤ r') ∧ H' = upd (upd H b (.lst (bagL p q r l))) b (.lst (bagL p' q' r' l)))
      E rm e1 bd rv ⟨b, l, many, p, q, r, cs, rfl, upd_same, by rw [upd_ne nbl.symm]; exact hl, nbl, hc, z, m0, m1,
        fun x p' q' r' h0 h1 zz => ⟨x, p', q', r', rfl, h0, h1, zz, rfl⟩⟩) ?_
    intro r s' hq
    match r, hq with
    | .ok (.ret u), ⟨v, H', os, bare, un, ok', rv', x, p', q', r', ev, h0, h1, zz, eH⟩ =>
      subst eH
      rw [upd_upd] at un ok'
      have at_ := bag_close ok' upd_same zz
      have ok2 := hok_swap (u1 := BagO b l) ok' upd_same rfl (bag_objOk at_)
      rw [upd_upd, upd_self hb] at ok2
      exact ⟨v, H, os, bare, un_seal hb un, ok2, rv', by rw [ev]; exact kq x h0 h1⟩
theorem bag_sealed (F : FnOk P w K mg base CX0 k f fd ["_law_script"] (spBagI K)) : FnOk P w K mg base CX0 k f fd ["_law_script"] (spBag K) := by
  refine ⟨fun vs H Q E h => ?_, fun A outer s H args us vs Q E rm e0 bd rv h => ?_⟩
  · obtain ⟨a, ns, rfl, _⟩ := h; rfl
  · obtain ⟨a, ns, rfl, hs, hl, kq⟩ := h
    refine codeAny_mono (F.run A outer s H args us [.ref a]
      (fun v H' => ∃ (b l : Addr) (cs : List Int), v = .ref b ∧ Ex H H' ∧ H b = none ∧ H' b = some (.lst (bagL 0 1234567891 0 l)) ∧
        H' l = some (.lst (cs.map V.int)) ∧ (∀ c ∈ cs, 0 ≤ c))
      E rm e0 bd rv ⟨a, ns, rfl, hs, hl, fun b l cs H' x1 x2 x3 x4 x5 => ⟨b, l, cs, rfl, x1, x2, x3, x4, x5⟩⟩) ?_
    intro r s' hq
    match r, hq with
    | .ok (.ret u), ⟨v, H', os, bare, un, ok', rv', b, l, cs, ev, ex, nb, hb, hl', hc⟩ =>
      have at_ := bag_close ok' hb ⟨by decide, by decide, by decide, by decide⟩
      have ok2 := hok_swap (u1 := BagO b l) ok' hb rfl (bag_objOk at_)
      have nbl : l ≠ b := fun e => by rw [e, hb] at hl'; injection hl' with e1; injection e1 with e2; cases cs with
        | nil => cases e2
        | cons c cs => cases cs with
          | nil => cases e2
          | cons c2 cs => cases cs with
            | nil => cases e2
            | cons c3 cs => cases cs with
              | nil => cases e2
              | cons c4 cs => cases e2
      refine ⟨v, _, os, bare, un_new hb rfl un, ok2, rv', ?_⟩
      subst ev
      refine kq b _ (ex.mut nb) ⟨l, cs, upd_same, by rw [upd_ne nbl]; exact hl', hc⟩
end
end Gx

set_option Elab.async false
set_option linter.all false
set_option maxRecDepth 100000
set_option maxHeartbeats 2000000
namespace Gx
open PySem PySem.Spec PyProof.Rows L2 Evl
/-- the built-in names that the text uses are still the built-in ones -/
structure Bi (mg : Str → Option Value) : Prop where
  len : mg "len" = none
  abs : mg "abs" = none
  max : mg "max" = none
  min : mg "min" = none
  repr : mg "repr" = none
  int : mg "int" = none
  tuple : mg "tuple" = none
  list : mg "list" = none
  dict : mg "dict" = none
  isinstance : mg "isinstance" = none
  sorted : mg "sorted" = none
  sum : mg "sum" = none
  all : mg "all" = none
  any : mg "any" = none
  range : mg "range" = none
  enumerate : mg "enumerate" = none
  zip : mg "zip" = none
  bool : mg "bool" = none
  str : mg "str" = none
  set : mg "set" = none
theorem bt_len : bootBuiltins "len" = some (.builtin "len") := by decide +kernel
theorem bt_abs : bootBuiltins "abs" = some (.builtin "abs") := by decide +kernel
theorem bt_max : bootBuiltins "max" = some (.builtin "max") := by decide +kernel
theorem bt_min : bootBuiltins "min" = some (.builtin "min") := by decide +kernel
theorem bt_repr : bootBuiltins "repr" = some (.builtin "repr") := by decide +kernel
theorem bt_int : bootBuiltins "int" = some (.type "int") := by decide +kernel
theorem bt_tuple : bootBuiltins "tuple" = some (.type "tuple") := by decide +kernel
theorem bt_list : bootBuiltins "list" = some (.type "list") := by decide +kernel
theorem bt_dict : bootBuiltins "dict" = some (.type "dict") := by decide +kernel
theorem bt_isinstance : bootBuiltins "isinstance" = some (.builtin "isinstance") := by decide +kernel
theorem bt_sorted : bootBuiltins "sorted" = some (.builtin "sorted") := by decide +kernel
theorem bt_sum : bootBuiltins "sum" = some (.builtin "sum") := by decide +kernel
theorem bt_all : bootBuiltins "all" = some (.builtin "all") := by decide +kernel
theorem bt_bool : bootBuiltins "bool" = some (.type "bool") := by decide +kernel
theorem bt_str : bootBuiltins "str" = some (.type "str") := by decide +kernel
theorem bt_set : bootBuiltins "set" = some (.type "set") := by decide +kernel
theorem bt_any : bootBuiltins "any" = some (.builtin "any") := by decide +kernel
/-- a def of the top as the head leaves it -/
structure Def (K : PySem.W.Frag) (mg : Str → Option Value) (x : Str) (st : Stmt) (f : Addr) (fd : FuncData) (ps : List Str) : Prop where
  fn : Fun K x x st f fd
  mg : mg x = some (.ref f)
  bd : Binds K fd ps []
/-- .. by what the head tells of it -/
def IsDef (K : PySem.W.Frag) (x qual : Str) (st : Stmt) (f : Addr) : Prop :=
  ∃ (oc : Value) (od : Option Addr) (kV doc pm : Value) (an : Option Addr) (cdv ct : Value) (osl : Array (Option Value)),
    K.lookup f = some ⟨oc, od, .func (PySem.W.fnOf x qual (defArgs st) (defBody st) (defScope st) .none kV doc pm an cdv ct), osl⟩ ∧
      PySem.W.codeIn K cdv qual = true ∧ PySem.W.keepIn K (.ref f) = true
theorem IsDef.fn {K : PySem.W.Frag} {x qual : Str} {st : Stmt} {f : Addr} (d : IsDef K x qual st f) : ∃ fd, Fun K x qual st f fd := by
  obtain ⟨oc, od, kV, doc, pm, an, cdv, ct, osl, l, c, k⟩ := d
  exact ⟨_, fun_mk l c k⟩
theorem def_mk {K : PySem.W.Frag} {h : Heap} {mg : Str → Option Value} {x : Str} {st : Stmt} {f : Addr} {ps : List Str}
    (X : K.In h) (G : h.Ns mainGlobals mg) (a : PySem.W.nsIn K mainGlobals x = some (some (.ref f))) (d : IsDef K x x st f)
    (hb : ∀ (kV doc pm : Value) (an : Option Addr) (cdv ct : Value) (us : List Value), us.length = ps.length →
      bindArgs (PySem.W.fnOf x x (defArgs st) (defBody st) (defScope st) .none kV doc pm an cdv ct) ⟨us, []⟩ = pure (ps.zip us)) :
    ∃ fd, Def K mg x st f fd ps := by
  obtain ⟨fd, F⟩ := d.fn
  exact ⟨fd, F, PySem.W.mg_of X G a, F.binds hb⟩
/-- a quiet def from which no exception leaves -/
theorem fnq_ok {P : Program} {w : World} {K : PySem.W.Frag} {mg : Str → Option Value} {base : Heap}
    {x qual : Str} {st : Stmt} {f : Addr} {fd : FuncData} {N ps : List Str} {k : Nat} {sp : Sp}
    (F : Fun K x qual st f fd) (S : FnScope N ps (defScope st))
    (len : ∀ vs H Q E, sp vs H Q E → vs.length = ps.length)
    (walk : ∀ (cdv : Value) (A : Around) (outer : List Env) (s : Shared) (H : Hp) (vs : List V) (Q : VK) (E : XK),
      Room k (A.deeper (envOfC qual (defScope st) s.heap.objs.size f cdv)) →
      Quiet (A.deeper (envOfC qual (defScope st) s.heap.objs.size f cdv)) → sp vs H Q E →
      ∃ t, PSs (cxOf CX0 P w K mg base N qual (defScope st) f cdv A outer s H E).nox (defBody st) t ∧
        t { nx := fun _ H' => Q .non H', rt := Q } (start N vs) H) :
    FnQ P w K mg base CX0 (k + 1) f fd ps sp :=
  fnq_of F S len fun cdv A outer s H vs Q E rm qu h =>
    let ⟨t, a, b⟩ := walk cdv A outer s H vs Q E rm qu h
    ⟨t, a.nox, b⟩
section
variable {X : Cx}
def rGetL (K : PySem.W.Frag) : V → V → Hp → VK → Prop := fun o i H Q => ∃ p xs k v, o = .ref p ∧ i = .int k ∧ SqL K H p xs ∧
  0 ≤ k ∧ k < 1000000 ∧ xs[k.toNat]? = some v ∧ Q v H
theorem get_list : PGet X (rGetL X.K) := by
  intro pins s σ H o i ov iv Q I ro ri h
  obtain ⟨p, xs, k, v, rfl, rfl, hs, h0, h1, hx, q⟩ := h
  obtain rfl : ov = Value.ref p := ro
  obtain ⟨t, rfl⟩ := ri
  obtain ⟨its, r, pl, hz⟩ := I.list hs
  obtain ⟨u, hu, ru⟩ := r.get hx
  exact wpAny_getItem_list pl.isList h0 (by omega) (by simpa using hu) ⟨v, H, I, ru, q⟩
end
theorem ex_upd {H H' : Hp} {p : Addr} {o : HO} (e : Ex H H') (n : H' p = none) : Ex H (upd H' p o) := e.trans (Ex.new n)
/-- a test read out -/
theorem if_d {c A B : Prop} [Decidable c] (h1 : c → A) (h2 : ¬ c → B) : if decide c = true then A else B := by
  by_cases h : c
  · rw [if_pos (decide_eq_true h)]; exact h1 h
  · rw [if_neg (by rw [decide_eq_false h]; exact Bool.false_ne_true)]; exact h2 h
theorem if_nd {c A B : Prop} [Decidable c] (h1 : ¬ c → A) (h2 : c → B) : if (!decide c) = true then A else B := by
  by_cases h : c
  · rw [decide_eq_true h]; exact iteF (h2 h)
  · rw [decide_eq_false h]; exact iteT (h1 h)
theorem V_int_eq {a b : Int} : (V.int a = V.int b) = (a = b) := propext ⟨fun h => V.int.inj h, fun h => by rw [h]⟩
theorem atI_of {α : Type} {xs : List α} {i : Int} {v : α} (h0 : 0 ≤ i) (h : xs[i.toNat]? = some v) : atI xs i = some v := by
  have hl := (List.getElem?_eq_some_iff.mp h).1
  unfold atI ixN
  rw [if_pos h0, if_pos (by omega)]
  exact h
theorem get_of {α : Type} {xs : List α} {i : Int} (h0 : 0 ≤ i) (h1 : i < xs.length) : ∃ v, xs[i.toNat]? = some v ∧ v ∈ xs := by
  have hl : i.toNat < xs.length := by omega
  exact ⟨xs[i.toNat], List.getElem?_eq_getElem hl, List.getElem_mem hl⟩
end Gx

set_option Elab.async false
set_option linter.all false
set_option maxRecDepth 100000
set_option maxHeartbeats 2000000
namespace Gx
open PySem PySem.Spec PyProof.Rows L2 Evl
/-- a tuple of which the very object is known: it has no dict of its own -/
def ExT (H : Hp) (a : Addr) (xs : List V) : Prop := ∃ o : Obj, H a = some (.frz o (.tup xs)) ∧ o.dict = none
theorem ExT.sq {K : PySem.W.Frag} {H : Hp} {a : Addr} {xs : List V} (x : ExT H a xs) : SqT K H a xs := by
  obtain ⟨o, h, _⟩ := x
  exact .inl (.inr ⟨o, h⟩)
theorem ExT.to {H H' : Hp} {a : Addr} {xs : List V} (x : ExT H a xs) (e : Ex H H') : ExT H' a xs := by
  obtain ⟨o, h, d⟩ := x
  exact ⟨o, e _ _ h, d⟩
section
variable {X : Cx}
/-- tuple(xs) of a list, the new object known -/
def rTupX (K : PySem.W.Frag) : List V → Hp → VK → Prop := fun xs H Q => ∃ (p : Addr) (ys : List V), xs = [.ref p] ∧ SqL K H p ys ∧
  ∀ l H', H l = none → Ex H H' → ExT H' l ys → Q (.ref l) H'
theorem call_tupX : CallR X (.type "tuple") (rTupX X.K) := by
  intro pins s σ H xs us Q I rv h
  obtain ⟨p, ys, rfl, hq, q⟩ := h
  obtain ⟨u, rfl, ru⟩ := vals1 rv
  obtain rfl : u = Value.ref p := ru
  obtain ⟨its, r', pl, hz⟩ := I.list hq
  have hlen := r'.length
  refine call_tuple_list pl.isList (fun h' kp => ?_) (by simp only [List.size_toArray] <;> omega)
  have I1 : Inv X pins σ H { s with heap := h' } := I.kept (t' := s.toks) kp
  have hn : H h'.objs.size = none := I1.hok.fresh (Nat.le_refl _)
  have I2 := I1.laid (t' := s.toks) (a := h'.objs.size) (o := .frz { cls := .type "tuple", data := .seq its.toArray } (.tup ys))
    (h' := h'.push { cls := .type "tuple", data := .seq its.toArray }) (fun b o e => Heap.get?_push_of_some _ e) (Nat.le_refl _)
    ⟨Heap.get?_push_size _ rfl, hz, its, r', IsTup.new _ _⟩
  exact ⟨.ref h'.objs.size, _, I2, rfl, q _ _ hn (Ex.new hn) ⟨_, upd_same, rfl⟩⟩
/-- dict(t) of a tuple of pairs whose keys are ints or texts -/
def rDictT (K : PySem.W.Frag) : List V → Hp → VK → Prop := fun xs H Q => ∃ (a : Addr) (ps : List Addr) (kvs : List (Key × V)), xs = [.ref a] ∧
  ExT H a (ps.map V.ref) ∧ Paired (fun p kv => SqT K H p [kV kv.1, kv.2]) ps kvs ∧ ∀ p, H p = none → Q (.ref p) (upd H p (.dK (mergeK [] kvs)))
theorem call_dictT (hcalm : X.calm = true) : CallR X (.type "dict") (rDictT X.K) := by
  intro pins s σ H xs us Q I rv h
  obtain ⟨a, ps, kvs, rfl, ⟨o, ho, hd⟩, hp, q⟩ := h
  obtain ⟨u, rfl, ru⟩ := vals1 rv
  obtain rfl : u = Value.ref a := ru
  obtain ⟨he, hz, its, r', ⟨o', e', hc, n, hdat⟩⟩ := I.hok a _ ho
  rw [he] at e'
  cases e'
  have ei := refs_at r'
  subst ei
  rw [List.length_map] at hz
  obtain ⟨prs, rel, hl, hpr⟩ := pairs_of I hp
  -- the keys as they stand in the heap
  have key : ∀ j : Nat, j < prs.length → ∃ kv : Value × Value, ∃ b, ps[j]? = some b ∧ IsTup s.heap b #[kv.1, kv.2] ∧
      ∃ q, prs[j]? = some q ∧ q.2 = kv.2 ∧ keyIs q.1 kv.1 = true := by
    intro j hj
    obtain ⟨b, u, e1, e2, e3⟩ := hpr j _ (List.getElem?_eq_getElem hj)
    exact ⟨(u, prs[j].2), b, e1, e2, _, List.getElem?_eq_getElem hj, rfl, e3⟩
  let ws : List (Value × Value) := List.ofFn fun j : Fin prs.length => (key j.1 j.2).choose
  have hws : ws.length = prs.length := List.length_ofFn
  have wsAt : ∀ j (hj : j < prs.length), ws[j]? = some (key j hj).choose := by
    intro j hj
    rw [List.getElem?_eq_getElem (by rw [hws]; exact hj)]
    exact congrArg some (List.getElem_ofFn (by rw [hws]; exact hj))
  refine PySem.call_dict_pairs (kvs := prs) (knd := mixKind X.prog X.w)
    (PySem.PairArg.tuple a (ps.map Value.ref).toArray (fun j => ps.getD j 0) ws) (I.ok.hd hcalm) ⟨⟨o, n, he, hc, hd, hdat⟩, ?_, ?_⟩ ⟨hws.symm, ?_⟩ ?_ ?_
  · rw [hws, hl]; simp
  · intro j k v hj
    have hjl : j < prs.length := by rw [← hws]; exact (List.getElem?_eq_some_iff.mp hj).1
    rw [wsAt j hjl] at hj
    obtain ⟨b, e1, e2, _⟩ := (key j hjl).choose_spec
    have e0 := Option.some.inj hj
    rw [e0] at e2
    refine ⟨?_, .inl ?_⟩
    · simp [e1]
    · have e3 : ps.getD j 0 = b := by simp [e1]
      show s.heap.IsTuple (ps.getD j 0) #[k, v]
      rw [e3]
      exact e2
  · intro i k v hr
    have hr' : ws[i]? = some (k, v) := hr
    have hil : i < prs.length := by rw [← hws]; exact (List.getElem?_eq_some_iff.mp hr').1
    rw [wsAt i hil] at hr'
    have e0 := Option.some.inj hr'
    obtain ⟨b, e1, e2, z, e3, e4, e5⟩ := (key i hil).choose_spec
    rw [e0] at e4 e5
    obtain ⟨z1, z2⟩ := z
    simp only at e4 e5
    subst e4
    exact ⟨z1, e3, e5⟩
  · rw [hws, hl]; exact hz
  · intro h' tk hd' k'
    have hm : (s.heap.objs.size == sysModules) = false := beq_eq_false_iff_ne.mpr (Nat.ne_of_gt I.big)
    have hlen : (mergeK [] kvs).length ≤ sizeLine := by
      refine Nat.le_trans (length_mergeK kvs []) ?_
      rw [List.length_nil, Nat.zero_add, rel.length, hl]
      exact hz
    have kk : ∀ b o, s.heap.get? b = some o → h'.get? b = some o := fun b o e => k' b o (by simp) e
    have I2 := I.laid (t' := tk) (a := s.heap.objs.size) (o := .dK (mergeK [] kvs)) kk (Nat.le_refl _) ⟨hlen, hm, merged [] prs, KV.merge rel .nil, hd'⟩
    exact ⟨.ref s.heap.objs.size, _, I2, rfl, q _ (I.hok.fresh (Nat.le_refl _))⟩
end
/-- a dict of pairs with different keys, looked up -/
theorem valV_merge : ∀ (kvs acc : List (Key × V)) (k : Key), (∀ kv ∈ kvs, valV acc kv.1 = none) → (kvs.map (·.1)).Nodup →
    valV (mergeK acc kvs) k = match valV kvs k with | some v => some v | none => valV acc k
  | [], acc, k, _, _ => rfl
  | kv :: r, acc, k, h, nd => by
    rw [List.map_cons, List.nodup_cons] at nd
    have e : mergeK acc (kv :: r) = mergeK (putK acc kv.1 kv.2) r := rfl
    rw [e, valV_merge r (putK acc kv.1 kv.2) k (fun z hz => ?_) nd.2]
    · rw [valV_put]
      by_cases hk : kv.1 = k
      · rw [valV_pos hk, if_pos hk.symm]
        have : valV r k = none := by
          cases q : valV r k with
          | none => rfl
          | some v => exact absurd (by rw [hk]; exact valV_in q) nd.1
        rw [this]
      · rw [valV_neg hk, if_neg (fun e => hk e.symm)]
    · rw [valV_put, if_neg (fun e => nd.1 (by rw [← e]; exact List.mem_map_of_mem hz))]
      exact h z (List.mem_cons_of_mem _ hz)
end Gx

set_option Elab.async false
set_option linter.all false
set_option maxRecDepth 100000
set_option maxHeartbeats 2000000
namespace PySem
open AutoSeq1 (wpAny_loadPart')
/-- enumerate(t) of a tuple -/
theorem gx_enum_new (l : Addr) (items : Array Value) (n : Nat) (dct : Option Addr) (sl : Array (Option Value)) :
    Meets (Builtin.«enumerate.__new__» ⟨[.type "enumerate", .ref l], []⟩) (fun _ R s =>
      s.heap.get? l = some { cls := .type "tuple", dict := dct, data := .seq items n, slots := sl } ∧
      R (.ok (.ret (.ref (s.heap.push { cls := .type "tuple_iterator", data := .fields #[.ref l, .int 0 0] }).objs.size)))
        { s with heap := (s.heap.push { cls := .type "tuple_iterator", data := .fields #[.ref l, .int 0 0] }).push { cls := .type "enumerate", data := .fields #[.none, .bool false, .ref s.heap.objs.size, rawInt 0, .none, .none] } }) := by
  refine .of_wp fun prog w A R s h => ?_
  obtain ⟨hp, g, d, tk, os⟩ := s
  obtain ⟨hl, h⟩ := h
  have sb := sub_enumerate
  have tT : Heap.IsTuple (Shared.heap ⟨hp, g, d, tk, os⟩) l items := ⟨_, hl, rfl, n, rfl⟩
  wp_walk using wpAny_loadPart' hl
  refine wpAny_stack_any fun st => wpAny_pure ?_
  split
  · rename_i c _ _ _ _ _
    cases (c == Value.type "enumerate") <;>
      (wp_walk using wpAny_loadPart' hl, wpAny_pyIter_tuple tT; exact ⟨_, rfl, h⟩)
  · wp_walk using wpAny_loadPart' hl, wpAny_pyIter_tuple tT
    exact ⟨_, rfl, h⟩
section
variable {prog : Program} {w : World} {A : Around} {E : Value → Shared → Prop} {s : Shared}
theorem gx_call_enum {l : Addr} {items : Array Value} {Q : Value → Shared → Prop} (hL : s.heap.IsTuple l items)
    (h : ∀ h', IsEnum h' (s.heap.objs.size + 1) s.heap.objs.size 0 .none → h'.IsTupleIter s.heap.objs.size l 0 →
      (∀ b o, s.heap.get? b = some o → h'.get? b = some o) → Q (.ref (s.heap.objs.size + 1)) { s with heap := h' }) :
    wpAny (model prog w) A (call (.type "enumerate") [.ref l]) Q E s := by
  obtain ⟨⟨c, dct, dt, sl⟩, hl, hc, n, hd⟩ := hL
  obtain rfl : c = .type "tuple" := hc
  obtain rfl : dt = .seq items n := hd
  refine callType_new F.called_enumerate (by decide) (F.typeCall_enumerate_1 _) (F.newCall_enumerate_1 _)
    (fun obj => F.args_object_init_2 obj _) F.entry_enumerate_new (gx_enum_new l items n dct sl) ⟨hl, ?_⟩
  have sz : (s.heap.push { cls := .type "tuple_iterator", data := .fields #[.ref l, .int 0 0] }).objs.size = s.heap.objs.size + 1 := Heap.size_push ..
  have at1 := Heap.get?_push_size (s.heap.push { cls := .type "tuple_iterator", data := .fields #[.ref l, .int 0 0] })
    (o := { cls := .type "enumerate", data := .fields #[.none, .bool false, .ref s.heap.objs.size, rawInt 0, .none, .none] }) rfl
  show _ ∧ _
  rw [sz] at at1 ⊢
  refine ⟨⟨_, at1, rfl⟩, h _ at1 ⟨_, Heap.get?_push_of_some _ (Heap.get?_push_size _ rfl), rfl, rfl⟩ ?_⟩
  exact fun b o x => Heap.get?_push_of_some _ (Heap.get?_push_of_some _ x)
end
end PySem
namespace Gx
open PySem PySem.Spec PyProof.Rows L2 Evl
/-- the tuple at a, each item in a new pair with its number -/
def Iet (K : PySem.W.Frag) (a : Addr) : It where
  go := fun i H => ∃ (xs : List V) (x : V), SqT K H a xs ∧ xs[i]? = some x
  yld := fun i H v H' => ∃ T x, v = .ref T ∧ H T = none ∧ H' = upd H T (.tup [.int (i : Nat), x]) ∧ ∀ xs, SqT K H a xs → xs[i]? = some x
  stop := fun i H => ∃ xs : List V, SqT K H a xs ∧ xs.length ≤ i
theorem turn_enumT {P : Program} {w : World} {K : PySem.W.Frag} {elts : List Expr} {kk : Nat} {tpos : Pos} (a e it : Addr) (nt : a ≠ it) :
    Turn P w K (.Tuple elts kk tpos) (Iet K a) [e, it] e
      (fun i h => (∃ old, IsEnum h e it ((i : Nat) : Int) old) ∧ h.IsTupleIter it a i ∧ e ≠ it ∧ e ≠ a) := by
  refine ⟨by simp, fun i h st b hb => ?_, fun i h h' st k => ?_, ?_, ?_, fun A i s Q E st h => ?_⟩
  · obtain ⟨⟨old, he⟩, ⟨o, ho, hc, hd⟩, _⟩ := st
    rcases List.mem_cons.mp hb with z | z
    · subst z; exact ⟨_, he, fun v q => nomatch q⟩
    · rw [List.mem_singleton] at z; subst z; exact ⟨o, ho, fun v q => by rw [hd] at q; cases q⟩
  · obtain ⟨⟨old, he⟩, hi, hne⟩ := st
    exact ⟨⟨old, k e (by simp) _ he⟩, hi.at fun o q => k it (by simp) o q, hne⟩
  · intro X hP hw hK hc i pins s σ H E I hf st hg
    subst hP hw hK
    obtain ⟨⟨old, he⟩, hit, hne, hea⟩ := st
    obtain ⟨xs, x, hq, hx⟩ := hg
    obtain ⟨its, rv, tp, hz⟩ := I.tuple hq
    obtain ⟨u, hu, ru⟩ := rv.get hx
    have el : e < s.heap.objs.size := Heap.lt_size he
    have il : it < s.heap.objs.size := by obtain ⟨_, q, _⟩ := hit; exact Heap.lt_size q
    have D := Draws.tuple (prog := X.prog) (w := X.w) (A := X.A.in1) (I.ok.hd hc) it a nt its.toArray
    refine wpAny_pyNext_enum_itemD D he ⟨hit, tp⟩ (by have := (List.getElem?_eq_some_iff.mp hu).1; simpa using this) hne (by simp [hne, hea]) ?_
    intro y h' tk hy ho st' hT hsz hk
    have yu : y = u := by
      have hy' : its.toArray[i]? = some y := hy
      rw [List.getElem?_toArray, hu] at hy'
      exact (Option.some.inj hy').symm
    subst yu
    refine ⟨_, rfl, wpAny_letOwnedTupleGo_enum (s := { s with heap := h', toks := tk + 1 }) ho fun h'' he' sb => ?_⟩
    have hT2 := (sb.2 _ (Nat.ne_of_gt el)).trans hT
    have ob : ObjOk X.prog X.w (upd H s.heap.objs.size (.tup [.int (i : Nat), x])) h'' s.heap.objs.size (.tup [.int (i : Nat), x]) :=
      ⟨by show 2 ≤ sizeLine; decide, [.int i tk, y], .cons ⟨_, rfl⟩ (.cons ru .nil), ⟨_, hT2, rfl, _, rfl⟩⟩
    have I1 := I.turnedNew (ch := [e, it]) (t' := tk + 1) (fun b ob hb q => (sb.2 b (fun z => hb (by simp [z]))).trans
      (hk b ob (fun z => hb (by simp [z])) (fun z => hb (by simp [z])) q)) hf (Nat.le_refl _) ob
    refine ⟨.ref s.heap.objs.size, _, I1, rfl, ⟨_, x, rfl, I.hok.fresh (Nat.le_refl _), rfl, fun ys hy => by rw [I.tuple_inj hy hq]; exact hx⟩,
      ⟨⟨y, ?_⟩, st'.1.at fun o q => (sb.2 it (Ne.symm hne)).trans q, hne, hea⟩, fun b hb => ?_⟩
    · have e1 : ((i + 1 : Nat) : Int) = (i : Int) + 1 := by omega
      rw [e1]; exact he'
    · have bl : b < s.heap.objs.size := by
        rcases List.mem_cons.mp hb with z | z
        · subst z; exact el
        · rw [List.mem_singleton] at z; subst z; exact il
      rw [upd_ne (Nat.ne_of_lt bl)]
      exact (hf b hb).1
  · intro X hP hw hK hc i pins s σ H E I hf st hg
    subst hP hw hK
    obtain ⟨⟨old, he⟩, hit, hne, hea⟩ := st
    obtain ⟨xs, hq, hx⟩ := hg
    obtain ⟨its, rv, tp, hz⟩ := I.tuple hq
    obtain ⟨f0, f1, f2, f3, f4, f5⟩ := hf it (by simp)
    have ll := rv.length
    unfold pyNext
    have hT : s.TypeIs (.ref e) "enumerate" := ⟨_, he, rfl⟩
    refine wpAny_bind (wpAny_attempt (wpAny_callSpecial?_slot (name := Str.ofString "__next__") hT F.slot_enumerate_next
      (wpAny_call_entry F.slot_enumerate_next hT F.entry_enumerate_next ?_ (F.args_enumerate_next_1 _))))
    show wpAny _ _ (field (.ref e) 2 >>= _) _ _ _
    refine wpAny_bind (wpAny_field he rfl (x := .ref it) rfl ?_)
    refine wpAny_bind (wpAny_nextOf_tuple_end (I.ok.hd hc) hit tp (by simp; omega) fun h' x he' hx' => ?_)
    obtain ⟨o, ho, hcc⟩ := hx'
    refine wpAny_bind (wpAny_isInstance (T := "StopIteration") (b := true) ⟨o, ho, hcc⟩ isSubtype_stop ?_)
    exact wpAny_pure ⟨rfl, I.turned (t' := s.toks) (fun b o hb q => he' b o hb q) f0 f1 f3 f4 f5⟩
  · obtain ⟨⟨_, he⟩, _⟩ := st
    exact wpAny_pyIter_enum he h
def iEnumT (K : PySem.W.Frag) (ta : TA) : TI := fun σ H R => ta σ H fun vs H1 => ∃ a xs, vs = [.ref a] ∧ SqT K H1 a xs ∧ R (Iet K a) H1
theorem pi_enumT {X : Cx} {e : Expr} {ta : TA} {p pos tpos : Pos} {elts : List Expr} {kk : Nat} (hg : Gl X "enumerate")
    (hm : X.mg "enumerate" = none) (ha : PA X [e] ta) (hs : starEach [e] X.env = [(false, eval e X.env)] := by rfl) :
    PI X (.Tuple elts kk tpos) (.Call (.Name "enumerate" p) [e] [] pos) (iEnumT X.K ta) := by
  constructor
  intro pins s σ H R I h
  refine Call_ (ld_blt I hg hm boot_enumerate (PyProof.Rows.callWith_type1 (thn (ha.run pos pins s σ H _ I h) ?_) hs rfl))
  rintro us s1 ⟨vs, H1, I1, rv, a, xs, rfl, hq, q⟩
  obtain ⟨u, rfl, ru⟩ := vals1 rv
  obtain rfl : u = Value.ref a := ru
  obtain ⟨its, rv', tp, hz⟩ := I1.tuple hq
  have al : a < s1.heap.objs.size := tp.lt
  refine gx_call_enum tp fun h' he hit hk => wpAny_pyIter_enum he ?_
  have I2 : Inv X pins σ H1 { s1 with heap := h' } := I1.kept (t' := s1.toks) hk
  refine ⟨s1.heap.objs.size + 1, [s1.heap.objs.size + 1, s1.heap.objs.size], _, _, H1, rfl, I2,
    turn_enumT a (s1.heap.objs.size + 1) s1.heap.objs.size (Nat.ne_of_lt al),
    ⟨⟨.none, he⟩, hit, Nat.succ_ne_self _, Nat.ne_of_gt (Nat.lt_succ_of_lt al)⟩, fun b hb => ?_, q⟩
  have hle : s1.heap.objs.size ≤ b := by
    rcases List.mem_cons.mp hb with z | z
    · subst z; exact Nat.le_succ _
    · rw [List.mem_singleton] at z; subst z; exact Nat.le_refl _
  exact I1.fpOk hle (I1.hok.fresh hle)
theorem for_enumT {K : PySem.W.Frag} {a : Addr} {xs : List V} {g : TG} {tb : TS} {D : Ends} {σ : L2.St} {H : Hp} (Pv : Nat → L2.St → Hp → Prop)
    (h0 : Pv 0 σ H) (hl : ∀ i σ H, i ≤ xs.length → Pv i σ H → SqT K H a xs)
    (hs : ∀ i x T σ H, xs[i]? = some x → Pv i σ H → H T = none →
      g (.ref T) σ (upd H T (.tup [.int (i : Nat), x])) fun σ2 H2 => tb { D with nx := Pv (i + 1), ct := Pv (i + 1), bk := D.nx } σ2 H2)
    (hd : ∀ σ H, Pv xs.length σ H → D.nx σ H) :
    ∃ W : Nat → Nat → L2.St → Hp → Prop, (∃ m, W 0 m σ H) ∧ ∀ i m σ H, W i m σ H →
      ((Iet K a).stop i H ∧ D.nx σ H) ∨ ((Iet K a).go i H ∧ ∃ N : L2.St → Hp → Prop, (∀ σ' H', N σ' H' → ∃ m', m' < m ∧ W (i + 1) m' σ' H') ∧
        ∀ x H', (Iet K a).yld i H x H' → g x σ H' fun σ2 H2 => tb { D with nx := N, ct := N, bk := D.nx } σ2 H2) := by
  refine ⟨fun i m σ H => m = xs.length - i ∧ i ≤ xs.length ∧ Pv i σ H, ⟨xs.length, by simp, Nat.zero_le _, h0⟩, ?_⟩
  rintro i m σ H ⟨rfl, hi, p⟩
  have q := hl i σ H hi p
  by_cases hlt : i < xs.length
  · refine .inr ⟨⟨xs, xs[i], q, List.getElem?_eq_getElem hlt⟩, Pv (i + 1), fun σ' H' p' => ⟨_, by omega, rfl, hlt, p'⟩, ?_⟩
    rintro v H' ⟨T, x, rfl, nT, rfl, hx⟩
    exact hs i x T σ H (hx xs q) p nT
  · have e : i = xs.length := by omega
    subst e
    exact .inl ⟨⟨xs, q, Nat.le_refl _⟩, hd σ H p⟩
end Gx

set_option Elab.async false
set_option linter.all false
set_option maxRecDepth 100000
set_option maxHeartbeats 2000000
namespace Gx
open PySem PySem.Spec PyProof.Rows L2 Evl
/-! Steps: what they are, what they lead a number to, how they lie in the heap. -/
inductive Stp where
  | plus (k : Int) | times (k : Int) | into (k : Int) | over (k : Int) | found (ps : List (Int × Int))
abbrev Near (k : Int) : Prop := -1000000000000 ≤ k ∧ k ≤ 1000000000000
def Stp.ok : Stp → Prop
  | .plus k => Near k
  | .times k => Near k ∧ k ≠ 0
  | .into k => 0 < k ∧ k ≤ 1000000000000
  | .over k => Near k
  | .found ps => (ps.map (·.1)).Nodup ∧ (∀ p ∈ ps, Near p.1 ∧ Near p.2) ∧ ps.length ≤ 8
def look (ps : List (Int × Int)) (n : Int) : Option Int := (ps.find? fun p => decide (p.1 = n)).map (·.2)
def lead : Stp → Int → Option Int
  | .plus k, n => some (n + k)
  | .times k, n => some (n * k)
  | .into k, n => some (n.fdiv k)
  | .over k, n => if n = 0 then none else some (k.fdiv n)
  | .found ps, n => look ps n
def leadAll : List Stp → Int → Option Int
  | [], n => some n
  | s :: r, n => match lead s n with
    | some m => leadAll r m
    | none => none
/-- the number at which steps err -/
def erredAt : List Stp → Int → Option Int
  | [], _ => none
  | s :: r, n => match lead s n with
    | some m => erredAt r m
    | none => some n
theorem leadAll_none {ss : List Stp} : ∀ {n : Int}, leadAll ss n = none → ∃ m, erredAt ss n = some m := by
  induction ss with
  | nil => intro n h; cases h
  | cons s r ih =>
    intro n h
    unfold leadAll at h
    unfold erredAt
    cases e : lead s n with
    | none => exact ⟨n, rfl⟩
    | some m => rw [e] at h; exact ih h
theorem leadAll_some {ss : List Stp} : ∀ {n m : Int}, leadAll ss n = some m → erredAt ss n = none := by
  induction ss with
  | nil => intro n m h; rfl
  | cons s r ih =>
    intro n m h
    unfold leadAll at h
    unfold erredAt
    cases e : lead s n with
    | none => rw [e] at h; cases h
    | some m => rw [e] at h; exact ih h
/-! ### how great the numbers grow -/
theorem fdiv_abs {a b : Int} (hb : b ≠ 0) : (a.fdiv b).natAbs ≤ a.natAbs := by
  have h1 := Int.mul_fdiv_add_fmod a b
  by_cases pb : 0 < b
  · rw [Int.fdiv_eq_ediv_of_nonneg a (by omega)]
    by_cases pa : 0 ≤ a
    · have := Int.ediv_le_self b pa
      have := Int.ediv_nonneg pa (by omega : 0 ≤ b)
      omega
    · have q1 : a ≤ a / b := by
        have := Int.mul_ediv_self_le (x := a) (k := b) (by omega)
        have q2 := Int.lt_mul_ediv_self_add (x := a) pb
        by_cases z : a / b ≤ a - 1
        · have : b * (a / b) ≤ b * (a - 1) := Int.mul_le_mul_of_nonneg_left z (by omega)
          have e : b * (a - 1) = b * a - b := by rw [Int.mul_sub, Int.mul_one]
          have : b * a ≤ 1 * a := Int.mul_le_mul_of_nonpos_right (by omega) (by omega)
          omega
        · omega
      have q3 : a / b < 0 := Int.ediv_neg_of_neg_of_pos (by omega) pb
      omega
  · have e : a.fdiv b = (-a).fdiv (-b) := (Int.neg_fdiv_neg a b).symm
    rw [e, Int.fdiv_eq_ediv_of_nonneg (-a) (by omega)]
    by_cases pa : 0 ≤ -a
    · have := Int.ediv_le_self (-b) pa
      have := Int.ediv_nonneg pa (by omega : 0 ≤ -b)
      omega
    · have pb' : 0 < -b := by omega
      have q1 : -a ≤ -a / -b := by
        have q2 := Int.lt_mul_ediv_self_add (x := -a) pb'
        by_cases z : -a / -b ≤ -a - 1
        · have : -b * (-a / -b) ≤ -b * (-a - 1) := Int.mul_le_mul_of_nonneg_left z (by omega)
          have e : -b * (-a - 1) = -b * -a - -b := by rw [Int.mul_sub, Int.mul_one]
          have : -b * -a ≤ 1 * -a := Int.mul_le_mul_of_nonpos_right (by omega) (by omega)
          omega
        · omega
      have q3 : -a / -b < 0 := Int.ediv_neg_of_neg_of_pos (by omega) pb'
      omega
theorem near_abs {k : Int} (h : Near k) : k.natAbs < 1099511627776 := by
  obtain ⟨h1, h2⟩ := h
  omega
theorem look_mem {ps : List (Int × Int)} {n m : Int} (h : look ps n = some m) : (n, m) ∈ ps := by
  unfold look at h
  obtain ⟨p, h1, h2⟩ := Option.map_eq_some_iff.mp h
  have := List.mem_of_find?_eq_some h1
  have e := List.find?_some h1
  simp at e
  obtain ⟨a, b⟩ := p
  simp only at e h2
  subst e h2
  exact this
theorem mul_big (a c B : Nat) (h1 : a < B) (h2 : c < 1099511627776) : a * c < B * 2199023255552 :=
  Nat.lt_of_lt_of_le (Nat.mul_lt_mul'' h1 h2) (Nat.mul_le_mul_left B (by decide))
theorem lead_big {s : Stp} {n m : Int} {b : Nat} (hs : s.ok) (hn : n.natAbs < 2 ^ b) (h : lead s n = some m) : m.natAbs < 2 ^ (b + 41) := by
  have p1 : (2 : Nat) ^ (b + 41) = 2 ^ b * 2 ^ 41 := Nat.pow_add 2 b 41
  have p2 : (2 : Nat) ^ 41 = 2199023255552 := by decide
  have p4 : 1 ≤ (2 : Nat) ^ b := Nat.one_le_two_pow
  generalize hB : (2 : Nat) ^ b = B at *
  rw [p1, p2]
  cases s with
  | plus k =>
    have q := near_abs hs
    have h : some (n + k) = some m := h
    injection h with h
    omega
  | times k =>
    have q := near_abs hs.1
    have h : some (n * k) = some m := h
    injection h with h
    rw [← h, Int.natAbs_mul]
    exact mul_big _ _ _ hn q
  | into k =>
    have h : some (n.fdiv k) = some m := h
    injection h with h
    have q : k ≠ 0 := by have := hs.1; omega
    have := fdiv_abs (a := n) q
    omega
  | over k =>
    have h : (if n = 0 then none else some (k.fdiv n)) = some m := h
    by_cases h0 : n = 0
    · rw [if_pos h0] at h; cases h
    · rw [if_neg h0] at h
      injection h with h
      have := fdiv_abs (a := k) h0
      have := near_abs hs
      omega
  | found ps =>
    have := look_mem h
    have := near_abs (hs.2.1 _ this).2
    simp only at this
    omega
/-! ### what never changes stands -/
def imm : HO → Bool
  | .tup _ => true
  | .frz _ _ => true
  | _ => false
def ExI (H H' : Hp) : Prop := ∀ a o, H a = some o → imm o = true → H' a = some o
theorem ExI.of {H H' : Hp} (e : Ex H H') : ExI H H' := fun a o h _ => e a o h
theorem ExI.trans {H H1 H2 : Hp} (a : ExI H H1) (b : ExI H1 H2) : ExI H H2 := fun c o h i => b c o (a c o h i) i
theorem ExI.put {H : Hp} {l : Addr} {u u' : HO} (h : H l = some u) (n : imm u = false) : ExI H (upd H l u') := fun a o q i => by
  rw [upd_ne (fun e => by subst e; rw [h] at q; cases q; rw [n] at i; cases i)]
  exact q
theorem ExI.sq {K : PySem.W.Frag} {H H' : Hp} {a : Addr} {xs : List V} (e : ExI H H') (h : SqT K H a xs) : SqT K H' a xs := by
  rcases h with (h | ⟨o, h⟩) | h
  · exact .inl (.inl (e _ _ h rfl))
  · exact .inl (.inr ⟨o, e _ _ h rfl⟩)
  · exact .inr h
/-! ### how they lie -/
def PairAt (K : PySem.W.Frag) (H : Hp) (p : Addr) (kv : Int × Int) : Prop := SqT K H p [.int kv.1, .int kv.2]
def StpAt (K : PySem.W.Frag) (H : Hp) (v : V) : Stp → Prop
  | .plus k => ∃ a, v = .ref a ∧ SqT K H a [.str "plus", .int k]
  | .times k => ∃ a, v = .ref a ∧ SqT K H a [.str "times", .int k]
  | .into k => ∃ a, v = .ref a ∧ SqT K H a [.str "into", .int k]
  | .over k => ∃ a, v = .ref a ∧ SqT K H a [.str "over", .int k]
  | .found ps => ∃ a c as, v = .ref a ∧ SqT K H a [.str "found", .ref c] ∧ ExT H c (as.map V.ref) ∧ Paired (PairAt K H) as ps
def pairD (kv : Int × Int) : PyData := .tuple [.int kv.1, .int kv.2]
def Stp.data : Stp → PyData
  | .plus k => .tuple [.str "plus", .int k]
  | .times k => .tuple [.str "times", .int k]
  | .into k => .tuple [.str "into", .int k]
  | .over k => .tuple [.str "over", .int k]
  | .found ps => .tuple [.str "found", .tuple (ps.map pairD)]
section
variable {K : PySem.W.Frag} {H H' : Hp}
theorem paired_to {as : List Addr} {ps : List (Int × Int)} (e : Ex H H') (h : Paired (PairAt K H) as ps) : Paired (PairAt K H') as ps :=
  L2.Paired.mapP h fun _ _ q => ex_t e q
theorem StpAt.to {v : V} {s : Stp} (h : StpAt K H v s) (e : Ex H H') : StpAt K H' v s := by
  cases s with
  | found ps =>
    obtain ⟨a, c, as, h1, h2, h3, h4⟩ := h
    exact ⟨a, c, as, h1, ex_t e h2, h3.to e, paired_to e h4⟩
  | _ => obtain ⟨a, h1, h2⟩ := h; exact ⟨a, h1, ex_t e h2⟩
theorem pairs_dp : ∀ {as : List Addr} {ps : List (Int × Int)}, Paired (PairAt K H) as ps → DpAll K H (as.map V.ref) (ps.map pairD)
  | _, _, .nil => .nil
  | _, _, .cons h t => .cons (.tup h (.cons (.int _) (.cons (.int _) .nil))) (pairs_dp t)
theorem StpAt.dp {v : V} {s : Stp} (h : StpAt K H v s) : Dp K H v s.data := by
  cases s with
  | found ps =>
    obtain ⟨a, c, as, rfl, h2, h3, h4⟩ := h
    exact .tup h2 (.cons (.str _) (.cons (.tup h3.sq (pairs_dp h4)) .nil))
  | _ => obtain ⟨a, rfl, h2⟩ := h; exact .tup h2 (.cons (.str _) (.cons (.int _) .nil))
theorem StpAt.toI {v : V} {s : Stp} (h : StpAt K H v s) (e : ExI H H') : StpAt K H' v s := by
  cases s with
  | found ps =>
    obtain ⟨a, c, as, h1, h2, ⟨o, h3, h5⟩, h4⟩ := h
    exact ⟨a, c, as, h1, e.sq h2, ⟨o, e _ _ h3 rfl, h5⟩, L2.Paired.mapP h4 fun _ _ q => e.sq q⟩
  | _ => obtain ⟨a, h1, h2⟩ := h; exact ⟨a, h1, e.sq h2⟩
abbrev StpsAt (K : PySem.W.Frag) (H : Hp) (vs : List V) (ss : List Stp) : Prop := Paired (StpAt K H) vs ss
theorem stps_to {vs : List V} {ss : List Stp} (h : StpsAt K H vs ss) (e : Ex H H') : StpsAt K H' vs ss := L2.Paired.mapP h fun _ _ q => q.to e
theorem stps_toI {vs : List V} {ss : List Stp} (h : StpsAt K H vs ss) (e : ExI H H') : StpsAt K H' vs ss := L2.Paired.mapP h fun _ _ q => q.toI e
theorem stps_dp : ∀ {vs : List V} {ss : List Stp}, StpsAt K H vs ss → DpAll K H vs (ss.map Stp.data)
  | _, _, .nil => .nil
  | _, _, .cons h t => .cons h.dp (stps_dp t)
theorem paired_get {α β : Type} {F : α → β → Prop} : ∀ {xs : List α} {ys : List β}, Paired F xs ys → ∀ {i : Nat} {x : α}, xs[i]? = some x → ∃ y, ys[i]? = some y ∧ F x y
  | _, _, .nil, i, x, e => by simp at e
  | _, _, .cons h t, 0, x, e => by simp at e; subst e; exact ⟨_, by simp, h⟩
  | _, _, .cons h t, i + 1, x, e => by
    obtain ⟨y, q1, q2⟩ := paired_get t (i := i) (by simpa using e)
    exact ⟨y, by simpa using q1, q2⟩
theorem paired_app {α β : Type} {F : α → β → Prop} : ∀ {xs xs' : List α} {ys ys' : List β}, Paired F xs ys → Paired F xs' ys' → Paired F (xs ++ xs') (ys ++ ys')
  | _, _, _, _, .nil, q => q
  | _, _, _, _, .cons h t, q => .cons h (paired_app t q)
theorem paired_take {α β : Type} {F : α → β → Prop} : ∀ (n : Nat) {xs : List α} {ys : List β}, Paired F xs ys → Paired F (xs.take n) (ys.take n)
  | 0, _, _, _ => .nil
  | _ + 1, _, _, .nil => .nil
  | n + 1, _, _, .cons h t => .cons h (paired_take n t)
theorem shaped_pairs : ∀ ps : List (Int × Int), PyData.canLayAll0 (ps.map pairD) = true ∧ PyData.depthAll (ps.map pairD) ≤ 1
  | [] => ⟨rfl, by decide⟩
  | p :: r => by
    obtain ⟨h1, h2⟩ := shaped_pairs r
    refine ⟨?_, ?_⟩
    · simp [PyData.canLayAll0, pairD, PyData.canLay0, h1]
    · simp only [List.map_cons, PyData.depthAll, pairD, PyData.depth] at h2 ⊢
      omega
end
end Gx

set_option Elab.async false
set_option linter.all false
set_option maxRecDepth 100000
set_option maxHeartbeats 2000000
namespace Gx
open PySem PySem.Spec PyProof.Rows L2 Evl
/-! What the helpers of the laws promise. -/
def spOne (K : PySem.W.Frag) : Sp := fun vs H Q _ => ∃ (b l : Addr) (xs : List V), vs = [.ref b, .ref l] ∧ Bag H b ∧ SqL K H l xs ∧
  0 < xs.length ∧ xs.length < 100000 ∧ ∀ x ∈ xs, Q x H
def spNumber : Sp := fun vs H Q _ => ∃ b : Addr, vs = [.ref b] ∧ Bag H b ∧ ∀ x : Int, Near x → ∀ H', Ex H H' → Q (.int x) H'
def spStep (K : PySem.W.Frag) : Sp := fun vs H Q _ => ∃ b : Addr, vs = [.ref b] ∧ Bag H b ∧
  ∀ v s H', Ex H H' → Stp.ok s → StpAt K H' v s → Q v H'
def spSteps (K : PySem.W.Frag) : Sp := fun vs H Q _ => ∃ b : Addr, vs = [.ref b, .int 4] ∧ Bag H b ∧
  ∀ a ws ss H', Ex H H' → ss.length ≤ 4 → (∀ s ∈ ss, Stp.ok s) → ExT H' a ws → StpsAt K H' ws ss → Q (.ref a) H'
theorem if_t {c : Bool} {A B : Prop} (hc : c = true) (h : A) : if c = true then A else B := by rw [if_pos hc]; exact h
theorem if_f {c : Bool} {A B : Prop} (hc : c = false) (h : B) : if c = true then A else B := by
  rw [hc, if_neg Bool.false_ne_true]; exact h
theorem cut_take (xs : List V) (n : Nat) : cutV xs none (some (n : Int)) = xs.take n := by
  unfold cutV
  rw [show HT.sIx xs.length 0 none = 0 from rfl, List.drop_zero, Nat.sub_zero]
  have e : HT.sIx xs.length xs.length (some (n : Int)) = min n xs.length := by
    show (if (n : Int) < 0 then ((n : Int) + xs.length).toNat else min (n : Int).toNat xs.length) = min n xs.length
    rw [if_neg (by omega), Int.toNat_natCast]
  rw [e]
  by_cases q : n ≤ xs.length
  · rw [Nat.min_eq_left q]
  · rw [Nat.min_eq_right (by omega), List.take_length, List.take_of_length_le (by omega)]
theorem sz1 : (1 : Nat) ≤ sizeLine := by decide
theorem sz2 : (2 : Nat) ≤ sizeLine := by decide
theorem sz3 : (3 : Nat) ≤ sizeLine := by decide
theorem sz4 : (4 : Nat) ≤ sizeLine := by decide
theorem sz5 : (5 : Nat) ≤ sizeLine := by decide
theorem small {n : Nat} (h : n ≤ 100000) : n < sizeLine := Nat.lt_of_le_of_lt h (by decide)
theorem p10_12 : (10 : Int) ^ (12 : Int).toNat = 1000000000000 := by decide
theorem p10_11 : (10 : Int) ^ (11 : Int).toNat = 100000000000 := by decide
/-- an item of a short written list -/
theorem item2 {a b : V} {i : Int} (h0 : 0 ≤ i) (h1 : i < 2) : atI [a, b] i = some a ∧ i = 0 ∨ atI [a, b] i = some b ∧ i = 1 := by
  rcases (by omega : i = 0 ∨ i = 1) with rfl | rfl
  · exact .inl ⟨rfl, rfl⟩
  · exact .inr ⟨rfl, rfl⟩
theorem item_in {xs : List V} {i : Int} (h0 : 0 ≤ i) (h1 : i < xs.length) : ∃ v, atI xs i = some v ∧ v ∈ xs := by
  obtain ⟨v, e, m⟩ := get_of h0 h1
  exact ⟨v, atI_of h0 e, m⟩
theorem cp10_12 : CPow 10 12 := ⟨by decide, by decide, by decide⟩
theorem cp10_11 : CPow 10 11 := ⟨by decide, by decide, by decide⟩
end Gx

set_option Elab.async false
set_option linter.all false
set_option maxRecDepth 100000
set_option maxHeartbeats 2000000
namespace Gx
open PySem PySem.Spec PyProof.Rows L2 Evl
/-! An error class of the package with one field: raised, caught, its field read. -/
/-- what the head tells of the class x at C, whose __init__ (the def st, at fI) stores the field fl -/
structure Err (K : PySem.W.Frag) (mg : Str → Option Value) (x qual fl : Str) (ps : List Str) (st : Stmt) (C fI : Addr) (fd : FuncData) : Prop where
  T : OexC K C
  gC : mg x = some (.ref C)
  iC : PySem.W.findIn K (.ref C) "__init__" = some (some (.ref fI))
  tI : PySem.W.typeIn K (.ref fI) = some (.type "function")
  no : PySem.W.findIn K (.ref C) fl = some none
  xf : XfC K C
  te : PySem.W.exmOne K (.ref C) (.ref C) = some true
  fn : Fun K "__init__" qual st fI fd
  bd : Binds K fd ps []
/-- __init__: the field is stored -/
def spInit (C : Addr) (fl : Str) : Sp := fun vs H Q _ => ∃ (a : Addr) (v : V), vs = [.ref a, v] ∧ H a = some (exo a C none) ∧
  ∀ dx, H dx = none → dx ≠ a → Q .non (upd (upd H dx (exd dx [(fl, v)])) a (exo a C (some dx)))
/-- .. and what a raise of it comes to -/
theorem raise_read {C : Addr} {fl : Str} {ta : TA} {σ : L2.St} {H : Hp} {W : XK} {v : V} {H1 : Hp}
    (ha : ∀ Q : List V → Hp → Prop, Q [v] H1 → ta σ H Q)
    (k : ∀ d H', Ex H1 H' → H' d = some (.xd [(fl, v)]) → W (.ref C) (some d) H') :
    tMkO C (spInit C fl) [] ta σ H W := by
  refine ha _ ⟨by show 1 ≤ 1000; decide, fun a na => ⟨a, v, rfl, upd_same, fun dx nd nda => ⟨rfl, dx, [(fl, v)], upd_same, ?_, ?_, ?_⟩⟩⟩
  · rw [upd_ne nda]; exact upd_same
  · rw [upd_ne nda] at nd; exact nd
  · have nd' : H1 dx = none := by rw [upd_ne nda] at nd; exact nd
    refine k dx _ (fun c o e => ?_) upd_same
    have c1 : c ≠ dx := ne_of_none e nd'
    have c2 : c ≠ a := ne_of_none e na
    rw [upd_ne c1, del_ne c2, upd_ne c2, upd_ne c1, upd_ne c2]
    exact e
/-- the field of the caught error -/
theorem field_read {C a d : Addr} {fl : Str} {v : V} {te : TE} {σ : L2.St} {H : Hp} {Q : VK}
    (ht : ∀ Q : VK, Q (.ref a) H → te σ H Q) (hd : H d = some (.xd [(fl, v)])) (q : Q v H) : tXf a (.ref C) (some d) C fl te σ H Q :=
  ht _ ⟨rfl, rfl, d, _, v, rfl, hd, by simp [List.lookup], q⟩
/-- a tuple's item where the context is another than the written part's -/
theorem ix_tupK {X : Cx} {K : PySem.W.Frag} (h : X.K = K) : IxR X (rIxT K) := by rw [← h]; exact ix_tup
end Gx

set_option Elab.async false
set_option linter.all false
set_option maxRecDepth 100000
set_option maxHeartbeats 2000000
namespace Gx
open PySem PySem.Spec PyProof.Rows L2 Evl
/-! A list times a number. -/
def rRepL (K : PySem.W.Frag) : R2 := fun x y H Q => ∃ (l : Addr) (k : Int) (xs : List V), x = .ref l ∧ y = .int k ∧ SqL K H l xs ∧
  0 ≤ k ∧ k ≤ 100000 ∧ xs.length ≤ 100 ∧ ∀ p, H p = none → Q (.ref p) (upd H p (.lst (List.replicate k.toNat xs).flatten))
theorem flat_rep (its : List Value) (m : Nat) :
    List.foldl (fun x1 x2 => x1 ++ x2) #[] (List.replicate m its.toArray) = (List.replicate m its).flatten.toArray := by
  have go : ∀ (m : Nat) (acc : List Value), List.foldl (fun x1 x2 => x1 ++ x2) acc.toArray (List.replicate m its.toArray) = (acc ++ (List.replicate m its).flatten).toArray := by
    intro m
    induction m with
    | zero => intro acc; simp
    | succ m ih =>
      intro acc
      rw [List.replicate_succ, List.foldl_cons, List.append_toArray, ih, List.replicate_succ, List.flatten_cons, List.append_assoc]
  simpa using go m []
section
variable {X : Cx}
theorem op_repL : OpR X (binaryOp .Mult) (rRepL X.K) := by
  intro pins s σ H x y v u Q I rx ry h
  obtain ⟨l, k, xs, rfl, rfl, hs, k0, kb, hx, q⟩ := h
  obtain rfl : v = Value.ref l := rx
  obtain ⟨t, rfl⟩ := ry
  obtain ⟨its, r', ⟨o, n, ho, hc, hd, hdat⟩, hz⟩ := I.list hs
  have hl := r'.length
  obtain ⟨oc, od, odat, osl⟩ := o
  simp only at hc hd hdat
  subst hc hd hdat
  have ty : s.TypeIs (.ref l) "list" := ⟨_, ho, rfl⟩
  have kn : its.length * k.toNat ≤ 10000000 := Nat.le_trans (Nat.mul_le_mul (show its.length ≤ 100 by omega) (show k.toNat ≤ 100000 by omega)) (by decide)
  refine wpAny_binaryOp_repeat_ref (T := "list") (U := "int") (by decide) ty (fun s' => typeIs_int s' k t) noFill_list_mul F.fills_int_mul F.slot_int_rmul repeat_list F.slot_int_index.lookup ?_
  refine call_meets F.slot_int_rmul (typeIs_int s k t) F.entry_int_rmul (F.args_int_rmul_2 _ _) (lm_int_rmul_list_any k t l its.toArray n none osl) ⟨ho, rfl, ty, ?_⟩
  have bad : Builtin.List.listTooLong (its.toArray.size * k.toNat) = false := by
    refine decide_eq_false ?_
    rw [List.size_toArray, sizeLine_eq]
    omega
  refine call_meets F.slot_list_mul ty F.entry_list_mul (F.args_list_mul_2 _ _) (lm_list_mul_any l its.toArray n none osl k t ?_ ?_ (by rw [bad]; exact Bool.false_ne_true)) ⟨ho, ?_⟩
  · have e : Builtin.List.listFitsIndex k = true := by
      unfold Builtin.List.listFitsIndex
      rw [Bool.and_eq_true]
      exact ⟨decide_eq_true (by omega), decide_eq_true (by omega)⟩
    rw [e]; decide
  · rw [List.size_toArray]; omega
  · have e : List.foldl (fun x1 x2 => x1 ++ x2) #[] (List.replicate (if its.toArray.isEmpty = true then 0 else k.toNat) its.toArray) = (List.replicate k.toNat its).flatten.toArray := by
      cases its with
      | nil => simp
      | cons a r => rw [if_neg (by simp)]; exact flat_rep _ _
    rw [e]
    have ln : (List.replicate k.toNat xs).flatten.length ≤ sizeLine := by
      rw [lm_len_rep_flat, hl, sizeLine_eq, Nat.mul_comm]
      omega
    have hn : H s.heap.objs.size = none := I.hok.fresh (Nat.le_refl _)
    have I2 := I.laid (t' := s.toks) (a := s.heap.objs.size) (o := .lst (List.replicate k.toNat xs).flatten)
      (h' := s.heap.push { cls := .type "list", data := .seq (List.replicate k.toNat its).flatten.toArray }) (fun b o e => Heap.get?_push_of_some _ e) (Nat.le_refl _)
      ⟨?_, ?_⟩
    · exact ⟨.ref s.heap.objs.size, _, I2, rfl, q _ hn⟩
    · exact ln
    · exact ⟨_, _, r'.rep k.toNat, Heap.get?_push_size _ rfl⟩
/-- a list's item where the context is another than the written part's -/
theorem ix_listK {K : PySem.W.Frag} (h : X.K = K) : IxR X (rIxL K) := by rw [← h]; exact ix_list
end
theorem takeS {α : Type} {l : List α} {j : Nat} {x : α} (h : l[j]? = some x) : l.take (j + 1) = l.take j ++ [x] := by
  rw [List.take_add_one, h]
  rfl
end Gx

set_option Elab.async false
set_option linter.all false
set_option maxRecDepth 100000
set_option maxHeartbeats 4000000
namespace Gx
open PySem PySem.Spec PyProof.Rows L2 Evl
/-! Conditions: what they are, how they lie in the heap. -/
inductive Leaf where
  | always (w : Str) | empty (n : Str) | number (n : Str) | asks (n : Str) (ss : List Stp) (sg : Str) (k : Int)
inductive Cnd where
  | leaf (l : Leaf)
  | not (c : Cnd)
  | node (k : Str) (cs : List Cnd)
  | case (ws ts : List Cnd) (e : Cnd)
def Leaf.data : Leaf → PyData
  | .always w => .tuple [.str "always", .str w]
  | .empty n => .tuple [.str "empty", .str n]
  | .number n => .tuple [.str "number", .str n]
  | .asks n ss sg k => .tuple [.str "asks", .str n, .tuple (ss.map Stp.data), .str sg, .int k]
def pairL : List PyData → List PyData → List PyData
  | a :: as, b :: bs => .tuple [a, b] :: pairL as bs
  | _, _ => []
mutual
def Cnd.data : Cnd → PyData
  | .leaf l => l.data
  | .not c => .tuple [.str "not", c.data]
  | .node k cs => .tuple [.str k, .tuple (Cnd.dataL cs)]
  | .case ws ts e => .tuple [.str "case", .tuple (pairL (Cnd.dataL ws) (Cnd.dataL ts)), e.data]
def Cnd.dataL : List Cnd → List PyData
  | [] => []
  | c :: cs => c.data :: Cnd.dataL cs
end
def sgns : List Str := ["<", "<=", "<>", "=", ">", ">="]
def words : List Str := ["error", "no", "unknown", "yes"]
def kinds : List Str := ["all", "any", "first"]
def Leaf.ok (ns : List Str) : Leaf → Prop
  | .always w => w ∈ words
  | .empty n => n ∈ ns
  | .number n => n ∈ ns
  | .asks n ss sg k => n ∈ ns ∧ (∀ s ∈ ss, Stp.ok s) ∧ ss.length ≤ 4 ∧ sg ∈ sgns ∧ Near k
mutual
def Cnd.ok (ns : List Str) : Cnd → Prop
  | .leaf l => l.ok ns
  | .not c => c.ok ns
  | .node k cs => k ∈ kinds ∧ Cnd.okL ns cs
  | .case ws ts e => ws.length = ts.length ∧ Cnd.okL ns ws ∧ Cnd.okL ns ts ∧ e.ok ns
def Cnd.okL (ns : List Str) : List Cnd → Prop
  | [] => True
  | c :: cs => c.ok ns ∧ Cnd.okL ns cs
end
mutual
def Cnd.depth : Cnd → Nat
  | .leaf _ => 0
  | .not c => c.depth + 1
  | .node _ cs => Cnd.depthL cs + 1
  | .case ws ts e => max (max (Cnd.depthL ws) (Cnd.depthL ts)) e.depth + 1
def Cnd.depthL : List Cnd → Nat
  | [] => 0
  | c :: cs => max c.depth (Cnd.depthL cs)
end
mutual
def Cnd.weight : Cnd → Nat
  | .leaf _ => 200000
  | .not c => c.weight + 40
  | .node _ cs => Cnd.weightL cs + 40
  | .case ws ts e => Cnd.weightL ws + Cnd.weightL ts + e.weight + 40
def Cnd.weightL : List Cnd → Nat
  | [] => 0
  | c :: cs => c.weight + Cnd.weightL cs + 20
end
theorem Cnd.okL_iff {ns : List Str} : ∀ {cs : List Cnd}, Cnd.okL ns cs ↔ ∀ c ∈ cs, c.ok ns
  | [] => by simp [Cnd.okL]
  | c :: cs => by
    rw [Cnd.okL, Cnd.okL_iff (cs := cs)]
    simp
theorem Cnd.depthL_le {n : Nat} : ∀ {cs : List Cnd}, Cnd.depthL cs ≤ n ↔ ∀ c ∈ cs, c.depth ≤ n
  | [] => by simp [Cnd.depthL]
  | c :: cs => by
    rw [Cnd.depthL, Nat.max_le, Cnd.depthL_le (cs := cs)]
    simp
theorem Cnd.dataL_map : ∀ cs : List Cnd, Cnd.dataL cs = cs.map Cnd.data
  | [] => rfl
  | c :: cs => by rw [Cnd.dataL, Cnd.dataL_map cs]; rfl
/-! ### in the heap -/
def Zip3 (K : PySem.W.Frag) (H : Hp) : List Addr → List V → List V → Prop
  | [], [], [] => True
  | q :: qs, x :: xs, y :: ys => SqT K H q [x, y] ∧ Zip3 K H qs xs ys
  | _, _, _ => False
def LeafAt (K : PySem.W.Frag) (H : Hp) (v : V) : Leaf → Prop
  | .always w => ∃ a, v = .ref a ∧ SqT K H a [.str "always", .str w]
  | .empty n => ∃ a, v = .ref a ∧ SqT K H a [.str "empty", .str n]
  | .number n => ∃ a, v = .ref a ∧ SqT K H a [.str "number", .str n]
  | .asks n ss sg k => ∃ a b ws, v = .ref a ∧ SqT K H a [.str "asks", .str n, .ref b, .str sg, .int k] ∧ SqT K H b ws ∧ StpsAt K H ws ss
mutual
def CndAt (K : PySem.W.Frag) (H : Hp) : V → Cnd → Prop
  | v, .leaf l => LeafAt K H v l
  | v, .not c => ∃ a x, v = .ref a ∧ SqT K H a [.str "not", x] ∧ CndAt K H x c
  | v, .node k cs => ∃ a b xs, v = .ref a ∧ SqT K H a [.str k, .ref b] ∧ SqT K H b xs ∧ CndsAt K H xs cs
  | v, .case ws ts e => ∃ a b qs xs ys y, v = .ref a ∧ SqT K H a [.str "case", .ref b, y] ∧ SqT K H b (qs.map V.ref) ∧ Zip3 K H qs xs ys ∧
      CndsAt K H xs ws ∧ CndsAt K H ys ts ∧ CndAt K H y e
def CndsAt (K : PySem.W.Frag) (H : Hp) : List V → List Cnd → Prop
  | xs, [] => xs = []
  | xs, c :: cs => ∃ x r, xs = x :: r ∧ CndAt K H x c ∧ CndsAt K H r cs
end
section
variable {K : PySem.W.Frag} {H H' : Hp}
theorem zip3_toI (e : ExI H H') : ∀ {qs : List Addr} {xs ys : List V}, Zip3 K H qs xs ys → Zip3 K H' qs xs ys
  | [], [], [], h => trivial
  | _ :: _, _ :: _, _ :: _, h => ⟨e.sq h.1, zip3_toI e h.2⟩
  | [], _ :: _, _, h => h.elim
  | [], [], _ :: _, h => h.elim
  | _ :: _, [], _, h => h.elim
  | _ :: _, _ :: _, [], h => h.elim
theorem leafAt_toI {v : V} {l : Leaf} (e : ExI H H') (h : LeafAt K H v l) : LeafAt K H' v l := by
  cases l with
  | asks n ss sg k =>
    obtain ⟨a, b, ws, h1, h2, h3, h4⟩ := h
    exact ⟨a, b, ws, h1, e.sq h2, e.sq h3, stps_toI h4 e⟩
  | _ => obtain ⟨a, h1, h2⟩ := h; exact ⟨a, h1, e.sq h2⟩
mutual
theorem cndAt_toI (e : ExI H H') : ∀ (c : Cnd) (v : V), CndAt K H v c → CndAt K H' v c
  | .leaf l, v, h => leafAt_toI e h
  | .not c, v, ⟨a, x, h1, h2, h3⟩ => ⟨a, x, h1, e.sq h2, cndAt_toI e c x h3⟩
  | .node k cs, v, ⟨a, b, xs, h1, h2, h3, h4⟩ => ⟨a, b, xs, h1, e.sq h2, e.sq h3, cndsAt_toI e cs xs h4⟩
  | .case ws ts el, v, ⟨a, b, qs, xs, ys, y, h1, h2, h3, h4, h5, h6, h7⟩ =>
    ⟨a, b, qs, xs, ys, y, h1, e.sq h2, e.sq h3, zip3_toI e h4, cndsAt_toI e ws xs h5, cndsAt_toI e ts ys h6, cndAt_toI e el y h7⟩
theorem cndsAt_toI (e : ExI H H') : ∀ (cs : List Cnd) (xs : List V), CndsAt K H xs cs → CndsAt K H' xs cs
  | [], xs, h => h
  | c :: cs, xs, ⟨x, r, h1, h2, h3⟩ => ⟨x, r, h1, cndAt_toI e c x h2, cndsAt_toI e cs r h3⟩
end
theorem CndAt.to {v : V} {c : Cnd} (h : CndAt K H v c) (e : Ex H H') : CndAt K H' v c := cndAt_toI (ExI.of e) c v h
theorem CndsAt.to {vs : List V} {cs : List Cnd} (h : CndsAt K H vs cs) (e : Ex H H') : CndsAt K H' vs cs := cndsAt_toI (ExI.of e) cs vs h
theorem zip3_dp : ∀ {qs : List Addr} {xs ys : List V} {as bs : List PyData}, Zip3 K H qs xs ys → DpAll K H xs as → DpAll K H ys bs → DpAll K H (qs.map V.ref) (pairL as bs)
  | [], [], [], _, _, _, .nil, .nil => .nil
  | q :: qs, x :: xs, y :: ys, _, _, h, .cons h1 h2, .cons h3 h4 => .cons (.tup h.1 (.cons h1 (.cons h3 .nil))) (zip3_dp h.2 h2 h4)
  | [], _ :: _, _, _, _, h, _, _ => h.elim
  | [], [], _ :: _, _, _, h, _, _ => h.elim
  | _ :: _, [], _, _, _, h, _, _ => h.elim
  | _ :: _, _ :: _, [], _, _, h, _, _ => h.elim
theorem leafAt_dp {v : V} {l : Leaf} (h : LeafAt K H v l) : Dp K H v l.data := by
  cases l with
  | asks n ss sg k =>
    obtain ⟨a, b, ws, rfl, h2, h3, h4⟩ := h
    exact .tup h2 (.cons (.str _) (.cons (.str _) (.cons (.tup h3 (stps_dp h4)) (.cons (.str _) (.cons (.int _) .nil)))))
  | _ => obtain ⟨a, rfl, h2⟩ := h; exact .tup h2 (.cons (.str _) (.cons (.str _) .nil))
mutual
theorem cndAt_dp : ∀ (c : Cnd) (v : V), CndAt K H v c → Dp K H v c.data
  | .leaf l, v, h => leafAt_dp h
  | .not c, v, ⟨a, x, h1, h2, h3⟩ => by subst h1; exact .tup h2 (.cons (.str _) (.cons (cndAt_dp c x h3) .nil))
  | .node k cs, v, ⟨a, b, xs, h1, h2, h3, h4⟩ => by subst h1; exact .tup h2 (.cons (.str _) (.cons (.tup h3 (cndsAt_dp cs xs h4)) .nil))
  | .case ws ts el, v, ⟨a, b, qs, xs, ys, y, h1, h2, h3, h4, h5, h6, h7⟩ => by
    subst h1
    exact .tup h2 (.cons (.str _) (.cons (.tup h3 (zip3_dp h4 (cndsAt_dp ws xs h5) (cndsAt_dp ts ys h6))) (.cons (cndAt_dp el y h7) .nil)))
theorem cndsAt_dp : ∀ (cs : List Cnd) (xs : List V), CndsAt K H xs cs → DpAll K H xs (Cnd.dataL cs)
  | [], xs, h => by subst h; exact .nil
  | c :: cs, xs, ⟨x, r, h1, h2, h3⟩ => by subst h1; exact .cons (cndAt_dp c x h2) (cndsAt_dp cs r h3)
end
theorem CndAt.dp {v : V} {c : Cnd} (h : CndAt K H v c) : Dp K H v c.data := cndAt_dp c v h
theorem cnds_len : ∀ {cs : List Cnd} {xs : List V}, CndsAt K H xs cs → xs.length = cs.length
  | [], xs, h => by subst h; rfl
  | c :: cs, xs, ⟨x, r, h1, h2, h3⟩ => by subst h1; simp [cnds_len h3]
theorem cnds_get : ∀ {cs : List Cnd} {xs : List V} {i : Nat} {x : V}, CndsAt K H xs cs → xs[i]? = some x → ∃ c, cs[i]? = some c ∧ CndAt K H x c
  | [], xs, i, x, h, e => by subst h; simp at e
  | c :: cs, xs, i, x, ⟨y, r, h1, h2, h3⟩, e => by
    subst h1
    cases i with
    | zero => simp at e; subst e; exact ⟨c, by simp, h2⟩
    | succ i =>
      obtain ⟨d, q1, q2⟩ := cnds_get (i := i) h3 (by simpa using e)
      exact ⟨d, by simpa using q1, q2⟩
theorem cnds_app : ∀ {cs ds : List Cnd} {xs ys : List V}, CndsAt K H xs cs → CndsAt K H ys ds → CndsAt K H (xs ++ ys) (cs ++ ds)
  | [], ds, xs, ys, h, h' => by subst h; exact h'
  | c :: cs, ds, xs, ys, ⟨y, r, h1, h2, h3⟩, h' => by subst h1; exact ⟨y, r ++ ys, rfl, h2, cnds_app h3 h'⟩
theorem cnds_one {x : V} {c : Cnd} (h : CndAt K H x c) : CndsAt K H [x] [c] := ⟨x, [], rfl, h, rfl⟩
theorem zip3_len : ∀ {qs : List Addr} {xs ys : List V}, Zip3 K H qs xs ys → qs.length = xs.length ∧ xs.length = ys.length
  | [], [], [], _ => ⟨rfl, rfl⟩
  | _ :: qs, _ :: xs, _ :: ys, h => by obtain ⟨a, b⟩ := zip3_len h.2; simp [a, b]
  | [], _ :: _, _, h => h.elim
  | [], [], _ :: _, h => h.elim
  | _ :: _, [], _, h => h.elim
  | _ :: _, _ :: _, [], h => h.elim
theorem zip3_get : ∀ {qs : List Addr} {xs ys : List V} {i : Nat} {q : V}, Zip3 K H qs xs ys → (qs.map V.ref)[i]? = some q →
    ∃ p x y, q = .ref p ∧ xs[i]? = some x ∧ ys[i]? = some y ∧ SqT K H p [x, y]
  | [], [], [], i, q, h, e => by simp at e
  | q' :: qs, x' :: xs, y' :: ys, i, q, h, e => by
    cases i with
    | zero => simp at e; subst e; exact ⟨q', x', y', rfl, by simp, by simp, h.1⟩
    | succ i =>
      obtain ⟨p, x, y, e1, e2, e3, e4⟩ := zip3_get (i := i) h.2 (by simpa using e)
      exact ⟨p, x, y, e1, by simpa using e2, by simpa using e3, e4⟩
  | [], _ :: _, _, _, _, h, _ => h.elim
  | [], [], _ :: _, _, _, h, _ => h.elim
  | _ :: _, [], _, _, _, h, _ => h.elim
  | _ :: _, _ :: _, [], _, _, h, _ => h.elim
end
end Gx

set_option Elab.async false
set_option linter.all false
set_option maxRecDepth 100000
set_option maxHeartbeats 4000000
namespace Gx
open PySem PySem.Spec PyProof.Rows L2 Evl
/-! Conditions can be laid, shown, and are not too long to be shown. -/
/-- what data must keep so that it can be compared and shown -/
structure Fit (d : PyData) (n m : Nat) : Prop where
  lay : PyData.canLay0 d = true
  deep : d.depth ≤ n
  show_ : d.showable = true
  wide : wide d ≤ m
structure FitL (ds : List PyData) (n m : Nat) : Prop where
  lay : PyData.canLayAll0 ds = true
  deep : PyData.depthAll ds ≤ n
  show_ : PyData.showableAll ds = true
  wide : wide.wideAll ds ≤ m
theorem Fit.mono {d : PyData} {n m n' m' : Nat} (h : Fit d n m) (a : n ≤ n') (b : m ≤ m') : Fit d n' m' := ⟨h.lay, Nat.le_trans h.deep a, h.show_, Nat.le_trans h.wide b⟩
theorem FitL.mono {d : List PyData} {n m n' m' : Nat} (h : FitL d n m) (a : n ≤ n') (b : m ≤ m') : FitL d n' m' := ⟨h.lay, Nat.le_trans h.deep a, h.show_, Nat.le_trans h.wide b⟩
theorem fit_nil (n : Nat) : FitL [] n 0 := ⟨rfl, Nat.zero_le _, rfl, Nat.le_refl _⟩
theorem fit_cons {d : PyData} {ds : List PyData} {n m k : Nat} (h : Fit d n m) (t : FitL ds n k) : FitL (d :: ds) n (m + 2 + k) := by
  refine ⟨?_, ?_, ?_, ?_⟩
  · simp [PyData.canLayAll0, h.lay, t.lay]
  · simp only [PyData.depthAll]; have := h.deep; have := t.deep; omega
  · simp [PyData.showableAll, h.show_, t.show_]
  · simp only [wide.wideAll]; have := h.wide; have := t.wide; omega
theorem fit_tup {ds : List PyData} {n m : Nat} (t : FitL ds n m) : Fit (.tuple ds) (n + 1) (m + 3) := by
  refine ⟨?_, ?_, ?_, ?_⟩
  · simp [PyData.canLay0, t.lay]
  · simp only [PyData.depth]; have := t.deep; omega
  · simp [PyData.showable, t.show_]
  · simp only [Gx.wide]; have := t.wide; omega
theorem fit_lst {ds : List PyData} {n m : Nat} (t : FitL ds n m) : Fit (.list ds) (n + 1) (m + 2) := by
  refine ⟨?_, ?_, ?_, ?_⟩
  · simp [PyData.canLay0, t.lay]
  · simp only [PyData.depth]; have := t.deep; omega
  · simp [PyData.showable, t.show_]
  · simp only [Gx.wide]; have := t.wide; omega
theorem fit_int {i : Int} (h : Near i) : Fit (.int i) 0 1921 := by
  refine ⟨by simp [PyData.canLay0], by simp [PyData.depth], ?_, by simp [Gx.wide]⟩
  simp only [PyData.showable]
  have b := near_abs h
  refine decide_eq_true ?_
  by_cases h0 : i.natAbs = 0
  · rw [h0]; decide
  · have := (Nat.log2_lt h0 (k := 40)).mpr (by rw [show (2 : Nat) ^ 40 = 1099511627776 by decide]; exact b)
    omega
structure Nm (n : Str) : Prop where
  ok : PyData.strOk n = true
  short : (reprText n).length ≤ 100
theorem fit_str {x : Str} (h : Nm x) : Fit (.str x) 0 100 := ⟨by simp [PyData.canLay0, h.ok], by simp [PyData.depth], by simp [PyData.showable], by simp only [Gx.wide]; exact h.short⟩
theorem nm_plus : Nm "plus" := ⟨by decide +kernel, by decide +kernel⟩
theorem nm_times : Nm "times" := ⟨by decide +kernel, by decide +kernel⟩
theorem nm_into : Nm "into" := ⟨by decide +kernel, by decide +kernel⟩
theorem nm_over : Nm "over" := ⟨by decide +kernel, by decide +kernel⟩
theorem nm_found : Nm "found" := ⟨by decide +kernel, by decide +kernel⟩
theorem nm_always : Nm "always" := ⟨by decide +kernel, by decide +kernel⟩
theorem nm_empty : Nm "empty" := ⟨by decide +kernel, by decide +kernel⟩
theorem nm_number : Nm "number" := ⟨by decide +kernel, by decide +kernel⟩
theorem nm_asks : Nm "asks" := ⟨by decide +kernel, by decide +kernel⟩
theorem nm_not : Nm "not" := ⟨by decide +kernel, by decide +kernel⟩
theorem nm_case : Nm "case" := ⟨by decide +kernel, by decide +kernel⟩
theorem nm_sign {x : Str} (h : x ∈ sgns) : Nm x := by
  have : ∀ x ∈ sgns, PyData.strOk x = true ∧ (reprText x).length ≤ 100 := by decide +kernel
  exact ⟨(this x h).1, (this x h).2⟩
theorem nm_word {x : Str} (h : x ∈ words) : Nm x := by
  have : ∀ x ∈ words, PyData.strOk x = true ∧ (reprText x).length ≤ 100 := by decide +kernel
  exact ⟨(this x h).1, (this x h).2⟩
theorem nm_kind {x : Str} (h : x ∈ kinds) : Nm x := by
  have : ∀ x ∈ kinds, PyData.strOk x = true ∧ (reprText x).length ≤ 100 := by decide +kernel
  exact ⟨(this x h).1, (this x h).2⟩
theorem fit_pair {x y : PyData} {n m k : Nat} (h : Fit x n m) (h' : Fit y n k) : Fit (.tuple [x, y]) (n + 1) (m + k + 7) :=
  (fit_tup (fit_cons h (fit_cons h' (fit_nil n)))).mono (Nat.le_refl _) (by omega)
theorem fit_pairs : ∀ {ps : List (Int × Int)}, (∀ p ∈ ps, Near p.1 ∧ Near p.2) → FitL (ps.map pairD) 1 (3860 * ps.length)
  | [], _ => fit_nil 1
  | p :: ps, h => by
    have h1 := h p List.mem_cons_self
    have t := fit_pairs (ps := ps) fun q hq => h q (List.mem_cons_of_mem _ hq)
    rw [List.map_cons, List.length_cons]
    exact (fit_cons (fit_pair (fit_int h1.1) (fit_int h1.2)) t).mono (Nat.le_refl _) (by omega)
theorem fit_step {s : Stp} (h : s.ok) : Fit s.data 3 31100 := by
  cases s with
  | found ps =>
    obtain ⟨_, h2, h3⟩ := h
    have t := fit_tup (fit_pairs h2)
    exact (fit_pair (fit_str nm_found |>.mono (Nat.zero_le 2) (Nat.le_refl _)) t).mono (Nat.le_refl _) (by omega)
  | plus k => exact (fit_pair (fit_str nm_plus) (fit_int h)).mono (by omega) (by omega)
  | times k => exact (fit_pair (fit_str nm_times) (fit_int h.1)).mono (by omega) (by omega)
  | into k => exact (fit_pair (fit_str nm_into) (fit_int ⟨by have := h.1; omega, h.2⟩)).mono (by omega) (by omega)
  | over k => exact (fit_pair (fit_str nm_over) (fit_int h)).mono (by omega) (by omega)
theorem fit_steps : ∀ {ss : List Stp}, (∀ s ∈ ss, Stp.ok s) → FitL (ss.map Stp.data) 3 (31102 * ss.length)
  | [], _ => fit_nil 3
  | s :: ss, h => by
    have t := fit_steps (ss := ss) fun q hq => h q (List.mem_cons_of_mem _ hq)
    rw [List.map_cons, List.length_cons]
    exact (fit_cons (fit_step (h s List.mem_cons_self)) t).mono (Nat.le_refl _) (by omega)
theorem fit_leaf {ns : List Str} (hn : ∀ n ∈ ns, Nm n) {l : Leaf} (h : l.ok ns) : Fit l.data 6 200000 := by
  cases l with
  | always w => exact (fit_pair (fit_str nm_always) (fit_str (nm_word h))).mono (by omega) (by omega)
  | empty n => exact (fit_pair (fit_str nm_empty) (fit_str (hn n h))).mono (by omega) (by omega)
  | number n => exact (fit_pair (fit_str nm_number) (fit_str (hn n h))).mono (by omega) (by omega)
  | asks n ss sg k =>
    obtain ⟨h1, h2, h3, h4, h5⟩ := h
    have z : 0 ≤ 4 := Nat.zero_le 4
    have t := fit_tup (fit_steps h2)
    exact (fit_tup (fit_cons ((fit_str nm_asks).mono z (Nat.le_refl _)) (fit_cons ((fit_str (hn n h1)).mono z (Nat.le_refl _)) (fit_cons t
      (fit_cons ((fit_str (nm_sign h4)).mono z (Nat.le_refl _)) (fit_cons ((fit_int h5).mono z (Nat.le_refl _)) (fit_nil 4))))))).mono (by omega) (by omega)
theorem fit_pairL : ∀ {as bs : List PyData} {n m k : Nat}, FitL as n m → FitL bs n k → as.length = bs.length → FitL (pairL as bs) (n + 1) (m + k + 20 * as.length)
  | [], [], n, m, k, _, _, _ => (fit_nil _).mono (Nat.le_refl _) (Nat.zero_le _)
  | a :: as, b :: bs, n, m, k, h, h', hl => by
    have s1 := h.lay
    have s2 := h'.lay
    have d1 := h.deep
    have d2 := h'.deep
    have w1 := h.wide
    have w2 := h'.wide
    have v1 := h.show_
    have v2 := h'.show_
    simp only [PyData.canLayAll0, Bool.and_eq_true] at s1 s2
    simp only [PyData.depthAll, Nat.max_le] at d1 d2
    simp only [wide.wideAll] at w1 w2
    simp only [PyData.showableAll, Bool.and_eq_true] at v1 v2
    have t := fit_pairL (as := as) (bs := bs) ⟨s1.2, d1.2, v1.2, Nat.le_refl _⟩ ⟨s2.2, d2.2, v2.2, Nat.le_refl _⟩ (by simpa using hl)
    have p := fit_pair (⟨s1.1, d1.1, v1.1, Nat.le_refl _⟩ : Fit a n _) (⟨s2.1, d2.1, v2.1, Nat.le_refl _⟩ : Fit b n _)
    rw [pairL, List.length_cons]
    exact (fit_cons p t).mono (Nat.le_refl _) (by omega)
  | [], _ :: _, _, _, _, _, _, hl => by simp at hl
  | _ :: _, [], _, _, _, _, _, hl => by simp at hl
theorem weightL_len : ∀ cs : List Cnd, 20 * cs.length ≤ Cnd.weightL cs
  | [] => by simp [Cnd.weightL]
  | c :: cs => by have := weightL_len cs; rw [Cnd.weightL, List.length_cons]; omega
mutual
theorem fit_cnd {ns : List Str} (hn : ∀ n ∈ ns, Nm n) : ∀ (c : Cnd), c.ok ns → Fit c.data (3 * c.depth + 6) (c.weight)
  | .leaf l, h => by rw [Cnd.data, Cnd.weight]; exact (fit_leaf hn h).mono (by omega) (Nat.le_refl _)
  | .not c, h => by
    rw [Cnd.data, Cnd.weight, Cnd.depth]
    have t := fit_cnd hn c (by rw [Cnd.ok] at h; exact h)
    have e := fit_tup (fit_cons ((fit_str nm_not).mono (Nat.zero_le _) (Nat.le_refl _)) (fit_cons t (fit_nil _)))
    have e1 : wide (.str "not") ≤ 6 := by decide +kernel
    refine ⟨e.lay, Nat.le_trans e.deep (by omega), e.show_, ?_⟩
    simp only [Gx.wide, wide.wideAll] at e1 ⊢
    have := t.wide
    omega
  | .node k cs, h => by
    rw [Cnd.data, Cnd.weight, Cnd.depth]
    rw [Cnd.ok] at h
    have t := fit_cnds hn cs h.2
    have e := fit_tup (fit_cons ((fit_str (nm_kind h.1)).mono (Nat.zero_le _) (Nat.le_refl _)) (fit_cons (fit_tup t) (fit_nil _)))
    have e1 : wide (.str k) ≤ 7 := by
      have : ∀ k ∈ kinds, wide (.str k) ≤ 7 := by decide +kernel
      exact this k h.1
    refine ⟨e.lay, Nat.le_trans e.deep (by omega), e.show_, ?_⟩
    simp only [Gx.wide, wide.wideAll] at e1 ⊢
    have := t.wide
    omega
  | .case ws ts el, h => by
    rw [Cnd.data, Cnd.weight, Cnd.depth]
    rw [Cnd.ok] at h
    obtain ⟨h1, h2, h3, h4⟩ := h
    have t1 := fit_cnds hn ws h2
    have t2 := fit_cnds hn ts h3
    have t3 := fit_cnd hn el h4
    generalize hD : max (max (Cnd.depthL ws) (Cnd.depthL ts)) el.depth = D
    have q1 : Cnd.depthL ws ≤ D := by omega
    have q2 : Cnd.depthL ts ≤ D := by omega
    have q3 : el.depth ≤ D := by omega
    have l1 : (Cnd.dataL ws).length = ws.length := by rw [Cnd.dataL_map, List.length_map]
    have l2 : (Cnd.dataL ts).length = ts.length := by rw [Cnd.dataL_map, List.length_map]
    have p := fit_pairL (t1.mono (n' := 3 * D + 6) (by omega) (Nat.le_refl _)) (t2.mono (n' := 3 * D + 6) (by omega) (Nat.le_refl _)) (by rw [l1, l2, h1])
    have e := fit_tup (fit_cons ((fit_str nm_case).mono (Nat.zero_le _) (Nat.le_refl _)) (fit_cons (fit_tup p) (fit_cons (t3.mono (n' := 3 * D + 6 + 1 + 1) (by omega) (Nat.le_refl _)) (fit_nil _))))
    have e1 : wide (.str "case") ≤ 6 := by decide +kernel
    refine ⟨e.lay, Nat.le_trans e.deep (by omega), e.show_, ?_⟩
    have p1 := p.wide
    rw [l1] at p1
    have g3 := t3.wide
    have g4 := weightL_len ws
    have g5 := weightL_len ts
    simp only [Gx.wide, wide.wideAll] at e1 ⊢
    omega
theorem fit_cnds {ns : List Str} (hn : ∀ n ∈ ns, Nm n) : ∀ (cs : List Cnd), Cnd.okL ns cs → FitL (Cnd.dataL cs) (3 * Cnd.depthL cs + 6) (Cnd.weightL cs - 18 * cs.length)
  | [], _ => by rw [Cnd.dataL, Cnd.weightL]; exact (fit_nil _)
  | c :: cs, h => by
    rw [Cnd.okL] at h
    rw [Cnd.dataL, Cnd.depthL, Cnd.weightL]
    have t1 := fit_cnd hn c h.1
    have t2 := fit_cnds hn cs h.2
    exact (fit_cons (t1.mono (n' := 3 * max c.depth (Cnd.depthL cs) + 6) (by omega) (Nat.le_refl _)) (t2.mono (by omega) (Nat.le_refl _))).mono (Nat.le_refl _) (by have := weightL_len cs; rw [List.length_cons]; omega)
end
end Gx

set_option Elab.async false
set_option linter.all false
set_option maxRecDepth 100000
set_option maxHeartbeats 4000000
namespace Gx
open PySem PySem.Spec PyProof.Rows L2 Evl
/-! A list by pairs, as cases take it. -/
def ev {α : Type} : Nat → List α → List α
  | m + 1, a :: _ :: r => a :: ev m r
  | _, _ => []
def od {α : Type} : Nat → List α → List α
  | m + 1, _ :: b :: r => b :: od m r
  | _, _ => []
section
variable {K : PySem.W.Frag} {H : Hp}
theorem zip_ev : ∀ {m : Nat} {qs : List Addr} {xs : List V}, qs.length = m → 2 * m ≤ xs.length →
    (∀ i, i < m → ∃ q x y, qs[i]? = some q ∧ xs[2 * i]? = some x ∧ xs[2 * i + 1]? = some y ∧ SqT K H q [x, y]) → Zip3 K H qs (ev m xs) (od m xs)
  | 0, [], xs, _, _, _ => trivial
  | 0, _ :: _, _, h, _, _ => by simp at h
  | m + 1, [], _, h, _, _ => by simp at h
  | m + 1, q :: qs, [], _, h, _ => by simp at h
  | m + 1, q :: qs, [_], _, h, _ => by simp at h; omega
  | m + 1, q :: qs, a :: b :: r, h, h', f => by
    refine ⟨?_, zip_ev (m := m) (by simpa using h) (by simp at h'; omega) fun i hi => ?_⟩
    · obtain ⟨q', x, y, e1, e2, e3, e4⟩ := f 0 (Nat.zero_lt_succ _)
      simp at e1 e2 e3
      subst e1 e2 e3
      exact e4
    · obtain ⟨q', x, y, e1, e2, e3, e4⟩ := f (i + 1) (Nat.succ_lt_succ hi)
      refine ⟨q', x, y, by simpa using e1, ?_, ?_, e4⟩
      · rw [show 2 * (i + 1) = 2 * i + 1 + 1 by omega] at e2; simpa using e2
      · rw [show 2 * (i + 1) + 1 = 2 * i + 1 + 1 + 1 by omega] at e3; simpa using e3
theorem cnds_ev : ∀ {m : Nat} {xs : List V} {cs : List Cnd}, CndsAt K H xs cs → 2 * m ≤ cs.length → CndsAt K H (ev m xs) (ev m cs) ∧ CndsAt K H (od m xs) (od m cs)
  | 0, xs, cs, _, _ => by
    have e1 : ∀ {α : Type} (l : List α), ev 0 l = [] := fun l => by cases l <;> rfl
    have e2 : ∀ {α : Type} (l : List α), od 0 l = [] := fun l => by cases l <;> rfl
    rw [e1, e1, e2, e2]
    exact ⟨rfl, rfl⟩
  | m + 1, xs, [], _, h => by simp at h
  | m + 1, xs, [_], _, h => by simp at h; omega
  | m + 1, xs, c :: d :: cs, ⟨x, _, e1, h1, y, r, e2, h2, h3⟩, h => by
    subst e1 e2
    obtain ⟨q1, q2⟩ := cnds_ev (m := m) h3 (by simp at h; omega)
    exact ⟨⟨x, _, rfl, h1, q1⟩, ⟨y, _, rfl, h2, q2⟩⟩
end
theorem len_ev : ∀ {α : Type} {m : Nat} {l : List α}, 2 * m ≤ l.length → (ev m l).length = m ∧ (od m l).length = m
  | _, 0, l, _ => by cases l <;> exact ⟨rfl, rfl⟩
  | _, m + 1, [], h => by simp at h
  | _, m + 1, [_], h => by simp at h; omega
  | _, m + 1, a :: b :: r, h => by
    obtain ⟨q1, q2⟩ := len_ev (m := m) (l := r) (by simp at h; omega)
    simp [ev, od, q1, q2]
theorem mem_ev : ∀ {α : Type} {m : Nat} {l : List α} {x : α}, x ∈ ev m l ∨ x ∈ od m l → x ∈ l
  | _, 0, l, x, h => by cases l <;> simp [ev, od] at h
  | _, m + 1, [], x, h => by simp [ev, od] at h
  | _, m + 1, [_], x, h => by simp [ev, od] at h
  | _, m + 1, a :: b :: r, x, h => by
    simp only [ev, od, List.mem_cons] at h ⊢
    rcases h with (h | h) | (h | h)
    · exact .inl h
    · exact .inr (.inr (mem_ev (m := m) (.inl h)))
    · exact .inr (.inl h)
    · exact .inr (.inr (mem_ev (m := m) (.inr h)))
theorem okL_ev {ns : List Str} {cs : List Cnd} {m : Nat} (h : Cnd.okL ns cs) : Cnd.okL ns (ev m cs) ∧ Cnd.okL ns (od m cs) :=
  ⟨Cnd.okL_iff.mpr fun c hc => Cnd.okL_iff.mp h c (mem_ev (.inl hc)), Cnd.okL_iff.mpr fun c hc => Cnd.okL_iff.mp h c (mem_ev (.inr hc))⟩
theorem depthL_ev {n : Nat} {cs : List Cnd} {m : Nat} (h : Cnd.depthL cs ≤ n) : Cnd.depthL (ev m cs) ≤ n ∧ Cnd.depthL (od m cs) ≤ n :=
  ⟨Cnd.depthL_le.mpr fun c hc => Cnd.depthL_le.mp h c (mem_ev (.inl hc)), Cnd.depthL_le.mpr fun c hc => Cnd.depthL_le.mp h c (mem_ev (.inr hc))⟩
theorem weight_mem : ∀ {cs : List Cnd} {c : Cnd}, c ∈ cs → c.weight + 20 ≤ Cnd.weightL cs
  | a :: cs, c, h => by
    rw [Cnd.weightL]
    rcases List.mem_cons.mp h with rfl | h
    · omega
    · have := weight_mem h; omega
theorem weight_ev : ∀ {m : Nat} {cs : List Cnd} {c : Cnd} {i : Nat}, cs[i]? = some c → 2 * m ≤ i → Cnd.weightL (ev m cs) + Cnd.weightL (od m cs) + c.weight + 20 ≤ Cnd.weightL cs
  | 0, cs, c, i, h, _ => by
    have e1 : ∀ {α : Type} (l : List α), ev 0 l = [] := fun l => by cases l <;> rfl
    have e2 : ∀ {α : Type} (l : List α), od 0 l = [] := fun l => by cases l <;> rfl
    rw [e1, e2]
    have := weight_mem (List.mem_of_getElem? h)
    simp only [Cnd.weightL]
    omega
  | m + 1, [], c, i, h, _ => by simp at h
  | m + 1, [_], c, i, h, hi => by
    have := (List.getElem?_eq_some_iff.mp h).1
    simp at this
    omega
  | m + 1, a :: b :: r, c, i, h, hi => by
    obtain ⟨i, rfl⟩ : ∃ i', i = i' + 2 := ⟨i - 2, by omega⟩
    have := weight_ev (m := m) (cs := r) (c := c) (i := i) (by simpa using h) (by omega)
    simp only [ev, od, Cnd.weightL]
    omega
theorem atI_last {α : Type} {xs : List α} {n : Nat} (h : xs.length = n + 1) : atI xs (-1) = xs[n]? := by
  unfold atI ixN
  rw [if_neg (by decide), if_pos (by omega)]
  show xs[(-1 + (xs.length : Int)).toNat]? = _
  rw [show (-1 + (xs.length : Int)).toNat = n by omega]
end Gx

set_option Elab.async false
set_option linter.all false
set_option maxRecDepth 100000
set_option maxHeartbeats 4000000
namespace K40
open PySem PySem.Spec PyProof.Rows L2 Evl Gx
def topS (i : Nat) : Stmt := PySem.Challenge.pw_refusedahead_k40_seven_words.main.body.getD i (.Pass ⟨0, 0, 0, 0⟩)
abbrev s_l_bag : Stmt := topS 18
theorem sc_l_bag : FnScope ["_law_script", "_law_cell"] ["_law_script"] (defScope s_l_bag) := ⟨rfl, rfl, rfl, by decide +kernel, rfl, by decide +kernel, by decide +kernel⟩
abbrev s_l_take : Stmt := topS 19
theorem sc_l_take : FnScope ["_law_bag_here", "_law_many", "_law_cell", "_law_mixed_here", "_law_drawn", "_law_begin", "_law_second"] ["_law_bag_here", "_law_many"] (defScope s_l_take) := ⟨rfl, rfl, rfl, by decide +kernel, rfl, by decide +kernel, by decide +kernel⟩
section
variable {P : Program} {w : World} {K : PySem.W.Frag} {mg : Str → Option Value} {base : Heap}
theorem ok_bagI {f : Addr} {fd : FuncData} (D : Def K mg "_law_bag" s_l_bag f fd ["_law_script"]) (bi : Bi mg) :
    FnOk P w K mg base CX0 1 f fd ["_law_script"] (spBagI K) := by
  refine D.fn.ok sc_l_bag (fun vs H Q E h => ?_) (fun cdv A outer s H vs Q E hr h => ?_)
  · obtain ⟨a, ns, rfl, _⟩ := h
    rfl
  · obtain ⟨a, ns, rfl, hs, hl, k⟩ := h
    refine ⟨_, (pss_one (ps_ret (pe_lst (pa_cons pe_int (pa_cons pe_int (pa_cons pe_int (pa_cons (pe_lc (own := [("_law_cell", 1)]) rfl sc_l_bag.nd (pi_list (pe_slice sl_list (pv 0) po_none (po_some pe_int))) (blkOk_by (N := ["_law_script", "_law_cell"]) (sc := defScope s_l_bag) (by decide +kernel)) (fun _ _ _ _ _ => (pg_name (i := 1) sc_l_bag.nd rfl (Or.inl rfl))) (fun _ _ _ _ _ => pts_nil) (fun _ _ _ _ _ => (pe_callB call_abs (by rfl) bi.abs bt_abs (pa_cons (pv 1) pa_nil)))) pa_nil))))))), ?_⟩
    refine ⟨_, rfl, 63, rfl, a, ns.map V.int, rfl, hs, fun c hcn => ?_⟩
    have cut : cutV (ns.map V.int) none (some 63) = (ns.take 63).map V.int := by
      unfold cutV
      rw [show HT.sIx (ns.map V.int).length 0 none = 0 from rfl, List.drop_zero, Nat.sub_zero]
      have e : HT.sIx (ns.map V.int).length (ns.map V.int).length (some 63) = min 63 (ns.map V.int).length := rfl
      rw [e, List.map_take]
      by_cases q : 63 ≤ (ns.map V.int).length
      · rw [Nat.min_eq_left q]
      · rw [Nat.min_eq_right (by omega), List.take_length, List.take_of_length_le (by omega)]
    rw [cut]
    refine ⟨c, rfl, ⟨_, SqL.of upd_same⟩, fun d hd => ?_⟩
    refine lc_list (xs := (ns.take 63).map V.int) (fun i H' => H' c = some (.lst ((ns.take 63).map V.int)) ∧ Ex H H' ∧ H d = none ∧ d ≠ c ∧
      ∃ cs : List Int, H' d = some (.lst (cs.map V.int)) ∧ cs.length = i ∧ ∀ x ∈ cs, 0 ≤ x) ?_ (fun i H' _ p => SqL.of p.1) ?_ ?_
    · have ncd : d ≠ c := fun e => by subst e; rw [upd_same] at hd; cases hd
      have hd0 : H d = none := by rw [upd_ne ncd] at hd; exact hd
      refine ⟨by rw [upd_ne ncd.symm]; exact upd_same, ?_, hd0, ncd, [], upd_same, rfl, by simp⟩
      exact (Ex.new hcn).trans (Ex.new hd)
    · rintro i x H' hi ⟨p1, p2, p3, p4, cs, p5, p6, p7⟩
      obtain ⟨z, rfl⟩ : ∃ z, x = V.int z := by
        rw [List.getElem?_map] at hi
        obtain ⟨z, _, e⟩ := Option.map_eq_some_iff.mp hi
        exact ⟨z, e.symm⟩
      have hil : i < 63 := by
        have := (List.getElem?_eq_some_iff.mp hi).1
        rw [List.length_map, List.length_take] at this
        omega
      refine ⟨rfl, _, rfl, z, rfl, cs.map V.int, p5, by rw [List.length_map]; exact small1000 (by omega), ?_⟩
      refine ⟨by rw [upd_ne p4.symm]; exact p1, p2.mut p3, p3, p4, cs ++ [if z < 0 then -z else z], ?_, by simp [p6], ?_⟩
      · rw [upd_same, List.map_append]; rfl
      · intro y hy
        rcases List.mem_append.mp hy with q | q
        · exact p7 y q
        · rw [List.mem_singleton] at q; subst q; split <;> omega
    · rintro H' ⟨p1, p2, p3, p4, cs, p5, p6, p7⟩
      refine ⟨by show 4 ≤ sizeLine; decide, fun p hp => ?_⟩
      have ndp : d ≠ p := fun e => by subst e; rw [p5] at hp; cases hp
      exact k p d cs _ (ex_upd p2 hp) (fresh_back p2 hp) upd_same (by rw [upd_ne ndp]; exact p5) p7
theorem ok_takeI {f : Addr} {fd : FuncData} (D : Def K mg "_law_take" s_l_take f fd ["_law_bag_here", "_law_many"]) (bi : Bi mg) :
    FnOk P w K mg base CX0 1 f fd ["_law_bag_here", "_law_many"] spTakeI := by
  refine D.fn.ok sc_l_take (fun vs H Q E h => ?_) (fun cdv A outer s H vs Q E hr h => ?_)
  · obtain ⟨b, l, many, p, q, r, cs, rfl, _⟩ := h
    rfl
  · obtain ⟨b, l, many, p, q, r, cs, rfl, hb, hl, nbl, hc, z, m0, m1, k⟩ := h
    refine ⟨_, (Evl.pss_cut (ps_if (pt_cmpR op_eq (pe_ix ix_list (pv 0) pe_int (fun _ _ => rfl)) pe_int (nomark _))
    (pss_cons (ps_set (i := 2) sc_l_take.nd rfl (Or.inl rfl) pe_int)
    (Evl.pss_cut (ps_if (pt_cmpR op_lt (pe_ix ix_list (pv 0) pe_int (fun _ _ => rfl)) (pe_callB call_len_seq (by rfl) bi.len bt_len (pa_cons (pe_ix ix_list (pv 0) pe_int (fun _ _ => rfl)) pa_nil)) (nomark _))
      (pss_one (ps_set (i := 2) sc_l_take.nd rfl (Or.inl rfl) (pe_ix ix_list (pe_ix ix_list (pv 0) pe_int (fun _ _ => rfl)) (pe_ix ix_list (pv 0) pe_int (fun _ _ => rfl)) (fun _ _ => rfl))))
      pss_nil)
    (pss_cons (ps_augS (pv 0) pe_int get_list pe_int ip_add set_list)
    (Evl.pss_cut (ps_if (pt_cmpR op_ge (pv 2) (pe_op op_pow pe_int pe_int) (nomark _))
      (pss_one (ps_asg (pv 2) (pg_sub (pv 0) pe_int set_list)))
      pss_nil)
    (pss_cons (ps_set (i := 3) sc_l_take.nd rfl (Or.inl rfl) (pe_op op_add (pe_op op_add (pe_op op_mul (pe_ix ix_list (pv 0) pe_int (fun _ _ => rfl)) pe_int) (pe_op op_mod (pe_callTy call_int1 (by rfl) bi.int bt_int (pa_cons (pv 2) pa_nil)) pe_int)) (pe_op op_mul pe_int (pe_ix ix_list (pv 0) pe_int (fun _ _ => rfl)))))
    (pss_one (ps_asg (pe_op op_mod (pe_callTy call_int1 (by rfl) bi.int bt_int (pa_cons (pv 3) pa_nil)) pe_int) (pg_sub (pv 0) pe_int set_list))))))))
    pss_nil)
  (pss_cons (ps_if (pt_cmpR op_gt (pe_ix ix_list (pv 0) pe_int (fun _ _ => rfl)) pe_int (nomark _))
    (pss_cons (ps_set (i := 4) sc_l_take.nd rfl (Or.inl rfl) (pe_op op_mod (pe_callTy call_int1 (by rfl) bi.int bt_int (pa_cons (pe_ix ix_list (pv 0) pe_int (fun _ _ => rfl)) pa_nil)) (pv 1)))
    (pss_cons (ps_asg (pe_op op_fdiv (pe_ix ix_list (pv 0) pe_int (fun _ _ => rfl)) (pv 1)) (pg_sub (pv 0) pe_int set_list))
    (pss_one (ps_ret (pv 4)))))
    pss_nil)
  (pss_cons (ps_set (i := 5) sc_l_take.nd rfl (Or.inl rfl) (pe_op op_mod (pe_callTy call_int1 (by rfl) bi.int bt_int (pa_cons (pe_op op_mul (pe_op op_add (pe_ix ix_list (pv 0) pe_int (fun _ _ => rfl)) pe_int) pe_int) pa_nil)) pe_int))
  (pss_cons (ps_set (i := 6) sc_l_take.nd rfl (Or.inl rfl) (pe_op op_mod (pe_callTy call_int1 (by rfl) bi.int bt_int (pa_cons (pe_op op_mul (pe_op op_mod (pe_callTy call_int1 (by rfl) bi.int bt_int (pa_cons (pe_op op_mul (pv 5) (pv 5)) pa_nil)) pe_int) pe_int) pa_nil)) pe_int))
  (pss_one (ps_ret (pe_op op_mod (pe_callTy call_int1 (by rfl) bi.int bt_int (pa_cons (pe_op op_fdiv (pv 6) pe_int) pa_nil)) (pv 1)))))))), ?_⟩
    -- between the statements: the list holds some four
    refine ⟨fun σ H' => ∃ (p' q' r' : Int) (x5 x6 x7 x8 x9 : Option V), σ = [some (.ref b), some (.int many), x5, x6, x7, x8, x9] ∧
      (0 ≤ p' ∧ 0 ≤ q' ∧ q' < 2147483647 ∧ 0 ≤ r') ∧ H' = upd H b (.lst (bagL p' q' r' l)), ?_, ?_⟩
    · -- if _law_bag_here[0] == 0
      refine ⟨_, rfl, b, bagL p q r l, 0, .int p, rfl, rfl, SqL.of hb, rfl, rfl, _, rfl, ?_⟩
      refine if_d (fun _ => ?_) (fun _ => ⟨p, q, r, none, none, none, none, none, rfl, z, (upd_self hb).symm⟩)
      refine ⟨fun σ H' => ∃ c : Int, σ = [some (.ref b), some (.int many), some (.int c), none, none, none, none] ∧ 0 ≤ c ∧ H' = H, ?_, ?_⟩
      · refine ⟨_, rfl, b, bagL p q r l, 2, .int r, rfl, rfl, SqL.of hb, rfl, _, rfl, b, bagL p q r l, 3, .ref l, rfl, rfl, SqL.of hb, rfl,
          l, cs.map V.int, rfl, .inl (SqL.of hl), r, (cs.map V.int).length, rfl, rfl, _, rfl, ?_⟩
        refine if_d (fun hlt => ?_) (fun _ => ⟨0, rfl, by omega, rfl⟩)
        rw [List.length_map] at hlt
        obtain ⟨v, hv, hm⟩ := get_of (xs := cs) (i := r) z.2.2.2 hlt
        refine ⟨_, rfl, b, bagL p q r l, 3, .ref l, rfl, rfl, SqL.of hb, rfl, _, rfl, b, bagL p q r l, 2, .int r, rfl, rfl, SqL.of hb, rfl,
          l, cs.map V.int, r, .int v, rfl, rfl, SqL.of hl, atI_of z.2.2.2 (by rw [List.getElem?_map, hv]; rfl), v, rfl, hc v hm, rfl⟩
      · rintro σ H' ⟨c, rfl, hc0, eH⟩
        have eH := eH.symm; subst eH
        -- _law_bag_here[2] += 1
        refine ⟨_, rfl, b, bagL p q r l, 2, .int r, rfl, rfl, SqL.of hb, by decide, by decide, rfl, r, 1, rfl, rfl, b, bagL p q r l, 2, 2, rfl, rfl, hb, rfl, ?_⟩
        refine ⟨fun σ H' => ∃ p' : Int, σ = [some (.ref b), some (.int many), some (.int c), none, none, none, none] ∧ 0 ≤ p' ∧
          H' = upd H b (.lst (bagL p' q (r + 1) l)), ?_, ?_⟩
        · refine ⟨_, rfl, 10, 18, rfl, rfl, ⟨by decide, by decide, by decide⟩, c, _, rfl, rfl, _, rfl, ?_⟩
          refine if_d (fun _ => ?_) (fun _ => ⟨p, rfl, z.1, rfl⟩)
          refine ⟨_, rfl, _, rfl, b, bagL p q (r + 1) l, 0, 0, rfl, rfl, upd_same, rfl, c, rfl, hc0, ?_⟩
          rw [upd_upd]; rfl
        · rintro σ H' ⟨p', rfl, hp', rfl⟩
          refine ⟨_, rfl, b, bagL p' q (r + 1) l, 1, .int q, rfl, rfl, SqL.of upd_same, rfl, q, 48271, rfl, rfl, .inr ⟨by decide, by decide⟩, ?_⟩
          refine ⟨_, rfl, .inl ⟨c, rfl, c, 2147483647, rfl, rfl, (by show (0 : Int) < 2147483647; decide), q * 48271, c % 2147483647, rfl, rfl, ?_⟩⟩
          refine ⟨_, rfl, b, bagL p' q (r + 1) l, 2, .int (r + 1), rfl, rfl, SqL.of upd_same, rfl, 7919, r + 1, rfl, rfl, .inl ⟨by decide, by decide⟩, _, _, rfl, rfl, ?_⟩
          refine ⟨_, rfl, .inl ⟨_, rfl, _, 2147483647, rfl, rfl, (by show (0 : Int) < 2147483647; decide), ?_⟩⟩
          refine ⟨_, rfl, b, bagL p' q (r + 1) l, 1, 1, rfl, rfl, upd_same, rfl, ?_⟩
          refine ⟨p', (q * 48271 + c % 2147483647 + 7919 * (r + 1)) % 2147483647, r + 1, _, _, _, _, _, rfl, ⟨hp', Int.emod_nonneg _ (by decide), Int.emod_lt_of_pos _ (by decide), by omega⟩, ?_⟩
          rw [upd_upd]; rfl
    · rintro σ H' ⟨p', q', r', x5, x6, x7, x8, x9, rfl, z', eH⟩
      subst eH
      refine ⟨_, rfl, b, bagL p' q' r' l, 0, .int p', rfl, rfl, SqL.of upd_same, rfl, p', 0, rfl, rfl, _, rfl, ?_⟩
      refine if_d (fun hp => ?_) (fun _ => ?_)
      · -- a number is left of a great one
        refine ⟨_, rfl, b, bagL p' q' r' l, 0, .int p', rfl, rfl, SqL.of upd_same, rfl, .inl ⟨p', rfl, _, rfl, p', many, rfl, rfl, m0, ?_⟩⟩
        refine ⟨_, rfl, b, bagL p' q' r' l, 0, .int p', rfl, rfl, SqL.of upd_same, rfl, _, rfl, p', many, rfl, rfl, ⟨m0, m1⟩, ?_⟩
        refine ⟨_, rfl, b, bagL p' q' r' l, 0, 0, rfl, rfl, upd_same, rfl, ?_⟩
        refine ⟨_, rfl, ?_⟩
        rw [upd_upd]
        exact k (p' % many) (p' / many) q' r' (Int.emod_nonneg _ (by omega)) (Int.emod_lt_of_pos _ m0) ⟨Int.ediv_nonneg z'.1 (by omega), z'.2⟩
      · refine ⟨_, rfl, b, bagL p' q' r' l, 1, .int q', rfl, rfl, SqL.of upd_same, rfl, q', 1, rfl, rfl, _, 39373, rfl, rfl, .inr ⟨by decide, by decide⟩, ?_⟩
        refine .inl ⟨_, rfl, _, 1000000007, rfl, rfl, (by show (0 : Int) < 1000000007; decide), ?_⟩
        have g1 : 0 ≤ (q' + 1) * 39373 % 1000000007 := Int.emod_nonneg _ (by decide)
        have g2 : (q' + 1) * 39373 % 1000000007 < 1000000007 := Int.emod_lt_of_pos _ (by decide)
        refine ⟨_, rfl, _, rfl, _, _, rfl, rfl, .inl ⟨by omega, by omega⟩, ?_⟩
        refine .inl ⟨_, rfl, _, 998244353, rfl, rfl, (by show (0 : Int) < 998244353; decide), _, 30011, rfl, rfl, .inr ⟨by decide, by decide⟩, ?_⟩
        refine .inl ⟨_, rfl, _, 998244353, rfl, rfl, (by show (0 : Int) < 998244353; decide), ?_⟩
        refine ⟨_, rfl, _, 7, rfl, rfl, ⟨by decide, by decide⟩, ?_⟩
        refine .inl ⟨_, rfl, _, rfl, _, many, rfl, rfl, m0, ?_⟩
        exact k _ p' q' r' (Int.emod_nonneg _ (by omega)) (Int.emod_lt_of_pos _ m0) z'
end
end K40

/-! the seven words: an answer or none, and whether errors may come -/
set_option Elab.async false
set_option linter.all false
set_option maxRecDepth 100000
set_option maxHeartbeats 4000000
namespace Gx
open PySem PySem.Spec PyProof.Rows L2 Evl
abbrev Wrd := Option Str × Bool
def wV : Option Str → V
  | none => .non
  | some s => .str s
def vals3 : List Str := ["no", "unknown", "yes"]
def Wrd.ok (x : Wrd) : Prop := (x.1 = none ∧ x.2 = true) ∨ ∃ s ∈ vals3, x.1 = some s
def WrdAt (K : PySem.W.Frag) (H : Hp) (v : V) (x : Wrd) : Prop := ∃ a, v = .ref a ∧ SqT K H a [wV x.1, .bl x.2]
def Wrd.data (x : Wrd) : PyData := .tuple [match x.1 with | none => .none | some s => .str s, .bool x.2]
def WrdsAt (K : PySem.W.Frag) (H : Hp) : List V → List Wrd → Prop := Paired (WrdAt K H)
section
variable {K : PySem.W.Frag} {H H' : Hp}
theorem WrdAt.toI {v : V} {x : Wrd} (h : WrdAt K H v x) (e : ExI H H') : WrdAt K H' v x := by
  obtain ⟨a, h1, h2⟩ := h
  exact ⟨a, h1, e.sq h2⟩
theorem WrdAt.to {v : V} {x : Wrd} (h : WrdAt K H v x) (e : Ex H H') : WrdAt K H' v x := h.toI (.of e)
theorem wrds_toI {vs : List V} {xs : List Wrd} (h : WrdsAt K H vs xs) (e : ExI H H') : WrdsAt K H' vs xs := Paired.mapP h fun _ _ z => z.toI e
theorem WrdAt.dp {v : V} {x : Wrd} (h : WrdAt K H v x) : Dp K H v x.data := by
  obtain ⟨a, rfl, h2⟩ := h
  refine .tup h2 (.cons ?_ (.cons (.bl _) .nil))
  cases x.1 with
  | none => exact .non
  | some s => exact .str s
end
end Gx

set_option Elab.async false
set_option linter.all false
set_option maxRecDepth 100000
set_option maxHeartbeats 4000000
namespace Gx
open PySem PySem.Spec PyProof.Rows L2 Evl
/-! What conditions answer at a row, leaf by leaf, and what they answer when turned about. -/
def exch (w : Str) : Str := if w = "yes" then "no" else if w = "no" then "yes" else w
def agreesB (m : Int) (sg : Str) (k : Int) : Bool :=
  if m < k then decide (sg ∈ (["<", "<=", "<>"] : List Str)) else if m > k then decide (sg ∈ (["<>", ">", ">="] : List Str)) else decide (sg ∈ (["<=", "=", ">="] : List Str))
def numV : V → Str
  | .non => "unknown"
  | .int _ => "yes"
  | _ => "no"
def askV (ss : List Stp) (sg : Str) (k : Int) : V → Str
  | .non => "unknown"
  | .int i => match leadAll ss i with
    | some m => if agreesB m sg k = true then "yes" else "no"
    | none => "error"
  | _ => "error"
def leafAns (R : Str → V) : Leaf → Str
  | .always w => w
  | .empty n => if R n = .non then "yes" else "no"
  | .number n => numV (R n)
  | .asks n ss sg k => askV ss sg k (R n)
theorem askV_some {ss : List Stp} {sg : Str} {k i m : Int} (h : leadAll ss i = some m) : askV ss sg k (.int i) = (if agreesB m sg k = true then ("yes" : Str) else "no") := by
  show (match leadAll ss i with | some m => if agreesB m sg k = true then ("yes" : Str) else "no" | none => "error") = _
  rw [h]
theorem askV_none {ss : List Stp} {sg : Str} {k i : Int} (h : leadAll ss i = none) : askV ss sg k (.int i) = "error" := by
  show (match leadAll ss i with | some m => if agreesB m sg k = true then ("yes" : Str) else "no" | none => "error") = _
  rw [h]
abbrev Res := Str × List PyData
def allOf (dec : Str) : Str → List Res → Res
  | found, [] => (found, [])
  | found, r :: rs => if r.1 = "error" ∨ r.1 = dec then r else
      ((allOf dec (if r.1 = "unknown" then r.1 else found) rs).1, r.2 ++ (allOf dec (if r.1 = "unknown" then r.1 else found) rs).2)
def firstOf : List Res → Res
  | [] => ("unknown", [])
  | r :: rs => if r.1 = "unknown" then ((firstOf rs).1, r.2 ++ (firstOf rs).2) else r
def caseOf : List Res → List Res → Res → Res
  | r :: rs, t :: ts, e => if r.1 = "error" then r else if r.1 = "yes" then (t.1, r.2 ++ t.2) else ((caseOf rs ts e).1, r.2 ++ (caseOf rs ts e).2)
  | _, _, e => e
def nodeOf (k : Str) (rs : List Res) : Res := if k = "first" then firstOf rs else if k = "all" then allOf "no" "yes" rs else allOf "yes" "no" rs
def entry (adr : List Int) (w : Str) : PyData := .tuple [.tuple (adr.map PyData.int), .str w]
mutual
def run (R : Str → V) : List Int → Cnd → Res
  | adr, .leaf l => (leafAns R l, [entry adr (leafAns R l)])
  | adr, .not c => (exch (run R (adr ++ [0]) c).1, (run R (adr ++ [0]) c).2)
  | adr, .node k cs => nodeOf k (runL R adr 0 1 cs)
  | adr, .case ws ts e => caseOf (runL R adr 0 2 ws) (runL R adr 1 2 ts) (run R (adr ++ [2 * (ws.length : Int)]) e)
def runL (R : Str → V) : List Int → Int → Int → List Cnd → List Res
  | _, _, _, [] => []
  | adr, i, st, c :: cs => run R (adr ++ [i]) c :: runL R adr (i + st) st cs
end
def turnK (k : Str) : Str := if k = "first" then "first" else if k = "all" then "any" else "all"
def Leaf.turn : Leaf → Cnd
  | .always w => .leaf (.always (exch w))
  | l => .not (.leaf l)
mutual
def Cnd.turn : Cnd → Cnd
  | .leaf l => l.turn
  | .not c => c
  | .node k cs => .node (turnK k) (Cnd.turnL cs)
  | .case ws ts e => .case ws (Cnd.turnL ts) e.turn
def Cnd.turnL : List Cnd → List Cnd
  | [] => []
  | c :: cs => c.turn :: Cnd.turnL cs
end
theorem Cnd.turnL_map : ∀ cs : List Cnd, Cnd.turnL cs = cs.map Cnd.turn
  | [] => rfl
  | c :: cs => by rw [Cnd.turnL, Cnd.turnL_map cs]; rfl
/-! ### answers by another naming -/
structure Ren (f : Str → Str) : Prop where
  inj : ∀ x y, f x = f y → x = y
  err : f "error" = "error"
  unk : f "unknown" = "unknown"
structure Sim (f : Str → Str) (r r' : Res) : Prop where
  ans : r'.1 = f r.1
  len : r'.2.length = r.2.length
theorem exch_exch (w : Str) : exch (exch w) = w := by
  unfold exch
  by_cases h1 : w = "yes"
  · subst h1; decide +kernel
  · by_cases h2 : w = "no"
    · subst h2; decide +kernel
    · rw [if_neg h1, if_neg h2, if_neg h1, if_neg h2]
theorem ren_exch : Ren exch := ⟨fun x y h => by have := congrArg exch h; rwa [exch_exch, exch_exch] at this, by decide +kernel, by decide +kernel⟩
theorem ren_id : Ren id := ⟨fun _ _ h => h, rfl, rfl⟩
theorem Ren.iff {f : Str → Str} (F : Ren f) {x y : Str} : f x = f y ↔ x = y := ⟨F.inj x y, fun h => by rw [h]⟩
theorem Ren.erri {f : Str → Str} (F : Ren f) {x : Str} : f x = "error" ↔ x = "error" := by rw [← F.iff (x := x), F.err]
theorem Ren.unki {f : Str → Str} (F : Ren f) {x : Str} : f x = "unknown" ↔ x = "unknown" := by rw [← F.iff (x := x), F.unk]
inductive Sims (f : Str → Str) : List Res → List Res → Prop
  | nil : Sims f [] []
  | cons {r r' : Res} {rs rs' : List Res} : Sim f r r' → Sims f rs rs' → Sims f (r :: rs) (r' :: rs')
theorem allOf_sim {f : Str → Str} (F : Ren f) {dec : Str} {rs rs' : List Res} (h : Sims f rs rs') : ∀ found, Sim f (allOf dec found rs) (allOf (f dec) (f found) rs') := by
  induction h with
  | nil => intro found; exact ⟨rfl, rfl⟩
  | @cons r r' rs rs' h1 h2 ih =>
    intro found
    unfold allOf
    rw [h1.ans]
    by_cases c : r.1 = "error" ∨ r.1 = dec
    · rw [if_pos c, if_pos (c.imp F.erri.mpr F.iff.mpr)]
      exact ⟨h1.ans, h1.len⟩
    · rw [if_neg c, if_neg (show ¬ (f r.1 = "error" ∨ f r.1 = f dec) from fun e => c (e.imp F.erri.mp F.iff.mp))]
      have e : (if f r.1 = "unknown" then f r.1 else f found) = f (if r.1 = "unknown" then r.1 else found) := by
        by_cases u : r.1 = "unknown"
        · rw [if_pos u, if_pos (F.unki.mpr u)]
        · rw [if_neg u, if_neg (fun z => u (F.unki.mp z))]
      rw [e]
      have := ih (if r.1 = "unknown" then r.1 else found)
      exact ⟨this.ans, by simp only [List.length_append, h1.len, this.len]⟩
theorem firstOf_sim {f : Str → Str} (F : Ren f) {rs rs' : List Res} (h : Sims f rs rs') : Sim f (firstOf rs) (firstOf rs') := by
  induction h with
  | nil => exact ⟨F.unk.symm, rfl⟩
  | @cons r r' rs rs' h1 h2 ih =>
    unfold firstOf
    rw [h1.ans]
    by_cases c : r.1 = "unknown"
    · rw [if_pos c, if_pos (F.unki.mpr c)]
      exact ⟨ih.ans, by simp only [List.length_append, h1.len, ih.len]⟩
    · rw [if_neg c, if_neg (fun z => c (F.unki.mp z))]
      exact ⟨h1.ans, h1.len⟩
theorem caseOf_sim {f : Str → Str} {rs rs' : List Res} (h : Sims id rs rs') : ∀ {ts ts' : List Res} {e e' : Res}, Sims f ts ts' → Sim f e e' → (f "error" = "error") →
    Sim f (caseOf rs ts e) (caseOf rs' ts' e') := by
  induction h with
  | nil => intro ts ts' e e' _ he _; unfold caseOf; exact he
  | @cons r r' rs rs' h1 h2 ih =>
    intro ts ts' e e' ht he fe
    cases ht with
    | nil => exact he
    | @cons t t' ts ts' t1 t2 =>
      unfold caseOf
      have a : r'.1 = r.1 := h1.ans
      rw [a]
      by_cases c : r.1 = "error"
      · rw [if_pos c, if_pos c]; exact ⟨by rw [a, c, fe], h1.len⟩
      · rw [if_neg c, if_neg c]
        by_cases y : r.1 = "yes"
        · rw [if_pos y, if_pos y]; exact ⟨t1.ans, by simp only [List.length_append, h1.len, t1.len]⟩
        · rw [if_neg y, if_neg y]
          have := ih t2 he fe
          exact ⟨this.ans, by simp only [List.length_append, h1.len, this.len]⟩
mutual
theorem run_adr (R : Str → V) : ∀ (c : Cnd) (a a' : List Int), Sim id (run R a c) (run R a' c)
  | .leaf l, a, a' => by simp only [run]; exact ⟨rfl, rfl⟩
  | .not c, a, a' => by
    have := run_adr R c (a ++ [0]) (a' ++ [0])
    simp only [run]
    exact ⟨by show exch _ = exch _; rw [this.ans]; rfl, this.len⟩
  | .node k cs, a, a' => by
    have := runL_adr R cs a a' 0 0 1 1
    simp only [run]
    unfold nodeOf
    by_cases h1 : k = "first"
    · rw [if_pos h1, if_pos h1]; exact firstOf_sim ren_id this
    · rw [if_neg h1, if_neg h1]
      by_cases h2 : k = "all"
      · rw [if_pos h2, if_pos h2]; exact allOf_sim ren_id this _
      · rw [if_neg h2, if_neg h2]; exact allOf_sim ren_id this _
  | .case ws ts e, a, a' => by
    simp only [run]
    exact caseOf_sim (runL_adr R ws a a' 0 0 2 2) (runL_adr R ts a a' 1 1 2 2) (run_adr R e _ _) rfl
theorem runL_adr (R : Str → V) : ∀ (cs : List Cnd) (a a' : List Int) (i i' st st' : Int), Sims id (runL R a i st cs) (runL R a' i' st' cs)
  | [], _, _, _, _, _, _ => by simp only [runL]; exact .nil
  | c :: cs, a, a', i, i', st, st' => by simp only [runL]; exact .cons (run_adr R c _ _) (runL_adr R cs a a' _ _ _ _)
end
theorem leaf_turn (R : Str → V) (l : Leaf) (a : List Int) : Sim exch (run R a (.leaf l)) (run R a l.turn) := by
  cases l <;> (simp only [Leaf.turn, run, leafAns]; exact ⟨rfl, rfl⟩)
mutual
theorem run_turn (R : Str → V) : ∀ (c : Cnd) (a : List Int), Sim exch (run R a c) (run R a c.turn)
  | .leaf l, a => by rw [Cnd.turn]; exact leaf_turn R l a
  | .not c, a => by
    have := run_adr R c (a ++ [0]) a
    rw [Cnd.turn]
    have e : run R a (.not c) = (exch (run R (a ++ [0]) c).1, (run R (a ++ [0]) c).2) := by simp only [run]
    rw [e]
    exact ⟨by show (run R a c).1 = exch (exch _); rw [exch_exch, this.ans]; rfl, this.len⟩
  | .node k cs, a => by
    have := runL_turn R cs a 0 1
    rw [Cnd.turn]
    simp only [run]
    unfold nodeOf turnK
    by_cases h1 : k = "first"
    · rw [if_pos h1, if_pos h1, if_pos rfl]; exact firstOf_sim ren_exch this
    · rw [if_neg h1, if_neg h1]
      by_cases h2 : k = "all"
      · rw [if_pos h2, if_pos h2, if_neg (by decide +kernel), if_neg (by decide +kernel)]
        exact allOf_sim (dec := "no") ren_exch this "yes"
      · rw [if_neg h2, if_neg h2, if_neg (by decide +kernel), if_pos rfl]
        exact allOf_sim (dec := "yes") ren_exch this "no"
  | .case ws ts e, a => by
    rw [Cnd.turn]
    simp only [run]
    exact caseOf_sim (runL_adr R ws a a 0 0 2 2) (runL_turn R ts a 1 2) (run_turn R e _) (by decide +kernel)
theorem runL_turn (R : Str → V) : ∀ (cs : List Cnd) (a : List Int) (i st : Int), Sims exch (runL R a i st cs) (runL R a i st (Cnd.turnL cs))
  | [], _, _, _ => by rw [Cnd.turnL]; simp only [runL]; exact .nil
  | c :: cs, a, i, st => by rw [Cnd.turnL]; simp only [runL]; exact .cons (run_turn R c _) (runL_turn R cs a _ _)
end
theorem len_turnL (cs : List Cnd) : (Cnd.turnL cs).length = cs.length := by rw [Cnd.turnL_map, List.length_map]
/-! ### what is turned is a condition, little greater -/
theorem word_exch {w : Str} (h : w ∈ words) : exch w ∈ words := by
  have : ∀ w ∈ words, exch w ∈ words := by decide +kernel
  exact this w h
theorem kind_turn {k : Str} (h : k ∈ kinds) : turnK k ∈ kinds := by
  have : ∀ k ∈ kinds, turnK k ∈ kinds := by decide +kernel
  exact this k h
mutual
theorem ok_turn {ns : List Str} : ∀ (c : Cnd), c.ok ns → c.turn.ok ns
  | .leaf l, h => by
    rw [Cnd.turn]
    cases l with
    | always w => exact word_exch h
    | _ => exact h
  | .not c, h => by rw [Cnd.turn]; rw [Cnd.ok] at h; exact h
  | .node k cs, h => by rw [Cnd.turn, Cnd.ok]; rw [Cnd.ok] at h; exact ⟨kind_turn h.1, okL_turn cs h.2⟩
  | .case ws ts e, h => by rw [Cnd.turn, Cnd.ok]; rw [Cnd.ok] at h; exact ⟨by rw [len_turnL]; exact h.1, h.2.1, okL_turn ts h.2.2.1, ok_turn e h.2.2.2⟩
theorem okL_turn {ns : List Str} : ∀ (cs : List Cnd), Cnd.okL ns cs → Cnd.okL ns (Cnd.turnL cs)
  | [], h => by rw [Cnd.turnL]; exact h
  | c :: cs, h => by rw [Cnd.turnL, Cnd.okL]; rw [Cnd.okL] at h; exact ⟨ok_turn c h.1, okL_turn cs h.2⟩
end
mutual
theorem depth_turn : ∀ (c : Cnd), c.turn.depth ≤ c.depth + 1
  | .leaf l => by rw [Cnd.turn]; cases l <;> simp [Leaf.turn, Cnd.depth]
  | .not c => by rw [Cnd.turn, Cnd.depth]; omega
  | .node k cs => by rw [Cnd.turn, Cnd.depth, Cnd.depth]; have := depthL_turn cs; omega
  | .case ws ts e => by rw [Cnd.turn, Cnd.depth, Cnd.depth]; have := depthL_turn ts; have := depth_turn e; omega
theorem depthL_turn : ∀ (cs : List Cnd), Cnd.depthL (Cnd.turnL cs) ≤ Cnd.depthL cs + 1
  | [] => by rw [Cnd.turnL, Cnd.depthL]; omega
  | c :: cs => by rw [Cnd.turnL, Cnd.depthL, Cnd.depthL]; have := depth_turn c; have := depthL_turn cs; omega
end
mutual
theorem weight_turn : ∀ (c : Cnd), 5000 * c.turn.weight ≤ 5001 * c.weight
  | .leaf l => by rw [Cnd.turn]; cases l <;> simp [Leaf.turn, Cnd.weight]
  | .not c => by rw [Cnd.turn, Cnd.weight]; omega
  | .node k cs => by rw [Cnd.turn, Cnd.weight, Cnd.weight]; have := weightL_turn cs; omega
  | .case ws ts e => by rw [Cnd.turn, Cnd.weight, Cnd.weight]; have := weightL_turn ts; have := weight_turn e; omega
theorem weightL_turn : ∀ (cs : List Cnd), 5000 * Cnd.weightL (Cnd.turnL cs) ≤ 5001 * Cnd.weightL cs
  | [] => by rw [Cnd.turnL, Cnd.weightL]; omega
  | c :: cs => by rw [Cnd.turnL, Cnd.weightL, Cnd.weightL]; have := weight_turn c; have := weightL_turn cs; omega
end
end Gx

set_option Elab.async false
set_option linter.all false
set_option maxRecDepth 100000
set_option maxHeartbeats 4000000
namespace Gx
open PySem PySem.Spec PyProof.Rows L2 Evl
/-! Asking with a list that grows: what stands, what the list holds. -/
/-- all stands but what lies at one address -/
def ExB (tr : Addr) (H H' : Hp) : Prop := ∀ a o, a ≠ tr → H a = some o → H' a = some o
theorem ExB.of {tr : Addr} {H H' : Hp} (e : Ex H H') : ExB tr H H' := fun a o _ h => e a o h
theorem ExB.trans {tr : Addr} {H H1 H2 : Hp} (a : ExB tr H H1) (b : ExB tr H1 H2) : ExB tr H H2 := fun c o n h => b c o n (a c o n h)
theorem ExB.toI {tr : Addr} {H H' : Hp} {ts : List V} (h : H tr = some (.lst ts)) (e : ExB tr H H') : ExI H H' := fun a o q i => by
  refine e a o (fun z => ?_) q
  subst z
  rw [h] at q
  cases q
  cases i
theorem ExB.put {tr : Addr} {H : Hp} {o : HO} : ExB tr H (upd H tr o) := fun a u n h => by rw [upd_ne n]; exact h
/-- what the list holds: addresses with what was said there -/
def Ents (K : PySem.W.Frag) (H : Hp) : List V → List PyData → Prop
  | [], [] => True
  | v :: vs, d :: ds => (∃ (e ad : Addr) (adr : List Int) (w : Str), v = .ref e ∧ d = entry adr w ∧ SqT K H e [.ref ad, .str w] ∧ SqT K H ad (adr.map V.int)) ∧ Ents K H vs ds
  | _, _ => False
section
variable {K : PySem.W.Frag} {H H' : Hp}
theorem ents_toI (e : ExI H H') : ∀ {vs : List V} {ds : List PyData}, Ents K H vs ds → Ents K H' vs ds
  | [], [], _ => trivial
  | _ :: _, _ :: _, ⟨⟨a, ad, adr, w, h1, h2, h3, h4⟩, t⟩ => ⟨⟨a, ad, adr, w, h1, h2, e.sq h3, e.sq h4⟩, ents_toI e t⟩
  | [], _ :: _, h => h.elim
  | _ :: _, [], h => h.elim
theorem ents_app : ∀ {vs ws : List V} {ds es : List PyData}, Ents K H vs ds → Ents K H ws es → Ents K H (vs ++ ws) (ds ++ es)
  | [], ws, [], es, _, h => h
  | _ :: _, ws, _ :: _, es, ⟨a, t⟩, h => ⟨a, ents_app t h⟩
  | [], _, _ :: _, _, h, _ => h.elim
  | _ :: _, _, [], _, h, _ => h.elim
theorem ents_len : ∀ {vs : List V} {ds : List PyData}, Ents K H vs ds → vs.length = ds.length
  | [], [], _ => rfl
  | _ :: _, _ :: _, ⟨_, t⟩ => by simp [ents_len t]
  | [], _ :: _, h => h.elim
  | _ :: _, [], h => h.elim
end
/-! ### runs, part by part -/
theorem runL_get (R : Str → V) : ∀ (cs : List Cnd) (adr : List Int) (i st : Int) (j : Nat) (c : Cnd), cs[j]? = some c → (runL R adr i st cs)[j]? = some (run R (adr ++ [i + j * st]) c)
  | [], _, _, _, _, _, h => by simp at h
  | a :: cs, adr, i, st, 0, c, h => by
    simp at h; subst h
    simp [runL]
  | a :: cs, adr, i, st, j + 1, c, h => by
    rw [runL, List.getElem?_cons_succ, runL_get R cs adr (i + st) st j c (by simpa using h)]
    rw [show i + st + (j : Int) * st = i + ((j + 1 : Nat) : Int) * st by rw [Int.natCast_add, Int.add_mul]; omega]
theorem runL_len (R : Str → V) : ∀ (cs : List Cnd) (adr : List Int) (i st : Int), (runL R adr i st cs).length = cs.length
  | [], _, _, _ => by simp [runL]
  | a :: cs, adr, i, st => by simp [runL, runL_len R cs]
theorem allOf_step {dec found : Str} {r : Res} {rs : List Res} {i : Nat} (h : rs[i]? = some r) :
    allOf dec found (rs.drop i) = if r.1 = "error" ∨ r.1 = dec then r else
      ((allOf dec (if r.1 = "unknown" then r.1 else found) (rs.drop (i + 1))).1, r.2 ++ (allOf dec (if r.1 = "unknown" then r.1 else found) (rs.drop (i + 1))).2) := by
  have e : rs.drop i = r :: rs.drop (i + 1) := by
    obtain ⟨h1, h2⟩ := List.getElem?_eq_some_iff.mp h
    rw [← h2]; exact List.drop_eq_getElem_cons h1
  rw [e, allOf]
theorem firstOf_step {r : Res} {rs : List Res} {i : Nat} (h : rs[i]? = some r) :
    firstOf (rs.drop i) = if r.1 = "unknown" then ((firstOf (rs.drop (i + 1))).1, r.2 ++ (firstOf (rs.drop (i + 1))).2) else r := by
  have e : rs.drop i = r :: rs.drop (i + 1) := by
    obtain ⟨h1, h2⟩ := List.getElem?_eq_some_iff.mp h
    rw [← h2]; exact List.drop_eq_getElem_cons h1
  rw [e, firstOf]
theorem caseOf_step {r t e : Res} {rs ts : List Res} {i : Nat} (h : rs[i]? = some r) (h' : ts[i]? = some t) :
    caseOf (rs.drop i) (ts.drop i) e = if r.1 = "error" then r else if r.1 = "yes" then (t.1, r.2 ++ t.2) else
      ((caseOf (rs.drop (i + 1)) (ts.drop (i + 1)) e).1, r.2 ++ (caseOf (rs.drop (i + 1)) (ts.drop (i + 1)) e).2) := by
  have e1 : rs.drop i = r :: rs.drop (i + 1) := by
    obtain ⟨h1, h2⟩ := List.getElem?_eq_some_iff.mp h
    rw [← h2]; exact List.drop_eq_getElem_cons h1
  have e2 : ts.drop i = t :: ts.drop (i + 1) := by
    obtain ⟨h1, h2⟩ := List.getElem?_eq_some_iff.mp h'
    rw [← h2]; exact List.drop_eq_getElem_cons h1
  rw [e1, e2, caseOf]
/-! ### what is answered is one of four words -/
theorem word_ite {c : Prop} [Decidable c] {a b : Str} (h : a ∈ words) (h' : b ∈ words) : (if c then a else b) ∈ words := by split <;> assumption
theorem w_yes : ("yes" : Str) ∈ words := by decide +kernel
theorem w_no : ("no" : Str) ∈ words := by decide +kernel
theorem w_unk : ("unknown" : Str) ∈ words := by decide +kernel
theorem w_err : ("error" : Str) ∈ words := by decide +kernel
theorem numV_word (x : V) : numV x ∈ words := by
  unfold numV
  split
  · exact w_unk
  · exact w_yes
  · exact w_no
theorem askV_word (ss : List Stp) (sg : Str) (k : Int) (x : V) : askV ss sg k x ∈ words := by
  cases x with
  | non => exact w_unk
  | int i =>
    cases e : leadAll ss i with
    | some m => rw [askV_some e]; exact word_ite w_yes w_no
    | none => rw [askV_none e]; exact w_err
  | _ => exact w_err
theorem leaf_word {R : Str → V} {ns : List Str} {l : Leaf} (h : l.ok ns) : leafAns R l ∈ words := by
  cases l with
  | always w => exact h
  | empty n => exact word_ite w_yes w_no
  | number n => exact numV_word _
  | asks n ss sg k => exact askV_word _ _ _ _
theorem allOf_word {dec : Str} : ∀ {rs : List Res} {found : Str}, (∀ r ∈ rs, r.1 ∈ words) → found ∈ words → (allOf dec found rs).1 ∈ words
  | [], _, _, h => h
  | r :: rs, found, h, h' => by
    have h1 := h r List.mem_cons_self
    have ih := allOf_word (dec := dec) (rs := rs) (found := if r.1 = "unknown" then r.1 else found) (fun z hz => h z (List.mem_cons_of_mem _ hz)) (word_ite h1 h')
    unfold allOf
    by_cases c : r.1 = "error" ∨ r.1 = dec
    · rw [if_pos c]; exact h1
    · rw [if_neg c]; exact ih
theorem firstOf_word : ∀ {rs : List Res}, (∀ r ∈ rs, r.1 ∈ words) → (firstOf rs).1 ∈ words
  | [], _ => w_unk
  | r :: rs, h => by
    have h1 := h r List.mem_cons_self
    have ih := firstOf_word (rs := rs) fun z hz => h z (List.mem_cons_of_mem _ hz)
    unfold firstOf
    by_cases c : r.1 = "unknown"
    · rw [if_pos c]; exact ih
    · rw [if_neg c]; exact h1
theorem caseOf_word : ∀ {rs ts : List Res} {e : Res}, (∀ r ∈ rs, r.1 ∈ words) → (∀ r ∈ ts, r.1 ∈ words) → e.1 ∈ words → (caseOf rs ts e).1 ∈ words
  | [], _, e, _, _, h => by unfold caseOf; exact h
  | _ :: _, [], e, _, _, h => by unfold caseOf; exact h
  | r :: rs, t :: ts, e, h, h', he => by
    have h1 := h r List.mem_cons_self
    have h2 := h' t List.mem_cons_self
    have ih := caseOf_word (rs := rs) (ts := ts) (e := e) (fun z hz => h z (List.mem_cons_of_mem _ hz)) (fun z hz => h' z (List.mem_cons_of_mem _ hz)) he
    unfold caseOf
    by_cases c : r.1 = "error"
    · rw [if_pos c]; exact h1
    · rw [if_neg c]
      by_cases y : r.1 = "yes"
      · rw [if_pos y]; exact h2
      · rw [if_neg y]; exact ih
mutual
theorem run_word {R : Str → V} {ns : List Str} : ∀ (c : Cnd) (a : List Int), c.ok ns → (run R a c).1 ∈ words
  | .leaf l, a, h => by simp only [run]; exact leaf_word h
  | .not c, a, h => by
    rw [Cnd.ok] at h
    simp only [run]
    exact word_exch (run_word c _ h)
  | .node k cs, a, h => by
    rw [Cnd.ok] at h
    simp only [run]
    have := runL_word (R := R) cs a 0 1 h.2
    unfold nodeOf
    split
    · exact firstOf_word this
    · split
      · exact allOf_word this w_yes
      · exact allOf_word this w_no
  | .case ws ts e, a, h => by
    rw [Cnd.ok] at h
    simp only [run]
    exact caseOf_word (runL_word ws a 0 2 h.2.1) (runL_word ts a 1 2 h.2.2.1) (run_word e _ h.2.2.2)
theorem runL_word {R : Str → V} {ns : List Str} : ∀ (cs : List Cnd) (a : List Int) (i st : Int), Cnd.okL ns cs → ∀ r ∈ runL R a i st cs, r.1 ∈ words
  | [], a, i, st, _, r, h => by simp [runL] at h
  | c :: cs, a, i, st, h, r, hr => by
    rw [Cnd.okL] at h
    rw [runL] at hr
    rcases List.mem_cons.mp hr with rfl | hr
    · exact run_word c _ h.1
    · exact runL_word cs a _ _ h.2 r hr
end
/-! ### how many are asked -/
def lenL (rs : List Res) : Nat := (rs.map fun r => r.2.length).sum
theorem allOf_len {dec : Str} : ∀ {rs : List Res} {found : Str}, (allOf dec found rs).2.length ≤ lenL rs
  | [], _ => Nat.le_refl _
  | r :: rs, found => by
    have ih := allOf_len (dec := dec) (rs := rs) (found := if r.1 = "unknown" then r.1 else found)
    unfold allOf
    unfold lenL at ih ⊢
    rw [List.map_cons, List.sum_cons]
    by_cases c : r.1 = "error" ∨ r.1 = dec
    · rw [if_pos c]; omega
    · rw [if_neg c, List.length_append]; omega
theorem firstOf_len : ∀ {rs : List Res}, (firstOf rs).2.length ≤ lenL rs
  | [] => Nat.le_refl _
  | r :: rs => by
    have ih := firstOf_len (rs := rs)
    unfold firstOf
    unfold lenL at ih ⊢
    rw [List.map_cons, List.sum_cons]
    by_cases c : r.1 = "unknown"
    · rw [if_pos c, List.length_append]; omega
    · rw [if_neg c]; omega
theorem caseOf_len : ∀ {rs ts : List Res} {e : Res}, (caseOf rs ts e).2.length ≤ lenL rs + lenL ts + e.2.length
  | [], ts, e => by unfold caseOf; omega
  | _ :: _, [], e => by unfold caseOf; omega
  | r :: rs, t :: ts, e => by
    have ih := caseOf_len (rs := rs) (ts := ts) (e := e)
    unfold caseOf
    unfold lenL at ih ⊢
    rw [List.map_cons, List.sum_cons, List.map_cons, List.sum_cons]
    by_cases c : r.1 = "error"
    · rw [if_pos c]; omega
    · rw [if_neg c]
      by_cases y : r.1 = "yes"
      · rw [if_pos y, List.length_append]; omega
      · rw [if_neg y, List.length_append]; omega
mutual
theorem run_len (R : Str → V) : ∀ (c : Cnd) (a : List Int), (run R a c).2.length ≤ c.weight
  | .leaf l, a => by simp only [run, Cnd.weight]; show 1 ≤ 200000; decide
  | .not c, a => by
    have := run_len R c (a ++ [0])
    simp only [run, Cnd.weight]
    omega
  | .node k cs, a => by
    have := runL_lenL R cs a 0 1
    simp only [run, Cnd.weight]
    unfold nodeOf
    split
    · have := firstOf_len (rs := runL R a 0 1 cs); omega
    · split
      · have := allOf_len (dec := "no") (rs := runL R a 0 1 cs) (found := "yes"); omega
      · have := allOf_len (dec := "yes") (rs := runL R a 0 1 cs) (found := "no"); omega
  | .case ws ts e, a => by
    have h1 := runL_lenL R ws a 0 2
    have h2 := runL_lenL R ts a 1 2
    have h3 := run_len R e (a ++ [2 * (ws.length : Int)])
    have := caseOf_len (rs := runL R a 0 2 ws) (ts := runL R a 1 2 ts) (e := run R (a ++ [2 * (ws.length : Int)]) e)
    simp only [run, Cnd.weight]
    omega
theorem runL_lenL (R : Str → V) : ∀ (cs : List Cnd) (a : List Int) (i st : Int), lenL (runL R a i st cs) ≤ Cnd.weightL cs
  | [], a, i, st => by simp only [runL, Cnd.weightL]; exact Nat.le_refl _
  | c :: cs, a, i, st => by
    have h1 := run_len R c (a ++ [i])
    have h2 := runL_lenL R cs a (i + st) st
    rw [runL, Cnd.weightL]
    unfold lenL at h2 ⊢
    rw [List.map_cons, List.sum_cons]
    omega
end
theorem weightL_snoc : ∀ (cs : List Cnd) (c : Cnd), Cnd.weightL (cs ++ [c]) = Cnd.weightL cs + c.weight + 20
  | [], c => by simp [Cnd.weightL]
  | a :: cs, c => by simp only [List.cons_append, Cnd.weightL, weightL_snoc cs c]; omega
theorem weightL_take : ∀ (cs : List Cnd) (i : Nat), Cnd.weightL (cs.take i) ≤ Cnd.weightL cs
  | [], i => by simp
  | c :: cs, 0 => by simp [Cnd.weightL]
  | c :: cs, i + 1 => by simp only [List.take_succ_cons, Cnd.weightL]; have := weightL_take cs i; omega
theorem weightL_step {cs : List Cnd} {i : Nat} {c : Cnd} (h : cs[i]? = some c) : Cnd.weightL (cs.take (i + 1)) = Cnd.weightL (cs.take i) + c.weight + 20 ∧
    Cnd.weightL (cs.take i) + c.weight + 20 ≤ Cnd.weightL cs := by
  have e : Cnd.weightL (cs.take (i + 1)) = Cnd.weightL (cs.take i) + c.weight + 20 := by rw [takeS h, weightL_snoc]
  exact ⟨e, by rw [← e]; exact weightL_take _ _⟩
/-- an address, one step longer -/
theorem cat_adr {K : PySem.W.Frag} {H : Hp} {ad t : Addr} {adr : List Int} {i : Int} {Q : VK} (h1 : SqT K H ad (adr.map V.int)) (h2 : SqT K H t [.int i])
    (sz : adr.length ≤ 100000) (k : ∀ p H', Ex H H' → SqT K H' p ((adr ++ [i]).map V.int) → Q (.ref p) H') : rCatA K (.ref ad) (.ref t) H Q := by
  refine ⟨ad, t, _, _, rfl, rfl, h1, h2, ?_, fun h => ?_, fun _ h => (by cases h), fun _ _ p np => ?_⟩
  · rw [List.length_map]
    exact Nat.le_trans (show adr.length + 1 ≤ 100001 by omega) (by decide)
  · have : adr = [] := List.map_eq_nil_iff.mp h
    subst this
    exact k t H (Ex.refl H) h2
  · refine k p _ (Ex.new np) ?_
    rw [List.map_append]
    exact SqT.of upd_same
theorem inV2 (x a b : Str) : inV (.str x) [.str a, .str b] = true ↔ x = a ∨ x = b := by
  have e : inV (.str x) [.str a, .str b] = (a == x || b == x) := by simp [inV, eqV]
  rw [e, Bool.or_eq_true, beq_iff_eq, beq_iff_eq]
  exact ⟨fun h => h.imp Eq.symm Eq.symm, fun h => h.imp Eq.symm Eq.symm⟩
end Gx

set_option Elab.async false
set_option linter.all false
set_option maxRecDepth 100000
set_option maxHeartbeats 4000000
/-! What a condition answers by a plan: orders, every part asked or not, unknown taken for no or not. -/
namespace Gx
open PySem PySem.Spec PyProof.Rows L2 Evl
structure Md where
  ev : Bool
  lo : Bool
  ord : List Int → Option (List Nat)
def Md0 : Md := ⟨false, false, fun _ => none⟩
def Md.order (M : Md) (adr : List Int) (n : Nat) : List Nat := (M.ord adr).getD (List.range n)
def low (M : Md) (pl : Bool) (r : Res) : Res := (if (M.lo && pl && decide (r.1 = "unknown")) = true then "no" else r.1, r.2)
def decOf (k : Str) : Str := if k = "all" then "no" else "yes"
def endOf (dec : Str) (f : List Str) : Str := if dec ∈ f then dec else if ("unknown" : Str) ∈ f then "unknown" else exch dec
def goNode (dec : Str) (ev : Bool) : List Str → List Res → Res
  | f, [] => (endOf dec f, [])
  | f, r :: rs => if r.1 = "error" ∨ (r.1 = dec ∧ ev = false) then r else ((goNode dec ev (f ++ [r.1]) rs).1, r.2 ++ (goNode dec ev (f ++ [r.1]) rs).2)
def pick (rs : List Res) (o : List Nat) : List Res := o.filterMap fun i => rs[i]?
def nodeG (M : Md) (k : Str) (rs rs' : List Res) (o : List Nat) : Res := if k = "first" then firstOf rs' else goNode (decOf k) M.ev [] (pick rs o)
mutual
def rung (M : Md) (R : Str → V) : List Int → Bool → Cnd → Res
  | adr, pl, .leaf l => low M pl (leafAns R l, [entry adr (leafAns R l)])
  | adr, pl, .not c => low M pl (exch (rung M R (adr ++ [0]) false c).1, (rung M R (adr ++ [0]) false c).2)
  | adr, pl, .node k cs => low M pl (nodeG M k (rungL M R adr 0 1 pl cs) (rungL M R adr 0 1 false cs) (M.order adr cs.length))
  | adr, pl, .case ws ts e => low M pl (caseOf (rungL M R adr 0 2 true ws) (rungL M R adr 1 2 pl ts) (rung M R (adr ++ [2 * (ws.length : Int)]) pl e))
def rungL (M : Md) (R : Str → V) : List Int → Int → Int → Bool → List Cnd → List Res
  | _, _, _, _, [] => []
  | adr, i, st, pl, c :: cs => rung M R (adr ++ [i]) pl c :: rungL M R adr (i + st) st pl cs
end
theorem low0 (pl : Bool) (r : Res) : low Md0 pl r = r := by
  unfold low Md0
  rfl
theorem pick_range (rs : List Res) : pick rs (List.range rs.length) = rs := by
  unfold pick
  induction rs with
  | nil => rfl
  | cons r rs ih =>
    rw [List.length_cons, List.range_succ_eq_map, List.filterMap_cons, List.getElem?_cons_zero, List.filterMap_map]
    show r :: List.filterMap (fun i => (r :: rs)[i + 1]?) (List.range rs.length) = r :: rs
    simp only [List.getElem?_cons_succ]
    rw [ih]
theorem goNode_all {dec : Str} (hd : dec ≠ "unknown") : ∀ (rs : List Res) (f : List Str), dec ∉ f →
    goNode dec false f rs = allOf dec (if ("unknown" : Str) ∈ f then "unknown" else exch dec) rs
  | [], f, h => by
    unfold goNode allOf endOf
    rw [if_neg h]
  | r :: rs, f, h => by
    unfold goNode allOf
    by_cases e : r.1 = "error" ∨ r.1 = dec
    · rw [if_pos (e.imp id fun z => ⟨z, rfl⟩), if_pos e]
    · have e' : ¬ (r.1 = "error" ∨ (r.1 = dec ∧ false = false)) := fun z => e (z.imp id fun q => q.1)
      have h' : dec ∉ f ++ [r.1] := by
        rw [List.mem_append, List.mem_singleton]
        exact fun z => z.elim h fun q => e (.inr q.symm)
      rw [if_neg e', if_neg e, goNode_all hd rs _ h']
      have : (if ("unknown" : Str) ∈ f ++ [r.1] then ("unknown" : Str) else exch dec) = (if r.1 = "unknown" then r.1 else if ("unknown" : Str) ∈ f then "unknown" else exch dec) := by
        by_cases u : r.1 = "unknown"
        · rw [if_pos u, if_pos (by rw [u]; simp), u]
        · rw [if_neg u]
          by_cases v : ("unknown" : Str) ∈ f
          · rw [if_pos v, if_pos (List.mem_append_left _ v)]
          · rw [if_neg v, if_neg]
            rw [List.mem_append, List.mem_singleton]
            exact fun z => z.elim v fun q => u q.symm
      rw [this]
theorem ex_no : exch "no" = "yes" := by decide +kernel
theorem ex_yes : exch "yes" = "no" := by decide +kernel
theorem no_unk : ("no" : Str) ≠ "unknown" := by decide +kernel
theorem yes_unk : ("yes" : Str) ≠ "unknown" := by decide +kernel
theorem yes_all : ¬ ("yes" : Str) = "all" := by decide +kernel
mutual
theorem rung_plain (R : Str → V) : ∀ (c : Cnd) (adr : List Int) (pl : Bool), rung Md0 R adr pl c = run R adr c
  | .leaf l, adr, pl => by rw [rung, run, low0]
  | .not c, adr, pl => by rw [rung, run, low0, rung_plain R c]
  | .node k cs, adr, pl => by
    rw [rung, run, low0, rungL_plain R cs, rungL_plain R cs]
    unfold nodeG nodeOf
    have e : Md0.order adr cs.length = List.range (runL R adr 0 1 cs).length := by rw [runL_len]; rfl
    rw [e, pick_range]
    by_cases h : k = "first"
    · rw [if_pos h, if_pos h]
    · rw [if_neg h, if_neg h]
      unfold decOf
      by_cases h2 : k = "all"
      · rw [if_pos h2, if_pos h2]
        show goNode "no" false [] _ = _
        rw [goNode_all no_unk _ _ List.not_mem_nil, if_neg List.not_mem_nil, ex_no]
      · rw [if_neg h2, if_neg h2]
        show goNode "yes" false [] _ = _
        rw [goNode_all yes_unk _ _ List.not_mem_nil, if_neg List.not_mem_nil, ex_yes]
  | .case ws ts e, adr, pl => by rw [rung, run, low0, rungL_plain R ws, rungL_plain R ts, rung_plain R e]
theorem rungL_plain (R : Str → V) : ∀ (cs : List Cnd) (adr : List Int) (i st : Int) (pl : Bool), rungL Md0 R adr i st pl cs = runL R adr i st cs
  | [], _, _, _, _ => by rw [rungL, runL]
  | c :: cs, adr, i, st, pl => by rw [rungL, runL, rung_plain R c, rungL_plain R cs]
end
theorem rungL_get (M : Md) (R : Str → V) : ∀ (cs : List Cnd) (adr : List Int) (i st : Int) (pl : Bool) (j : Nat) (c : Cnd), cs[j]? = some c →
    (rungL M R adr i st pl cs)[j]? = some (rung M R (adr ++ [i + j * st]) pl c)
  | [], _, _, _, _, _, _, h => by simp at h
  | a :: cs, adr, i, st, pl, 0, c, h => by
    simp at h; subst h
    simp [rungL]
  | a :: cs, adr, i, st, pl, j + 1, c, h => by
    rw [rungL, List.getElem?_cons_succ, rungL_get M R cs adr (i + st) st pl j c (by simpa using h)]
    rw [show i + st + (j : Int) * st = i + ((j + 1 : Nat) : Int) * st by rw [Int.natCast_add, Int.add_mul]; omega]
theorem rungL_len (M : Md) (R : Str → V) : ∀ (cs : List Cnd) (adr : List Int) (i st : Int) (pl : Bool), (rungL M R adr i st pl cs).length = cs.length
  | [], _, _, _, _ => by simp [rungL]
  | a :: cs, adr, i, st, pl => by simp [rungL, rungL_len M R cs]
/-- the orders of a plan are of parts that there are -/
def OrdAt (M : Md) (adr : List Int) (n : Nat) : Prop := ∀ o, M.ord adr = some o → (∀ i ∈ o, i < n) ∧ o.Nodup
mutual
def OrdOk (M : Md) : List Int → Cnd → Prop
  | _, .leaf _ => True
  | adr, .not c => OrdOk M (adr ++ [0]) c
  | adr, .node _ cs => OrdAt M adr cs.length ∧ OrdOkL M adr 0 1 cs
  | adr, .case ws ts e => OrdOkL M adr 0 2 ws ∧ OrdOkL M adr 1 2 ts ∧ OrdOk M (adr ++ [2 * (ws.length : Int)]) e
def OrdOkL (M : Md) : List Int → Int → Int → List Cnd → Prop
  | _, _, _, [] => True
  | adr, i, st, c :: cs => OrdOk M (adr ++ [i]) c ∧ OrdOkL M adr (i + st) st cs
end
theorem ordL_get {M : Md} : ∀ {cs : List Cnd} {adr : List Int} {i st : Int} {j : Nat} {c : Cnd}, OrdOkL M adr i st cs → cs[j]? = some c → OrdOk M (adr ++ [i + j * st]) c
  | [], _, _, _, _, _, _, h => by simp at h
  | a :: cs, adr, i, st, 0, c, ⟨h1, _⟩, h => by
    simp at h; subst h
    simpa using h1
  | a :: cs, adr, i, st, j + 1, c, ⟨_, h2⟩, h => by
    have := ordL_get h2 (j := j) (by simpa using h)
    rwa [show i + st + (j : Int) * st = i + ((j + 1 : Nat) : Int) * st by rw [Int.natCast_add, Int.add_mul]; omega] at this
mutual
theorem ord0 : ∀ (c : Cnd) (adr : List Int), OrdOk Md0 adr c
  | .leaf _, _ => by rw [OrdOk]; trivial
  | .not c, adr => by rw [OrdOk]; exact ord0 c _
  | .node _ cs, adr => by rw [OrdOk]; exact ⟨fun o h => (nomatch h), ordL0 cs _ _ _⟩
  | .case ws ts e, adr => by rw [OrdOk]; exact ⟨ordL0 ws _ _ _, ordL0 ts _ _ _, ord0 e _⟩
theorem ordL0 : ∀ (cs : List Cnd) (adr : List Int) (i st : Int), OrdOkL Md0 adr i st cs
  | [], _, _, _ => by rw [OrdOkL]; trivial
  | c :: cs, adr, i, st => by rw [OrdOkL]; exact ⟨ord0 c _, ordL0 cs _ _ _⟩
end
theorem goNode_step {dec : Str} {ev : Bool} {f : List Str} {r : Res} {rs : List Res} {i : Nat} (h : rs[i]? = some r) :
    goNode dec ev f (rs.drop i) = if r.1 = "error" ∨ (r.1 = dec ∧ ev = false) then r else
      ((goNode dec ev (f ++ [r.1]) (rs.drop (i + 1))).1, r.2 ++ (goNode dec ev (f ++ [r.1]) (rs.drop (i + 1))).2) := by
  have e : rs.drop i = r :: rs.drop (i + 1) := by
    obtain ⟨h1, h2⟩ := List.getElem?_eq_some_iff.mp h
    rw [← h2]; exact List.drop_eq_getElem_cons h1
  rw [e, goNode]
theorem pick_all : ∀ {o : List Nat} {rs : List Res}, (∀ i ∈ o, i < rs.length) → (pick rs o).length = o.length ∧ ∀ (j i : Nat), o[j]? = some i → (pick rs o)[j]? = rs[i]?
  | [], rs, _ => ⟨rfl, fun j i h => by simp at h⟩
  | a :: o, rs, h => by
    have ha : a < rs.length := h a List.mem_cons_self
    have e : rs[a]? = some rs[a] := List.getElem?_eq_getElem ha
    obtain ⟨l, g⟩ := pick_all (o := o) (rs := rs) fun i hi => h i (List.mem_cons_of_mem _ hi)
    have p : pick rs (a :: o) = rs[a] :: pick rs o := by
      unfold pick
      rw [List.filterMap_cons, e]
    rw [p]
    refine ⟨by rw [List.length_cons, List.length_cons, l], fun j i hj => ?_⟩
    cases j with
    | zero => simp at hj; subst hj; rw [e]; rfl
    | succ j => rw [List.getElem?_cons_succ]; exact g j i (by simpa using hj)
/-! ### words and lengths -/
theorem low_word {M : Md} {pl : Bool} {r : Res} (h : r.1 ∈ words) : (low M pl r).1 ∈ words := by
  unfold low
  exact word_ite w_no h
theorem goNode_word {dec : Str} {ev : Bool} (hd : dec ∈ words) : ∀ {rs : List Res} {f : List Str}, (∀ r ∈ rs, r.1 ∈ words) → (goNode dec ev f rs).1 ∈ words
  | [], f, _ => by
    unfold goNode endOf
    exact word_ite hd (word_ite w_unk (word_exch hd))
  | r :: rs, f, h => by
    unfold goNode
    split
    · exact h r List.mem_cons_self
    · exact goNode_word hd fun q hq => h q (List.mem_cons_of_mem _ hq)
theorem mem_pick {rs : List Res} {o : List Nat} {r : Res} (h : r ∈ pick rs o) : r ∈ rs := by
  unfold pick at h
  obtain ⟨i, _, e⟩ := List.mem_filterMap.mp h
  exact List.mem_of_getElem? e
theorem dec_word (k : Str) : decOf k ∈ words := word_ite w_no w_yes
mutual
theorem rung_word {M : Md} {R : Str → V} {ns : List Str} : ∀ (c : Cnd) (a : List Int) (pl : Bool), c.ok ns → (rung M R a pl c).1 ∈ words
  | .leaf l, a, pl, h => by
    rw [rung]
    exact low_word (leaf_word (by rw [Cnd.ok] at h; exact h))
  | .not c, a, pl, h => by
    rw [rung]
    exact low_word (word_exch (rung_word c _ _ (by rw [Cnd.ok] at h; exact h)))
  | .node k cs, a, pl, h => by
    rw [Cnd.ok] at h
    rw [rung]
    refine low_word ?_
    unfold nodeG
    split
    · exact firstOf_word (rungL_word cs _ _ _ _ h.2)
    · exact goNode_word (dec_word k) fun r hr => rungL_word cs _ _ _ _ h.2 r (mem_pick hr)
  | .case ws ts e, a, pl, h => by
    rw [Cnd.ok] at h
    rw [rung]
    exact low_word (caseOf_word (rungL_word ws _ _ _ _ h.2.1) (rungL_word ts _ _ _ _ h.2.2.1) (rung_word e _ _ h.2.2.2))
theorem rungL_word {M : Md} {R : Str → V} {ns : List Str} : ∀ (cs : List Cnd) (a : List Int) (i st : Int) (pl : Bool), Cnd.okL ns cs → ∀ r ∈ rungL M R a i st pl cs, r.1 ∈ words
  | [], _, _, _, _, _, r, hr => by rw [rungL] at hr; cases hr
  | c :: cs, a, i, st, pl, h, r, hr => by
    rw [Cnd.okL] at h
    rw [rungL] at hr
    rcases List.mem_cons.mp hr with rfl | hr
    · exact rung_word c _ _ h.1
    · exact rungL_word cs _ _ _ _ h.2 r hr
end
/-- an address, one step longer: a tuple of its own -/
theorem cat_tup {K : PySem.W.Frag} {H : Hp} {ad t : Addr} {adr : List Int} {i : Int} {Q : VK} (h1 : H ad = some (.tup (adr.map V.int))) (h2 : H t = some (.tup [.int i]))
    (sz : adr.length ≤ 100000) (k : ∀ p H', Ex H H' → H' p = some (.tup ((adr ++ [i]).map V.int)) → Q (.ref p) H') : rCatA K (.ref ad) (.ref t) H Q := by
  refine ⟨ad, t, _, _, rfl, rfl, SqT.of h1, SqT.of h2, ?_, fun h => ?_, fun _ h => (by cases h), fun _ _ p np => ?_⟩
  · rw [List.length_map]
    exact Nat.le_trans (show adr.length + 1 ≤ 100001 by omega) (by decide)
  · have : adr = [] := List.map_eq_nil_iff.mp h
    subst this
    exact k t H (Ex.refl H) h2
  · refine k p _ (Ex.new np) ?_
    rw [List.map_append]
    exact upd_same
end Gx

set_option Elab.async false
set_option linter.all false
set_option maxRecDepth 100000
set_option maxHeartbeats 4000000
/-! Own classes: what the head tells of a method, of a class. -/
namespace Gx
open PySem PySem.Spec PyProof.Rows L2 Evl
structure MDef (K : PySem.W.Frag) (C : Addr) (m qual : Str) (st : Stmt) (f : Addr) (fd : FuncData) (ps : List Str) : Prop where
  fn : Fun K m qual st f fd
  mt : Meth K C m f
  bd : Binds K fd ps []
theorem mdef_mk {K : PySem.W.Frag} {C : Addr} {m qual : Str} {st : Stmt} {f : Addr} {ps : List Str}
    (a : PySem.W.findIn K (.ref C) m = some (some (.ref f))) (i : PySem.W.isFn K (.ref f) = true) (d : IsDef K m qual st f)
    (hb : ∀ (kV doc pm : Value) (an : Option Addr) (cdv ct : Value) (us : List Value), us.length = ps.length →
      bindArgs (PySem.W.fnOf m qual (defArgs st) (defBody st) (defScope st) .none kV doc pm an cdv ct) ⟨us, []⟩ = pure (ps.zip us)) :
    ∃ fd, MDef K C m qual st f fd ps := by
  have kp : PySem.W.keepIn K (.ref f) = true := by obtain ⟨_, _, _, _, _, _, _, _, _, _, _, k⟩ := d; exact k
  obtain ⟨fd, F⟩ := d.fn
  exact ⟨fd, F, ⟨a, i, kp⟩, F.binds hb⟩
/-! ### the one who asks: its fields -/
structure AskerT (K : PySem.W.Frag) (mg : Str → Option Value) (C fI : Addr) : Prop where
  cl : Cls K C
  mak : Mk K C fI
  gC : mg "Asker" = some (.ref C)
  row : NoAttr K C "row"
  plan : NoAttr K C "plan"
  every : NoAttr K C "every"
  lowers : NoAttr K C "lowers"
  trail : NoAttr K C "trail"
def askF (r d : Addr) (ev lo : Bool) (tr : Addr) : List (Str × V) := [("row", .ref r), ("plan", .ref d), ("every", .bl ev), ("lowers", .bl lo), ("trail", .ref tr)]
section
variable {r d tr : Addr} {ev lo : Bool}
theorem ask_row : (askF r d ev lo tr).lookup ("row" : Str) = some (.ref r) := by unfold askF; simp [List.lookup]
theorem ask_plan : (askF r d ev lo tr).lookup ("plan" : Str) = some (.ref d) := by
  unfold askF
  have e1 : (("plan" : Str) == "row") = false := by decide +kernel
  have e2 : (("plan" : Str) == "plan") = true := by decide +kernel
  simp only [List.lookup, e1, e2]
theorem ask_every : (askF r d ev lo tr).lookup ("every" : Str) = some (.bl ev) := by
  unfold askF
  have e1 : (("every" : Str) == "row") = false := by decide +kernel
  have e2 : (("every" : Str) == "plan") = false := by decide +kernel
  have e3 : (("every" : Str) == "every") = true := by decide +kernel
  simp only [List.lookup, e1, e2, e3]
theorem ask_lowers : (askF r d ev lo tr).lookup ("lowers" : Str) = some (.bl lo) := by
  unfold askF
  have e1 : (("lowers" : Str) == "row") = false := by decide +kernel
  have e2 : (("lowers" : Str) == "plan") = false := by decide +kernel
  have e3 : (("lowers" : Str) == "every") = false := by decide +kernel
  have e4 : (("lowers" : Str) == "lowers") = true := by decide +kernel
  simp only [List.lookup, e1, e2, e3, e4]
theorem ask_trail : (askF r d ev lo tr).lookup ("trail" : Str) = some (.ref tr) := by
  unfold askF
  have e1 : (("trail" : Str) == "row") = false := by decide +kernel
  have e2 : (("trail" : Str) == "plan") = false := by decide +kernel
  have e3 : (("trail" : Str) == "every") = false := by decide +kernel
  have e4 : (("trail" : Str) == "lowers") = false := by decide +kernel
  have e5 : (("trail" : Str) == "trail") = true := by decide +kernel
  simp only [List.lookup, e1, e2, e3, e4, e5]
def askNames : List Str := ["row", "plan", "every", "lowers", "trail"]
theorem ask_no {m : Str} (h : m ∉ askNames) : (askF r d ev lo tr).lookup m = none := by
  unfold askNames at h
  simp only [List.mem_cons, List.not_mem_nil, or_false, not_or] at h
  obtain ⟨h1, h2, h3, h4, h5⟩ := h
  have e : ∀ {x y : Str}, x ≠ y → (x == y) = false := fun h => beq_false_of_ne h
  unfold askF
  simp only [List.lookup, e h1, e h2, e h3, e h4, e h5]
theorem ask_puts (x1 x2 x3 x4 x5 : V) : putF "trail" x5 (putF "lowers" x4 (putF "every" x3 (putF "plan" x2 (putF "row" x1 [])))) =
    [(("row" : Str), x1), ("plan", x2), ("every", x3), ("lowers", x4), ("trail", x5)] := by
  have e1 : ¬ ("row" : Str) = "plan" := by decide +kernel
  have e2 : ¬ ("row" : Str) = "every" := by decide +kernel
  have e3 : ¬ ("row" : Str) = "lowers" := by decide +kernel
  have e4 : ¬ ("row" : Str) = "trail" := by decide +kernel
  have e5 : ¬ ("plan" : Str) = "every" := by decide +kernel
  have e6 : ¬ ("plan" : Str) = "lowers" := by decide +kernel
  have e7 : ¬ ("plan" : Str) = "trail" := by decide +kernel
  have e8 : ¬ ("every" : Str) = "lowers" := by decide +kernel
  have e9 : ¬ ("every" : Str) = "trail" := by decide +kernel
  have e0 : ¬ ("lowers" : Str) = "trail" := by decide +kernel
  simp only [putF, e1, e2, e3, e4, e5, e6, e7, e8, e9, e0, if_false]
end
theorem putF_le {f : Str} {v : V} {fs : List (Str × V)} {n : Nat} (h : fs.length ≤ n) : (putF f v fs).length ≤ n + 1 :=
  Nat.le_trans (length_putF _ _ _) (Nat.succ_le_succ h)
theorem lt1000 {n m : Nat} (h : n ≤ m) (h2 : m ≤ 50) : n < 1000 := by omega
/-- a plan's dict: the orders of addresses -/
def PlanAt (H : Hp) (d : Addr) (M : Md) (tr : Addr) : Prop := ∃ kvs : List (List Key × V), H d = some (.dT kvs) ∧
  ∀ adr : List Int, match M.ord adr with
    | none => valV kvs (adr.map Sum.inl) = none
    | some o => ∃ p : Addr, valV kvs (adr.map Sum.inl) = some (.ref p) ∧ H p = some (.lst (o.map fun i : Nat => V.int i)) ∧ p ≠ tr
theorem PlanAt.to {H H' : Hp} {d tr : Addr} {M : Md} {ts : List V} (h : PlanAt H d M tr) (e : ExB tr H H') (ht : H tr = some (.lst ts)) : PlanAt H' d M tr := by
  obtain ⟨kvs, h1, h2⟩ := h
  refine ⟨kvs, e _ _ (fun z => by subst z; rw [ht] at h1; cases h1) h1, fun adr => ?_⟩
  have h2 := h2 adr
  cases q : M.ord adr with
  | none => rw [q] at h2; exact h2
  | some o =>
    rw [q] at h2
    obtain ⟨p, h3, h4, h5⟩ := h2
    exact ⟨p, h3, e _ _ h5 h4, h5⟩
theorem plan0 {H : Hp} {d tr : Addr} (h : H d = some (.dT [])) : PlanAt H d Md0 tr := ⟨[], h, fun adr => rfl⟩
/-! ### what different parts weigh together -/
theorem sum_diff (f : Nat → Nat) : ∀ (n : Nat) (o : List Nat), o.Nodup → (∀ i ∈ o, i < n) → (o.map f).sum ≤ ((List.range n).map f).sum
  | 0, o, _, h => by
    cases o with
    | nil => simp
    | cons a o => exact absurd (h a List.mem_cons_self) (Nat.not_lt_zero _)
  | n + 1, o, nd, h => by
    have ih := sum_diff f n (o.filter fun i => decide (i ≠ n)) (nd.filter _) fun i hi => by
      obtain ⟨h1, h2⟩ := List.mem_filter.mp hi
      have := h i h1
      have := of_decide_eq_true h2
      omega
    have : ∀ l : List Nat, l.Nodup → (l.map f).sum ≤ ((l.filter fun i => decide (i ≠ n)).map f).sum + f n := by
      intro l
      induction l with
      | nil => intro _; simp
      | cons a l ihl =>
        intro nd
        obtain ⟨n1, n2⟩ := List.nodup_cons.mp nd
        by_cases e : a = n
        · subst e
          have : l.filter (fun i => decide (i ≠ a)) = l := List.filter_eq_self.mpr fun i hi => decide_eq_true fun z => n1 (z ▸ hi)
          rw [List.filter_cons_of_neg (by simp), this, List.map_cons, List.sum_cons]
          omega
        · rw [List.filter_cons_of_pos (by simp [e]), List.map_cons, List.map_cons, List.sum_cons, List.sum_cons]
          have := ihl n2
          omega
    have := this o nd
    rw [List.range_succ, List.map_append, List.sum_append]
    simp only [List.map_cons, List.map_nil, List.sum_cons, List.sum_nil]
    omega
def wAt (cs : List Cnd) (i : Nat) : Nat := match cs[i]? with | some c => c.weight | none => 0
theorem wAt_sum : ∀ cs : List Cnd, ((List.range cs.length).map (wAt cs)).sum ≤ Cnd.weightL cs
  | [] => by simp
  | c :: cs => by
    rw [List.length_cons, List.range_succ_eq_map, List.map_cons, List.sum_cons, List.map_map, Cnd.weightL]
    have e : (wAt (c :: cs) ∘ Nat.succ) = wAt cs := by funext i; simp [wAt]
    have e0 : wAt (c :: cs) 0 = c.weight := rfl
    rw [e, e0]
    have := wAt_sum cs
    omega
end Gx
namespace Gx
theorem nodup_len {n : Nat} {o : List Nat} (nd : o.Nodup) (h : ∀ i ∈ o, i < n) : o.length ≤ n := by
  have e : ∀ l : List Nat, (l.map fun _ => 1).sum = l.length := by
    intro l
    induction l with
    | nil => rfl
    | cons a l ih => rw [List.map_cons, List.sum_cons, ih, List.length_cons]; omega
  have := sum_diff (fun _ => 1) n o nd h
  rw [e, e, List.length_range] at this
  exact this
end Gx
namespace Gx
open PySem PySem.Spec PyProof.Rows L2 Evl
theorem flat_strs (f : List Str) : (f.map V.str).all flatV = true := by
  rw [List.all_eq_true]
  intro x hx
  obtain ⟨y, _, rfl⟩ := List.mem_map.mp hx
  rfl
theorem inV_strs (x : Str) (f : List Str) : inV (.str x) (f.map V.str) = decide (x ∈ f) := by
  unfold inV
  rw [List.any_map]
  by_cases h : x ∈ f
  · rw [decide_eq_true h, List.any_eq_true]
    exact ⟨x, h, by simp [eqV]⟩
  · rw [decide_eq_false h, List.any_eq_false]
    intro y hy e
    have e : (y == x) = true := e
    rw [beq_iff_eq] at e
    exact h (e ▸ hy)
end Gx

set_option Elab.async false
set_option linter.all false
set_option maxRecDepth 100000
set_option maxHeartbeats 4000000
/-! Comprehensions of two clauses, over lists and tuples. -/
namespace Gx
open PySem PySem.Spec PyProof.Rows L2 Evl
/-- the second clause's loop, from which Nx is reached -/
abbrev Inner (g1 : TG) (tt1 : TT) (te : TE) (vs1 : List Nat) (D : Addr) (σ2 : L2.St) (Nx : Hp → Prop) (J1 : It) (H4 : Hp) : Prop :=
  ∃ W1 : Nat → Nat → Hp → Prop, (∃ m, W1 0 m H4) ∧ ∀ j k H, W1 j k H →
    (J1.stop j H ∧ Nx H) ∨ (J1.go j H ∧ ∃ Nx1 : Hp → Prop, (∀ H', Nx1 H' → ∃ k', k' < k ∧ W1 (j + 1) k' H') ∧ ∀ x H', J1.yld j H x H' → g1 x (wipe σ2 vs1) H' fun σ3 H5 => wipe σ3 vs1 = wipe σ2 vs1 ∧ tt1 σ3 H5 fun b H6 =>
      if b = true then te σ3 H6 fun y H7 => ∃ acc, H7 D = some (.lst acc) ∧ acc.length < sizeLine ∧ Nx1 (upd H7 D (.lst (acc ++ [y]))) else Nx1 H6)
section
variable {K : PySem.W.Frag} {a D : Addr} {xs : List V} {g1 : TG} {tt1 : TT} {te : TE} {vs1 : List Nat} {σ2 : L2.St} {Nx : Hp → Prop} {H4 : Hp}
theorem inner_tup (Pw : Nat → Hp → Prop) (h0 : Pw 0 H4) (hl : ∀ j H, j ≤ xs.length → Pw j H → SqT K H a xs)
    (hs : ∀ j x H, xs[j]? = some x → Pw j H → g1 x (wipe σ2 vs1) H fun σ3 H5 => wipe σ3 vs1 = wipe σ2 vs1 ∧ tt1 σ3 H5 fun b H6 =>
      if b = true then te σ3 H6 fun y H7 => ∃ acc, H7 D = some (.lst acc) ∧ acc.length < sizeLine ∧ Pw (j + 1) (upd H7 D (.lst (acc ++ [y]))) else Pw (j + 1) H6)
    (hd : ∀ H, Pw xs.length H → Nx H) : Inner g1 tt1 te vs1 D σ2 Nx (Itt K a) H4 := by
  refine ⟨fun j k H => k = xs.length - j ∧ j ≤ xs.length ∧ Pw j H, ⟨_, rfl, Nat.zero_le _, h0⟩, ?_⟩
  rintro j k H ⟨ek, hj, p⟩
  have q := hl j H hj p
  rcases Nat.lt_or_ge j xs.length with hlt | hge
  · refine .inr ⟨⟨xs, _, q, List.getElem?_eq_getElem hlt⟩, Pw (j + 1), fun H' p' => ⟨_, by rw [ek]; exact Nat.sub_lt_sub_left hlt (Nat.lt_succ_self j), rfl, hlt, p'⟩, fun x H' y => ?_⟩
    have e := y.1
    have y := y.2 xs q
    rw [e]
    exact hs j x _ y p
  · have e : j = xs.length := Nat.le_antisymm hj hge
    subst e
    exact .inl ⟨⟨xs, q, Nat.le_refl _⟩, hd H p⟩
theorem inner_list (Pw : Nat → Hp → Prop) (h0 : Pw 0 H4) (hl : ∀ j H, j ≤ xs.length → Pw j H → SqL K H a xs)
    (hs : ∀ j x H, xs[j]? = some x → Pw j H → g1 x (wipe σ2 vs1) H fun σ3 H5 => wipe σ3 vs1 = wipe σ2 vs1 ∧ tt1 σ3 H5 fun b H6 =>
      if b = true then te σ3 H6 fun y H7 => ∃ acc, H7 D = some (.lst acc) ∧ acc.length < sizeLine ∧ Pw (j + 1) (upd H7 D (.lst (acc ++ [y]))) else Pw (j + 1) H6)
    (hd : ∀ H, Pw xs.length H → Nx H) : Inner g1 tt1 te vs1 D σ2 Nx (Itl K a) H4 := by
  refine ⟨fun j k H => k = xs.length - j ∧ j ≤ xs.length ∧ Pw j H, ⟨_, rfl, Nat.zero_le _, h0⟩, ?_⟩
  rintro j k H ⟨ek, hj, p⟩
  have q := hl j H hj p
  rcases Nat.lt_or_ge j xs.length with hlt | hge
  · refine .inr ⟨⟨xs, _, q, List.getElem?_eq_getElem hlt⟩, Pw (j + 1), fun H' p' => ⟨_, by rw [ek]; exact Nat.sub_lt_sub_left hlt (Nat.lt_succ_self j), rfl, hlt, p'⟩, fun x H' y => ?_⟩
    have e := y.1
    have y := y.2 xs q
    rw [e]
    exact hs j x _ y p
  · have e : j = xs.length := Nat.le_antisymm hj hge
    subst e
    exact .inl ⟨⟨xs, q, Nat.le_refl _⟩, hd H p⟩
end
section
variable {K : PySem.W.Frag} {a D : Addr} {xs : List V} {g g1 : TG} {tt tt1 : TT} {wi1 : TI} {te : TE} {vs vs1 : List Nat} {σ : L2.St} {H1 : Hp} {Qd : Hp → Prop}
/-- what the first clause's turn comes to -/
abbrev Turn2 (g : TG) (tt : TT) (wi1 : TI) (g1 : TG) (tt1 : TT) (te : TE) (vs vs1 : List Nat) (σ : L2.St) (D : Addr) (Nx : Hp → Prop) (x : V) (H : Hp) : Prop :=
  g x (wipe σ vs) H fun σ2 H2 => wipe σ2 vs = wipe σ vs ∧ tt σ2 H2 fun b H3 => if b = true then wi1 σ2 H3 (Inner g1 tt1 te vs1 D σ2 Nx) else Nx H3
theorem lc2_list (Pv : Nat → Hp → Prop) (h0 : Pv 0 (upd H1 D (.lst []))) (hl : ∀ i H, i ≤ xs.length → Pv i H → SqL K H a xs)
    (hs : ∀ i x H, xs[i]? = some x → Pv i H → Turn2 g tt wi1 g1 tt1 te vs vs1 σ D (Pv (i + 1)) x H) (hd : ∀ H, Pv xs.length H → Qd H) :
    ∃ W : Nat → Nat → Hp → Prop, (∃ m, W 0 m (upd H1 D (.lst []))) ∧ ∀ i m H, W i m H →
      ((Itl K a).stop i H ∧ Qd H) ∨ ((Itl K a).go i H ∧ ∃ Nx : Hp → Prop, (∀ H', Nx H' → ∃ m', m' < m ∧ W (i + 1) m' H') ∧ ∀ x H', (Itl K a).yld i H x H' → Turn2 g tt wi1 g1 tt1 te vs vs1 σ D Nx x H') := by
  refine ⟨fun i m H => m = xs.length - i ∧ i ≤ xs.length ∧ Pv i H, ⟨_, rfl, Nat.zero_le _, h0⟩, ?_⟩
  rintro i m H ⟨em, hi, p⟩
  have q := hl i H hi p
  rcases Nat.lt_or_ge i xs.length with hlt | hge
  · refine .inr ⟨⟨xs, _, q, List.getElem?_eq_getElem hlt⟩, Pv (i + 1), fun H' p' => ⟨_, by rw [em]; exact Nat.sub_lt_sub_left hlt (Nat.lt_succ_self i), rfl, hlt, p'⟩, fun x H' y => ?_⟩
    have e := y.1
    have y := y.2 xs q
    rw [e]
    exact hs i x _ y p
  · have e : i = xs.length := Nat.le_antisymm hi hge
    subst e
    exact .inl ⟨⟨xs, q, Nat.le_refl _⟩, hd H p⟩
theorem lc2_tup (Pv : Nat → Hp → Prop) (h0 : Pv 0 (upd H1 D (.lst []))) (hl : ∀ i H, i ≤ xs.length → Pv i H → SqT K H a xs)
    (hs : ∀ i x H, xs[i]? = some x → Pv i H → Turn2 g tt wi1 g1 tt1 te vs vs1 σ D (Pv (i + 1)) x H) (hd : ∀ H, Pv xs.length H → Qd H) :
    ∃ W : Nat → Nat → Hp → Prop, (∃ m, W 0 m (upd H1 D (.lst []))) ∧ ∀ i m H, W i m H →
      ((Itt K a).stop i H ∧ Qd H) ∨ ((Itt K a).go i H ∧ ∃ Nx : Hp → Prop, (∀ H', Nx H' → ∃ m', m' < m ∧ W (i + 1) m' H') ∧ ∀ x H', (Itt K a).yld i H x H' → Turn2 g tt wi1 g1 tt1 te vs vs1 σ D Nx x H') := by
  refine ⟨fun i m H => m = xs.length - i ∧ i ≤ xs.length ∧ Pv i H, ⟨_, rfl, Nat.zero_le _, h0⟩, ?_⟩
  rintro i m H ⟨em, hi, p⟩
  have q := hl i H hi p
  rcases Nat.lt_or_ge i xs.length with hlt | hge
  · refine .inr ⟨⟨xs, _, q, List.getElem?_eq_getElem hlt⟩, Pv (i + 1), fun H' p' => ⟨_, by rw [em]; exact Nat.sub_lt_sub_left hlt (Nat.lt_succ_self i), rfl, hlt, p'⟩, fun x H' y => ?_⟩
    have e := y.1
    have y := y.2 xs q
    rw [e]
    exact hs i x _ y p
  · have e : i = xs.length := Nat.le_antisymm hi hge
    subst e
    exact .inl ⟨⟨xs, q, Nat.le_refl _⟩, hd H p⟩
end
/-- a tuple, one item longer -/
theorem cat_one {K : PySem.W.Frag} {H : Hp} {ad t : Addr} {xs : List V} {y : V} {Q : VK} (h1 : H ad = some (.tup xs)) (h2 : H t = some (.tup [y]))
    (sz : xs.length ≤ 100000) (k : ∀ p H', Ex H H' → H' p = some (.tup (xs ++ [y])) → Q (.ref p) H') : rCatA K (.ref ad) (.ref t) H Q := by
  refine ⟨ad, t, _, _, rfl, rfl, SqT.of h1, SqT.of h2, Nat.le_trans (Nat.add_le_add_right sz 1) (by decide), fun h => ?_, fun _ h => (by cases h), fun _ _ p np => k p _ (Ex.new np) upd_same⟩
  subst h
  exact k t H (Ex.refl H) h2
/-- the rules where the context is another than the written part's -/
theorem pi_tupK {X : Cx} {K : PySem.W.Frag} {tg e : Expr} {te : TE} (h : X.K = K) (he : PE X e te) : PI X tg e (iTup K te) := by rw [← h]; exact pi_tup he
theorem pi_listK {X : Cx} {K : PySem.W.Frag} {tg e : Expr} {te : TE} (h : X.K = K) (he : PE X e te) : PI X tg e (iList K te) := by rw [← h]; exact pi_list he
theorem op_catAK {X : Cx} {K : PySem.W.Frag} (h : X.K = K) : OpR X (binaryOp .Add) (rCatA K) := by rw [← h]; exact op_catA
end Gx

set_option Elab.async false
set_option linter.all false
set_option maxRecDepth 100000
set_option maxHeartbeats 4000000
namespace K40
open PySem PySem.Spec PyProof.Rows L2 Evl Gx
abbrev s_answers_of : Stmt := topS 7
theorem sc_answers_of : FnScope ["word", "value", "errs"] ["word"] (defScope s_answers_of) := ⟨rfl, rfl, rfl, by decide +kernel, rfl, by decide +kernel, by decide +kernel⟩
abbrev s_word_of : Stmt := topS 8
theorem sc_word_of : FnScope ["answers", "values", "said"] ["answers"] (defScope s_word_of) := ⟨rfl, rfl, rfl, by decide +kernel, rfl, by decide +kernel, by decide +kernel⟩
abbrev s_behind : Stmt := topS 12
theorem sc_behind : FnScope ["word", "other"] ["word", "other"] (defScope s_behind) := ⟨rfl, rfl, rfl, by decide +kernel, rfl, by decide +kernel, by decide +kernel⟩
abbrev s_of_not : Stmt := topS 14
theorem sc_of_not : FnScope ["word", "value", "errs"] ["word"] (defScope s_of_not) := ⟨rfl, rfl, rfl, by decide +kernel, rfl, by decide +kernel, by decide +kernel⟩
abbrev s_plainly : Stmt := topS 16
theorem sc_plainly : FnScope ["word", "value", "errs"] ["word"] (defScope s_plainly) := ⟨rfl, rfl, rfl, by decide +kernel, rfl, by decide +kernel, by decide +kernel⟩
structure ConD (K : PySem.W.Frag) (w : World) (mg : Str → Option Value) (x : Str) (a : Addr) (xs : List (Str × Str)) : Prop where
  mg : mg x = some (.ref a)
  at_ : ∀ p ∈ xs, KDct K w a p.1 (.str p.2)
def ansOf (x : Wrd) : List Str := (if x.2 = true then [("error" : Str)] else []) ++ x.1.toList
def spAnswersOf (K : PySem.W.Frag) : Sp := fun vs H Q _ => ∃ (v : V) (x : Wrd), vs = [v] ∧ WrdAt K H v x ∧ ∀ l H', Ex H H' → H l = none → H' l = some (.lst ((ansOf x).map V.str)) → Q (.ref l) H'
def wordOf (as : List Str) : Wrd := ((as.filter fun a => !decide (a = ("error" : Str))).head?, decide (("error" : Str) ∈ as))
def spWordOf (K : PySem.W.Frag) : Sp := fun vs H Q _ => ∃ (a : Addr) (as : List Str), vs = [.ref a] ∧ H a = some (.lst (as.map V.str)) ∧ as.length ≤ 100000 ∧ ∀ v H', Ex H H' → WrdAt K H' v (wordOf as) → Q v H'
def spBehind (K : PySem.W.Frag) : Sp := fun vs H Q _ => ∃ (v u : V) (x y : Wrd), vs = [v, u] ∧ WrdAt K H v x ∧ WrdAt K H u y ∧ ∀ z H', Ex H H' → WrdAt K H' z (y.1, x.2 || y.2) → Q z H'
section
variable {P : Program} {w : World} {K : PySem.W.Frag} {mg : Str → Option Value} {base : Heap} {a_OPPOSITES a_VALUES : Addr}
theorem ok_answers_of {f : Addr} {fd : FuncData} (D : Def K mg "answers_of" s_answers_of f fd ["word"]) (bi : Bi mg) : FnOk P w K mg base CX0 1 f fd ["word"] (spAnswersOf K) := by
  refine D.fn.ok sc_answers_of (fun vs H Q E h => ?_) (fun cdv A outer s0 H vs Q E hr h => ?_)
  · obtain ⟨v, x, rfl, _⟩ := h
    rfl
  · obtain ⟨v, x, rfl, ⟨a, rfl, ha⟩, k⟩ := h
    refine ⟨_, (pss_cons (ps_asg (pv 0) (pg_tup rfl (pgs_cons (pg_name (i := 1) sc_answers_of.nd rfl (Or.inl rfl)) (pgs_cons (pg_name (i := 2) sc_answers_of.nd rfl (Or.inl rfl)) pgs_nil))))
  (pss_one (ps_ret (pe_op op_cat (pe_ifExp (pt_val (pv 2)) (pe_lst (pa_cons pe_str pa_nil)) (pe_lst pa_nil)) (pe_ifExp (pt_cmpR op_isN (pv 1) pe_non (nomark _)) (pe_lst pa_nil) (pe_lst (pa_cons (pv 1) pa_nil))))))), ?_⟩
    obtain ⟨x1, x2⟩ := x
    refine ⟨_, rfl, a, _, rfl, ha, rfl, _, _, rfl, _, _, rfl, rfl, ?_⟩
    -- the first list
    have first : ∀ (R : V → Hp → Prop), (∀ l H', Ex H H' → H l = none → H' l = some (.lst ((if x2 = true then [("error" : Str)] else []).map V.str)) → R (.ref l) H') →
        tIf (tB (tVar 2)) (tLst (tCons (tC (V.str "error")) tNil)) (tLst tNil) [some (.ref a), some (wV x1), some (.bl x2)] H R := fun R kk => by
      refine ⟨_, rfl, x2, rfl, ?_⟩
      cases x2 with
      | true => exact if_t rfl ⟨sz1, fun l nl => kk l _ (Ex.new nl) nl upd_same⟩
      | false => exact if_f rfl ⟨Nat.zero_le _, fun l nl => kk l _ (Ex.new nl) nl upd_same⟩
    refine first _ fun l H1 e1 nl hl => ?_
    have second : ∀ (R : V → Hp → Prop), (∀ q H', Ex H1 H' → H1 q = none → H' q = some (.lst (x1.toList.map V.str)) → R (.ref q) H') →
        tIf (tTest (tOp (fun x y H Q => y = V.non ∧ Q (V.bl (decide (x = V.non))) H) (tVar 1) (tC V.non))) (tLst tNil) (tLst (tCons (tVar 1) tNil)) [some (.ref a), some (wV x1), some (.bl x2)] H1 R := fun R kk => by
      refine ⟨_, rfl, rfl, _, rfl, ?_⟩
      cases x1 with
      | none => exact if_t rfl ⟨Nat.zero_le _, fun l nl => kk l _ (Ex.new nl) nl upd_same⟩
      | some s => exact if_f (decide_eq_false nofun) ⟨_, rfl, sz1, fun l nl => kk l _ (Ex.new nl) nl upd_same⟩
    refine second _ fun q H2 e2 nq hq => ?_
    refine ⟨l, q, _, _, rfl, rfl, e2 _ _ hl, hq, ?_, fun L nL => ?_⟩
    · rw [List.length_map, List.length_map, sizeLine_eq]
      cases x2 <;> cases x1 <;> simp
    · have e3 := (e1.trans e2).trans (Ex.new (o := .lst ((if x2 = true then [("error" : Str)] else []).map V.str ++ x1.toList.map V.str)) nL)
      refine k L _ e3 ?_ (by rw [upd_same]; unfold ansOf; rw [List.map_append])
      cases z : H L with
      | none => rfl
      | some o => have := (e1.trans e2) _ _ z; rw [nL] at this; cases this
theorem ok_word_of {f : Addr} {fd : FuncData} (D : Def K mg "word_of" s_word_of f fd ["answers"]) (bi : Bi mg) : FnOk P w K mg base CX0 1 f fd ["answers"] (spWordOf K) := by
  refine D.fn.ok sc_word_of (fun vs H Q E h => ?_) (fun cdv A outer s0 H vs Q E hr h => ?_)
  · obtain ⟨a, as, rfl, _⟩ := h
    rfl
  · obtain ⟨a, as, rfl, ha, hz, k⟩ := h
    refine ⟨_, (pss_cons (ps_setLc (i := 1) (own := [("said", 2)]) rfl sc_word_of.nd rfl rfl (sw_true rfl rfl rfl (by decide +kernel)) (pi_list (pv 0)) (blkOk_by (N := ["answers", "values", "said"]) (sc := defScope s_word_of) (by decide +kernel)) (fun _ _ _ _ _ => (pg_name (i := 2) sc_word_of.nd rfl (Or.inl rfl))) (fun _ _ _ _ _ => (pts_one (pt_cmpR op_ne (pv 2) pe_str (nomark _)))) (fun _ _ _ _ _ => (pv 2)))
  (pss_one (ps_ret (pe_tup (pa_cons (pe_ifExp (pt_cmpR op_gt (pe_callB call_len_seq (by rfl) bi.len bt_len (pa_cons (pv 1) pa_nil)) pe_int (nomark _)) (pe_ix ix_list (pv 1) pe_int (fun _ _ => rfl)) pe_non) (pa_cons (pe_cmpR op_in_seq pe_str (pv 0) (by rfl)) pa_nil)))))), ?_⟩
    refine ⟨_, rfl, a, rfl, ⟨_, SqL.of ha⟩, fun D nD => ?_⟩
    refine lc_list (xs := as.map V.str) (fun j H' => Ex H H' ∧ H' D = some (.lst (((as.take j).filter fun a => !decide (a = ("error" : Str))).map V.str))) ?_ (fun j H' _ z => SqL.of (z.1 _ _ ha)) ?_ ?_
    · exact ⟨Ex.new nD, upd_same⟩
    · rintro j z H3 hj ⟨x3, hD⟩
      rw [List.getElem?_map] at hj
      obtain ⟨y, hy, rfl⟩ := Option.map_eq_some_iff.mp hj
      have tk := takeS hy
      have lb : ((as.take j).filter fun a => !decide (a = ("error" : Str))).length ≤ as.length := Nat.le_trans (List.length_filter_le ..) (List.length_take_le' ..)
      refine ⟨rfl, _, rfl, rfl, _, rfl, ?_⟩
      by_cases h : y = ("error" : Str)
      · subst h
        refine if_f (by simp) ⟨x3, ?_⟩
        rw [hD, tk, List.filter_append]
        simp
      · refine if_t (by simp [h]) ⟨_, rfl, _, hD, by rw [List.length_map, sizeLine_eq]; omega, x3.mut nD, ?_⟩
        rw [upd_same, tk, List.filter_append, List.map_append]
        simp [h]
    · rintro H3 ⟨x3, hD⟩
      rw [List.length_map, List.take_length] at hD
      generalize hf : (as.filter fun a => !decide (a = ("error" : Str))) = fs at hD
      have fin : ∀ (o : Option Str), fs.head? = o → ∀ T, H3 T = none → Q (.ref T) (upd H3 T (.tup [wV o, .bl (decide (("error" : Str) ∈ as))])) := fun o ho T nT => by
        refine k _ _ (x3.trans (Ex.new nT)) ⟨T, rfl, ?_⟩
        unfold wordOf
        rw [hf, ho]
        exact SqT.of upd_same
      have inn : inV (.str "error") (as.map V.str) = decide (("error" : Str) ∈ as) := inV_strs ..
      refine ⟨_, rfl, D, _, rfl, .inl (SqL.of hD), _, 0, rfl, rfl, _, rfl, ?_⟩
      cases fs with
      | nil =>
        refine if_f (by simp) ⟨_, rfl, a, _, rfl, .inl (SqL.of (x3 _ _ ha)), rfl, (by simp [List.all_map]; intros; rfl), ?_⟩
        rw [inn]
        exact ⟨sz2, fun T nT => fin none rfl T nT⟩
      | cons y ys =>
        refine if_t (by simp) ⟨_, rfl, D, _, 0, _, rfl, rfl, SqL.of hD, atI_of (by decide) (show ((y :: ys).map V.str)[0]? = some (.str y) from rfl), _, rfl, a, _, rfl, .inl (SqL.of (x3 _ _ ha)), rfl, (by simp [List.all_map]; intros; rfl), ?_⟩
        rw [inn]
        exact ⟨sz2, fun T nT => fin (some y) rfl T nT⟩
theorem ok_behind {f : Addr} {fd : FuncData} (D : Def K mg "_behind" s_behind f fd ["word", "other"]) (bi : Bi mg) : FnOk P w K mg base CX0 1 f fd ["word", "other"] (spBehind K) := by
  refine D.fn.ok sc_behind (fun vs H Q E h => ?_) (fun cdv A outer s0 H vs Q E hr h => ?_)
  · obtain ⟨v, u, x, y, rfl, _⟩ := h
    rfl
  · obtain ⟨v, u, x, y, rfl, ⟨a, rfl, ha⟩, ⟨b, rfl, hb⟩, k⟩ := h
    refine ⟨_, (pss_one (ps_ret (pe_tup (pa_cons (pe_ix (ix_tupK (K := K) rfl) (pv 1) pe_int (fun _ _ => rfl)) (pa_cons (pe_or (pe_ix (ix_tupK (K := K) rfl) (pv 0) pe_int (fun _ _ => rfl)) (pe_one (pe_ix (ix_tupK (K := K) rfl) (pv 1) pe_int (fun _ _ => rfl)))) pa_nil))))), ?_⟩
    obtain ⟨x1, x2⟩ := x
    obtain ⟨y1, y2⟩ := y
    refine ⟨_, rfl, b, _, 0, _, rfl, rfl, hb, rfl, _, rfl, a, _, 1, _, rfl, rfl, ha, rfl, x2, rfl, ?_⟩
    cases x2 with
    | true => exact if_t rfl ⟨sz2, fun T nT => k _ _ (Ex.new nT) ⟨T, rfl, SqT.of upd_same⟩⟩
    | false =>
      refine if_f rfl ⟨_, rfl, b, _, 1, _, rfl, rfl, hb, rfl, sz2, fun T nT => k _ _ (Ex.new nT) ⟨T, rfl, SqT.of upd_same⟩⟩
def notW (o : Option Str) : Option Str := o.map fun s => if s = ("yes" : Str) then "no" else if s = ("no" : Str) then "yes" else s
def spOfNot (K : PySem.W.Frag) : Sp := fun vs H Q _ => ∃ (v : V) (x : Wrd), vs = [v] ∧ WrdAt K H v x ∧ Wrd.ok x ∧ ∀ z H', Ex H H' → WrdAt K H' z (notW x.1, x.2) → Q z H'
def spPlainly (K : PySem.W.Frag) : Sp := fun vs H Q _ => ∃ (v : V) (x : Wrd), vs = [v] ∧ WrdAt K H v x ∧ Wrd.ok x ∧ ∀ z H', Ex H H' → WrdAt K H' z (if x.1 = some ("unknown" : Str) then some "no" else x.1, x.2) → Q z H'
def oppo : List (Str × Str) := [("error", "error"), ("no", "yes"), ("unknown", "unknown"), ("yes", "no")]
theorem ok_of_not {f : Addr} {fd : FuncData} (D : Def K mg "of_not" s_of_not f fd ["word"]) (bi : Bi mg) (C_OPPOSITES : ConD K w mg "OPPOSITES" a_OPPOSITES oppo) : FnOk P w K mg base CX0 1 f fd ["word"] (spOfNot K) := by
  refine D.fn.ok sc_of_not (fun vs H Q E h => ?_) (fun cdv A outer s0 H vs Q E hr h => ?_)
  · obtain ⟨v, x, rfl, _⟩ := h
    rfl
  · obtain ⟨v, ⟨x1, x2⟩, rfl, ⟨a, rfl, ha⟩, ok, k⟩ := h
    refine ⟨_, (pss_cons (ps_asg (pv 0) (pg_tup rfl (pgs_cons (pg_name (i := 1) sc_of_not.nd rfl (Or.inl rfl)) (pgs_cons (pg_name (i := 2) sc_of_not.nd rfl (Or.inl rfl)) pgs_nil))))
  (pss_one (ps_ret (pe_tup (pa_cons (pe_ifExp (pt_cmpR op_isN (pv 1) pe_non (nomark _)) pe_non (pe_ix ix_kdict (pe_glob (v := .ref a_OPPOSITES) rfl C_OPPOSITES.mg rfl) (pv 1) (fun _ _ => rfl))) (pa_cons (pv 2) pa_nil)))))), ?_⟩
    refine ⟨_, rfl, a, _, rfl, ha, rfl, _, _, rfl, _, _, rfl, rfl, ?_⟩
    rcases ok with ⟨e1, e2⟩ | ⟨s, hs, e1⟩
    · cases e1
      exact ⟨_, rfl, rfl, _, rfl, if_t rfl ⟨_, rfl, sz2, fun T nT => k _ _ (Ex.new nT) ⟨T, rfl, SqT.of upd_same⟩⟩⟩
    · cases e1
      have hk : ∀ s ∈ vals3, (s, (notW (some s)).getD "") ∈ oppo ∧ (notW (some s)).isSome = true := by decide +kernel
      obtain ⟨h1, h2⟩ := hk s hs
      obtain ⟨z, hz⟩ := Option.isSome_iff_exists.mp h2
      rw [hz] at h1
      refine ⟨_, rfl, rfl, _, rfl, if_f (decide_eq_false nofun) ?_⟩
      refine ⟨_, rfl, a_OPPOSITES, s, .str z, rfl, rfl, C_OPPOSITES.at_ _ h1, _, rfl, sz2, fun T nT => k _ _ (Ex.new nT) ⟨T, rfl, ?_⟩⟩
      show SqT K _ T [wV (notW (some s)), .bl x2]
      rw [hz]
      exact SqT.of upd_same
theorem ok_plainly {f : Addr} {fd : FuncData} (D : Def K mg "plainly" s_plainly f fd ["word"]) (bi : Bi mg) : FnOk P w K mg base CX0 1 f fd ["word"] (spPlainly K) := by
  refine D.fn.ok sc_plainly (fun vs H Q E h => ?_) (fun cdv A outer s0 H vs Q E hr h => ?_)
  · obtain ⟨v, x, rfl, _⟩ := h
    rfl
  · obtain ⟨v, ⟨x1, x2⟩, rfl, ⟨a, rfl, ha⟩, ok, k⟩ := h
    refine ⟨_, (pss_cons (ps_asg (pv 0) (pg_tup rfl (pgs_cons (pg_name (i := 1) sc_plainly.nd rfl (Or.inl rfl)) (pgs_cons (pg_name (i := 2) sc_plainly.nd rfl (Or.inl rfl)) pgs_nil))))
  (pss_one (ps_ret (pe_tup (pa_cons (pe_ifExp (pt_cmpR op_eq (pv 1) pe_str (nomark _)) pe_str (pv 1)) (pa_cons (pv 2) pa_nil)))))), ?_⟩
    refine ⟨_, rfl, a, _, rfl, ha, rfl, _, _, rfl, _, _, rfl, rfl, ?_⟩
    have nq : ¬ V.str "no" = V.str "unknown" ∧ ¬ V.str "yes" = V.str "unknown" := by decide +kernel
    have nw : ¬ (("no" : Str) = "unknown") ∧ ¬ (("yes" : Str) = "unknown") := by decide +kernel
    refine ⟨_, rfl, ?_⟩
    rcases ok with ⟨e1, e2⟩ | ⟨s, hs, e1⟩
    · cases e1
      exact ⟨rfl, _, rfl, if_f (decide_eq_false nofun) ⟨_, rfl, _, rfl, sz2, fun T nT => k _ _ (Ex.new nT) ⟨T, rfl, SqT.of upd_same⟩⟩⟩
    · cases e1
      simp only [Gx.vals3, List.mem_cons, List.not_mem_nil, or_false] at hs
      rcases hs with rfl | rfl | rfl
      · exact ⟨rfl, _, rfl, if_f (decide_eq_false nq.1) ⟨_, rfl, _, rfl, sz2, fun T nT => k _ _ (Ex.new nT) ⟨T, rfl, by simp only [Option.some.injEq, nw.1, if_false]; exact SqT.of upd_same⟩⟩⟩
      · exact ⟨rfl, _, rfl, if_t (decide_eq_true rfl) ⟨_, rfl, sz2, fun T nT => k _ _ (Ex.new nT) ⟨T, rfl, by simp only [if_true]; exact SqT.of upd_same⟩⟩⟩
      · exact ⟨rfl, _, rfl, if_f (decide_eq_false nq.2) ⟨_, rfl, _, rfl, sz2, fun T nT => k _ _ (Ex.new nT) ⟨T, rfl, by simp only [Option.some.injEq, nw.2, if_false]; exact SqT.of upd_same⟩⟩⟩
end
end K40

set_option Elab.async false
set_option linter.all false
set_option maxRecDepth 100000
set_option maxHeartbeats 400000
/-! `==` and `!=` of an instance whose class has an own `__eq__` and no own `__ne__`. -/
namespace Gx
open PySem PySem.Spec PyProof.Rows L2 Evl
/-- `a == y`, a's class with an own `__eq__` -/
def rEqI (K : PySem.W.Frag) (C : Addr) (sp : Sp) (E : XK) : R2 := fun x y H Q => ∃ (a dx : Addr) (fs : List (Str × V)) (tb : Value), x = .ref a ∧ H a = some (.ins C dx fs) ∧ TyX K H y tb ∧ PySem.W.notFirst K C tb = true ∧ sp [x, y] H Q E
theorem op_eqI {X : Cx} {CX : CXT} {C g : Addr} {n : Nat} {sp : Sp} {E : XK} (hs : PySem.W.findIn X.K (.ref C) "__eq__" = some (some (.ref g))) (hf : PySem.W.isFn X.K (.ref g) = true)
    (F : FnR X.prog X.w X.K X.mg X.base CX n g sp) (hr : Room n X.A) (hx : Passes CX X E) : OpR X (compareOp .Eq) (rEqI X.K C sp E) := by
  rintro pins s σ H x y v u Q inv rx ry ⟨a, dx, fs, tb, rfl, ha, ty, nf, h⟩
  cases rx
  obtain ⟨mA, om, _⟩ := L2.ins_get inv.hok ha
  obtain ⟨od, I, _⟩ := om.look
  obtain ⟨P, kx, hP, _⟩ := L2.kit_of inv ry ty
  obtain ⟨m, fr⟩ := inv.fr
  have e : compareOp .Eq (.ref a) u = richCompare .Eq (.ref a) u := rfl
  rw [e]
  have back : wpAny (model X.prog X.w) X.A (call (.ref g) [.ref a, u]) (PySem.W.CmpBack (EP X pins σ Q)) X.xe s := by
    refine wpAny_mono (wpAny_call (L2.run_fnR F hr hx inv (.cons (show RelV (.ref a) (.ref a) from rfl) (.cons ry .nil)) h)) (fun v s' q => ?_) (fun _ _ q => q)
    obtain ⟨z, H', i, r, q⟩ := q
    exact SlX.cmpback r ⟨z, H', i, r, q⟩
  exact PySem.W.cmp_K (op := .Eq) hr.units0 fr inv.ok.mod.kin I (kx.ty _ _ inv.kIn hP) nf hs hf back
/-- the default `__ne__` is found -/
theorem ifBound_ne {M : Model} {A : Around} {E : Value → Shared → Prop} {s : Shared} {K : PySem.W.Frag} {x C : Addr} {ox : Obj} {od : Option Obj} {args : List Value} {Q : Option Value → Shared → Prop}
    (kin : K.In s.heap) (I : PySem.W.InstAt s.heap x ox C od) (hs : PySem.W.findIn K (.ref C) "__ne__" = some (some (.builtin "object.__ne__")))
    (h : wpAny M A (call (.builtin "object.__ne__") (.ref x :: args)) (fun v => Q (some v)) E s) : wpAny M A (callSpecialIfBound? (.ref x) "__ne__" args) Q E s := by
  unfold callSpecialIfBound? bindSpecialIfBound? specialOf
  refine wpAny_holding (wpAny_bind (wpAny_bind (wpAny_bind (PySem.W.Looks.here I.type (PySem.W.Looks.here (PySem.W.looks_findIn kin hs) ?_)))))
  refine wpAny_bind (wpAny_askSetting ?_)
  have e : bindSpecial (.builtin "object.__ne__") (.ref x) = pure (Value.builtin "object.__ne__", [Value.ref x]) := F.cmp_object.ne.bind _
  have fin : wpAny M A (call (.builtin "object.__ne__") ([Value.ref x] ++ args)) (fun v => Q (some v)) E s := h
  refine wpAny_ite ?_
  split
  · refine wpAny_bind (wpAny_of_eq e (wpAny_pure (wpAny_bind (wpAny_mono fin (fun v s' q => wpAny_pure q) fun _ _ q => q))))
  · refine wpAny_tryCatch (wpAny_bind (wpAny_of_eq e (wpAny_pure (wpAny_bind (wpAny_mono fin (fun v s' q => wpAny_pure q) fun _ _ q => q)))))
def rNeI (K : PySem.W.Frag) (C : Addr) (sp : Sp) (E : XK) : R2 := fun x y H Q => ∃ (a dx : Addr) (fs : List (Str × V)) (tb : Value), x = .ref a ∧ H a = some (.ins C dx fs) ∧ TyX K H y tb ∧ PySem.W.notFirst K C tb = true ∧ sp [x, y] H (fun z H' => ∃ b, z = .bl b ∧ Q (.bl (!b)) H') E
theorem call_objNe {prog : Program} {w : World} {A : Around} {E : Value → Shared → Prop} {s : Shared} {K : PySem.W.Frag} {x C g : Addr} {ox : Obj} {od : Option Obj} {u : Value} {Q : Value → Shared → Prop}
    (kin : K.In s.heap) (I : PySem.W.InstAt s.heap x ox C od) (ho : PySem.W.mroIn K C (.type "object") = some true) (hu : A.in1.units < cLine)
    (hs : PySem.W.findIn K (.ref C) "__eq__" = some (some (.ref g))) (hf : PySem.W.isFn K (.ref g) = true)
    (h : wpAny (model prog w) A.in1 (call (.ref g) [.ref x, u]) (fun v s' => ∃ b, v = .bool b ∧ Q (.bool !b) s') E s) :
    wpAny (model prog w) A (call (.builtin "object.__ne__") [.ref x, u]) Q E s := by
  refine wpAny_call (codeAny_call_builtin F.cmp_object.ne.plain F.cmpEntry_ne ?_)
  refine PySem.W.check_slot F.cmpKind_ne F.cmpSplit_ne (PySem.W.Looks.andThen I.type ?_) (F.cmpArgs_ne _ _) ?_
  · exact PySem.W.looks_mroIn kin ho
  · unfold Builtin.«object.__ne__» slotArgs
    refine wpAny_bind (wpAny_of_eq (a := (Value.ref x, [u])) rfl ?_)
    refine wpAny_bind (wpAny_cRoomFor hu ?_)
    refine wpAny_bind (PySem.W.ifBound_K kin I hs hf (wpAny_mono h (fun v s' q => ?_) fun _ _ q => q))
    obtain ⟨b, rfl, q⟩ := q
    refine wpAny_bind (wpAny_of_eq (a := b) rfl ?_)
    exact wpAny_pure q
theorem op_neI {X : Cx} {CX : CXT} {C g : Addr} {n : Nat} {sp : Sp} {E : XK} (hs : PySem.W.findIn X.K (.ref C) "__eq__" = some (some (.ref g))) (hf : PySem.W.isFn X.K (.ref g) = true)
    (hn : PySem.W.findIn X.K (.ref C) "__ne__" = some (some (.builtin "object.__ne__"))) (ho : PySem.W.mroIn X.K C (.type "object") = some true)
    (F : FnR X.prog X.w X.K X.mg X.base CX n g sp) (hr : Room (n + 1) X.A) (hx : Passes CX X E) : OpR X (compareOp .NotEq) (rNeI X.K C sp E) := by
  rintro pins s σ H x y v u Q inv rx ry ⟨a, dx, fs, tb, rfl, ha, ty, nf, h⟩
  cases rx
  obtain ⟨mA, om, _⟩ := L2.ins_get inv.hok ha
  obtain ⟨od, I, _⟩ := om.look
  obtain ⟨P, kx, hP, _⟩ := L2.kit_of inv ry ty
  have hr1 : Room n X.A.in1 := hr.in1
  have e : compareOp .NotEq (.ref a) u = richCompare .NotEq (.ref a) u := rfl
  rw [e]
  have call : wpAny (model X.prog X.w) X.A (call (.builtin "object.__ne__") [.ref a, u]) (EP X pins σ Q) X.xe s := by
    refine call_objNe inv.kIn I ho hr1.units0 hs hf ?_
    refine wpAny_mono (wpAny_call (SlX.run_at F hr1 inv.env0.in1 hx inv (.cons (show RelV (.ref a) (.ref a) from rfl) (.cons ry .nil)) h)) (fun v s' q => ?_) (fun _ _ q => q)
    obtain ⟨z, H', i, r, b, rfl, q⟩ := q
    cases r
    exact ⟨b, rfl, .bl (!b), H', i, (show RelV (.bl (!b)) (.bool (!b)) from rfl), q⟩
  unfold richCompare
  refine wpAny_holding (wpAny_bind (wpAny_cRoomFor hr.units0 ?_))
  have o : oneThing? .NotEq (.ref a) u = none := by cases u <;> rfl
  rw [o]
  have tryc : wpAny (model X.prog X.w) X.A (tryCompare (.ref a) "__ne__" u) (fun r s' => ∃ v, r = some v ∧ EP X pins σ Q v s') X.xe s := by
    unfold tryCompare
    refine wpAny_bind (ifBound_ne inv.kIn I hn (wpAny_mono call (fun v s' q => ?_) fun _ _ q => q))
    obtain ⟨z, H', i, r, q⟩ := q
    have q' : EP X pins σ Q v s' := ⟨z, H', i, r, q⟩
    have nn : v ≠ .notImplemented := fun h => by subst h; exact SlX.cmpback (P := fun _ _ => True) (s' := s') r trivial
    cases v <;> first | exact absurd rfl nn | exact wpAny_pure ⟨_, rfl, q'⟩
  refine wpAny_bind (PySem.W.Looks.here I.type (wpAny_bind (PySem.W.Looks.here (kx.ty _ _ inv.kIn hP) ?_)))
  refine wpAny_ite ?_
  by_cases hc : tb = .ref C
  · subst hc
    rw [if_neg (by simp)]
    refine wpAny_bind (wpAny_pure (wpAny_ite_false (by decide) ?_))
    exact wpAny_bind (wpAny_mono tryc (fun r s' q => by obtain ⟨v, rfl, q⟩ := q; exact wpAny_pure q) fun _ _ q => q)
  · have sub : PySem.W.subIn X.K tb (.ref C) = some false := by
      have := nf
      unfold PySem.W.notFirst at this
      rcases Bool.or_eq_true _ _ |>.mp this with h1 | h1
      · exact absurd (eq_of_beq h1) hc
      · exact eq_of_beq h1
    rw [if_pos (by simpa using fun h => hc h.symm)]
    refine wpAny_bind (PySem.W.Looks.here (PySem.W.looks_subIn inv.kIn sub) (wpAny_ite_false (by decide) ?_))
    exact wpAny_bind (wpAny_mono tryc (fun r s' q => by obtain ⟨v, rfl, q⟩ := q; exact wpAny_pure q) fun _ _ q => q)
end Gx

set_option Elab.async false
set_option linter.all false
set_option maxRecDepth 100000
set_option maxHeartbeats 400000
/-! `a op b` of two instances of one own class, `~a`, `len(a)`, `x in a`, `x not in a`. -/
namespace Gx
open PySem PySem.Spec PyProof.Rows L2 Evl
section
variable {X : Cx} {CX : CXT} {C g : Addr} {n : Nat} {sp : Sp} {E : XK}
def rBinI (C : Addr) (sp : Sp) (E : XK) : R2 := fun x y H Q => ∃ (a b dx dy : Addr) (fs gs : List (Str × V)), x = .ref a ∧ y = .ref b ∧ H a = some (.ins C dx fs) ∧ H b = some (.ins C dy gs) ∧ sp [x, y] H Q E
theorem op_binI {op : Operator} (sf : PySem.W.selfFirst X.K C = true) (hs : PySem.W.findIn X.K (.ref C) (PySem.dunder op.info.2) = some (some (.ref g))) (hf : PySem.W.isFn X.K (.ref g) = true)
    (F : FnR X.prog X.w X.K X.mg X.base CX n g sp) (hr : Room n X.A) (hx : Passes CX X E) : OpR X (binaryOp op) (rBinI C sp E) := by
  rintro pins s σ H x y v u Q inv rx ry ⟨a, b, dx, dy, fs, gs, rfl, rfl, ha, hb, h⟩
  cases rx
  cases ry
  obtain ⟨mA, oa, _⟩ := L2.ins_get inv.hok ha
  obtain ⟨od, I, _⟩ := oa.look
  obtain ⟨mB, ob, _⟩ := L2.ins_get inv.hok hb
  obtain ⟨od', J, _⟩ := ob.look
  obtain ⟨m, fr⟩ := inv.fr
  refine PySem.W.binop_K fr inv.ok.mod.kin I J.type sf hs hf ?_
  refine wpAny_mono (wpAny_call (L2.run_fnR F hr hx inv (.cons (show RelV (.ref a) (.ref a) from rfl) (.cons (show RelV (.ref b) (.ref b) from rfl) .nil)) h)) (fun v s' q => ?_) (fun _ _ q => q)
  obtain ⟨z, H', i, r, q⟩ := q
  exact SlX.cmpback r ⟨z, H', i, r, q⟩
def rInvI (C : Addr) (sp : Sp) (E : XK) : V → Hp → VK → Prop := fun x H Q => ∃ (a dx : Addr) (fs : List (Str × V)), x = .ref a ∧ H a = some (.ins C dx fs) ∧ sp [x] H Q E
theorem un_invI (hs : PySem.W.findIn X.K (.ref C) "__invert__" = some (some (.ref g))) (hf : PySem.W.isFn X.K (.ref g) = true)
    (F : FnR X.prog X.w X.K X.mg X.base CX n g sp) (hr : Room n X.A) (hx : Passes CX X E) : UnR X (unaryOp .Invert) (rInvI C sp E) := by
  rintro pins s σ H x v Q inv rx ⟨a, dx, fs, rfl, ha, h⟩
  cases rx
  obtain ⟨mA, oa, _⟩ := L2.ins_get inv.hok ha
  obtain ⟨od, I, _⟩ := oa.look
  obtain ⟨m, fr⟩ := inv.fr
  refine PySem.W.ksp_inv fr inv.ok.mod.kin I hs hf ?_
  exact wpAny_call (L2.run_fnR F hr hx inv (.cons (show RelV (.ref a) (.ref a) from rfl) .nil) h)
def rLenI (C : Addr) (sp : Sp) (E : XK) : List V → Hp → VK → Prop := fun xs H Q => ∃ (a dx : Addr) (fs : List (Str × V)), xs = [.ref a] ∧ H a = some (.ins C dx fs) ∧
  sp xs H (fun z H' => ∃ k : Nat, z = .int k ∧ k ≤ sizeLine ∧ Q (.int k) H') E
theorem call_lenI (hs : PySem.W.findIn X.K (.ref C) "__len__" = some (some (.ref g))) (hf : PySem.W.isFn X.K (.ref g) = true)
    (F : FnR X.prog X.w X.K X.mg X.base CX n g sp) (hr : Room (n + 1) X.A) (hx : Passes CX X E) : CallR X (.builtin "len") (rLenI C sp E) := by
  rintro pins s σ H xs us Q inv rv ⟨a, dx, fs, rfl, ha, h⟩
  obtain ⟨u, rfl, rx⟩ := vals1 rv
  cases rx
  obtain ⟨mA, oa, _⟩ := L2.ins_get inv.hok ha
  obtain ⟨od, I, _⟩ := oa.look
  obtain ⟨m, fr⟩ := inv.fr
  have hr1 : Room n X.A.in1 := hr.in1
  refine PySem.W.len_K fr inv.ok.mod.kin I hs hf ?_
  refine wpAny_mono (wpAny_call (SlX.run_at F hr1 inv.env0.in1 hx inv (.cons (show RelV (.ref a) (.ref a) from rfl) .nil) h)) (fun v s' q => ?_) (fun _ _ q => q)
  obtain ⟨z, H', i, r, k, rfl, hk, q⟩ := q
  obtain ⟨t, rfl⟩ := r
  have := line63
  refine ⟨⟨by omega, by omega⟩, ?_⟩
  exact ⟨.int k, H', i.tok _, ⟨_, rfl⟩, q⟩
def rInI (C : Addr) (sp : Sp) (E : XK) (neg : Bool) : R2 := fun x y H Q => ∃ (a dx : Addr) (fs : List (Str × V)), y = .ref a ∧ H a = some (.ins C dx fs) ∧
  sp [y, x] H (fun z H' => ∃ b, z = .bl b ∧ Q (.bl (if neg then !b else b)) H') E
theorem op_inI (hs : PySem.W.findIn X.K (.ref C) "__contains__" = some (some (.ref g))) (hf : PySem.W.isFn X.K (.ref g) = true)
    (F : FnR X.prog X.w X.K X.mg X.base CX n g sp) (hr : Room n X.A) (hx : Passes CX X E) : OpR X (compareOp .In) (rInI C sp E false) := by
  rintro pins s σ H x y v u Q inv rx ry ⟨a, dx, fs, rfl, ha, h⟩
  cases ry
  obtain ⟨mA, oa, _⟩ := L2.ins_get inv.hok ha
  obtain ⟨od, I, _⟩ := oa.look
  obtain ⟨m, fr⟩ := inv.fr
  refine PySem.W.in_K fr inv.ok.mod.kin I hs hf ?_
  refine wpAny_mono (wpAny_call (L2.run_fnR F hr hx inv (.cons (show RelV (.ref a) (.ref a) from rfl) (.cons rx .nil)) h)) (fun v s' q => ?_) (fun _ _ q => q)
  obtain ⟨z, H', i, r, b, rfl, q⟩ := q
  cases r
  exact wpAny_pure ⟨.bl b, H', i, rfl, q⟩
theorem op_notInI (hs : PySem.W.findIn X.K (.ref C) "__contains__" = some (some (.ref g))) (hf : PySem.W.isFn X.K (.ref g) = true)
    (F : FnR X.prog X.w X.K X.mg X.base CX n g sp) (hr : Room n X.A) (hx : Passes CX X E) : OpR X (compareOp .NotIn) (rInI C sp E true) := by
  rintro pins s σ H x y v u Q inv rx ry ⟨a, dx, fs, rfl, ha, h⟩
  cases ry
  obtain ⟨mA, oa, _⟩ := L2.ins_get inv.hok ha
  obtain ⟨od, I, _⟩ := oa.look
  obtain ⟨m, fr⟩ := inv.fr
  refine PySem.W.notIn_K fr inv.ok.mod.kin I hs hf ?_
  refine wpAny_mono (wpAny_call (L2.run_fnR F hr hx inv (.cons (show RelV (.ref a) (.ref a) from rfl) (.cons rx .nil)) h)) (fun v s' q => ?_) (fun _ _ q => q)
  obtain ⟨z, H', i, r, b, rfl, q⟩ := q
  cases r
  exact wpAny_pure ⟨.bl (!b), H', i, rfl, q⟩
theorem op_eqIK {P : Program} {w : World} {K : PySem.W.Frag} {mg : Str → Option Value} {base : Heap} (e1 : X.prog = P) (e2 : X.w = w) (e3 : X.K = K) (e4 : X.mg = mg) (e5 : X.base = base)
    (hs : PySem.W.findIn K (.ref C) "__eq__" = some (some (.ref g))) (hf : PySem.W.isFn K (.ref g) = true) (F : FnR P w K mg base CX n g sp) (hr : Room n X.A) (hx : Passes CX X E) : OpR X (compareOp .Eq) (rEqI K C sp E) := by
  subst e1 e2 e3 e4 e5
  exact op_eqI hs hf F hr hx
end
end Gx

set_option Elab.async false
set_option linter.all false
set_option maxRecDepth 100000
set_option maxHeartbeats 400000
/-! sorted(xs, key=f), f a def that answers its argument's first item. -/
namespace Gx
open PySem PySem.Spec PyProof.Rows L2 Evl
section
variable {P : Program} {w : World} {K : PySem.W.Frag}
theorem bindL_one {k : Str → Option NameKind} {nm : Str} {v : Value} (h : k nm = some .local) : bindL k [(nm, v)] (fun _ => none) nm = some v := by
  unfold bindL bindL
  rw [if_pos h]
  exact if_pos rfl
theorem low_call {x qual nm : Str} {st : Stmt} {f : Addr} {fd : FuncData} {p1 p2 p3 p4 : Pos} {c : Nat} (F : Fun K x qual st f fd) (S : FnScope [nm] [nm] (defScope st)) (bd : L2.Binds K fd [nm] [])
    (hb : defBody st = [.Return (some (.Subscript (.Name nm p1) (.Constant (.int 0) c p2) p3)) p4]) (hn : (defScope st).names.lookup nm = some .local) (hdb : (nm == ("__debug__" : Str)) = false)
    {A : Around} {E : Value → Shared → Prop} {s : Shared} {a : Addr} {its : Array Value} {v : Value} {d : PyData}
    (hk : K.In s.heap) (hl : s.heap.NoLimit) (hr : Room 1 A) (ht : IsTup s.heap a its) (h0 : its.toList[0]? = some v) (hv : Reads s.heap v d []) (hz : its.size ≤ sizeLine) :
    wpAny (model P w) A (call (.ref f) [.ref a]) (PySem.W.KeyPure d s) E s := by
  obtain ⟨oc, od, kV, doc, pm, an, cdv, ct, osl, rfl, lk, hcd⟩ := F.ex
  refine wpAny_call ?_
  refine codeAny_call_function hr.depth (hk _ _ lk) rfl S.co S.gen rfl (PySem.W.codeRec_of hk hcd) ?_
  have b := bd s [.ref a] hk rfl
  rw [List.append_nil] at b
  refine b _ _ _ _ ?_
  refine wpAny_newFunctionEnv_cells S.kind (fun y hy => ?_) fun en hen s1 ic => ?_
  · have : y = (nm, .ref a) := by simpa using hy
    subst this
    exact .inl hn
  · subst hen
    obtain ⟨h', tk, e1, kp⟩ := ic.done
    refine ⟨hl.keeps ic.toInCall.keep, codeAny_func ?_⟩
    show wpAny _ _ (execs (defBody st) _) _ _ _
    rw [hb]
    refine wpAny_execs_cons (wpAny_Return_some ?_)
    refine Subscript_Constant ?_
    have ns := ic.toInCall.ns
    refine wpAny_Name ?_ hdb
    subst e1
    dsimp only at ns
    refine wpAny_loadName_local (v := .ref a) S.kind hn ns ?_ ?_
    · exact bindL_one (k := Env.kindOf _) hn
    · refine wpAny_Constant_int ⟨"tuple", "tuple.__getitem__", slot_tuple_getitem.lookup, ?_, ?_⟩
      · obtain ⟨o, e, hc, _⟩ := ht
        exact ⟨o, kp _ _ e, hc⟩
      · have ht' : IsTup h' a its := by
          obtain ⟨o, e, hc, z⟩ := ht
          exact ⟨o, kp _ _ e, hc, z⟩
        have hs : 0 < its.toList.length := by
          cases q : its.toList with
          | nil => rw [q] at h0; cases h0
          | cons _ _ => simp
        rw [Array.length_toList] at hs
        have hn63 := line63
        refine getItem_tuple (j := 0) ht' (by omega) (by omega) (by show (if (decide (0 ≤ (0 : Int)) && decide ((0 : Int) < (its.size : Int))) = true then some (Int.toNat 0) else none) = some 0; rw [if_pos (by simp; omega)]; rfl) (by simpa using h0) ?_
        exact ⟨h', _, rfl, kp, PyProof.Rows.Reads.keeps kp hv⟩
/-- sorted(xs, key=f): the items' first items are ints -/
def rSortedLow (K : PySem.W.Frag) (f : Addr) : List V → List V → Hp → VK → Prop := fun vs zs H Q => ∃ (a : Addr) (ps : List (V × Int)), vs = [.ref a] ∧ zs = [.ref f] ∧ SqL K H a (ps.map (·.1)) ∧
  (∀ p ∈ ps, ∃ (t : Addr) (xs : List V), p.1 = .ref t ∧ SqT K H t (.int p.2 :: xs)) ∧
  ∀ p, H p = none → Q (.ref p) (upd H p (.lst ((ps.mergeSort fun x y => decide (x.2 ≤ y.2)).map (·.1))))
theorem each_vals {β : Type} (g : β → V) : ∀ {bs : List β} {us : List Value}, Vals (bs.map g) us → PySem.W.EachIs (fun u b => RelV (g b) u) us bs
  | [], _, h => by cases h; exact .nil
  | b :: bs, _, h => by
    cases h with
    | cons h1 h2 => exact .cons h1 (each_vals g h2)
theorem vals_each {β : Type} (g : β → V) : ∀ {bs : List β} {us : List Value}, PySem.W.EachIs (fun u b => RelV (g b) u) us bs → Vals (bs.map g) us
  | [], _, h => by cases h; exact .nil
  | b :: bs, _, h => by
    cases h with
    | cons h1 h2 => exact .cons h1 (vals_each g h2)
theorem cr_sortedLow {X : Cx} {x qual nm : Str} {st : Stmt} {f : Addr} {fd : FuncData} {p1 p2 p3 p4 : Pos} {c : Nat} (F : Fun X.K x qual st f fd) (S : FnScope [nm] [nm] (defScope st)) (bd : L2.Binds X.K fd [nm] [])
    (hb : defBody st = [.Return (some (.Subscript (.Name nm p1) (.Constant (.int 0) c p2) p3)) p4]) (hn : (defScope st).names.lookup nm = some .local) (hdb : (nm == ("__debug__" : Str)) = false)
    (hr : Room 3 X.A) : CallRK X (.builtin "sorted") [Str.ofString "key"] (rSortedLow X.K f) := by
  intro pins s σ H vs zs us ws Q I r rz h
  obtain ⟨a, ps, rfl, rfl, hs, ht, q⟩ := h
  obtain rfl := Vals.ref1 r
  obtain ⟨w1, rfl, e1⟩ := vals1 rz
  obtain rfl : w1 = Value.ref f := e1
  obtain ⟨its, rv, hl, hz⟩ := I.list hs
  have hz' : ps.length ≤ sizeLine := by simpa using hz
  have hu := hr.units
  refine PySem.W.sorted_key_data (β := V × Int) (R := fun u b => RelV b.1 u) (b := false) (fun b => .int b.2) hl.isList (each_vals _ rv) ?_ ?_ hz' ?_ (PyProof.Rows.ksk_s1 _ _) (fun _ => PyProof.Rows.ksk_l1 _ _) (fun _ => rfl) ?_ ?_
  · exact PySem.W.AllAlike.of fun _ _ => rfl
  · exact PySem.W.Sortable.others fun _ => ⟨(fun e => by cases e), fun _ e => (by cases e)⟩
  · intro x _
    have : (PyData.int x.2).depth = 0 := rfl
    omega
  · intro v x hR hx h tk kp
    obtain ⟨t, xs, e, hq⟩ := ht x hx
    rw [e] at hR
    obtain rfl : v = Value.ref t := hR
    obtain ⟨jts, rj, hj, hjz⟩ := I.tuple hq
    obtain ⟨u, us, rfl, ru, _⟩ : ∃ u us, jts = u :: us ∧ RelV (.int x.2) u ∧ Vals xs us := by
      cases rj with
      | cons h1 h2 => exact ⟨_, _, rfl, h1, h2⟩
    obtain ⟨tt, rfl⟩ := ru
    have hr2 : Room 1 X.A.in1.in1 := (show Room 2 X.A.in1 from hr.in1).in1
    refine low_call (s := { s with heap := h, toks := tk }) F S bd hb hn hdb (I.kIn.keeps kp) (I.nolimit.keeps kp) hr2 ?_ (its := (Value.int x.2 tt :: us).toArray) rfl (.int _ _) ?_
    · obtain ⟨o, e, hc, z⟩ := hj
      exact ⟨o, kp _ _ e, hc, z⟩
    · have := rj.length
      simp only [List.size_toArray]
      omega
  · intro out c h' tk kp fr he hlen hE
    have hv := vals_each (fun b : V × Int => b.1) hE
    have e : PySem.W.dataLe false (fun b : V × Int => PyData.int b.2) = fun x y => decide (x.2 ≤ y.2) := PySem.W.dataLe_int (fun b : V × Int => b.2)
    rw [e] at hv
    have hL : ((ps.mergeSort fun x y => decide (x.2 ≤ y.2)).map (·.1)).length ≤ sizeLine := by simpa using hz'
    exact ⟨.ref _, upd H (s.heap.objs.size + 1) (.lst ((ps.mergeSort fun x y => decide (x.2 ≤ y.2)).map (·.1))), I.laid (t' := tk) kp (Nat.le_succ _) ⟨hL, out, c, hv, he⟩, rfl, q _ (I.hok.fresh (Nat.le_succ _))⟩
end
end Gx

set_option Elab.async false
set_option linter.all false
set_option maxRecDepth 100000
set_option maxHeartbeats 400000
/-! isinstance of a caught error that has a field. -/
namespace Gx
open PySem PySem.Spec PyProof.Rows L2 Evl
theorem kind_ga : builtinKind "BaseException.__getattribute__" = some Manifest.AttrKind.slot := by decide +kernel
theorem split_ga : splitId "BaseException.__getattribute__" = some ("BaseException", "__getattribute__") := by decide +kernel
theorem class_of {prog : Program} {w : World} {A : Around} {E : Value → Shared → Prop} {s : Shared} {K : PySem.W.Frag} {x D : Addr} {ox od : Obj} {Q : Option Value → Shared → Prop}
    (c : ExcC K D) (kin : K.In s.heap) (I : PySem.W.InstAt s.heap x ox D (some od))
    (h : Q (some (.ref D)) { heap := s.heap, gens := s.gens, drawn := s.drawn, toks := s.toks + 1, os := s.os }) :
    wpAny (model prog w) A (getAttr? (.ref x) "__class__") Q E s := by
  have fo : PySem.W.findObj K D (some od) "__class__" = some (.bind (.builtin "getset_descriptor.__get__") (.builtin "object.__class__")) := by
    refine PySem.W.findObj_data ?_ c.ha c.hn c.ht
    obtain ⟨a, h1, _⟩ := PySem.W.any_some c.hd
    rw [h1]; rfl
  unfold getAttr? getAttrBy? getAttrBy
  refine wpAny_bind (wpAny_mkText ?_)
  refine wpAny_bind (wpAny_attempt (wpAny_holding (wpAny_bind (PySem.W.Looks.at I.type (wpAny_bind (PySem.W.Looks.at (PySem.W.looks_findIn kin c.hg) ?_))))))
  show wpAny _ _ (if _ then _ else _) _ _ _
  refine wpAny_ite_false (show decide ((true && (Value.builtin "BaseException.__getattribute__" == Value.builtin "object.__getattribute__")) = true) = false from by decide) ?_
  unfold getAttrByItsOwn hookBefore
  refine wpAny_bind (wpAny_ite ?_)
  rw [if_pos (show onTheHeap (.ref D) = true from rfl)]
  refine PySem.W.Looks.at (PySem.W.looks_findIn kin c.hk) ?_
  refine wpAny_bind (wpAny_attempt (wpAny_holding ?_))
  unfold callGetattribute
  refine wpAny_ite_false (by simp) ?_
  unfold boundAndCalled
  refine wpAny_bind (wpAny_of_eq (F.excAttr_ValueError.ga.bind _) ?_)
  show wpAny (model prog w) A (call (.builtin "BaseException.__getattribute__") [.ref x, .str "__class__" s.toks]) _ _ _
  refine wpAny_call (codeAny_call_builtin F.excAttr_ValueError.ga.plain F.entry_bexc_ga ?_)
  refine PySem.W.check_slot (i := "BaseException.__getattribute__") (self := .ref x) (rest := [.str "__class__" s.toks]) (kw := []) kind_ga split_ga (show PySem.W.Looks (model prog w) s.heap (isInstance (.ref x) (.type "BaseException")) true from PySem.W.Looks.andThen I.type (PySem.W.looks_subIn kin c.hs)) (F.args_bexc_ga _ _) ?_
  unfold Builtin.«object.__getattribute__»
  refine wpAny_bind (wpAny_of_eq (a := (Value.ref x, [Value.str "__class__" s.toks])) rfl ?_)
  refine wpAny_bind (wpAny_of_eq (a := ("__class__" : Str)) rfl ?_)
  refine wpAny_bind (PySem.W.Looks.at I.type (wpAny_bind (PySem.W.Looks.at (PySem.W.looks_find kin I fo) ?_)))
  unfold Builtin.ObjectAttr.bindTo
  refine wpAny_bind (wpAny_holding (wpAny_call (PySem.W.class_get kin I c.hm ?_)))
  exact wpAny_pure (wpAny_of_eq (PySem.W.handedOut_of rfl) (wpAny_pure h))
theorem kit_err {K : PySem.W.Frag} {x D : Addr} {ox od : Obj} (c : ExcC K D) : PySem.W.KitX K (.ref x) (.ref D) (fun h => PySem.W.InstAt h x ox D (some od) ∧ ∃ s : Shared, s.heap = h) where
  ty := fun _ _ _ h => h.1.type
  it := fun M h kin hh => by
    obtain ⟨_, s, rfl⟩ := hh
    exact PySem.W.mc_isType kin c.hd
  ne := fun h tp dd its n sl kin ht => by
    obtain ⟨cd, h1, _⟩ := PySem.W.any_some c.hd
    unfold PySem.W.clsIn at h1
    split at h1
    · rename_i l
      have := kin _ _ l
      refine beq_false_of_ne fun e => ?_
      cases e
      rw [ht] at this
      cases this
    · cases h1
  ca := fun kin hh q => class_of c kin hh.1 q
def rIsEd (K : PySem.W.Frag) (a : Addr) (cls : Value) (d : Option Addr) : List V → Hp → VK → Prop := fun xs H Q =>
  ∃ (c : V) (cv : Value) (b : Bool) (D dd : Addr) (fs : List (Str × V)), xs = [.ref a, c] ∧ (∀ u, RelV c u → u = cv) ∧ cls = .ref D ∧ d = some dd ∧ ExcC K D ∧ PySem.W.kitOne K (.ref D) cv = some b ∧ H dd = some (.xd fs) ∧ Q (.bl b) H
theorem call_isEd {X : Cx} {a : Addr} {cls : Value} {d : Option Addr} {oe : Obj} {pn : List (Addr × Obj)} (hz : Zc cls d oe) (hf : ∃ vs, oe.data = .fields vs) :
    CallR (X.suite a ((a, oe) :: pn)) (.builtin "isinstance") (rIsEd X.K a cls d) := by
  rintro pins s σ H xs us Q inv hv ⟨c, cv, b, D, dd, fs, rfl, hc, rfl, rfl, e, hk, hd, q⟩
  obtain ⟨mA, ns, _⟩ : ∃ mA, s.heap.Ns1 dd mA ∧ ∀ f : Str, RelO (List.lookup f fs) (mA f) := inv.hok _ _ hd
  obtain ⟨od, hod, _⟩ := L2.lookIn_ns ns
  have hp := inv.pin (a, oe) (by show (a, oe) ∈ ((a, oe) :: pn) ++ pins; exact List.mem_append_left _ List.mem_cons_self)
  obtain ⟨vs, hvs⟩ := hf
  have I : PySem.W.InstAt s.heap a oe D (some od) := by
    refine ⟨hp.1, hz.1, ?_, ?_⟩
    · unfold PySem.W.notCls; rw [hvs]
    · rw [hz.2]; exact hod
  cases hv with
  | cons r1 hv =>
    cases hv with
    | cons r2 hv =>
      cases hv
      cases r1
      have := hc _ r2
      subst this
      exact PySem.W.kia_one (kit_err e) inv.kIn ⟨I, s, rfl⟩ hk (by intro h; cases h) fun tk => ⟨_, H, inv.kept fun _ _ h => h, (show RelV (.bl b) (.bool b) from rfl), q⟩
end Gx

set_option Elab.async false
set_option linter.all false
set_option maxRecDepth 100000
set_option maxHeartbeats 4000000
/-! Targets that take a tuple or a list. -/
namespace Gx
open PySem PySem.Spec PyProof.Rows L2 Evl
theorem pg_or {X : Cx} {tg : Expr} {g1 g2 : TG} (h1 : PG X tg g1) (h2 : PG X tg g2) : PG X tg (fun v σ H Q => g1 v σ H Q ∨ g2 v σ H Q) :=
  ⟨fun pins s σ H v u Q I r h => h.elim (fun z => h1.run pins s σ H v u Q I r z) (fun z => h2.run pins s σ H v u Q I r z)⟩
end Gx

set_option linter.all false
/-! Stretches of integers, their lists in order: what is put together of them. -/
namespace Gx
abbrev Sx := Option Int × Option Int
namespace Spn
def has (p : Sx) (x : Int) : Prop := (∀ l, p.1 = some l → l ≤ x) ∧ (∀ h, p.2 = some h → x ≤ h)
def ok (p : Sx) : Prop := ∀ l h, p.1 = some l → p.2 = some h → l ≤ h
def hasL (s : List Sx) (x : Int) : Prop := ∃ p ∈ s, has p x
def Sep (p q : Sx) : Prop := ∃ h l, p.2 = some h ∧ q.1 = some l ∧ h + 1 < l
structure Canon (s : List Sx) : Prop where
  ok : ∀ p ∈ s, ok p
  sep : s.Pairwise Sep
theorem hasL_nil (x : Int) : ¬ hasL [] x := fun ⟨_, h, _⟩ => by cases h
theorem hasL_cons {p : Sx} {s : List Sx} {x : Int} : hasL (p :: s) x ↔ has p x ∨ hasL s x := by
  unfold hasL
  constructor
  · rintro ⟨q, hq, hx⟩
    rcases List.mem_cons.mp hq with rfl | hq
    · exact .inl hx
    · exact .inr ⟨q, hq, hx⟩
  · rintro (h | ⟨q, hq, hx⟩)
    · exact ⟨p, List.mem_cons_self, h⟩
    · exact ⟨q, List.mem_cons_of_mem _ hq, hx⟩
theorem hasL_append {s t : List Sx} {x : Int} : hasL (s ++ t) x ↔ hasL s x ∨ hasL t x := by
  induction s with
  | nil => simp [hasL_nil, hasL]
  | cons p s ih => rw [List.cons_append, hasL_cons, hasL_cons, ih, or_assoc]
theorem hasL_perm {s t : List Sx} (h : s.Perm t) {x : Int} : hasL s x ↔ hasL t x := by
  unfold hasL
  constructor
  · rintro ⟨p, hp, hx⟩; exact ⟨p, h.mem_iff.mp hp, hx⟩
  · rintro ⟨p, hp, hx⟩; exact ⟨p, h.mem_iff.mpr hp, hx⟩
theorem Canon.nil : Canon [] := ⟨by simp, .nil⟩
theorem Canon.tail {p : Sx} {s : List Sx} (h : Canon (p :: s)) : Canon s := ⟨fun q hq => h.ok q (List.mem_cons_of_mem _ hq), (List.pairwise_cons.mp h.sep).2⟩
theorem Canon.one {p : Sx} (h : Spn.ok p) : Canon [p] := ⟨by simpa using h, by simp⟩
theorem Canon.cons {p : Sx} {s : List Sx} (h : Spn.ok p) (h' : ∀ q ∈ s, Sep p q) (c : Canon s) : Canon (p :: s) :=
  ⟨fun q hq => by rcases List.mem_cons.mp hq with rfl | hq; exact h; exact c.ok q hq, List.pairwise_cons.mpr ⟨h', c.sep⟩⟩
theorem Sep.gt {p q : Sx} {x y : Int} (h : Sep p q) (hx : has p x) (hy : has q y) : x + 1 < y := by
  obtain ⟨a, b, e1, e2, e⟩ := h
  have := hx.2 a e1
  have := hy.1 b e2
  omega
theorem ok_has {p : Sx} (h : ok p) : ∃ x, has p x := by
  obtain ⟨l, u⟩ := p
  cases l with
  | some l => exact ⟨l, ⟨fun a e => (by cases e; omega), fun b e => h l b rfl e⟩⟩
  | none =>
    cases u with
    | some u => exact ⟨u, ⟨fun a e => (by cases e), fun b e => (by cases e; omega)⟩⟩
    | none => exact ⟨0, ⟨fun a e => (by cases e), fun b e => (by cases e)⟩⟩
/-- the low end of the first stretch bounds all -/
theorem Canon.low {p : Sx} {s : List Sx} {l x : Int} (c : Canon (p :: s)) (e : p.1 = some l) (h : hasL (p :: s) x) : l ≤ x := by
  rcases hasL_cons.mp h with h | ⟨q, hq, h⟩
  · exact h.1 l e
  · obtain ⟨a, b, e1, e2, e3⟩ := (List.pairwise_cons.mp c.sep).1 q hq
    have := h.1 b e2
    have := c.ok p List.mem_cons_self l a e e1
    omega
/-- what stands right behind the first stretch is in none -/
theorem Canon.behind {p : Sx} {s : List Sx} {u : Int} (c : Canon (p :: s)) (e : p.2 = some u) : ¬ hasL (p :: s) (u + 1) := by
  intro h
  rcases hasL_cons.mp h with h | ⟨q, hq, h⟩
  · have := h.2 u e; omega
  · obtain ⟨a, b, e1, e2, e3⟩ := (List.pairwise_cons.mp c.sep).1 q hq
    have := h.1 b e2
    rw [e] at e1; cases e1
    omega
theorem low_none {p q : Sx} {s t : List Sx} (c : Canon (p :: s)) (d : Canon (q :: t)) (h : ∀ x, hasL (p :: s) x → hasL (q :: t) x) (e : p.1 = none) : q.1 = none := by
  cases hq : q.1 with
  | none => rfl
  | some l =>
    exfalso
    obtain ⟨a, u⟩ := p
    dsimp only at e
    subst e
    cases u with
    | none =>
      have := d.low hq (h (l - 1) (hasL_cons.mpr (.inl ⟨fun _ z => (by cases z), fun _ z => (by cases z)⟩)))
      omega
    | some u =>
      have := d.low hq (h (min u (l - 1)) (hasL_cons.mpr (.inl ⟨fun _ z => (by cases z), fun _ z => (by cases z; omega)⟩)))
      omega
theorem low_le {p q : Sx} {s t : List Sx} {a b : Int} (c : Canon (p :: s)) (d : Canon (q :: t)) (h : ∀ x, hasL (p :: s) x → hasL (q :: t) x) (ea : p.1 = some a) (eb : q.1 = some b) : b ≤ a := by
  have hp : has p a := ⟨fun l z => by rw [ea] at z; cases z; omega, fun u z => c.ok p List.mem_cons_self a u ea z⟩
  exact d.low eb (h a (hasL_cons.mpr (.inl hp)))
theorem low_eq {p q : Sx} {s t : List Sx} (c : Canon (p :: s)) (d : Canon (q :: t)) (h : ∀ x, hasL (p :: s) x ↔ hasL (q :: t) x) : p.1 = q.1 := by
  cases e : p.1 with
  | none => exact (low_none c d (fun x => (h x).mp) e).symm
  | some a =>
    cases e' : q.1 with
    | none => rw [low_none d c (fun x => (h x).mpr) e'] at e; cases e
    | some b =>
      have h1 := low_le c d (fun x => (h x).mp) e e'
      have h2 := low_le d c (fun x => (h x).mpr) e' e
      congr 1; omega
theorem high_le {p q : Sx} {s t : List Sx} {u : Int} (c : Canon (p :: s)) (d : Canon (q :: t)) (h : ∀ x, hasL (p :: s) x ↔ hasL (q :: t) x) (e : q.2 = some u) : ∃ v, p.2 = some v ∧ v ≤ u := by
  have l := low_eq c d h
  have no : ¬ has p (u + 1) := fun z => d.behind e ((h _).mp (hasL_cons.mpr (.inl z)))
  have lo : ∀ a, p.1 = some a → a ≤ u := fun a ea => d.ok q List.mem_cons_self a u (by rw [← l]; exact ea) e
  cases hp : p.2 with
  | none => exact absurd ⟨fun a ea => by have := lo a ea; omega, fun b eb => by rw [hp] at eb; cases eb⟩ no
  | some v =>
    refine ⟨v, rfl, ?_⟩
    by_cases q : v ≤ u
    · exact q
    · exact absurd ⟨fun a ea => by have := lo a ea; omega, fun b eb => by rw [hp] at eb; cases eb; omega⟩ no
theorem high_eq {p q : Sx} {s t : List Sx} (c : Canon (p :: s)) (d : Canon (q :: t)) (h : ∀ x, hasL (p :: s) x ↔ hasL (q :: t) x) : p.2 = q.2 := by
  cases e : q.2 with
  | some u =>
    obtain ⟨v, e1, h1⟩ := high_le c d h e
    obtain ⟨u', e2, h2⟩ := high_le d c (fun x => (h x).symm) e1
    rw [e] at e2; cases e2
    rw [e1]; congr 1; omega
  | none =>
    cases e' : p.2 with
    | none => rfl
    | some v =>
      obtain ⟨u', e2, h2⟩ := high_le d c (fun x => (h x).symm) e'
      rw [e] at e2; cases e2
/-- lists of one and the same lot are the same -/
theorem canon_eq : ∀ {s t : List Sx}, Canon s → Canon t → (∀ x, hasL s x ↔ hasL t x) → s = t
  | [], [], _, _, _ => rfl
  | [], q :: t, _, d, h => by
    obtain ⟨x, hx⟩ := ok_has (d.ok q List.mem_cons_self)
    exact absurd ((h x).mpr (hasL_cons.mpr (.inl hx))) (hasL_nil x)
  | p :: s, [], c, _, h => by
    obtain ⟨x, hx⟩ := ok_has (c.ok p List.mem_cons_self)
    exact absurd ((h x).mp (hasL_cons.mpr (.inl hx))) (hasL_nil x)
  | p :: s, q :: t, c, d, h => by
    have e : p = q := Prod.ext (low_eq c d h) (high_eq c d h)
    subst e
    have cut : ∀ {s t : List Sx}, Canon (p :: s) → (∀ x, hasL (p :: s) x → hasL (p :: t) x) → ∀ x, hasL s x → hasL t x := fun {s t} c h x hx => by
      rcases hasL_cons.mp (h x (hasL_cons.mpr (.inr hx))) with z | z
      · obtain ⟨r, hr, y⟩ := hx
        have := ((List.pairwise_cons.mp c.sep).1 r hr).gt z y
        omega
      · exact z
    rw [canon_eq c.tail d.tail fun x => ⟨cut c (fun x => (h x).mp) x, cut d (fun x => (h x).mpr) x⟩]
-- ---- put in order and joined
def joinGo : Sx → List Sx → List Sx
  | c, [] => [c]
  | (f, none), _ :: _ => [(f, none)]
  | (f, some l), (none, none) :: r => joinGo (f, none) r
  | (f, some l), (none, some u) :: r => if u > l then joinGo (f, some u) r else joinGo (f, some l) r
  | (f, some l), (some a, u) :: r => if a > l + 1 then (f, some l) :: joinGo (some a, u) r else
      match u with
      | none => joinGo (f, none) r
      | some u => if u > l then joinGo (f, some u) r else joinGo (f, some l) r
/-- low ends, one behind the other -/
def lowLe (p q : Sx) : Prop := ∀ b, q.1 = some b → ∀ a, p.1 = some a → a ≤ b
def LowLe (p q : Sx) : Prop := lowLe p q ∧ (p.1 ≠ none → q.1 ≠ none)
theorem joinGo_low {a : Int} : ∀ {c : Sx} {r : List Sx}, (∃ b, c.1 = some b ∧ a ≤ b) → (∀ q ∈ r, ∃ b, q.1 = some b ∧ a ≤ b) → ∀ q ∈ joinGo c r, ∃ b, q.1 = some b ∧ a ≤ b
  | c, [], e, _, q, hq => by
    simp only [joinGo, List.mem_singleton] at hq
    subst hq
    exact e
  | (f, none), _ :: _, e, _, q, hq => by
    simp only [joinGo, List.mem_singleton] at hq
    subst hq
    exact e
  | (f, some l), (none, none) :: r, e, h, q, hq => by
    obtain ⟨b, z, _⟩ := h _ List.mem_cons_self
    cases z
  | (f, some l), (none, some u) :: r, e, h, q, hq => by
    obtain ⟨b, z, _⟩ := h _ List.mem_cons_self
    cases z
  | (f, some l), (some b, u) :: r, e, h, q, hq => by
    have hr : ∀ q ∈ r, ∃ b, q.1 = some b ∧ a ≤ b := fun q hq => h q (List.mem_cons_of_mem _ hq)
    obtain ⟨b', z, hb⟩ := h _ List.mem_cons_self
    cases z
    unfold joinGo at hq
    split at hq
    · rcases List.mem_cons.mp hq with rfl | hq
      · exact e
      · exact joinGo_low ⟨_, rfl, hb⟩ hr q hq
    · cases u with
      | none => exact joinGo_low (c := (f, none)) e hr q hq
      | some u =>
        dsimp only at hq
        split at hq
        · exact joinGo_low (c := (f, some u)) e hr q hq
        · exact joinGo_low (c := (f, some l)) e hr q hq
/-- in order of the low ends -/
def Low : Option Int → Option Int → Prop
  | none, _ => True
  | some _, none => False
  | some a, some b => a ≤ b
theorem Low.trans {a b c : Option Int} (h : Low a b) (h' : Low b c) : Low a c := by
  cases a <;> cases b <;> cases c <;> simp_all [Low]
  omega
def Ord (s : List Sx) : Prop := s.Pairwise fun p q => Low p.1 q.1
theorem has_same {f : Option Int} {l u x : Int} {a : Option Int} (hok : Spn.ok (a, some u)) (hul : ¬ u > l) (hlow : Low f a) (hal : ∀ b, a = some b → ¬ b > l + 1) :
    has (f, some l) x ↔ has (f, some l) x ∨ has (a, some u) x := by
  constructor
  · exact .inl
  · rintro (h | h)
    · exact h
    · refine ⟨fun c e => ?_, fun c e => ?_⟩
      · dsimp only at e; subst e
        cases a with
        | none => exact hlow.elim
        | some b => have := h.1 b rfl; have : c ≤ b := hlow; omega
      · cases e; have := h.2 u rfl; omega
theorem has_more {f : Option Int} {l x : Int} {u a : Option Int} (hul : ∀ v, u = some v → v > l) (hlow : Low f a) (hal : ∀ b, a = some b → ¬ b > l + 1) :
    has (f, u) x ↔ has (f, some l) x ∨ has (a, u) x := by
  constructor
  · intro h
    by_cases q : x ≤ l
    · exact .inl ⟨h.1, fun c e => by cases e; exact q⟩
    · refine .inr ⟨fun b e => ?_, h.2⟩
      have := hal b e
      omega
  · rintro (h | h)
    · exact ⟨h.1, fun c e => by have := hul c e; have := h.2 l rfl; omega⟩
    · refine ⟨fun c e => ?_, h.2⟩
      dsimp only at e; subst e
      cases a with
      | none => exact hlow.elim
      | some b => have := h.1 b rfl; have : c ≤ b := hlow; omega
theorem joinGo_ok : ∀ {c : Sx} {r : List Sx}, Spn.ok c → (∀ q ∈ r, Spn.ok q) → Ord (c :: r) → Canon (joinGo c r) ∧ ∀ x, hasL (joinGo c r) x ↔ hasL (c :: r) x
  | c, [], h, _, _ => by
    have e : joinGo c [] = [c] := by unfold joinGo; rfl
    rw [e]
    exact ⟨.one h, fun x => Iff.rfl⟩
  | (f, none), q :: r, h, hr, ho => by
    simp only [joinGo]
    refine ⟨.one h, fun x => ?_⟩
    rw [hasL_cons, hasL_cons]
    constructor
    · rintro (h | h)
      · exact .inl h
      · exact absurd h (hasL_nil x)
    · rintro (h | ⟨p, hp, hx⟩)
      · exact .inl h
      · refine .inl ⟨fun a e => ?_, fun a e => by cases e⟩
        have := (List.pairwise_cons.mp ho).1 p hp
        dsimp only at e this
        rw [e] at this
        obtain ⟨lo, hi⟩ := p
        cases lo with
        | none => exact this.elim
        | some b => have := hx.1 b rfl; have h2 : a ≤ b := by assumption
                    omega
  | (f, some l), (a, u) :: r, h, hr, ho => by
    have hr' : ∀ q ∈ r, Spn.ok q := fun q hq => hr q (List.mem_cons_of_mem _ hq)
    have hq : Spn.ok (a, u) := hr _ List.mem_cons_self
    obtain ⟨o1, o2⟩ := List.pairwise_cons.mp ho
    obtain ⟨o3, o4⟩ := List.pairwise_cons.mp o2
    have lo : Low f a := o1 _ List.mem_cons_self
    have ordf : ∀ v : Option Int, Ord ((f, v) :: r) := fun v => List.pairwise_cons.mpr ⟨fun p hp => lo.trans (o3 p hp), o4⟩
    -- the stretch grows
    have grow : (∀ b, a = some b → ¬ b > l + 1) → (∀ v, u = some v → v > l) → Canon (joinGo (f, u) r) ∧ ∀ x, hasL (joinGo (f, u) r) x ↔ hasL ((f, some l) :: (a, u) :: r) x := fun h1 h2 => by
      have okf : Spn.ok (f, u) := fun x y ex ey => by
        dsimp only at ex ey; subst ex; subst ey
        have := h x l rfl rfl
        have := h2 y rfl
        omega
      obtain ⟨c, m⟩ := joinGo_ok okf hr' (ordf u)
      refine ⟨c, fun x => ?_⟩
      rw [m, hasL_cons, hasL_cons, hasL_cons, ← or_assoc, ← has_more h2 lo h1]
    have stay : ∀ v, u = some v → (∀ b, a = some b → ¬ b > l + 1) → ¬ v > l → Canon (joinGo (f, some l) r) ∧ ∀ x, hasL (joinGo (f, some l) r) x ↔ hasL ((f, some l) :: (a, u) :: r) x := fun v e h1 h2 => by
      subst e
      obtain ⟨c, m⟩ := joinGo_ok h hr' (ordf (some l))
      refine ⟨c, fun x => ?_⟩
      rw [m, hasL_cons, hasL_cons, hasL_cons, ← or_assoc, ← has_same hq h2 lo h1]
    match a, u, lo, hq, o3, grow, stay with
    | none, none, _, _, _, grow, _ => exact grow (fun b e => (by cases e)) (fun v e => (by cases e))
    | none, some u, _, _, _, grow, stay =>
      unfold joinGo
      split
      · rename_i g
        exact grow (fun b e => by cases e) (fun v e => by cases e; exact g)
      · rename_i g
        exact stay u rfl (fun b e => by cases e) g
    | some a, u, lo, hq, o3, grow, stay =>
      unfold joinGo
      split
      · rename_i g
        obtain ⟨c, m⟩ := joinGo_ok hq hr' o2
        have lows := joinGo_low (a := a) (c := (some a, u)) (r := r) ⟨a, rfl, Int.le_refl a⟩ fun q hq => by
          have := o3 q hq
          cases e : q.1 with
          | none => rw [e] at this; exact this.elim
          | some b => rw [e] at this; exact ⟨b, rfl, this⟩
        refine ⟨.cons h (fun q hq => ?_) c, fun x => ?_⟩
        · obtain ⟨b, e, hb⟩ := lows q hq
          exact ⟨l, b, rfl, e, by omega⟩
        · rw [hasL_cons, m, hasL_cons (p := (f, some l))]
      · rename_i g
        cases u with
        | none => exact grow (fun b e => by cases e; exact g) (fun v e => by cases e)
        | some u =>
          dsimp only
          split
          · rename_i g'
            exact grow (fun b e => by cases e; exact g) (fun v e => by cases e; exact g')
          · rename_i g'
            exact stay u rfl (fun b e => by cases e; exact g) g'
/-- the low end, where there is one -/
def lowV (p : Sx) : Int := p.1.getD 0
def ordered (s : List Sx) : List Sx := s.filter (fun p => p.1.isNone) ++ (s.filter (fun p => p.1.isSome)).mergeSort (fun p q => decide (lowV p ≤ lowV q))
def joined (s : List Sx) : List Sx := if s.length < 2 then s else match ordered s with
  | [] => []
  | c :: r => joinGo c r
theorem ordered_perm (s : List Sx) : (ordered s).Perm s := by
  unfold ordered
  refine ((List.Perm.refl _).append (List.mergeSort_perm _ _)).trans ?_
  have e : s.filter (fun p => p.1.isSome) = s.filter (fun p => !(p.1.isNone)) := by
    congr 1; funext p; cases p.1 <;> rfl
  rw [e]
  exact List.filter_append_perm (fun p : Sx => p.1.isNone) s
theorem ordered_ord (s : List Sx) : Ord (ordered s) := by
  unfold ordered Ord
  rw [List.pairwise_append]
  refine ⟨?_, ?_, ?_⟩
  · refine List.Pairwise.imp_of_mem (R := fun _ _ => True) (fun {p q} hp hq _ => ?_) (List.pairwise_of_forall fun _ _ => trivial)
    have := (List.mem_filter.mp hp).2
    cases e : p.1 with
    | none => trivial
    | some a => rw [e] at this; cases this
  · have h := List.pairwise_mergeSort (le := fun p q : Sx => decide (lowV p ≤ lowV q)) (fun a b c h1 h2 => by simp at *; omega) (fun a b => by simp; omega) (s.filter (fun p => p.1.isSome))
    refine h.imp_of_mem ?_
    intro p q hp hq h
    have p1 := (List.mem_filter.mp (List.mem_mergeSort.mp hp)).2
    have q1 := (List.mem_filter.mp (List.mem_mergeSort.mp hq)).2
    obtain ⟨a, pu⟩ := p
    obtain ⟨b, qu⟩ := q
    cases a with
    | none => trivial
    | some a =>
      cases b with
      | none => cases q1
      | some b => exact (of_decide_eq_true h : a ≤ b)
  · intro p hp q hq
    have := (List.mem_filter.mp hp).2
    cases e : p.1 with
    | none => trivial
    | some a => rw [e] at this; cases this
theorem joined_ok {s : List Sx} (h : ∀ p ∈ s, Spn.ok p) : Canon (joined s) ∧ ∀ x, hasL (joined s) x ↔ hasL s x := by
  unfold joined
  split
  · rename_i hl
    match s, hl, h with
    | [], _, _ => exact ⟨.nil, fun x => Iff.rfl⟩
    | [p], _, h => exact ⟨.one (h p List.mem_cons_self), fun x => Iff.rfl⟩
    | _ :: _ :: _, hl, _ => simp at hl; omega
  · have hp := ordered_perm s
    have ho := ordered_ord s
    have hok : ∀ p ∈ ordered s, Spn.ok p := fun p z => h p (hp.mem_iff.mp z)
    generalize ordered s = o at hp ho hok ⊢
    cases o with
    | nil => exact ⟨.nil, fun x => hasL_perm hp⟩
    | cons c r =>
      obtain ⟨cc, m⟩ := joinGo_ok (hok c List.mem_cons_self) (fun q hq => hok q (List.mem_cons_of_mem _ hq)) ho
      exact ⟨cc, fun x => (m x).trans (hasL_perm hp)⟩
theorem joinGo_len : ∀ (c : Sx) (r : List Sx), (joinGo c r).length ≤ r.length + 1
  | c, [] => by rw [joinGo]; simp
  | (f, none), _ :: _ => by rw [joinGo]; simp
  | (f, some l), (none, none) :: r => by rw [joinGo]; have := joinGo_len (f, none) r; simp; omega
  | (f, some l), (none, some u) :: r => by
    rw [joinGo]
    have h1 := joinGo_len (f, some u) r
    have h2 := joinGo_len (f, some l) r
    split <;> (simp only [List.length_cons]; omega)
  | (f, some l), (some a, u) :: r => by
    have h0 := joinGo_len (some a, u) r
    have h1 := joinGo_len (f, none) r
    have h2 := joinGo_len (f, some l) r
    conv => lhs; unfold joinGo
    split
    · simp only [List.length_cons]; omega
    · cases u with
      | none => simp only [List.length_cons]; omega
      | some u =>
        have h3 := joinGo_len (f, some u) r
        dsimp only
        split <;> (simp only [List.length_cons]; omega)
theorem joined_len (s : List Sx) : (joined s).length ≤ s.length := by
  unfold joined
  split
  · exact Nat.le_refl _
  · have hp := (ordered_perm s).length_eq
    cases e : ordered s with
    | nil => simp
    | cons c r =>
      rw [e] at hp
      have := joinGo_len c r
      simp at hp
      dsimp only
      omega
-- ---- what lies between
def betw (s : List Sx) : List Sx := (s.zip s.tail).map fun z => (z.1.2.map (· + 1), z.2.1.map (· - 1))
def below (s : List Sx) : List Sx := match s.head? with
  | some (some l, _) => [(none, some (l - 1))]
  | _ => []
def above (s : List Sx) : List Sx := match s.getLast? with
  | some (_, some h) => [(some (h + 1), none)]
  | _ => []
def gaps (s : List Sx) : List Sx := if s = [] then [(none, none)] else below s ++ betw s ++ above s
def gapsGo : Sx → List Sx → List Sx
  | p, [] => match p.2 with
    | none => []
    | some h => [(some (h + 1), none)]
  | p, q :: r => (p.2.map (· + 1), q.1.map (· - 1)) :: gapsGo q r
theorem gapsGo_eq : ∀ (p : Sx) (r : List Sx), gapsGo p r = betw (p :: r) ++ above (p :: r)
  | (a, none), [] => rfl
  | (a, some h), [] => rfl
  | p, q :: r => by
    unfold gapsGo
    rw [gapsGo_eq q r]
    have e : betw (p :: q :: r) = (p.2.map (· + 1), q.1.map (· - 1)) :: betw (q :: r) := rfl
    have e2 : above (p :: q :: r) = above (q :: r) := by
      unfold above
      rw [List.getLast?_cons_cons]
    rw [e, e2]
    rfl
theorem gapsGo_ok : ∀ {p : Sx} {r : List Sx}, Canon (p :: r) → Canon (gapsGo p r) ∧ (∀ q ∈ gapsGo p r, ∃ h l, p.2 = some h ∧ q.1 = some l ∧ h < l) ∧
    ∀ x, hasL (gapsGo p r) x ↔ (∃ h, p.2 = some h ∧ h < x) ∧ ¬ hasL r x
  | (a, none), [], c => by
    refine ⟨.nil, fun q hq => (by cases hq), fun x => ⟨fun h => absurd h (hasL_nil x), fun h => ?_⟩⟩
    obtain ⟨⟨b, e, _⟩, _⟩ := h
    cases e
  | (a, some h), [], c => by
    have e : gapsGo (a, some h) [] = [(some (h + 1), none)] := rfl
    rw [e]
    refine ⟨.one fun x y e1 e2 => (by cases e2), fun q hq => ?_, fun x => ?_⟩
    · rw [List.mem_singleton] at hq; subst hq
      exact ⟨h, h + 1, rfl, rfl, by omega⟩
    · rw [hasL_cons]
      constructor
      · rintro (z | z)
        · exact ⟨⟨h, rfl, by have := z.1 _ rfl; omega⟩, hasL_nil x⟩
        · exact absurd z (hasL_nil x)
      · rintro ⟨⟨b, e, hb⟩, _⟩
        cases e
        exact .inl ⟨fun y e => (by cases e; omega), fun y e => by cases e⟩
  | p, q :: r, c => by
    obtain ⟨h, l, e1, e2, hl⟩ := (List.pairwise_cons.mp c.sep).1 q List.mem_cons_self
    obtain ⟨cc, lows, m⟩ := gapsGo_ok c.tail
    have okq := c.ok q (List.mem_cons_of_mem _ List.mem_cons_self)
    have e : gapsGo p (q :: r) = (some (h + 1), some (l - 1)) :: gapsGo q r := by
      rw [gapsGo, e1, e2]; rfl
    rw [e]
    refine ⟨.cons (fun x y ex ey => by cases ex; cases ey; omega) (fun z hz => ?_) cc, fun z hz => ?_, fun x => ?_⟩
    · obtain ⟨h', l', g1, g2, g3⟩ := lows z hz
      have := okq l h' e2 g1
      exact ⟨l - 1, l', rfl, g2, by omega⟩
    · rcases List.mem_cons.mp hz with rfl | hz
      · exact ⟨h, h + 1, e1, rfl, by omega⟩
      · obtain ⟨h', l', g1, g2, g3⟩ := lows z hz
        have := okq l h' e2 g1
        exact ⟨h, l', e1, g2, by omega⟩
    · rw [hasL_cons, hasL_cons, m]
      constructor
      · rintro (z | ⟨⟨h', g1, g2⟩, z⟩)
        · have z1 := z.1 _ rfl
          have z2 := z.2 _ rfl
          refine ⟨⟨h, e1, by omega⟩, ?_⟩
          rintro (y | y)
          · have := y.1 l e2; omega
          · have := c.tail.low e2 (hasL_cons.mpr (.inr y)); omega
        · have := okq l h' e2 g1
          refine ⟨⟨h, e1, by omega⟩, ?_⟩
          rintro (y | y)
          · have := y.2 h' g1; omega
          · exact z y
      · rintro ⟨⟨h', g1, g2⟩, z⟩
        rw [e1] at g1; cases g1
        by_cases k : x < l
        · exact .inl ⟨fun y e => (by cases e; omega), fun y e => by cases e; omega⟩
        · refine .inr ⟨?_, fun y => z (.inr y)⟩
          cases hq : q.2 with
          | none => exact absurd (.inl ⟨fun y e => (by rw [e2] at e; cases e; omega), fun y e => by rw [hq] at e; cases e⟩) z
          | some u =>
            refine ⟨u, rfl, ?_⟩
            by_cases k2 : u < x
            · exact k2
            · exact absurd (.inl ⟨fun y e => (by rw [e2] at e; cases e; omega), fun y e => by rw [hq] at e; cases e; omega⟩) z
theorem gaps_ok {s : List Sx} (c : Canon s) : Canon (gaps s) ∧ ∀ x, hasL (gaps s) x ↔ ¬ hasL s x := by
  match s, c with
  | [], _ =>
    have e : gaps [] = [(none, none)] := rfl
    rw [e]
    refine ⟨.one fun x y e1 e2 => (by cases e1), fun x => ⟨fun _ => hasL_nil x, fun _ => ⟨_, List.mem_cons_self, fun y e => (by cases e), fun y e => by cases e⟩⟩⟩
  | p :: r, c =>
    obtain ⟨cc, lows, m⟩ := gapsGo_ok c
    have e : gaps (p :: r) = below (p :: r) ++ gapsGo p r := by
      unfold gaps
      rw [if_neg (by simp), List.append_assoc, gapsGo_eq]
    rw [e]
    obtain ⟨a, u⟩ := p
    cases a with
    | none =>
      have e : below ((none, u) :: r) = [] := rfl
      rw [e, List.nil_append]
      refine ⟨cc, fun x => ?_⟩
      rw [m, hasL_cons]
      constructor
      · rintro ⟨⟨h, e, hx⟩, z⟩
        rintro (y | y)
        · have := y.2 h e; omega
        · exact z y
      · intro z
        refine ⟨?_, fun y => z (.inr y)⟩
        cases u with
        | none => exact absurd (.inl ⟨fun y e => (by cases e), fun y e => by cases e⟩) z
        | some u =>
          refine ⟨u, rfl, ?_⟩
          by_cases k2 : u < x
          · exact k2
          · exact absurd (.inl ⟨fun y e => (by cases e), fun y e => by cases e; omega⟩) z
    | some a =>
      have e : below ((some a, u) :: r) = [(none, some (a - 1))] := rfl
      rw [e]
      have okp := c.ok _ List.mem_cons_self
      refine ⟨.cons (fun x y ex ey => by cases ex) (fun z hz => ?_) cc, fun x => ?_⟩
      · obtain ⟨h, l, g1, g2, g3⟩ := lows z hz
        have := okp a h rfl g1
        exact ⟨a - 1, l, rfl, g2, by omega⟩
      · rw [List.singleton_append, hasL_cons, m, hasL_cons]
        constructor
        · rintro (z | ⟨⟨h, e, hx⟩, z⟩)
          · have := z.2 _ rfl
            rintro (y | y)
            · have := y.1 a rfl; omega
            · have := c.low rfl (hasL_cons.mpr (.inr y)); omega
          · rintro (y | y)
            · have := y.2 h e; omega
            · exact z y
        · intro z
          by_cases k : x < a
          · exact .inl ⟨fun y e => (by cases e), fun y e => by cases e; omega⟩
          · refine .inr ⟨?_, fun y => z (.inr y)⟩
            cases u with
            | none => exact absurd (.inl ⟨fun y e => (by cases e; omega), fun y e => by cases e⟩) z
            | some u =>
              refine ⟨u, rfl, ?_⟩
              by_cases k2 : u < x
              · exact k2
              · exact absurd (.inl ⟨fun y e => (by cases e; omega), fun y e => by cases e; omega⟩) z
-- ---- what both have
def later : Option Int → Option Int → Option Int
  | none, b => b
  | some a, none => some a
  | some a, some b => some (if b > a then b else a)
def earlier : Option Int → Option Int → Bool
  | none, _ => false
  | some _, none => true
  | some a, some b => decide (a < b)
def stands : Sx → Bool
  | (some a, some b) => decide (a ≤ b)
  | _ => true
def met : List Sx → List Sx → List Sx
  | [], _ => []
  | _ :: _, [] => []
  | a :: s, b :: t =>
    if earlier a.2 b.2 = true then (if stands (later a.1 b.1, a.2) = true then [(later a.1 b.1, a.2)] else []) ++ met s (b :: t)
    else (if stands (later a.1 b.1, b.2) = true then [(later a.1 b.1, b.2)] else []) ++ met (a :: s) t
termination_by s t => s.length + t.length
theorem later_le {a b : Option Int} {x : Int} : (∀ l, later a b = some l → l ≤ x) ↔ (∀ l, a = some l → l ≤ x) ∧ (∀ l, b = some l → l ≤ x) := by
  cases a with
  | none => simp [later]
  | some a =>
    cases b with
    | none => simp [later]
    | some b =>
      simp only [later, Option.some.injEq, forall_eq']
      split <;> omega
theorem stands_iff {p : Sx} : stands p = true ↔ ok p := by
  obtain ⟨a, b⟩ := p
  cases a <;> cases b <;> simp [stands, ok]
theorem one_has {p : Sx} {x : Int} : hasL (if stands p = true then [p] else []) x ↔ has p x := by
  split
  · rw [hasL_cons]
    exact ⟨fun h => h.elim id fun h => absurd h (hasL_nil x), .inl⟩
  · rename_i h
    refine ⟨fun z => absurd z (hasL_nil x), fun z => absurd (stands_iff.mpr fun l u e1 e2 => ?_) h⟩
    have := z.1 l e1
    have := z.2 u e2
    omega
theorem met_low : ∀ {s t : List Sx} {q : Sx}, q ∈ met s t → ∃ a ∈ s, ∃ b ∈ t, q.1 = later a.1 b.1 ∧ ok q
  | [], t, q, h => by unfold met at h; cases h
  | a :: s, [], q, h => by unfold met at h; cases h
  | a :: s, b :: t, q, h => by
    unfold met at h
    split at h
    · rcases List.mem_append.mp h with h | h
      · split at h
        · rename_i k
          rw [List.mem_singleton] at h; subst h
          exact ⟨a, List.mem_cons_self, b, List.mem_cons_self, rfl, stands_iff.mp k⟩
        · cases h
      · obtain ⟨a', ha, b', hb, e⟩ := met_low h
        exact ⟨a', List.mem_cons_of_mem _ ha, b', hb, e⟩
    · rcases List.mem_append.mp h with h | h
      · split at h
        · rename_i k
          rw [List.mem_singleton] at h; subst h
          exact ⟨a, List.mem_cons_self, b, List.mem_cons_self, rfl, stands_iff.mp k⟩
        · cases h
      · obtain ⟨a', ha, b', hb, e⟩ := met_low h
        exact ⟨a', ha, b', List.mem_cons_of_mem _ hb, e⟩
termination_by s t => s.length + t.length
theorem later_ge {a b : Option Int} {l : Int} (h : later a b = some l) : (∀ x, a = some x → x ≤ l) ∧ (∀ x, b = some x → x ≤ l) := later_le.mp fun y e => by rw [h] at e; cases e; exact Int.le_refl _
theorem later_none {a b : Option Int} (h : later a b = none) : a = none ∧ b = none := by
  cases a <;> cases b <;> simp_all [later]
theorem cons_canon {p : Sx} {s : List Sx} (h : ∀ q ∈ s, Sep p q) (c : Canon s) : Canon ((if stands p = true then [p] else []) ++ s) := by
  split
  · rename_i k
    exact .cons (stands_iff.mp k) h c
  · exact c
theorem met_ok : ∀ {s t : List Sx}, Canon s → Canon t → Canon (met s t) ∧ ∀ x, hasL (met s t) x ↔ hasL s x ∧ hasL t x
  | [], t, _, _ => by
    have e : met [] t = [] := by unfold met; rfl
    rw [e]
    exact ⟨.nil, fun x => ⟨fun h => absurd h (hasL_nil x), fun h => absurd h.1 (hasL_nil x)⟩⟩
  | a :: s, [], _, _ => by
    have e : met (a :: s) [] = [] := by unfold met; rfl
    rw [e]
    exact ⟨.nil, fun x => ⟨fun h => absurd h (hasL_nil x), fun h => absurd h.2 (hasL_nil x)⟩⟩
  | a :: s, b :: t, c, d => by
    unfold met
    split
    · rename_i k
      obtain ⟨cc, m⟩ := met_ok c.tail d
      obtain ⟨h, eh⟩ : ∃ h, a.2 = some h := by
        cases e : a.2 with
        | none => rw [e] at k; cases k
        | some h => exact ⟨h, rfl⟩
      have kb : ∀ u, b.2 = some u → h < u := fun u e => by rw [eh, e] at k; exact of_decide_eq_true k
      refine ⟨cons_canon (fun q hq => ?_) cc, fun x => ?_⟩
      · obtain ⟨a', ha, b', hb, e, o⟩ := met_low hq
        obtain ⟨h', l, e1, e2, e3⟩ := (List.pairwise_cons.mp c.sep).1 a' ha
        rw [eh] at e1; cases e1
        cases e4 : q.1 with
        | none => rw [e4] at e; rw [(later_none e.symm).1] at e2; cases e2
        | some m =>
          have := (later_ge (e.symm.trans e4)).1 l e2
          exact ⟨h, m, eh, e4, by omega⟩
      · rw [hasL_append, one_has, m, hasL_cons (p := a), hasL_cons (p := b)]
        have l : has (later a.1 b.1, a.2) x ↔ has a x ∧ (has b x ∨ hasL t x) := by
          constructor
          · intro z
            have z1 := later_le.mp z.1
            have zh := z.2 h eh
            exact ⟨⟨z1.1, z.2⟩, .inl ⟨z1.2, fun u e => by have := kb u e; omega⟩⟩
          · rintro ⟨z, y | y⟩
            · exact ⟨later_le.mpr ⟨z.1, y.1⟩, z.2⟩
            · obtain ⟨q, hq, y⟩ := y
              obtain ⟨u, l, e1, e2, e3⟩ := (List.pairwise_cons.mp d.sep).1 q hq
              have := y.1 l e2
              have := z.2 h eh
              have := kb u e1
              omega
        rw [l]
        constructor
        · rintro (⟨z, y⟩ | ⟨z, y⟩)
          · exact ⟨.inl z, y⟩
          · exact ⟨.inr z, y⟩
        · rintro ⟨z | z, y⟩
          · exact .inl ⟨z, y⟩
          · exact .inr ⟨z, y⟩
    · rename_i k
      obtain ⟨cc, m⟩ := met_ok c d.tail
      have kb : ∀ u, b.2 = some u → ∀ h, a.2 = some h → u ≤ h := fun u e h e' => by
        rw [e', e] at k
        simp only [earlier, decide_eq_true_eq] at k
        omega
      have kn : b.2 = none → a.2 = none := fun e => by
        cases e' : a.2 with
        | none => rfl
        | some h => rw [e', e] at k; exact absurd rfl k
      refine ⟨cons_canon (fun q hq => ?_) cc, fun x => ?_⟩
      · obtain ⟨a', ha, b', hb, e, o⟩ := met_low hq
        obtain ⟨h', l, e1, e2, e3⟩ := (List.pairwise_cons.mp d.sep).1 b' hb
        cases e4 : q.1 with
        | none => rw [e4] at e; rw [(later_none e.symm).2] at e2; cases e2
        | some m =>
          have := (later_ge (e.symm.trans e4)).2 l e2
          exact ⟨h', m, e1, e4, by omega⟩
      · rw [hasL_append, one_has, m, hasL_cons (p := a), hasL_cons (p := b)]
        have l : has (later a.1 b.1, b.2) x ↔ (has a x ∨ hasL s x) ∧ has b x := by
          constructor
          · intro z
            have z1 := later_le.mp z.1
            refine ⟨.inl ⟨z1.1, fun u e => ?_⟩, ⟨z1.2, z.2⟩⟩
            cases e' : b.2 with
            | none => rw [kn e'] at e; cases e
            | some v => have := z.2 v e'; have := kb v e' u e; omega
          · rintro ⟨y | y, z⟩
            · exact ⟨later_le.mpr ⟨y.1, z.1⟩, z.2⟩
            · obtain ⟨q, hq, y⟩ := y
              obtain ⟨u, l, e1, e2, e3⟩ := (List.pairwise_cons.mp c.sep).1 q hq
              have := y.1 l e2
              cases e' : b.2 with
              | none => rw [kn e'] at e1; cases e1
              | some v => have := z.2 v e'; have := kb v e' u e1; omega
        rw [l]
        constructor
        · rintro (⟨z, y⟩ | ⟨z, y⟩)
          · exact ⟨z, .inl y⟩
          · exact ⟨z, .inr y⟩
        · rintro ⟨z, y | y⟩
          · exact .inl ⟨z, y⟩
          · exact .inr ⟨z, y⟩
termination_by s t => s.length + t.length
theorem met_cons (a b : Sx) (s t : List Sx) : met (a :: s) (b :: t) =
    if earlier a.2 b.2 = true then (if stands (later a.1 b.1, a.2) = true then [(later a.1 b.1, a.2)] else []) ++ met s (b :: t)
    else (if stands (later a.1 b.1, b.2) = true then [(later a.1 b.1, b.2)] else []) ++ met (a :: s) t := by
  conv => lhs; unfold met
theorem met_nil (t : List Sx) : met [] t = [] := by unfold met; rfl
theorem met_nil' (s : List Sx) : met s [] = [] := by cases s <;> (unfold met; rfl)
theorem met_len : ∀ (s t : List Sx), (met s t).length ≤ s.length + t.length
  | [], t => by rw [met_nil]; simp
  | a :: s, [] => by rw [met_nil']; simp
  | a :: s, b :: t => by
    rw [met_cons]
    have h1 := met_len s (b :: t)
    have h2 := met_len (a :: s) t
    simp only [List.length_cons] at h1 h2 ⊢
    split
    · split <;> (simp only [List.length_append, List.length_cons, List.length_nil]; omega)
    · split <;> (simp only [List.length_append, List.length_cons, List.length_nil]; omega)
termination_by s t => s.length + t.length
theorem gaps_len (s : List Sx) : (gaps s).length ≤ s.length + 1 := by
  unfold gaps
  split
  · simp
  · rename_i h
    have h1 : (below s).length ≤ 1 := by unfold below; split <;> simp
    have h2 : (above s).length ≤ 1 := by unfold above; split <;> simp
    have h3 : (betw s).length = s.length - 1 := by unfold betw; rw [List.length_map, List.length_zip, List.length_tail]; omega
    have h4 : 0 < s.length := by cases s with | nil => exact absurd rfl h | cons _ _ => simp
    simp only [List.length_append]
    omega
-- ---- x in it, by the first stretch that does not end below x
def leO (l : Option Int) (x : Int) : Bool := match l with
  | none => true
  | some l => decide (l ≤ x)
def geO (h : Option Int) (x : Int) : Bool := match h with
  | none => true
  | some h => decide (x ≤ h)
theorem leO_iff {l : Option Int} {x : Int} : leO l x = true ↔ ∀ a, l = some a → a ≤ x := by cases l <;> simp [leO]
theorem geO_iff {l : Option Int} {x : Int} : geO l x = true ↔ ∀ a, l = some a → x ≤ a := by cases l <;> simp [geO]
def holds : List Sx → Int → Bool
  | [], _ => false
  | (l, h) :: r, x => if geO h x = true then leO l x else holds r x
theorem holds_iff : ∀ {s : List Sx} {x : Int}, Canon s → (holds s x = true ↔ hasL s x)
  | [], x, _ => ⟨fun h => (by cases h), fun h => absurd h (hasL_nil x)⟩
  | (l, h) :: r, x, c => by
    unfold holds
    rw [hasL_cons]
    split
    · rename_i k
      have hk := geO_iff.mp k
      rw [leO_iff]
      constructor
      · intro z; exact .inl ⟨z, hk⟩
      · rintro (z | ⟨q, hq, z⟩)
        · exact z.1
        · obtain ⟨u, a, e1, e2, e3⟩ := (List.pairwise_cons.mp c.sep).1 q hq
          have := z.1 a e2
          have := hk u e1
          intro b e
          have := c.ok _ List.mem_cons_self b u e e1
          dsimp only at *
          omega
    · rename_i k
      rw [holds_iff c.tail]
      constructor
      · exact .inr
      · rintro (z | z)
        · exact absurd (geO_iff.mpr z.2) k
        · exact z
-- ---- the laws' own words
def lies (s : List Sx) (i : Int) : Bool := s.any fun p => leO p.1 i && geO p.2 i
theorem lies_iff {s : List Sx} {i : Int} : lies s i = true ↔ hasL s i := by
  unfold lies hasL has
  rw [List.any_eq_true]
  constructor
  · rintro ⟨p, hp, h⟩
    rw [Bool.and_eq_true, leO_iff, geO_iff] at h
    exact ⟨p, hp, h⟩
  · rintro ⟨p, hp, h⟩
    refine ⟨p, hp, ?_⟩
    rw [Bool.and_eq_true, leO_iff, geO_iff]
    exact h
theorem lies_false {s : List Sx} {i : Int} : lies s i = false ↔ ¬ hasL s i := by
  rw [← lies_iff]; simp
def e3 : Option Int → List Int
  | none => []
  | some x => [x - 1, x, x + 1]
def e6 (p : Sx) : List Int := e3 p.1 ++ e3 p.2
def endsOf (s : List Sx) : List Int := [-(10 ^ 59), -1, 0, 1, 10 ^ 59] ++ s.flatMap e6
def Bnd (s : List Sx) : Prop := ∀ p ∈ s, (∀ l, p.1 = some l → -(10 ^ 50) ≤ l ∧ l ≤ 10 ^ 50) ∧ (∀ h, p.2 = some h → -(10 ^ 50) ≤ h ∧ h ≤ 10 ^ 50)
theorem edge {S : Int → Prop} : ∀ (k : Nat) (x w : Int), (x - w).toNat = k → w < x → S x → ¬ S w → ∃ z, S z ∧ ¬ S (z - 1)
  | 0, x, w, e, h, _, _ => by omega
  | k + 1, x, w, e, h, hx, hw => by
    by_cases g : S (x - 1)
    · have ne : w ≠ x - 1 := fun z => by subst z; exact hw g
      exact edge k (x - 1) w (by omega) (by omega) g hw
    · exact ⟨x, hx, g⟩
theorem mem_e3 {x : Int} {o : Option Int} (h : o = some x) : x ∈ e3 o ∧ x + 1 ∈ e3 o := by subst h; simp [e3]
theorem mem_ends {s : List Sx} {p : Sx} {x : Int} (hp : p ∈ s) (h : x ∈ e3 p.1 ∨ x ∈ e3 p.2) : x ∈ endsOf s := by
  unfold endsOf
  refine List.mem_append_right _ (List.mem_flatMap.mpr ⟨p, hp, List.mem_append.mpr h⟩)
theorem ends_len : ∀ (s : List Sx) (m : Nat), ((s.take m).flatMap e6).length ≤ 6 * s.length
  | [], m => by simp
  | p :: s, 0 => by simp
  | p :: s, m + 1 => by
    have h := ends_len s m
    have h1 : ∀ o : Option Int, (e3 o).length ≤ 3 := fun o => by cases o <;> simp [e3]
    have := h1 p.1
    have := h1 p.2
    simp only [List.take_succ_cons, List.flatMap_cons, List.length_append, List.length_cons, e6] at *
    omega
/-- what is in s and not in r is so at some end -/
theorem witness {s r : List Sx} (bs : Bnd s) (br : Bnd r) {x : Int} (h1 : hasL s x) (h2 : ¬ hasL r x) : ∃ n ∈ endsOf (s ++ r), hasL s n ∧ ¬ hasL r n := by
  by_cases h : ∃ w, w < x ∧ ¬ (hasL s w ∧ ¬ hasL r w)
  · obtain ⟨w, hw, h⟩ := h
    obtain ⟨z, ⟨hz1, hz2⟩, hz⟩ := edge (S := fun i => hasL s i ∧ ¬ hasL r i) _ x w rfl hw ⟨h1, h2⟩ h
    refine ⟨z, ?_, hz1, hz2⟩
    by_cases g : hasL s (z - 1)
    · have g2 : hasL r (z - 1) := Classical.byContradiction fun n => hz ⟨g, n⟩
      obtain ⟨q, hq, y⟩ := g2
      have : ∃ u, q.2 = some u ∧ z = u + 1 := by
        cases e : q.2 with
        | none => exact absurd ⟨q, hq, fun l el => (by have := y.1 l el; omega), fun u eu => by rw [e] at eu; cases eu⟩ hz2
        | some u =>
          refine ⟨u, rfl, ?_⟩
          have := y.2 u e
          by_cases k : z ≤ u
          · exact absurd ⟨q, hq, fun l el => (by have := y.1 l el; omega), fun u' eu => by rw [e] at eu; cases eu; exact k⟩ hz2
          · omega
      obtain ⟨u, eu, rfl⟩ := this
      exact mem_ends (List.mem_append_right _ hq) (.inr (mem_e3 eu).2)
    · obtain ⟨p, hp, y⟩ := hz1
      have : p.1 = some z := by
        cases e : p.1 with
        | none => exact absurd ⟨p, hp, fun l el => (by rw [e] at el; cases el), fun u eu => by have := y.2 u eu; omega⟩ g
        | some l =>
          have := y.1 l e
          by_cases k : l ≤ z - 1
          · exact absurd ⟨p, hp, fun l' el => (by rw [e] at el; cases el; exact k), fun u eu => by have := y.2 u eu; omega⟩ g
          · congr 1; omega
      exact mem_ends (List.mem_append_left _ hp) (.inl (mem_e3 this).1)
  · have all : ∀ w, w < x → hasL s w ∧ ¬ hasL r w := fun w hw => Classical.byContradiction fun n => h ⟨w, hw, n⟩
    refine ⟨-(10 ^ 59), by unfold endsOf; simp, ?_⟩
    by_cases hx : -(10 ^ 59) < x
    · exact all _ hx
    · obtain ⟨p, hp, y⟩ := h1
      obtain ⟨b1, b2⟩ := bs p hp
      refine ⟨⟨p, hp, fun l el => (by have := b1 l el; have := y.1 l el; omega), fun u eu => by have := b2 u eu; omega⟩, ?_⟩
      rintro ⟨q, hq, z⟩
      obtain ⟨c1, c2⟩ := br q hq
      exact h2 ⟨q, hq, fun l el => (by have := c1 l el; have := z.1 l el; omega), fun u eu => by have := c2 u eu; omega⟩
theorem canon_apart : ∀ {r : List Sx}, Canon r → ∀ {p q : Sx}, p ∈ r → q ∈ r → p = q ∨ Sep p q ∨ Sep q p
  | [], _, p, q, h, _ => by cases h
  | a :: r, c, p, q, hp, hq => by
    obtain ⟨h1, h2⟩ := List.pairwise_cons.mp c.sep
    rcases List.mem_cons.mp hp with e | hp'
    · rcases List.mem_cons.mp hq with e' | hq'
      · exact .inl (e.trans e'.symm)
      · subst e; exact .inr (.inl (h1 q hq'))
    · rcases List.mem_cons.mp hq with e' | hq'
      · subst e'; exact .inr (.inr (h1 p hp'))
      · exact canon_apart c.tail hp' hq'
theorem canon_low {r : List Sx} (c : Canon r) {p : Sx} {l : Int} (hp : p ∈ r) (e : p.1 = some l) : hasL r l ∧ ¬ hasL r (l - 1) := by
  have ok := c.ok p hp
  refine ⟨⟨p, hp, fun a ea => (by rw [e] at ea; cases ea; omega), fun u eu => ok l u e eu⟩, ?_⟩
  rintro ⟨q, hq, y⟩
  rcases canon_apart c hp hq with rfl | ⟨u, a, e1, e2, e3⟩ | ⟨u, a, e1, e2, e3⟩
  · have := y.1 l e; omega
  · have := y.1 a e2; have := ok l u e e1; omega
  · rw [e] at e2; cases e2
    have := y.2 u e1; omega
theorem canon_high {r : List Sx} (c : Canon r) {p : Sx} {u : Int} (hp : p ∈ r) (e : p.2 = some u) : hasL r u ∧ ¬ hasL r (u + 1) := by
  have ok := c.ok p hp
  refine ⟨⟨p, hp, fun l el => ok l u el e, fun a ea => by rw [e] at ea; cases ea; omega⟩, ?_⟩
  rintro ⟨q, hq, y⟩
  rcases canon_apart c hp hq with rfl | ⟨v, a, e1, e2, e3⟩ | ⟨v, a, e1, e2, e3⟩
  · have := y.2 u e; omega
  · rw [e] at e1; cases e1
    have := y.1 a e2; omega
  · have := y.2 v e1; have := ok a u e2 e; omega
theorem canon_next {r : List Sx} (c : Canon r) {i : Nat} {p q : Sx} (hp : r[i]? = some p) (hq : r[i + 1]? = some q) : Sep p q := by
  obtain ⟨h1, e1⟩ := List.getElem?_eq_some_iff.mp hp
  obtain ⟨h2, e2⟩ := List.getElem?_eq_some_iff.mp hq
  have := List.pairwise_iff_getElem.mp c.sep i (i + 1) h1 h2 (by omega)
  rw [e1, e2] at this
  exact this
theorem canon_nil {r : List Sx} (c : Canon r) : r = [] ↔ ∀ i, ¬ hasL r i := by
  constructor
  · rintro rfl i; exact hasL_nil i
  · intro h
    exact canon_eq c .nil fun x => ⟨fun z => absurd z (h x), fun z => absurd z (hasL_nil x)⟩
end Spn
end Gx


set_option Elab.async false
set_option linter.all false
set_option maxRecDepth 100000
set_option maxHeartbeats 4000000
/-! repr of data with dicts in it: only a dict's own place has to be no table of modules. -/
namespace Gx
open PySem PySem.Spec PyProof.Rows L2 Evl
mutual
inductive Rs (h : Heap) : Value → PyData → Prop
  | none : Rs h .none .none
  | bool (b) : Rs h (.bool b) (.bool b)
  | int (i t) : Rs h (.int i t) (.int i)
  | str (x t) : Rs h (.str x t) (.str x)
  | list {a o vs n ds} (e : h.get? a = some o) (c : o.cls = .type "list") (q : o.data = .seq vs n) (m : RsAll h vs.toList ds) : Rs h (.ref a) (.list ds)
  | tuple {a o vs n ds} (e : h.get? a = some o) (c : o.cls = .type "tuple") (q : o.data = .seq vs n) (m : RsAll h vs.toList ds) : Rs h (.ref a) (.tuple ds)
  | dict {a o es n ps} (y : (a == sysModules) = false) (e : h.get? a = some o) (c : o.cls = .type "dict") (q : o.data = .dict es n)
      (m : RsAll h (es.toList.map (·.key)) (ps.map (·.1))) (m2 : RsAll h (es.toList.map (·.val)) (ps.map (·.2))) : Rs h (.ref a) (.dict ps)
inductive RsAll (h : Heap) : List Value → List PyData → Prop
  | nil : RsAll h [] []
  | cons {v vs d ds} : Rs h v d → RsAll h vs ds → RsAll h (v :: vs) (d :: ds)
end
mutual
theorem Rs.read {h : Heap} : ∀ {v : Value} {d : PyData}, Rs h v d → ∃ as, Reads h v d as
  | _, _, .none => ⟨_, Reads.none⟩
  | _, _, .bool b => ⟨_, Reads.bool b⟩
  | _, _, .int i t => ⟨_, Reads.int i t⟩
  | _, _, .str x t => ⟨_, Reads.str x t⟩
  | _, _, .list e c q m => let ⟨_, z⟩ := RsAll.read m; ⟨_, Reads.list e c q z⟩
  | _, _, .tuple e c q m => let ⟨_, z⟩ := RsAll.read m; ⟨_, Reads.tuple e c q z⟩
  | _, _, .dict _ e c q m m2 => let ⟨_, z⟩ := RsAll.read m; let ⟨_, z2⟩ := RsAll.read m2; ⟨_, Reads.dict e c q z z2⟩
theorem RsAll.read {h : Heap} : ∀ {vs : List Value} {ds : List PyData}, RsAll h vs ds → ∃ as, ReadsAll h vs ds as
  | _, _, .nil => ⟨_, ReadsAll.nil⟩
  | _, _, .cons r m => let ⟨_, z⟩ := Rs.read r; let ⟨_, z2⟩ := RsAll.read m; ⟨_, ReadsAll.cons z z2⟩
end
section
variable {prog : Program} {w : World} {h : Heap}
/-- what a thing at a depth tells of the places within it -/
abbrev Sh (prog : Program) (w : World) (h : Heap) (n : Nat) (v : Value) (t : Str) : Prop := ∃ bs, ReadAtMost h n bs ∧ ReprK prog w bs h n v t
abbrev ShAll (prog : Program) (w : World) (h : Heap) (n : Nat) (vs : List Value) (ts : List Str) : Prop := ∃ bs, ReadAtMost h n bs ∧ ReprAllK prog w bs h n vs ts
theorem atMost_mono {n m : Nat} {bs : List Addr} (z : ReadAtMost h n bs) (l : n ≤ m) : ReadAtMost h m bs := fun b hb =>
  let ⟨d, as, r, q⟩ := z b hb
  ⟨d, as, r, Nat.le_trans q l⟩
mutual
theorem Rs.sh : ∀ {v : Value} {d : PyData}, Rs h v d → d.showable = true → d.shown.length ≤ sizeLine → Sh prog w h d.depth v d.shown
  | _, _, .none, _, _ => ⟨[], (fun _ z => nomatch z), by simp only [PyData.shown]; exact ReprK.of_is ReprIs.none _ _ _⟩
  | _, _, .bool b, _, _ => ⟨[], (fun _ z => nomatch z), by simp only [PyData.shown]; exact ReprK.of_is (ReprIs.bool b) _ _ _⟩
  | _, _, .int i t, s, _ => ⟨[], (fun _ z => nomatch z), by simp only [PyData.shown]; exact ReprK.of_is (ReprIs.int t (by simpa [PyData.showable] using s)) _ _ _⟩
  | _, _, .str x t, _, l => ⟨[], (fun _ z => nomatch z), by simp only [PyData.shown]; exact ReprK.of_is (ReprIs.str x t (by simpa only [PyData.shown] using l)) _ _ _⟩
  | _, _, .list (a := a) (vs := vs) (ds := ds) e c q m, s, l => by
    have lt : (listText (PyData.shownAll ds)).length ≤ sizeLine := by simpa only [PyData.shown] using l
    obtain ⟨bs, z, k⟩ := RsAll.sh m (by simpa [PyData.showable] using s) (fun t ht => Nat.le_trans (listText_mem_le ht) lt)
    obtain ⟨as, r⟩ := (Rs.list e c q m).read
    have far : a ∉ bs := not_mem_of_deeper r (by simp only [PyData.depth]; exact Nat.lt_succ_self _) z
    refine ⟨a :: bs, ReadAtMost.cons r (by simp only [PyData.depth]; omega) z, ?_⟩
    simp only [PyData.shown, PyData.depth]
    rcases vs with ⟨_ | ⟨x, us⟩⟩
    · have m' : RsAll h [] ds := m
      cases m'
      simp only [listText_nil, PyData.shownAll]
      exact ReprK.listEmpty e c q
    · exact ReprK.list e c q far (by simpa using k.length_eq) (fun i y g => k.item i y (by simpa using g))
  | _, _, .tuple (a := a) (ds := ds) e c q m, s, l => by
    have lt : (tupleText (PyData.shownAll ds)).length ≤ sizeLine := by simpa only [PyData.shown] using l
    obtain ⟨bs, z, k⟩ := RsAll.sh m (by simpa [PyData.showable] using s) (fun t ht => Nat.le_trans (tupleText_mem_le ht) lt)
    obtain ⟨as, r⟩ := (Rs.tuple e c q m).read
    have far : a ∉ bs := not_mem_of_deeper r (by simp only [PyData.depth]; exact Nat.lt_succ_self _) z
    refine ⟨a :: bs, ReadAtMost.cons r (by simp only [PyData.depth]; omega) z, ?_⟩
    simp only [PyData.shown, PyData.depth]
    exact ReprK.tuple e c q far k
  | _, _, .dict (a := a) (es := es) (ps := ps) y e c q m m2, s, l => by
    have lt : (dictText (PyData.shownKv ps)).length ≤ sizeLine := by simpa only [PyData.shown] using l
    obtain ⟨s1, s2⟩ := PyData.showableKv_split ps (by simpa [PyData.showable] using s)
    obtain ⟨b1, z1, k1⟩ := RsAll.sh m s1 (fun t ht => let ⟨_, g1, g2⟩ := PyData.shownKv_key_le ps t ht; Nat.le_trans g2 (Nat.le_trans (dictText_mem_le g1) lt))
    obtain ⟨b2, z2, k2⟩ := RsAll.sh m2 s2 (fun t ht => let ⟨_, g1, g2⟩ := PyData.shownKv_val_le ps t ht; Nat.le_trans g2 (Nat.le_trans (dictText_mem_le g1) lt))
    obtain ⟨as, r⟩ := (Rs.dict y e c q m m2).read
    have z : ReadAtMost h (PyData.depthKv ps) (b1 ++ b2) := (atMost_mono z1 (PyData.depthAll_keys_le ps)).append (atMost_mono z2 (PyData.depthAll_vals_le ps))
    have far : a ∉ b1 ++ b2 := not_mem_of_deeper r (by simp only [PyData.depth]; exact Nat.lt_succ_self _) z
    refine ⟨a :: (b1 ++ b2), ReadAtMost.cons r (by simp only [PyData.depth]; omega) z, ?_⟩
    simp only [PyData.shownKv_eq, PyData.shown, PyData.depth]
    exact ReprK.dict e c q y far (ReprEntriesK.of_two es.toList _ _ (k1.more_le (fun b g => List.mem_append_left _ g) (PyData.depthAll_keys_le ps))
      (k2.more_le (fun b g => List.mem_append_right _ g) (PyData.depthAll_vals_le ps)))
theorem RsAll.sh : ∀ {vs : List Value} {ds : List PyData}, RsAll h vs ds → PyData.showableAll ds = true → (∀ t ∈ PyData.shownAll ds, t.length ≤ sizeLine) →
    ShAll prog w h (PyData.depthAll ds) vs (PyData.shownAll ds)
  | _, _, .nil, _, _ => ⟨[], (fun _ z => nomatch z), by simp only [PyData.shownAll]; exact ReprAllK.nil⟩
  | _, _, .cons (d := d) (ds := ds) r m, s, l => by
    have s' : d.showable = true ∧ PyData.showableAll ds = true := by simpa [PyData.showableAll] using s
    obtain ⟨b1, z1, k1⟩ := Rs.sh r s'.1 (l _ (by simp only [PyData.shownAll]; exact List.mem_cons_self))
    obtain ⟨b2, z2, k2⟩ := RsAll.sh m s'.2 (fun t ht => l t (by simp only [PyData.shownAll]; exact List.mem_cons_of_mem _ ht))
    refine ⟨b1 ++ b2, ?_, ?_⟩
    · simp only [PyData.depthAll]
      exact (atMost_mono z1 (Nat.le_max_left _ _)).append (atMost_mono z2 (Nat.le_max_right _ _))
    · simp only [PyData.shownAll, PyData.depthAll]
      exact ReprAllK.cons ((k1.more fun b g => List.mem_append_left _ g).level_le (Nat.le_max_left _ _)) (k2.more_le (fun b g => List.mem_append_right _ g) (Nat.le_max_right _ _))
end
/-- the whole thing, asked by repr -/
theorem Rs.by {a : Addr} {d : PyData} (r : Rs h (.ref a) d) (s : d.showable = true) (l : d.shown.length ≤ sizeLine) :
    ∃ T idr, ShowsBy prog w h a d T idr := by
  cases r with
  | list e c q m =>
    rename_i o vs n ds
    have lt : (listText (PyData.shownAll ds)).length ≤ sizeLine := by simpa only [PyData.shown] using l
    obtain ⟨bs, z, k⟩ := RsAll.sh (prog := prog) (w := w) m (by simpa [PyData.showable] using s) (fun t ht => Nat.le_trans (listText_mem_le ht) lt)
    obtain ⟨as, r⟩ := (Rs.list e c q m).read
    have far : a ∉ bs := not_mem_of_deeper r (by simp only [PyData.depth]; exact Nat.lt_succ_self _) z
    refine ⟨_, _, F.slot_list_repr.toG, F.slot_list_str, F.slot_list_format, fun s' kp => ⟨o, kp _ _ e, c⟩, fun A E s' Q g u kp k' => ?_⟩
    simp only [PyData.depth] at u
    simp only [PyData.shown] at k'
    rcases vs with ⟨_ | ⟨x, us⟩⟩
    · have m' : RsAll h [] ds := m
      cases m'
      simp only [listText_nil, PyData.shownAll] at k'
      exact call_list_repr_empty ⟨o, kp _ _ e, c⟩ (kp _ _ e) q (k' s'.heap _ _ fun _ _ g => g)
    · exact call_list_reprK e c q far (by simpa using k.length_eq) (fun i y g => k.item i y (by simpa using g)) g (fun b _ => Clear.nil b) u kp k' lt
  | tuple e c q m =>
    rename_i o vs n ds
    have lt : (tupleText (PyData.shownAll ds)).length ≤ sizeLine := by simpa only [PyData.shown] using l
    obtain ⟨bs, z, k⟩ := RsAll.sh (prog := prog) (w := w) m (by simpa [PyData.showable] using s) (fun t ht => Nat.le_trans (tupleText_mem_le ht) lt)
    obtain ⟨as, r⟩ := (Rs.tuple e c q m).read
    have far : a ∉ bs := not_mem_of_deeper r (by simp only [PyData.depth]; exact Nat.lt_succ_self _) z
    refine ⟨_, _, F.slot_tuple_repr, F.slot_tuple_str, F.slot_tuple_format, fun s' kp => ⟨o, kp _ _ e, c⟩, fun A E s' Q g u kp k' => ?_⟩
    simp only [PyData.depth] at u
    simp only [PyData.shown] at k'
    exact call_tuple_reprK e c q far k g (fun b _ => Clear.nil b) u kp k' lt
  | dict y e c q m m2 =>
    rename_i o es n ps
    have lt : (dictText (PyData.shownKv ps)).length ≤ sizeLine := by simpa only [PyData.shown] using l
    obtain ⟨s1, s2⟩ := PyData.showableKv_split ps (by simpa [PyData.showable] using s)
    obtain ⟨b1, z1, k1⟩ := RsAll.sh (prog := prog) (w := w) m s1 (fun t ht => let ⟨_, g1, g2⟩ := PyData.shownKv_key_le ps t ht; Nat.le_trans g2 (Nat.le_trans (dictText_mem_le g1) lt))
    obtain ⟨b2, z2, k2⟩ := RsAll.sh (prog := prog) (w := w) m2 s2 (fun t ht => let ⟨_, g1, g2⟩ := PyData.shownKv_val_le ps t ht; Nat.le_trans g2 (Nat.le_trans (dictText_mem_le g1) lt))
    obtain ⟨as, r⟩ := (Rs.dict y e c q m m2).read
    have z : ReadAtMost h (PyData.depthKv ps) (b1 ++ b2) := (atMost_mono z1 (PyData.depthAll_keys_le ps)).append (atMost_mono z2 (PyData.depthAll_vals_le ps))
    have far : a ∉ b1 ++ b2 := not_mem_of_deeper r (by simp only [PyData.depth]; exact Nat.lt_succ_self _) z
    refine ⟨_, _, F.slot_dict_repr, F.slot_dict_str, F.slot_dict_format, fun s' kp => ⟨o, kp _ _ e, c⟩, fun A E s' Q g u kp k' => ?_⟩
    simp only [PyData.depth] at u
    simp only [PyData.shown, PyData.shownKv_eq] at k'
    exact call_dict_reprK e c q y far (ReprEntriesK.of_two es.toList _ _ (k1.more_le (fun b g => List.mem_append_left _ g) (PyData.depthAll_keys_le ps))
      (k2.more_le (fun b g => List.mem_append_right _ g) (PyData.depthAll_vals_le ps))) g (fun b _ => Clear.nil b) u kp k' (by rw [← PyData.shownKv_eq]; exact lt)
end
/-! Data in the told heap, dicts with keys of ints and texts among it. -/
def kD : Key → PyData
  | .inl i => .int i
  | .inr x => .str x
mutual
inductive Dq (K : PySem.W.Frag) (H : Hp) : V → PyData → Prop
  | non : Dq K H .non .none
  | bl (b : Bool) : Dq K H (.bl b) (.bool b)
  | int (i : Int) : Dq K H (.int i) (.int i)
  | str (x : Str) : Dq K H (.str x) (.str x)
  | lst {a : Addr} {xs : List V} {ds : List PyData} : SqL K H a xs → DqAll K H xs ds → Dq K H (.ref a) (.list ds)
  | tup {a : Addr} {xs : List V} {ds : List PyData} : SqT K H a xs → DqAll K H xs ds → Dq K H (.ref a) (.tuple ds)
  | dct {a : Addr} {kvs : List (Key × V)} {ps : List (PyData × PyData)} : H a = some (.dK kvs) → DqKvs K H kvs ps → Dq K H (.ref a) (.dict ps)
inductive DqAll (K : PySem.W.Frag) (H : Hp) : List V → List PyData → Prop
  | nil : DqAll K H [] []
  | cons {v : V} {vs : List V} {d : PyData} {ds : List PyData} : Dq K H v d → DqAll K H vs ds → DqAll K H (v :: vs) (d :: ds)
inductive DqKvs (K : PySem.W.Frag) (H : Hp) : List (Key × V) → List (PyData × PyData) → Prop
  | nil : DqKvs K H [] []
  | cons {k : Key} {v : V} {kvs : List (Key × V)} {d : PyData} {ps : List (PyData × PyData)} : Dq K H v d → DqKvs K H kvs ps → DqKvs K H ((k, v) :: kvs) ((kD k, d) :: ps)
end
section
variable {K : PySem.W.Frag} {H H' : Hp}
mutual
theorem Dp.q : ∀ (d : PyData) (v : V), Dp K H v d → Dq K H v d
  | .none, _, z => by cases z; exact .non
  | .bool b, _, z => by cases z; exact .bl b
  | .int i, _, z => by cases z; exact .int i
  | .str x, _, z => by cases z; exact .str x
  | .list ds, _, z => by cases z with | lst a b => exact .lst a (DpAll.q ds _ b)
  | .tuple ds, _, z => by cases z with | tup a b => exact .tup a (DpAll.q ds _ b)
  | .dict _, _, z => by cases z
theorem DpAll.q : ∀ (ds : List PyData) (vs : List V), DpAll K H vs ds → DqAll K H vs ds
  | [], _, z => by cases z; exact .nil
  | d :: ds, _, z => by cases z with | cons a b => exact .cons (Dp.q d _ a) (DpAll.q ds _ b)
end
theorem _root_.L2.Dp.dq {d : PyData} {v : V} (z : Dp K H v d) : Dq K H v d := Dp.q d v z
theorem _root_.L2.DpAll.dq {ds : List PyData} {vs : List V} (z : DpAll K H vs ds) : DqAll K H vs ds := DpAll.q ds vs z
mutual
theorem Dq.to (e : Ex H H') : ∀ {v : V} {d : PyData}, Dq K H v d → Dq K H' v d
  | _, _, .non => .non
  | _, _, .bl b => .bl b
  | _, _, .int i => .int i
  | _, _, .str x => .str x
  | _, _, .lst a b => .lst (ex_l e a) (DqAll.to e b)
  | _, _, .tup a b => .tup (ex_t e a) (DqAll.to e b)
  | _, _, .dct a b => .dct (e _ _ a) (DqKvs.to e b)
theorem DqAll.to (e : Ex H H') : ∀ {vs : List V} {ds : List PyData}, DqAll K H vs ds → DqAll K H' vs ds
  | _, _, .nil => .nil
  | _, _, .cons a b => .cons (Dq.to e a) (DqAll.to e b)
theorem DqKvs.to (e : Ex H H') : ∀ {kvs : List (Key × V)} {ps : List (PyData × PyData)}, DqKvs K H kvs ps → DqKvs K H' kvs ps
  | _, _, .nil => .nil
  | _, _, .cons a b => .cons (Dq.to e a) (DqKvs.to e b)
end
end
section
variable {X : Cx} {pins : List (Addr × Obj)} {σ : L2.St} {H : Hp} {s : Shared}
theorem keys_rs {P : Program} {w : World} {h : Heap} {es : List DictEntry} {vs : List (Key × Value)} (p : Pairs (mixKind P w) es vs) :
    RsAll h (es.map (·.key)) (vs.map fun q => kD q.1) := by
  induction p with
  | nil => exact .nil
  | cons a b c ih =>
    rename_i e kv es kvs
    refine .cons ?_ ih
    rcases keyIs_shape (show keyIs kv.1 e.key = true from a) with ⟨i, t, e1, e2⟩ | ⟨x, t, e1, e2⟩
    · show Rs h e.key (kD kv.1)
      rw [e1, e2]; exact .int i t
    · show Rs h e.key (kD kv.1)
      rw [e1, e2]; exact .str x t
theorem vals_eq {P : Program} {w : World} {es : List DictEntry} {vs : List (Key × Value)} (p : Pairs (mixKind P w) es vs) :
    es.map (·.val) = vs.map (·.2) := by
  induction p with
  | nil => rfl
  | cons a b c ih => rw [List.map_cons, List.map_cons, ih, b]
mutual
theorem Dq.rs (I : Inv X pins σ H s) : ∀ {v : V} {d : PyData} {u : Value}, Dq X.K H v d → RelV v u → Rs s.heap u d
  | _, _, _, .non, r => by cases r; exact .none
  | _, _, _, .bl b, r => by cases r; exact .bool b
  | _, _, _, .int i, r => by obtain ⟨t, rfl⟩ := r; exact .int i t
  | _, _, _, .str x, r => by obtain ⟨t, rfl⟩ := r; exact .str x t
  | _, _, _, .lst hs ha, r => by
    cases r
    obtain ⟨its, rv, ⟨o, n, ho, hc, _, hd⟩, _⟩ := I.list hs
    exact .list ho hc hd (DqAll.rs I ha rv)
  | _, _, _, .tup hs ha, r => by
    cases r
    obtain ⟨its, rv, ⟨o, ho, hc, n, hd⟩, _⟩ := I.tuple hs
    exact .tuple ho hc hd (DqAll.rs I ha rv)
  | _, _, _, .dct ha hk, r => by
    cases r
    obtain ⟨_, y, vs, rel, o, es, ep, ho, hx, hd, _, pr, _⟩ := dk_of I.hok ha
    obtain ⟨m1, m2⟩ := DqKvs.rs I hk rel
    refine .dict y ho hx.1 hd ?_ ?_
    · rw [← m1]; exact keys_rs pr
    · rw [vals_eq pr]; exact m2
theorem DqAll.rs (I : Inv X pins σ H s) : ∀ {vs : List V} {ds : List PyData} {us : List Value}, DqAll X.K H vs ds → Vals vs us → RsAll s.heap us ds
  | _, _, _, .nil, r => by cases r; exact .nil
  | _, _, _, .cons a b, r => by cases r with | cons r1 r2 => exact .cons (Dq.rs I a r1) (DqAll.rs I b r2)
theorem DqKvs.rs (I : Inv X pins σ H s) : ∀ {kvs : List (Key × V)} {ps : List (PyData × PyData)} {vs : List (Key × Value)}, DqKvs X.K H kvs ps → KV kvs vs →
    (vs.map fun q => kD q.1) = ps.map (·.1) ∧ RsAll s.heap (vs.map (·.2)) (ps.map (·.2))
  | _, _, _, .nil, r => by cases r; exact ⟨rfl, .nil⟩
  | _, _, _, .cons a b, r => by
    cases r with
    | cons r1 r2 =>
      obtain ⟨m1, m2⟩ := DqKvs.rs I b r2
      refine ⟨?_, .cons (Dq.rs I a r1.2) m2⟩
      rw [List.map_cons, List.map_cons, m1, ← r1.1]
end
end
/-- how many signs repr may take, dicts too -/
def wq : PyData → Nat
  | .none => 4
  | .bool _ => 5
  | .int _ => 1921
  | .str x => (reprText x).length
  | .list xs => wqAll xs + 2
  | .tuple xs => wqAll xs + 3
  | .dict ps => wqKv ps + 2
where
  wqAll : List PyData → Nat
  | [] => 0
  | x :: xs => wq x + 2 + wqAll xs
  wqKv : List (PyData × PyData) → Nat
  | [] => 0
  | (k, v) :: ps => wq k + wq v + 4 + wqKv ps
theorem dictText_wide (ts : List Str) : (dictText ts).length ≤ piled ts + 2 := by
  have e1 : ((("{" : String) : Str)).length = 1 := rfl
  have e2 : ((("}" : String) : Str)).length = 1 := rfl
  unfold dictText
  rw [strLen_append, strLen_append, e1, e2]
  by_cases z : ts = []
  · subst z
    have : (Str.join ", " ([] : List Str)).length = 0 := rfl
    omega
  · have := join_length_add ts z
    omega
mutual
theorem shown_wq : ∀ d : PyData, d.showable = true → d.shown.length ≤ wq d
  | .none, _ => by simp only [PyData.shown, wq]; decide
  | .bool b, _ => by cases b <;> (simp only [PyData.shown, wq]; decide)
  | .int i, z => by
    simp only [PyData.shown, wq]
    exact PyProof.Rows.int_text_len_1921 (of_decide_eq_true (by simpa only [PyData.showable] using z))
  | .str x, _ => by simp only [PyData.shown, wq]; exact Nat.le_refl _
  | .list xs, z => by
    simp only [PyData.shown, wq]
    have q := shown_wqAll xs (by simpa only [PyData.showable] using z)
    exact Nat.le_trans (listText_wide _) (by omega)
  | .tuple xs, z => by
    simp only [PyData.shown, wq]
    have q := shown_wqAll xs (by simpa only [PyData.showable] using z)
    exact Nat.le_trans (tupText_wide _) (by omega)
  | .dict ps, z => by
    simp only [PyData.shown, wq]
    have q := shown_wqKv ps (by simpa only [PyData.showable] using z)
    exact Nat.le_trans (dictText_wide _) (by omega)
theorem shown_wqAll : ∀ ds : List PyData, PyData.showableAll ds = true → piled (PyData.shownAll ds) ≤ wq.wqAll ds
  | [], _ => by simp [PyData.shownAll, piled, wq.wqAll]
  | d :: ds, z => by
    simp only [PyData.showableAll, Bool.and_eq_true] at z
    have q1 := shown_wq d z.1
    have q2 := shown_wqAll ds z.2
    simp only [PyData.shownAll, piled_cons, wq.wqAll]
    omega
theorem shown_wqKv : ∀ ps : List (PyData × PyData), PyData.showableKv ps = true → piled (PyData.shownKv ps) ≤ wq.wqKv ps
  | [], _ => by simp [PyData.shownKv, piled, wq.wqKv]
  | (k, v) :: ps, z => by
    simp only [PyData.showableKv, Bool.and_eq_true] at z
    have q1 := shown_wq k z.1.1
    have q2 := shown_wq v z.1.2
    have q3 := shown_wqKv ps z.2
    have e3 : (((": " : String) : Str)).length = 2 := rfl
    simp only [PyData.shownKv, piled_cons, wq.wqKv, strLen_append]
    omega
end
section
variable {X : Cx}
def rRepQ (K : PySem.W.Frag) : List V → Hp → VK → Prop := fun xs H Q =>
  ∃ v d, xs = [v] ∧ Dq K H v d ∧ d.showable = true ∧ d.depth ≤ 100 ∧ wq d ≤ 10000000 ∧ Q (.str d.shown) H
theorem call_reprQ (qu : Quiet X.A) (hu : X.A.units + 200 < cLine) : CallR X (.builtin "repr") (rRepQ X.K) := by
  intro pins s σ H xs us Q I rv z
  obtain ⟨v, d, rfl, hd, h1, h3, h4, q⟩ := z
  obtain ⟨u, rfl, ru⟩ := vals1 rv
  have rd := Dq.rs I hd ru
  have sz : d.shown.length ≤ sizeLine := Nat.le_trans (shown_wq d h1) (Nat.le_trans h4 big_sz)
  have fin : ∀ h' t tk, (∀ b o, s.heap.get? b = some o → h'.get? b = some o) → EP X pins σ Q (.str d.shown t) { s with heap := h', toks := tk } :=
    fun h' t tk k => ⟨.str _, H, I.kept k, ⟨_, rfl⟩, q⟩
  cases hd with
  | non =>
    obtain rfl : u = Value.none := ru
    exact PySem.P.repr_of_none (fin s.heap _ _ fun _ _ e => e)
  | bl b =>
    obtain rfl : u = Value.bool b := ru
    refine PySem.P.repr_of_bool ?_
    have z := fin s.heap s.toks (s.toks + 1) fun _ _ e => e
    simp only [PyData.shown] at z
    cases b <;> exact z
  | int i =>
    obtain ⟨t, rfl⟩ := ru
    exact PySem.P.repr_of_int (of_decide_eq_true (by simpa only [PyData.showable] using h1)) (fin s.heap _ _ fun _ _ e => e)
  | str x =>
    obtain ⟨t, rfl⟩ := ru
    exact PySem.P.repr_of_str (fin s.heap _ _ fun _ _ e => e) sz
  | lst hs ha =>
    obtain rfl : u = Value.ref _ := ru
    obtain ⟨T, idr, S⟩ := rd.by (prog := X.prog) (w := X.w) h1 sz
    exact call_repr_slot (by omega) (S.typeIs s fun _ _ e => e) S.slotRepr (S.call X.A.in1 _ s _ qu (by show X.A.units + 1 + _ < cLine; omega) (fun _ _ e => e) fun h' u tk hk => ⟨_, _, rfl, fin h' u tk hk⟩)
  | tup hs ha =>
    obtain rfl : u = Value.ref _ := ru
    obtain ⟨T, idr, S⟩ := rd.by (prog := X.prog) (w := X.w) h1 sz
    exact call_repr_slot (by omega) (S.typeIs s fun _ _ e => e) S.slotRepr (S.call X.A.in1 _ s _ qu (by show X.A.units + 1 + _ < cLine; omega) (fun _ _ e => e) fun h' u tk hk => ⟨_, _, rfl, fin h' u tk hk⟩)
  | dct ha hk =>
    obtain rfl : u = Value.ref _ := ru
    obtain ⟨T, idr, S⟩ := rd.by (prog := X.prog) (w := X.w) h1 sz
    exact call_repr_slot (by omega) (S.typeIs s fun _ _ e => e) S.slotRepr (S.call X.A.in1 _ s _ qu (by show X.A.units + 1 + _ < cLine; omega) (fun _ _ e => e) fun h' u tk hk => ⟨_, _, rfl, fin h' u tk hk⟩)
end
end Gx

set_option Elab.async false
set_option linter.all false
set_option maxRecDepth 100000
set_option maxHeartbeats 1000000
/-! What is a list or a tuple; comprehensions that tell data. -/
namespace Gx
open PySem PySem.Spec PyProof.Rows L2 Evl RZ
/-- a tuple (t) or a list -/
def SqB (t : Bool) (K : PySem.W.Frag) (H : Hp) (a : Addr) (xs : List V) : Prop := match t with
  | true => SqT K H a xs
  | false => SqL K H a xs
theorem SqB.or {t : Bool} {K : PySem.W.Frag} {H : Hp} {a : Addr} {xs : List V} (h : SqB t K H a xs) : SqL K H a xs ∨ SqT K H a xs := by
  cases t
  · exact .inl h
  · exact .inr h
theorem SqB.ro {t : Bool} {K : PySem.W.Frag} {H : Hp} {a : Addr} {xs : List V} (h : SqB t K H a xs) : SqT K H a xs ∨ SqL K H a xs := h.or.symm
theorem SqB.to {t : Bool} {K : PySem.W.Frag} {H H' : Hp} {a : Addr} {xs : List V} (h : SqB t K H a xs) (e : Ex H H') : SqB t K H' a xs := by
  cases t
  · exact ex_l e h
  · exact ex_t e h
theorem SqB.ixs {t : Bool} {K : PySem.W.Frag} {H : Hp} {a : Addr} {xs : List V} {i : Int} {v : V} {Q : VK} (h : SqB t K H a xs) (e : atI xs i = some v) (q : Q v H) :
    rIxT K (.ref a) (.int i) H Q ∨ rIxL K (.ref a) (.int i) H Q := by
  cases t
  · exact .inr ⟨a, xs, i, v, rfl, rfl, h, e, q⟩
  · exact .inl ⟨a, xs, i, v, rfl, rfl, h, e, q⟩
theorem IxR.or' {X : Cx} {r r' : R2} (h : IxR X r) (h' : IxR X r') : IxR X (fun x y H Q => r x y H Q ∨ r' x y H Q) := fun value slice pins s σ H x y v u Q I rx ry z hs =>
  z.elim (fun z => h value slice pins s σ H x y v u Q I rx ry z hs) fun z => h' value slice pins s σ H x y v u Q I rx ry z hs
theorem ix_tl {X : Cx} {K : PySem.W.Frag} (h : X.K = K) : IxR X (fun x y H Q => rIxT K x y H Q ∨ rIxL K x y H Q) := IxR.or' (ix_tupK h) (ix_listK h)
def ItB (t : Bool) (K : PySem.W.Frag) (a : Addr) : It := match t with
  | true => Itt K a
  | false => Itl K a
def iSeq (K : PySem.W.Frag) (te : TE) : TI := fun σ H R => te σ H fun x H1 => ∃ (a : Addr) (t : Bool) (xs : List V), x = .ref a ∧ SqB t K H1 a xs ∧ R (ItB t K a) H1
theorem pi_seq {X : Cx} {K : PySem.W.Frag} {tg l : Expr} {te : TE} (hK : X.K = K) (hl : PE X l te) : PI X tg l (iSeq K te) := by
  subst hK
  refine ⟨fun pins s σ H R I h => ?_⟩
  refine thn (hl.run pins s σ H _ I h) fun v s1 ⟨x, H1, I1, r1, a, t, xs, e, hq, q⟩ => ?_
  subst e
  cases r1
  cases t
  · have g : PI X tg l (iList X.K fun _ H Q => H = H1 ∧ Q (.ref a) H1) → True := fun _ => trivial
    obtain ⟨its, rv, p, hz⟩ := I1.list hq
    refine wpAny_pyIter_list p.isList ?_
    refine ⟨s1.heap.objs.size, [s1.heap.objs.size], _, _, H1, rfl, I1.kept (t' := s1.toks) fun b o e => Heap.get?_push_of_some _ e, turn_list a _, ⟨_, Heap.get?_push_size _ rfl, rfl, rfl⟩, fun b hb => ?_, q⟩
    have e : b = s1.heap.objs.size := by simpa using hb
    subst e
    exact I1.fpOk (Nat.le_refl _) (I1.hok.fresh (Nat.le_refl _))
  · obtain ⟨its, rv, p, hz⟩ := I1.tuple hq
    refine wpAny_pyIter_tuple (show s1.heap.IsTuple a its.toArray from p) ?_
    refine ⟨s1.heap.objs.size, [s1.heap.objs.size], _, _, H1, rfl, I1.kept (t' := s1.toks) fun b o e => Heap.get?_push_of_some _ e, turn_tuple a _, ⟨_, Heap.get?_push_size _ rfl, rfl, rfl⟩, fun b hb => ?_, q⟩
    have e : b = s1.heap.objs.size := by simpa using hb
    subst e
    exact I1.fpOk (Nat.le_refl _) (I1.hok.fresh (Nat.le_refl _))
theorem for_seq {t : Bool} {K : PySem.W.Frag} {a : Addr} {xs : List V} {g : TG} {tb : TS} {D : Ends} {σ : L2.St} {H : Hp} (Pv : Nat → L2.St → Hp → Prop) (h0 : Pv 0 σ H) (hl : ∀ i σ H, i ≤ xs.length → Pv i σ H → SqB t K H a xs)
    (hs : ∀ i x σ H, xs[i]? = some x → Pv i σ H → g x σ H fun σ2 H2 => tb { D with nx := Pv (i + 1), ct := Pv (i + 1), bk := D.nx } σ2 H2) (hd : ∀ σ H, Pv xs.length σ H → D.nx σ H) :
    ∃ W : Nat → Nat → L2.St → Hp → Prop, (∃ m, W 0 m σ H) ∧ ∀ i m σ H, W i m σ H →
      ((ItB t K a).stop i H ∧ D.nx σ H) ∨ ((ItB t K a).go i H ∧ ∃ N : L2.St → Hp → Prop, (∀ σ' H', N σ' H' → ∃ m', m' < m ∧ W (i + 1) m' σ' H') ∧ ∀ x H', (ItB t K a).yld i H x H' → g x σ H' fun σ2 H2 => tb { D with nx := N, ct := N, bk := D.nx } σ2 H2) := by
  cases t
  · exact for_list (K := K) Pv h0 hl hs hd
  · exact for_tup (K := K) Pv h0 hl hs hd
theorem lc_seq {t : Bool} {K : PySem.W.Frag} {a : Addr} {xs : List V} {g : TG} {tt : TT} {te : TE} {vs : List Nat} {σ : L2.St} {H1 : Hp} {D : Addr} {Qd : Hp → Prop} (Pv : Nat → Hp → Prop) (h0 : Pv 0 (upd H1 D (.lst []))) (hl : ∀ i H, i ≤ xs.length → Pv i H → SqB t K H a xs)
    (hs : ∀ i x H, xs[i]? = some x → Pv i H → g x (wipe σ vs) H fun σ2 H2 => wipe σ2 vs = wipe σ vs ∧ tt σ2 H2 fun b H3 =>
      if b = true then te σ2 H3 fun y H4 => ∃ acc, H4 D = some (.lst acc) ∧ acc.length < sizeLine ∧ Pv (i + 1) (upd H4 D (.lst (acc ++ [y]))) else Pv (i + 1) H3) (hd : ∀ H, Pv xs.length H → Qd H) :
    ∃ W : Nat → Nat → Hp → Prop, (∃ m, W 0 m (upd H1 D (.lst []))) ∧ ∀ i m H, W i m H →
      ((ItB t K a).stop i H ∧ Qd H) ∨ ((ItB t K a).go i H ∧ ∃ Nx : Hp → Prop, (∀ H', Nx H' → ∃ m', m' < m ∧ W (i + 1) m' H') ∧ ∀ x H', (ItB t K a).yld i H x H' → g x (wipe σ vs) H' fun σ2 H2 => wipe σ2 vs = wipe σ vs ∧ tt σ2 H2 fun b H3 =>
        if b = true then te σ2 H3 fun y H4 => ∃ acc, H4 D = some (.lst acc) ∧ acc.length < sizeLine ∧ Nx (upd H4 D (.lst (acc ++ [y]))) else Nx H3) := by
  cases t
  · exact lc_list (K := K) Pv h0 hl hs hd
  · exact lc_tup (K := K) Pv h0 hl hs hd
/-! ### data without lists: it stands whatever list is written -/
mutual
def flatD : PyData → Bool
  | .list _ => false
  | .dict _ => false
  | .tuple xs => flatDs xs
  | _ => true
def flatDs : List PyData → Bool
  | [] => true
  | d :: ds => flatD d && flatDs ds
end
section
variable {K : PySem.W.Frag} {H H' : Hp}
mutual
theorem dp_exI (e : ExI H H') : ∀ (d : PyData) (v : V), flatD d = true → Dp K H v d → Dp K H' v d
  | .none, _, _, h => by cases h; exact .non
  | .bool b, _, _, h => by cases h; exact .bl b
  | .int i, _, _, h => by cases h; exact .int i
  | .str x, _, _, h => by cases h; exact .str x
  | .list ds, _, q, h => by simp [flatD] at q
  | .tuple ds, _, q, h => by
    cases h with
    | tup hs ha => exact .tup (e.sq hs) (dpAll_exI e ds _ (by simpa [flatD] using q) ha)
  | .dict _, _, _, h => by cases h
theorem dpAll_exI (e : ExI H H') : ∀ (ds : List PyData) (vs : List V), flatDs ds = true → DpAll K H vs ds → DpAll K H' vs ds
  | [], _, _, h => by cases h; exact .nil
  | d :: ds, _, q, h => by
    simp only [flatDs, Bool.and_eq_true] at q
    cases h with
    | cons h1 h2 => exact .cons (dp_exI e d _ q.1 h1) (dpAll_exI e ds _ q.2 h2)
end
end
theorem flatDs_all {ds : List PyData} (h : ∀ d ∈ ds, flatD d = true) : flatDs ds = true := by
  induction ds with
  | nil => rfl
  | cons d ds ih => simp only [flatDs, Bool.and_eq_true]; exact ⟨h d List.mem_cons_self, ih fun x hx => h x (List.mem_cons_of_mem _ hx)⟩
theorem flatDs_mem {ds : List PyData} (h : flatDs ds = true) : ∀ d ∈ ds, flatD d = true := by
  induction ds with
  | nil => simp
  | cons d ds ih =>
    simp only [flatDs, Bool.and_eq_true] at h
    intro x hx
    rcases List.mem_cons.mp hx with rfl | hx
    · exact h.1
    · exact ih h.2 x hx
/-- what the turns of a comprehension have told so far -/
def outs (out : Nat → Option PyData) (n : Nat) : List PyData := (List.range n).filterMap out
theorem outs_succ (out : Nat → Option PyData) (n : Nat) : outs out (n + 1) = outs out n ++ (out n).toList := by
  unfold outs
  rw [List.range_succ, List.filterMap_append]
  cases e : out n <;> simp [e]
/-- a comprehension over a list or a tuple, each turn telling data without lists, or nothing -/
theorem lc_dp {t : Bool} {K : PySem.W.Frag} {a : Addr} {xs : List V} {g : TG} {tt : TT} {te : TE} {vs : List Nat} {σ : L2.St} {H1 : Hp} {D : Addr} {Qd : Hp → Prop} (out : Nat → Option PyData)
    (hD : H1 D = none) (hq : SqB t K H1 a xs) (hz : xs.length < sizeLine)
    (hs : ∀ i x H (N : V → Hp → Prop) (M : Hp → Prop), xs[i]? = some x → Ex H1 H → (∀ y H4 d, Ex H H4 → out i = some d → flatD d = true → Dp K H4 y d → N y H4) → (out i = none → ∀ H3, Ex H H3 → M H3) →
      g x (wipe σ vs) H fun σ2 H2 => wipe σ2 vs = wipe σ vs ∧ tt σ2 H2 fun b H3 => if b = true then te σ2 H3 N else M H3)
    (hd : ∀ H ys, Ex H1 H → H D = some (.lst ys) → DpAll K H ys (outs out xs.length) → Qd H) :
    ∃ W : Nat → Nat → Hp → Prop, (∃ m, W 0 m (upd H1 D (.lst []))) ∧ ∀ i m H, W i m H →
      ((ItB t K a).stop i H ∧ Qd H) ∨ ((ItB t K a).go i H ∧ ∃ Nx : Hp → Prop, (∀ H', Nx H' → ∃ m', m' < m ∧ W (i + 1) m' H') ∧ ∀ x H', (ItB t K a).yld i H x H' → g x (wipe σ vs) H' fun σ2 H2 => wipe σ2 vs = wipe σ vs ∧ tt σ2 H2 fun b H3 =>
        if b = true then te σ2 H3 fun y H4 => ∃ acc, H4 D = some (.lst acc) ∧ acc.length < sizeLine ∧ Nx (upd H4 D (.lst (acc ++ [y]))) else Nx H3) := by
  refine lc_seq (fun i H => i ≤ xs.length ∧ Ex H1 H ∧ ∃ ys, H D = some (.lst ys) ∧ ys.length ≤ i ∧ flatDs (outs out i) = true ∧ DpAll K H ys (outs out i)) ?_ (fun i H _ p => hq.to p.2.1) ?_ ?_
  · exact ⟨Nat.zero_le _, Ex.new hD, [], upd_same, Nat.le_refl _, rfl, .nil⟩
  · rintro i x H hx ⟨hi, e, ys, hy, hl, hf, hp⟩
    have hil : i < xs.length := (List.getElem?_eq_some_iff.mp hx).1
    refine hs i x H _ _ hx e (fun y H4 d e4 ho hfd hdp => ?_) fun ho H3 e3 => ?_
    · have hy4 := e4 _ _ hy
      refine ⟨ys, hy4, by omega, hil, (e.trans e4).mut hD, ys ++ [y], upd_same, by simp; omega, ?_, ?_⟩
      · rw [outs_succ, ho]
        refine flatDs_all fun z hz => ?_
        rcases List.mem_append.mp hz with hz | hz
        · exact flatDs_mem hf z hz
        · simp at hz; subst hz; exact hfd
      · rw [outs_succ, ho]
        have ei : ExI H4 (upd H4 D (.lst (ys ++ [y]))) := ExI.put hy4 rfl
        exact (dpAll_exI ei _ _ hf (hp.to e4)).app (.one (dp_exI ei d y hfd hdp))
    · refine ⟨hil, e.trans e3, ys, e3 _ _ hy, by omega, ?_, ?_⟩
      · rw [outs_succ, ho]; simpa using hf
      · rw [outs_succ, ho]; simpa using hp.to e3
  · rintro H ⟨_, e, ys, hy, _, _, hp⟩
    exact hd H ys e hy hp
def ItzB (t : Bool) (K : PySem.W.Frag) (a b : Addr) : It := match t with
  | true => ItzT K a b
  | false => Itz K a b
def GoB (t : Bool) (K : PySem.W.Frag) (a b : Addr) (i : Nat) (H : Hp) : Prop := ∃ (xs ys : List V) (x y : V), SqB t K H a xs ∧ SqB t K H b ys ∧ xs[i]? = some x ∧ ys[i]? = some y
/-- a comprehension over zip(a, b), both tuples or both lists -/
theorem lc_dpz {t : Bool} {K : PySem.W.Frag} {a b : Addr} {xs ys : List V} {g : TG} {tt : TT} {te : TE} {vs : List Nat} {σ : L2.St} {H1 : Hp} {D : Addr} {Qd : Hp → Prop} (out : Nat → Option PyData)
    (hD : H1 D = none) (hqa : SqB t K H1 a xs) (hqb : SqB t K H1 b ys) (hz : xs.length < sizeLine)
    (hs : ∀ i x y T H (N : V → Hp → Prop) (M : Hp → Prop), xs[i]? = some x → ys[i]? = some y → Ex H1 H → H T = none → (∀ y H4 d, Ex H H4 → out i = some d → flatD d = true → Dp K H4 y d → N y H4) → (out i = none → ∀ H3, Ex H H3 → M H3) →
      g (.ref T) (wipe σ vs) (upd H T (.tup [x, y])) fun σ2 H2 => wipe σ2 vs = wipe σ vs ∧ tt σ2 H2 fun b H3 => if b = true then te σ2 H3 N else M H3)
    (hd : ∀ H zs, Ex H1 H → H D = some (.lst zs) → DpAll K H zs (outs out (min xs.length ys.length)) → Qd H) :
    ∃ W : Nat → Nat → Hp → Prop, (∃ m, W 0 m (upd H1 D (.lst []))) ∧ ∀ i m H, W i m H →
      ((ItzB t K a b).stop i H ∧ Qd H) ∨ ((ItzB t K a b).go i H ∧ ∃ Nx : Hp → Prop, (∀ H', Nx H' → ∃ m', m' < m ∧ W (i + 1) m' H') ∧ ∀ x H', (ItzB t K a b).yld i H x H' → g x (wipe σ vs) H' fun σ2 H2 => wipe σ2 vs = wipe σ vs ∧ tt σ2 H2 fun b H3 =>
        if b = true then te σ2 H3 fun y H4 => ∃ acc, H4 D = some (.lst acc) ∧ acc.length < sizeLine ∧ Nx (upd H4 D (.lst (acc ++ [y]))) else Nx H3) := by
  refine ⟨fun i m H => m = min xs.length ys.length - i ∧ i ≤ min xs.length ys.length ∧ Ex H1 H ∧ ∃ zs, H D = some (.lst zs) ∧ zs.length ≤ i ∧ flatDs (outs out i) = true ∧ DpAll K H zs (outs out i),
    ⟨min xs.length ys.length, by simp, Nat.zero_le _, Ex.new hD, [], upd_same, Nat.le_refl _, rfl, .nil⟩, ?_⟩
  rintro i m H ⟨rfl, hi, e, zs, hy, hl, hf, hp⟩
  have qa := hqa.to e
  have qb := hqb.to e
  by_cases hlt : i < min xs.length ys.length
  · have ha : xs[i]? = some (xs[i]'(by omega)) := List.getElem?_eq_getElem (by omega)
    have hb : ys[i]? = some (ys[i]'(by omega)) := List.getElem?_eq_getElem (by omega)
    refine .inr ⟨?_, fun H => i + 1 ≤ min xs.length ys.length ∧ Ex H1 H ∧ ∃ zs, H D = some (.lst zs) ∧ zs.length ≤ i + 1 ∧ flatDs (outs out (i + 1)) = true ∧ DpAll K H zs (outs out (i + 1)), fun H' p' => ⟨_, by omega, rfl, p'⟩, ?_⟩
    · cases t
      · exact ⟨xs, ys, _, _, qa, qb, ha, hb⟩
      · exact ⟨xs, ys, _, _, qa, qb, ha, hb⟩
    · have key : ∀ x y T, H T = none → xs[i]? = some x → ys[i]? = some y → g (.ref T) (wipe σ vs) (upd H T (.tup [x, y])) fun σ2 H2 => wipe σ2 vs = wipe σ vs ∧ tt σ2 H2 fun b H3 =>
          if b = true then te σ2 H3 fun y H4 => ∃ acc, H4 D = some (.lst acc) ∧ acc.length < sizeLine ∧ (i + 1 ≤ min xs.length ys.length ∧ Ex H1 (upd H4 D (.lst (acc ++ [y]))) ∧ ∃ zs, (upd H4 D (.lst (acc ++ [y]))) D = some (.lst zs) ∧ zs.length ≤ i + 1 ∧ flatDs (outs out (i + 1)) = true ∧ DpAll K (upd H4 D (.lst (acc ++ [y]))) zs (outs out (i + 1)))
          else (i + 1 ≤ min xs.length ys.length ∧ Ex H1 H3 ∧ ∃ zs, H3 D = some (.lst zs) ∧ zs.length ≤ i + 1 ∧ flatDs (outs out (i + 1)) = true ∧ DpAll K H3 zs (outs out (i + 1))) := fun x y T nT hx hy' => by
        refine hs i x y T H _ _ hx hy' e nT (fun z H4 d e4 ho hfd hdp => ?_) fun ho H3 e3 => ?_
        · have hy4 := e4 _ _ hy
          refine ⟨zs, hy4, by omega, hlt, (e.trans e4).mut hD, zs ++ [z], upd_same, by simp; omega, ?_, ?_⟩
          · rw [outs_succ, ho]
            refine flatDs_all fun z hz => ?_
            rcases List.mem_append.mp hz with hz | hz
            · exact flatDs_mem hf z hz
            · simp at hz; subst hz; exact hfd
          · rw [outs_succ, ho]
            have ei : ExI H4 (upd H4 D (.lst (zs ++ [z]))) := ExI.put hy4 rfl
            exact (dpAll_exI ei _ _ hf (hp.to e4)).app (.one (dp_exI ei d z hfd hdp))
        · refine ⟨hlt, e.trans e3, zs, e3 _ _ hy, by omega, ?_, ?_⟩
          · rw [outs_succ, ho]; simpa using hf
          · rw [outs_succ, ho]; simpa using hp.to e3
      cases t
      · rintro v H' ⟨T, x, y, rfl, nT, rfl, hx, hy'⟩
        exact key x y T nT (hx xs qa) (hy' ys qb)
      · rintro v H' ⟨T, x, y, rfl, nT, rfl, hx, hy'⟩
        exact key x y T nT (hx xs qa) (hy' ys qb)
  · have ei : i = min xs.length ys.length := by omega
    subst ei
    refine .inl ⟨?_, hd H zs e hy hp⟩
    cases t
    · exact ⟨xs, ys, qa, qb, by omega⟩
    · exact ⟨xs, ys, qa, qb, by omega⟩
theorem atI_back {α : Type} {xs : List α} {v : α} (h : xs[xs.length - 1]? = some v) : atI xs (-1) = some v := by
  have h0 : xs.length - 1 < xs.length := (List.getElem?_eq_some_iff.mp h).1
  unfold atI
  have e : ixN xs.length (-1) = some (xs.length - 1) := by
    unfold ixN
    rw [if_neg (by decide), if_pos (by omega)]
    congr 1
    omega
  rw [e]
  exact h
theorem cut_tail (xs : List V) (h : 1 ≤ xs.length) : cutV xs (some 1) none = xs.tail := by
  unfold cutV
  rw [show HT.sIx xs.length 0 (some 1) = min 1 xs.length from rfl, show HT.sIx xs.length xs.length none = xs.length from rfl]
  have : min 1 xs.length = 1 := by omega
  rw [this, List.drop_one]
  exact List.take_of_length_le (by simp)
theorem dpAll_tail {K : PySem.W.Frag} {H : Hp} {xs : List V} {ds : List PyData} (h : DpAll K H xs ds) : DpAll K H xs.tail ds.tail := by
  cases h with
  | nil => exact .nil
  | cons _ h => exact h
theorem drop_cons {α : Type} {s : List α} {i : Nat} {p : α} (h : s[i]? = some p) : s.drop i = p :: s.drop (i + 1) := by
  obtain ⟨h1, h2⟩ := List.getElem?_eq_some_iff.mp h
  rw [List.drop_eq_getElem_cons h1, h2]
theorem for_enumL {K : PySem.W.Frag} {a : Addr} {xs : List V} {g : TG} {tb : TS} {D : Ends} {σ : L2.St} {H : Hp} (Pv : Nat → L2.St → Hp → Prop)
    (h0 : Pv 0 σ H) (hl : ∀ i σ H, i ≤ xs.length → Pv i σ H → SqL K H a xs)
    (hs : ∀ i x T σ H, xs[i]? = some x → Pv i σ H → H T = none →
      g (.ref T) σ (upd H T (.tup [.int (i : Nat), x])) fun σ2 H2 => tb { D with nx := Pv (i + 1), ct := Pv (i + 1), bk := D.nx } σ2 H2)
    (hd : ∀ σ H, Pv xs.length σ H → D.nx σ H) :
    ∃ W : Nat → Nat → L2.St → Hp → Prop, (∃ m, W 0 m σ H) ∧ ∀ i m σ H, W i m σ H →
      ((Ite K a).stop i H ∧ D.nx σ H) ∨ ((Ite K a).go i H ∧ ∃ N : L2.St → Hp → Prop, (∀ σ' H', N σ' H' → ∃ m', m' < m ∧ W (i + 1) m' σ' H') ∧
        ∀ x H', (Ite K a).yld i H x H' → g x σ H' fun σ2 H2 => tb { D with nx := N, ct := N, bk := D.nx } σ2 H2) := by
  refine ⟨fun i m σ H => m = xs.length - i ∧ i ≤ xs.length ∧ Pv i σ H, ⟨xs.length, by simp, Nat.zero_le _, h0⟩, ?_⟩
  rintro i m σ H ⟨rfl, hi, p⟩
  have q := hl i σ H hi p
  by_cases hlt : i < xs.length
  · refine .inr ⟨⟨xs, xs[i], q, List.getElem?_eq_getElem hlt⟩, Pv (i + 1), fun σ' H' p' => ⟨_, by omega, rfl, hlt, p'⟩, ?_⟩
    rintro v H' ⟨T, x, rfl, nT, rfl, hx⟩
    exact hs i x T σ H (hx xs q) p nT
  · have e : i = xs.length := by omega
    subst e
    exact .inl ⟨⟨xs, q, Nat.le_refl _⟩, hd σ H p⟩

end Gx

set_option Elab.async false
set_option linter.all false
set_option maxRecDepth 100000
set_option maxHeartbeats 4000000
namespace K40
open PySem PySem.Spec PyProof.Rows L2 Evl Gx
abbrev s_of_node : Stmt := topS 9
theorem sc_of_node : FnScope ["words", "ranks", "values", "errs", "word", "value"] ["words", "ranks"] (defScope s_of_node) := ⟨rfl, rfl, rfl, by decide +kernel, rfl, by decide +kernel, by decide +kernel⟩
abbrev s_of_all : Stmt := topS 10
theorem sc_of_all : FnScope ["words"] ["words"] (defScope s_of_all) := ⟨rfl, rfl, rfl, by decide +kernel, rfl, by decide +kernel, by decide +kernel⟩
abbrev s_of_any : Stmt := topS 11
theorem sc_of_any : FnScope ["words"] ["words"] (defScope s_of_any) := ⟨rfl, rfl, rfl, by decide +kernel, rfl, by decide +kernel, by decide +kernel⟩
abbrev s_of_first : Stmt := topS 13
theorem sc_of_first : FnScope ["words", "found", "word"] ["words"] (defScope s_of_first) := ⟨rfl, rfl, rfl, by decide +kernel, rfl, by decide +kernel, by decide +kernel⟩
abbrev s_of_case : Stmt := topS 15
theorem sc_of_case : FnScope ["pairs", "word", "found", "when", "then"] ["pairs", "word"] (defScope s_of_case) := ⟨rfl, rfl, rfl, by decide +kernel, rfl, by decide +kernel, by decide +kernel⟩
theorem inV_map {α : Type} {f : α → V} (hf : ∀ a b, eqV (f a) (f b) = true ↔ a = b) (x : α) (xs : List α) : inV (f x) (xs.map f) = true ↔ x ∈ xs := by
  unfold inV
  rw [List.any_eq_true]
  constructor
  · rintro ⟨y, hy, e⟩
    obtain ⟨z, hz, rfl⟩ := List.mem_map.mp hy
    have := (hf _ _).mp e
    subst this
    exact hz
  · intro h
    exact ⟨f x, List.mem_map_of_mem h, (hf x x).mpr rfl⟩
theorem wV_eq : ∀ a b, eqV (wV a) (wV b) = true ↔ a = b := by
  intro a b
  cases a <;> cases b <;> simp [wV, eqV]
theorem bl_eq : ∀ a b : Bool, eqV (V.bl a) (V.bl b) = true ↔ a = b := by decide
theorem iv_wV (o : Option Str) (os : List (Option Str)) : inV (wV o) (os.map wV) = decide (o ∈ os) := by
  rw [Bool.eq_iff_iff, decide_eq_true_iff]
  exact inV_map wV_eq o os
theorem iv_bl (o : Bool) (os : List Bool) : inV (V.bl o) (os.map V.bl) = decide (o ∈ os) := by
  rw [Bool.eq_iff_iff, decide_eq_true_iff]
  exact inV_map bl_eq o os
theorem wV_inj : ∀ a b, wV a = wV b → a = b := by
  intro a b h
  cases a <;> cases b <;> first | rfl | (cases h; rfl) | cases h
def nodeW (rs : List (Option Str)) (xs : List Wrd) : Wrd := (((rs.find? fun r => decide (r ∈ xs.map (·.1))).getD (rs.getLast?.getD none)), decide (true ∈ xs.map (·.2)))
def spNodeW (K : PySem.W.Frag) : Sp := fun vs H Q _ => ∃ (l r : Addr) (us : List V) (xs : List Wrd) (rs : List (Option Str)), vs = [.ref l, .ref r] ∧ H l = some (.lst us) ∧ WrdsAt K H us xs ∧ xs.length ≤ 100000 ∧
  SqT K H r (rs.map wV) ∧ rs ≠ [] ∧ ∀ z H', Ex H H' → WrdAt K H' z (nodeW rs xs) → Q z H'
def firstW (xs : List Wrd) : Wrd := xs.foldr (fun x f => if x.1 = some ("unknown" : Str) then (f.1, x.2 || f.2) else x) (some "unknown", false)
def spFirstW (K : PySem.W.Frag) : Sp := fun vs H Q _ => ∃ (l : Addr) (us : List V) (xs : List Wrd), vs = [.ref l] ∧ H l = some (.lst us) ∧ WrdsAt K H us xs ∧ xs.length ≤ 100000 ∧
  ∀ z H', Ex H H' → WrdAt K H' z (firstW xs) → Q z H'
section
variable {P : Program} {w : World} {K : PySem.W.Frag} {mg : Str → Option Value} {base : Heap} {f_behind : Addr} {fd_behind : FuncData}
theorem ok_of_node {f : Addr} {fd : FuncData} (D : Def K mg "_of_node" s_of_node f fd ["words", "ranks"]) (bi : Bi mg) : FnOk P w K mg base CX0 1 f fd ["words", "ranks"] (spNodeW K) := by
  refine D.fn.ok sc_of_node (fun vs H Q E h => ?_) (fun cdv A outer s0 H vs Q E hr h => ?_)
  · obtain ⟨l, r, us, xs, rs, rfl, _⟩ := h
    rfl
  · obtain ⟨l, r, us, xs, rs, rfl, hl, hx, hz, hrs, hne, k⟩ := h
    refine ⟨_, (Evl.pss_cut (ps_par (i := 2) (j := 3) rfl sc_of_node.nd rfl rfl (by decide) rfl rfl (pa_cons (pe_lc (own := [("word", 4)]) rfl sc_of_node.nd (pi_list (pv 0)) (blkOk_by (N := ["words", "ranks", "values", "errs", "word", "value"]) (sc := defScope s_of_node) (by decide +kernel)) (fun _ _ _ _ _ => (pg_name (i := 4) sc_of_node.nd rfl (Or.inl rfl))) (fun _ _ _ _ _ => pts_nil) (fun _ _ _ _ _ => (pe_ix (ix_tupK (K := K) rfl) (pv 4) pe_int (fun _ _ => rfl)))) (pa_cons (pe_cmpR op_in_seq pe_bl (pe_lc (own := [("word", 4)]) rfl sc_of_node.nd (pi_list (pv 0)) (blkOk_by (N := ["words", "ranks", "values", "errs", "word", "value"]) (sc := defScope s_of_node) (by decide +kernel)) (fun _ _ _ _ _ => (pg_name (i := 4) sc_of_node.nd rfl (Or.inl rfl))) (fun _ _ _ _ _ => pts_nil) (fun _ _ _ _ _ => (pe_ix (ix_tupK (K := K) rfl) (pv 4) pe_int (fun _ _ => rfl)))) (by rfl)) pa_nil)) (by rfl))
  (pss_cons (ps_for PassesOwn.never rfl (pi_tup (pv 1)) (pg_name (i := 5) sc_of_node.nd rfl (Or.inl rfl))
    (pss_one (ps_if (pt_cmpR op_in_seq (pv 5) (pv 2) (by rfl))
      (pss_one (ps_ret (pe_tup (pa_cons (pv 5) (pa_cons (pv 3) pa_nil)))))
      pss_nil)))
  (pss_one (ps_ret (pe_tup (pa_cons (pe_ix (ix_tupK (K := K) rfl) (pv 1) (pe_un un_neg pe_int) (fun _ _ => rfl)) (pa_cons (pv 3) pa_nil))))))), ?_⟩
    have fl : ∀ os : List (Option Str), (os.map wV).all flatV = true := fun os => by
      rw [List.all_map, List.all_eq_true]
      intro o _
      cases o <;> rfl
    have flb : ∀ os : List Bool, (os.map V.bl).all flatV = true := fun os => by
      rw [List.all_map, List.all_eq_true]
      intro o _
      rfl
    have lx : us.length = xs.length := Paired.length hx
    refine ⟨fun σ H' => ∃ V1 : Addr, σ = [some (.ref l), some (.ref r), some (.ref V1), some (.bl (decide (true ∈ xs.map (·.2)))), none, none] ∧ Ex H H' ∧ H' V1 = some (.lst ((xs.map (·.1)).map wV)), ?_, ?_⟩
    · refine ⟨_, rfl, l, rfl, ⟨_, SqL.of hl⟩, fun D nD => ?_⟩
      refine lc_list (xs := us) (fun j H' => Ex H H' ∧ H' D = some (.lst (((xs.take j).map (·.1)).map wV))) ?_ (fun j H' _ z => SqL.of (z.1 _ _ hl)) ?_ ?_
      · exact ⟨Ex.new nD, upd_same⟩
      · rintro j z H3 hj ⟨x3, hD⟩
        obtain ⟨x, hxj, a, rfl, ha⟩ := Gx.paired_get hx hj
        refine ⟨rfl, _, rfl, a, _, 0, _, rfl, rfl, ex_t x3 ha, rfl, _, hD, ?_, x3.mut nD, ?_⟩
        · rw [List.length_map, List.length_map, List.length_take, sizeLine_eq]; omega
        · rw [upd_same, takeS hxj, List.map_append, List.map_append]; rfl
      · rintro H3 ⟨x3, hD⟩
        rw [lx, List.take_length] at hD
        refine ⟨_, rfl, l, rfl, ⟨_, SqL.of (x3 _ _ hl)⟩, fun D2 nD2 => ?_⟩
        refine lc_list (xs := us) (fun j H' => Ex H3 H' ∧ H' D2 = some (.lst (((xs.take j).map (·.2)).map V.bl))) ?_ (fun j H' _ z => SqL.of (z.1 _ _ (x3 _ _ hl))) ?_ ?_
        · exact ⟨Ex.new nD2, upd_same⟩
        · rintro j z H4 hj ⟨x4, hD4⟩
          obtain ⟨x, hxj, a, rfl, ha⟩ := Gx.paired_get hx hj
          refine ⟨rfl, _, rfl, a, _, 1, _, rfl, rfl, ex_t x4 (ex_t x3 ha), rfl, _, hD4, ?_, x4.mut nD2, ?_⟩
          · rw [List.length_map, List.length_map, List.length_take, sizeLine_eq]; omega
          · rw [upd_same, takeS hxj, List.map_append, List.map_append]; rfl
        · rintro H4 ⟨x4, hD4⟩
          rw [lx, List.take_length] at hD4
          refine ⟨D2, _, rfl, .inl (SqL.of hD4), rfl, flb _, _, _, rfl, D, ?_, x3.trans x4, x4 _ _ hD⟩
          rw [iv_bl]
          rfl
    rintro σ H1 ⟨V1, rfl, x1, hV1⟩
    refine ⟨_, rfl, r, rfl, ⟨_, ex_t x1 hrs⟩, ?_⟩
    refine for_tup (xs := rs.map wV) (fun j σ H' => ∃ x5 : Option V, σ = [some (.ref l), some (.ref r), some (.ref V1), some (.bl (decide (true ∈ xs.map (·.2)))), none, x5] ∧ Ex H1 H' ∧ (rs.take j).find? (fun r => decide (r ∈ xs.map (·.1))) = none) ?_ (fun j σ H' _ z => ?_) ?_ ?_
    · exact ⟨_, rfl, Ex.refl _, rfl⟩
    · obtain ⟨_, _, e, _⟩ := z
      exact ex_t (x1.trans e) hrs
    · rintro j z σ H2 hj ⟨x5, rfl, x2, hf⟩
      rw [List.getElem?_map] at hj
      obtain ⟨o, ho, rfl⟩ := Option.map_eq_some_iff.mp hj
      refine ⟨_, rfl, _, rfl, V1, _, rfl, .inl (SqL.of (x2 _ _ hV1)), by cases o <;> rfl, fl _, _, rfl, ?_⟩
      rw [iv_wV]
      refine if_d (fun h => ?_) fun h => ⟨_, rfl, x2, ?_⟩
      · refine ⟨_, rfl, _, rfl, sz2, fun T nT => k _ _ ((x1.trans x2).trans (Ex.new nT)) ⟨T, rfl, ?_⟩⟩
        have : rs.find? (fun r => decide (r ∈ xs.map (·.1))) = some o := by
          have sp : rs = rs.take j ++ o :: rs.drop (j + 1) := by
            obtain ⟨hl2, he⟩ := List.getElem?_eq_some_iff.mp ho
            rw [← he, ← List.drop_eq_getElem_cons hl2, List.take_append_drop]
          rw [sp, List.find?_append, hf, Option.none_or, List.find?_cons_of_pos (by simpa using h)]
        unfold nodeW
        rw [this]
        exact SqT.of upd_same
      · rw [takeS ho, List.find?_append, hf, Option.none_or, List.find?_cons_of_neg (by simpa using h)]
        rfl
    · rintro σ H2 ⟨x5, rfl, x2, hf⟩
      rw [List.length_map, List.take_length] at hf
      obtain ⟨q, hq⟩ : ∃ q, rs.getLast? = some q := ⟨_, List.getLast?_eq_some_getLast hne⟩
      have hq' : (rs.map wV)[(rs.map wV).length - 1]? = some (wV q) := by
        rw [List.getLast?_eq_getElem?] at hq
        rw [List.length_map, List.getElem?_map, hq]; rfl
      refine ⟨_, rfl, 1, rfl, r, _, -1, _, rfl, rfl, ex_t (x1.trans x2) hrs, atI_back hq', _, rfl, sz2, fun T nT => k _ _ ((x1.trans x2).trans (Ex.new nT)) ⟨T, rfl, ?_⟩⟩
      unfold nodeW
      rw [hf, hq]
      exact SqT.of upd_same
theorem ok_of_first {f : Addr} {fd : FuncData} (D : Def K mg "of_first" s_of_first f fd ["words"]) (bi : Bi mg)
    (D_behind : Def K mg "_behind" s_behind f_behind fd_behind ["word", "other"])
    (G_behind : FnOk P w K mg base CX0 1 f_behind fd_behind ["word", "other"] (spBehind K)) : FnOk P w K mg base CX0 2 f fd ["words"] (spFirstW K) := by
  refine D.fn.ok sc_of_first (fun vs H Q E h => ?_) (fun cdv A outer s0 H vs Q E hr h => ?_)
  · obtain ⟨l, us, xs, rfl, _⟩ := h
    rfl
  · obtain ⟨l, us, xs, rfl, hl, hx, hz, k⟩ := h
    refine ⟨_, (pss_cons (ps_set (i := 1) sc_of_first.nd rfl (Or.inl rfl) (pe_tup (pa_cons pe_str (pa_cons pe_bl pa_nil))))
  (pss_cons (ps_for PassesOwn.never rfl (pi_list (pe_revL (pv 0))) (pg_name (i := 2) sc_of_first.nd rfl (Or.inl rfl))
    (pss_one (ps_set (i := 1) sc_of_first.nd rfl (Or.inl rfl) (pe_ifExp (pt_cmpR op_eq (pe_ix (ix_tupK (K := K) rfl) (pv 2) pe_int (fun _ _ => rfl)) pe_str (nomark _)) (pe_call G_behind (hr.mono (by first | decide | omega)) rfl D_behind.mg D_behind.fn.kp D_behind.bd .nil pass0 (pa_cons (pv 2) (pa_cons (pv 1) pa_nil))) (pv 2)))))
  (pss_one (ps_ret (pv 1))))), ?_⟩
    refine ⟨sz2, fun T nT => ?_⟩
    have x1 : Ex H (upd H T (.tup [.str "unknown", .bl false])) := Ex.new nT
    have hT : upd H T (.tup [.str "unknown", .bl false]) T = some (.tup [.str "unknown", .bl false]) := upd_same
    generalize upd H T (.tup [.str "unknown", .bl false]) = H1 at x1 hT ⊢
    have lx : us.length = xs.length := Paired.length hx
    refine ⟨_, rfl, l, _, rfl, SqL.of (x1 _ _ hl), fun q nq => ?_⟩
    have x2 : Ex H1 (upd H1 q (.lst us.reverse)) := Ex.new nq
    have hq : upd H1 q (.lst us.reverse) q = some (.lst us.reverse) := upd_same
    generalize upd H1 q (.lst us.reverse) = H2 at x2 hq ⊢
    refine ⟨q, rfl, ⟨_, SqL.of hq⟩, ?_⟩
    refine for_list (xs := us.reverse) (fun j σ H' => ∃ (z : V) (x2 : Option V), σ = [some (.ref l), some z, x2] ∧ Ex H2 H' ∧ WrdAt K H' z (firstW (xs.drop (xs.length - j)))) ?_ (fun j σ H' _ z => ?_) ?_ ?_
    · refine ⟨.ref T, _, rfl, Ex.refl _, ?_⟩
      rw [Nat.sub_zero, List.drop_length]
      exact ⟨T, rfl, SqT.of (x2 _ _ hT)⟩
    · obtain ⟨_, _, _, e, _⟩ := z
      exact SqL.of (e _ _ hq)
    · rintro j u σ H3 hj ⟨z, x2', rfl, x3, hz'⟩
      have jl : j < us.length := by
        have := (List.getElem?_eq_some_iff.mp hj).1
        simpa using this
      rw [List.getElem?_reverse jl] at hj
      obtain ⟨x, hxj, a, rfl, ha⟩ := Gx.paired_get hx hj
      have ha3 := ex_t ((x1.trans x2).trans x3) ha
      have dr : xs.drop (xs.length - (j + 1)) = x :: xs.drop (xs.length - j) := by
        obtain ⟨h1, h2⟩ := List.getElem?_eq_some_iff.mp hxj
        rw [show xs.length - (j + 1) = us.length - 1 - j by omega, show xs.length - j = us.length - 1 - j + 1 by omega, ← h2]
        exact List.drop_eq_getElem_cons h1
      have fw : firstW (x :: xs.drop (xs.length - j)) = if x.1 = some ("unknown" : Str) then ((firstW (xs.drop (xs.length - j))).1, x.2 || (firstW (xs.drop (xs.length - j))).2) else x := rfl
      refine ⟨_, rfl, a, _, 0, _, rfl, rfl, ha3, rfl, ?_⟩
      obtain ⟨o, b⟩ := x
      by_cases h : o = some ("unknown" : Str)
      · subst h
        refine ⟨rfl, _, rfl, if_t (decide_eq_true rfl) ⟨_, rfl, _, rfl, .ref a, z, _, _, rfl, ⟨a, rfl, ha3⟩, hz', fun z2 H4 x4 hz2 => ?_⟩⟩
        refine ⟨_, _, rfl, x3.trans x4, ?_⟩
        rw [dr, fw, if_pos rfl]
        exact hz2
      · refine ⟨by cases o <;> rfl, _, rfl, if_f (decide_eq_false fun e => h (wV_inj o (some "unknown") e)) ⟨_, rfl, _, _, rfl, x3, ?_⟩⟩
        rw [dr, fw, if_neg h]
        exact ⟨a, rfl, ha3⟩
    · rintro σ H3 ⟨z, x2', rfl, x3, hz'⟩
      rw [List.length_reverse, lx, Nat.sub_self, List.drop_zero] at hz'
      exact ⟨_, rfl, k z H3 ((x1.trans x2).trans x3) hz'⟩
end
end K40

/-! the parts of a condition, and where they stand -/
set_option Elab.async false
set_option linter.all false
set_option maxRecDepth 100000
set_option maxHeartbeats 4000000
namespace Gx
open PySem PySem.Spec PyProof.Rows L2 Evl
/-- a constant tuple of the module -/
structure ConT (K : PySem.W.Frag) (mg : Str → Option Value) (x : Str) (a : Addr) (xs : List V) : Prop where
  mg : mg x = some (.ref a)
  at_ : ∀ H : Hp, SqT K H a xs
def inter {α : Type} : List α → List α → List α
  | w :: ws, t :: ts => w :: t :: inter ws ts
  | _, _ => []
theorem inter_len {α : Type} : ∀ {ws ts : List α}, ws.length = ts.length → (inter ws ts).length = 2 * ws.length
  | [], [], _ => rfl
  | w :: ws, t :: ts, h => by
    have := inter_len (ws := ws) (ts := ts) (by simpa using h)
    show (inter ws ts).length + 1 + 1 = 2 * (ws.length + 1)
    omega
  | [], _ :: _, h => by cases h
  | _ :: _, [], h => by cases h
theorem inter_app {α : Type} {a b : α} : ∀ {ws ts : List α}, ws.length = ts.length → inter (ws ++ [a]) (ts ++ [b]) = inter ws ts ++ [a, b]
  | [], [], _ => rfl
  | w :: ws, t :: ts, h => by
    show w :: t :: inter (ws ++ [a]) (ts ++ [b]) = w :: t :: (inter ws ts ++ [a, b])
    rw [inter_app (by simpa using h)]
  | [], _ :: _, h => by cases h
  | _ :: _, [], h => by cases h
theorem inter_mem {α : Type} {x : α} : ∀ {ws ts : List α}, x ∈ inter ws ts → x ∈ ws ∨ x ∈ ts
  | [], _, h => by cases h
  | _ :: _, [], h => by cases h
  | w :: ws, t :: ts, h => by
    rcases List.mem_cons.mp h with rfl | h
    · exact .inl (.head _)
    rcases List.mem_cons.mp h with rfl | h
    · exact .inr (.head _)
    exact (inter_mem h).elim (fun z => .inl (.tail _ z)) fun z => .inr (.tail _ z)
def Leaf.kind : Leaf → Str
  | .always _ => "always"
  | .empty _ => "empty"
  | .number _ => "number"
  | .asks _ _ _ _ => "asks"
def Cnd.kind : Cnd → Str
  | .leaf l => l.kind
  | .not _ => "not"
  | .node k _ => k
  | .case _ _ _ => "case"
def Cnd.parts : Cnd → List Cnd
  | .leaf _ => []
  | .not c => [c]
  | .node _ cs => cs
  | .case ws ts e => inter ws ts ++ [e]
section
variable {K : PySem.W.Frag} {H : Hp}
theorem cnds_inter : ∀ {xs ys : List V} {ws ts : List Cnd}, ws.length = ts.length → CndsAt K H xs ws → CndsAt K H ys ts → CndsAt K H (inter xs ys) (inter ws ts)
  | xs, ys, [], [], _, h1, h2 => by
    simp only [CndsAt] at h1
    subst h1
    show CndsAt K H [] []
    simp only [CndsAt]
  | xs, ys, w :: ws, t :: ts, h, h1, h2 => by
    simp only [CndsAt] at h1 h2
    obtain ⟨x, r, rfl, h3, h4⟩ := h1
    obtain ⟨y, q, rfl, h5, h6⟩ := h2
    show CndsAt K H (x :: y :: inter r q) (w :: t :: inter ws ts)
    simp only [CndsAt]
    exact ⟨x, _, rfl, h3, y, _, rfl, h5, cnds_inter (by simpa using h) h4 h6⟩
  | _, _, [], _ :: _, h, _, _ => by cases h
  | _, _, _ :: _, [], h, _, _ => by cases h
/-- the kind stands first -/
theorem cnd_kind {v : V} : ∀ {c : Cnd}, CndAt K H v c → ∃ (a : Addr) (xs : List V), v = .ref a ∧ SqT K H a xs ∧ atI xs 0 = some (.str c.kind)
  | .leaf l, h => by
    simp only [CndAt] at h
    cases l with
    | always w => obtain ⟨a, rfl, h1⟩ := h; exact ⟨a, _, rfl, h1, rfl⟩
    | empty w => obtain ⟨a, rfl, h1⟩ := h; exact ⟨a, _, rfl, h1, rfl⟩
    | number w => obtain ⟨a, rfl, h1⟩ := h; exact ⟨a, _, rfl, h1, rfl⟩
    | asks n ss sg k => obtain ⟨a, b, ws, rfl, h1, _⟩ := h; exact ⟨a, _, rfl, h1, rfl⟩
  | .not c, h => by
    simp only [CndAt] at h
    obtain ⟨a, x, rfl, h1, _⟩ := h; exact ⟨a, _, rfl, h1, rfl⟩
  | .node k cs, h => by
    simp only [CndAt] at h
    obtain ⟨a, b, xs, rfl, h1, _⟩ := h; exact ⟨a, _, rfl, h1, rfl⟩
  | .case ws ts e, h => by
    simp only [CndAt] at h
    obtain ⟨a, b, qs, xs, ys, y, rfl, h1, _⟩ := h; exact ⟨a, _, rfl, h1, rfl⟩
end
theorem Cnd.parts_ok {ns : List Str} {c : Cnd} (h : c.ok ns) : ∀ p ∈ c.parts, p.ok ns := by
  cases c with
  | leaf l => intro p hp; cases hp
  | not c =>
    intro p hp
    simp only [Cnd.ok] at h
    rw [List.mem_singleton.mp hp]; exact h
  | node k cs =>
    simp only [Cnd.ok] at h
    exact Cnd.okL_iff.mp h.2
  | case ws ts e =>
    simp only [Cnd.ok] at h
    obtain ⟨_, h1, h2, h3⟩ := h
    intro p hp
    rcases List.mem_append.mp hp with z | z
    · exact (inter_mem z).elim (Cnd.okL_iff.mp h1 p) (Cnd.okL_iff.mp h2 p)
    · rw [List.mem_singleton.mp z]; exact h3
theorem Cnd.parts_depth {c p : Cnd} (hp : p ∈ c.parts) : p.depth < c.depth := by
  cases c with
  | leaf l => cases hp
  | not c => rw [List.mem_singleton.mp hp]; simp only [Cnd.depth]; omega
  | node k cs =>
    have := (Cnd.depthL_le (n := Cnd.depthL cs)).mp (Nat.le_refl _) p hp
    simp only [Cnd.depth]; omega
  | case ws ts e =>
    simp only [Cnd.depth]
    rcases List.mem_append.mp hp with z | z
    · rcases inter_mem z with z | z
      · have := (Cnd.depthL_le (n := Cnd.depthL ws)).mp (Nat.le_refl _) p z
        omega
      · have := (Cnd.depthL_le (n := Cnd.depthL ts)).mp (Nat.le_refl _) p z
        omega
    · rw [List.mem_singleton.mp z]; omega
theorem Cnd.weightL_len : ∀ cs : List Cnd, 20 * cs.length ≤ Cnd.weightL cs
  | [] => by simp [Cnd.weightL]
  | c :: cs => by
    have := Cnd.weightL_len cs
    simp only [Cnd.weightL, List.length_cons]
    omega
theorem Cnd.parts_len {ns : List Str} {c : Cnd} (h : c.ok ns) : 10 * c.parts.length ≤ c.weight := by
  cases c with
  | leaf l => simp [Cnd.parts]
  | not c => simp only [Cnd.parts, Cnd.weight, List.length_singleton]; omega
  | node k cs =>
    have := Cnd.weightL_len cs
    simp only [Cnd.parts, Cnd.weight]; omega
  | case ws ts e =>
    simp only [Cnd.ok] at h
    have h1 := Cnd.weightL_len ws
    have h2 := Cnd.weightL_len ts
    have h3 := inter_len h.1
    simp only [Cnd.parts, Cnd.weight, List.length_append, List.length_singleton]
    omega
theorem Cnd.weight_pos : ∀ c : Cnd, 40 ≤ c.weight
  | .leaf _ => by simp only [Cnd.weight]; omega
  | .not c => by simp only [Cnd.weight]; omega
  | .node _ cs => by simp only [Cnd.weight]; omega
  | .case ws ts e => by simp only [Cnd.weight]; omega
theorem Cnd.weightL_60 : ∀ cs : List Cnd, 60 * cs.length ≤ Cnd.weightL cs
  | [] => by simp [Cnd.weightL]
  | c :: cs => by
    have := Cnd.weightL_60 cs
    have := c.weight_pos
    simp only [Cnd.weightL, List.length_cons]
    omega
theorem Cnd.parts_60 {ns : List Str} {c : Cnd} (h : c.ok ns) : 60 * c.parts.length ≤ c.weight := by
  cases c with
  | leaf l => simp [Cnd.parts]
  | not c =>
    have := c.weight_pos
    simp only [Cnd.parts, Cnd.weight, List.length_singleton]; omega
  | node k cs =>
    have := Cnd.weightL_60 cs
    simp only [Cnd.parts, Cnd.weight]; omega
  | case ws ts e =>
    simp only [Cnd.ok] at h
    have h1 := Cnd.weightL_60 ws
    have h2 := Cnd.weightL_60 ts
    have h3 := inter_len h.1
    have := e.weight_pos
    simp only [Cnd.parts, Cnd.weight, List.length_append, List.length_singleton]
    omega
def whenB (ws : Nat) (i : Nat) : Bool := decide (i % 2 = 0) && decide (i < 2 * ws)
/-- which parts stand plainly -/
def Cnd.plains (c : Cnd) (p : Bool) : List Bool := match c with
  | .case ws _ _ => (List.range (2 * ws.length + 1)).map fun i => p || whenB ws.length i
  | c => List.replicate c.parts.length (p && decide (c.kind ∈ (["all", "any"] : List Str)))
end Gx

set_option Elab.async false
set_option linter.all false
set_option maxRecDepth 100000
set_option maxHeartbeats 4000000
namespace K40
open PySem PySem.Spec PyProof.Rows L2 Evl Gx
abbrev s_all_words : Stmt := topS 6
theorem sc_all_words : FnScope ["value", "errs"] [] (defScope s_all_words) := ⟨rfl, rfl, rfl, by decide +kernel, rfl, by decide +kernel, by decide +kernel⟩
def ranksAll : List (Option Str) := [some "no", none, some "unknown", some "yes"]
def ranksAny : List (Option Str) := [some "yes", none, some "unknown", some "no"]
def spAllW (K : PySem.W.Frag) (rs : List (Option Str)) : Sp := fun vs H Q _ => ∃ (l : Addr) (us : List V) (xs : List Wrd), vs = [.ref l] ∧ H l = some (.lst us) ∧ WrdsAt K H us xs ∧ xs.length ≤ 100000 ∧
  ∀ z H', Ex H H' → WrdAt K H' z (nodeW rs xs) → Q z H'
def WpAt (K : PySem.W.Frag) (H : Hp) (v : V) (p : Wrd × Wrd) : Prop := ∃ a x y, v = .ref a ∧ SqT K H a [x, y] ∧ WrdAt K H x p.1 ∧ WrdAt K H y p.2
theorem WpAt.to {K : PySem.W.Frag} {H H' : Hp} {v : V} {p : Wrd × Wrd} (h : WpAt K H v p) (e : Ex H H') : WpAt K H' v p := by
  obtain ⟨a, x, y, h1, h2, h3, h4⟩ := h
  exact ⟨a, x, y, h1, ex_t e h2, h3.to e, h4.to e⟩
def caseW (ps : List (Wrd × Wrd)) (w : Wrd) : Wrd := ps.foldr (fun p f => if p.1.1 = none then p.1 else ((if p.1.1 = some ("yes" : Str) then p.2 else f).1, p.1.2 || (if p.1.1 = some ("yes" : Str) then p.2 else f).2)) w
def spCaseW (K : PySem.W.Frag) : Sp := fun vs H Q _ => ∃ (l : Addr) (us : List V) (ps : List (Wrd × Wrd)) (v : V) (x : Wrd), vs = [.ref l, v] ∧ H l = some (.lst us) ∧ Paired (WpAt K H) us ps ∧ ps.length ≤ 100000 ∧ WrdAt K H v x ∧
  ∀ z H', Ex H H' → WrdAt K H' z (caseW ps x) → Q z H'
def allW : List Wrd := (vals3.flatMap fun s => [(some s, false), (some s, true)]) ++ [(none, true)]
def spAllWords (K : PySem.W.Frag) : Sp := fun vs H Q _ => vs = [] ∧ ∀ l us H', Ex H H' → H l = none → H' l = some (.lst us) → WrdsAt K H' us allW → Q (.ref l) H'
section
variable {P : Program} {w : World} {K : PySem.W.Frag} {mg : Str → Option Value} {base : Heap} {f_behind f_of_node a_RANKS_OF_ALL a_RANKS_OF_ANY a_VALUES : Addr} {fd_behind fd_of_node : FuncData}
theorem ok_of_all {f : Addr} {fd : FuncData} (D : Def K mg "of_all" s_of_all f fd ["words"]) (bi : Bi mg) (C_RANKS_OF_ALL : ConT K mg "RANKS_OF_ALL" a_RANKS_OF_ALL (ranksAll.map wV))
    (D_of_node : Def K mg "_of_node" s_of_node f_of_node fd_of_node ["words", "ranks"])
    (G_of_node : FnOk P w K mg base CX0 1 f_of_node fd_of_node ["words", "ranks"] (spNodeW K)) : FnOk P w K mg base CX0 2 f fd ["words"] (spAllW K ranksAll) := by
  refine D.fn.ok sc_of_all (fun vs H Q E h => ?_) (fun cdv A outer s0 H vs Q E hr h => ?_)
  · obtain ⟨l, us, xs, rfl, _⟩ := h
    rfl
  · obtain ⟨l, us, xs, rfl, hl, hx, hz, k⟩ := h
    refine ⟨_, (pss_one (ps_ret (pe_call G_of_node (hr.mono (by first | decide | omega)) rfl D_of_node.mg D_of_node.fn.kp D_of_node.bd .nil pass0 (pa_cons (pv 0) (pa_cons (pe_glob (v := .ref a_RANKS_OF_ALL) rfl C_RANKS_OF_ALL.mg rfl) pa_nil))))), ?_⟩
    exact ⟨_, rfl, l, a_RANKS_OF_ALL, us, xs, ranksAll, rfl, hl, hx, hz, C_RANKS_OF_ALL.at_ H, by decide, k⟩
theorem ok_of_any {f : Addr} {fd : FuncData} (D : Def K mg "of_any" s_of_any f fd ["words"]) (bi : Bi mg) (C_RANKS_OF_ANY : ConT K mg "RANKS_OF_ANY" a_RANKS_OF_ANY (ranksAny.map wV))
    (D_of_node : Def K mg "_of_node" s_of_node f_of_node fd_of_node ["words", "ranks"])
    (G_of_node : FnOk P w K mg base CX0 1 f_of_node fd_of_node ["words", "ranks"] (spNodeW K)) : FnOk P w K mg base CX0 2 f fd ["words"] (spAllW K ranksAny) := by
  refine D.fn.ok sc_of_any (fun vs H Q E h => ?_) (fun cdv A outer s0 H vs Q E hr h => ?_)
  · obtain ⟨l, us, xs, rfl, _⟩ := h
    rfl
  · obtain ⟨l, us, xs, rfl, hl, hx, hz, k⟩ := h
    refine ⟨_, (pss_one (ps_ret (pe_call G_of_node (hr.mono (by first | decide | omega)) rfl D_of_node.mg D_of_node.fn.kp D_of_node.bd .nil pass0 (pa_cons (pv 0) (pa_cons (pe_glob (v := .ref a_RANKS_OF_ANY) rfl C_RANKS_OF_ANY.mg rfl) pa_nil))))), ?_⟩
    exact ⟨_, rfl, l, a_RANKS_OF_ANY, us, xs, ranksAny, rfl, hl, hx, hz, C_RANKS_OF_ANY.at_ H, by decide, k⟩
theorem ok_all_words {f : Addr} {fd : FuncData} (D : Def K mg "all_words" s_all_words f fd []) (bi : Bi mg) (C_VALUES : ConT K mg "VALUES" a_VALUES (vals3.map V.str)) : FnOk P w K mg base CX0 1 f fd [] (spAllWords K) := by
  refine D.fn.ok sc_all_words (fun vs H Q E h => ?_) (fun cdv A outer s0 H vs Q E hr h => ?_)
  · obtain ⟨rfl, _⟩ := h
    rfl
  · obtain ⟨rfl, k⟩ := h
    refine ⟨_, (pss_one (ps_ret (pe_op op_cat (pe_lc2 (own := [("value", 0), ("errs", 1)]) (vs1 := [1]) rfl sc_all_words.nd (pi_tup (pe_glob (v := .ref a_VALUES) rfl C_VALUES.mg rfl)) (blkOk_by (N := ["value", "errs"]) (sc := defScope s_all_words) (by decide +kernel)) (by decide) (fun _ _ _ _ _ => (pg_name (i := 0) sc_all_words.nd rfl (Or.inl rfl))) (fun _ _ _ _ _ => pts_nil) (fun _ _ _ _ _ => (pi_tupK (K := K) rfl (pe_tup (pa_cons pe_bl (pa_cons pe_bl pa_nil))))) (fun _ _ _ _ _ => (pg_name (i := 1) sc_all_words.nd rfl (Or.inl rfl))) (fun _ _ _ _ _ => pts_nil) (fun _ _ _ _ _ => (pe_tup (pa_cons (pv 0) (pa_cons (pv 1) pa_nil))))) (pe_lst (pa_cons (pe_tup (pa_cons pe_non (pa_cons pe_bl pa_nil))) pa_nil))))), ?_⟩
    let two : Str → List Wrd := fun s => [(some s, false), (some s, true)]
    refine ⟨a_VALUES, rfl, ⟨_, C_VALUES.at_ H⟩, fun D nD => ?_⟩
    refine lc2_tup (xs := vals3.map V.str) (fun j H' => Ex H H' ∧ ∃ us : List V, H' D = some (.lst us) ∧ WrdsAt K H' us ((vals3.take j).flatMap two)) ?_ (fun j H' _ _ => C_VALUES.at_ H') ?_ ?_
    · exact ⟨Ex.new nD, [], upd_same, .nil⟩
    · rintro j z H3 hj ⟨x3, us, hD, hus⟩
      rw [List.getElem?_map] at hj
      obtain ⟨sv, hs, rfl⟩ := Option.map_eq_some_iff.mp hj
      have jl : j < 3 := (List.getElem?_eq_some_iff.mp hs).1
      have tl : ∀ j, ((vals3.take j).flatMap two).length ≤ 6 := by
        intro j
        rw [List.length_flatMap]
        match j with
        | 0 => decide
        | 1 => decide
        | 2 => decide
        | j + 3 => rw [List.take_of_length_le (by show 3 ≤ j + 3; omega)]; decide
      refine ⟨rfl, sz2, fun tt ntt => ⟨tt, rfl, ⟨_, SqT.of upd_same⟩, ?_⟩⟩
      have x4 := Ex.new (o := .tup [.bl false, .bl true]) ntt
      have htt : upd H3 tt (.tup [.bl false, .bl true]) tt = some (.tup [.bl false, .bl true]) := upd_same
      refine inner_tup (xs := [.bl false, .bl true]) (fun c H' => Ex H H' ∧ ExI (upd H3 tt (.tup [.bl false, .bl true])) H' ∧ ∃ us : List V, H' D = some (.lst us) ∧ WrdsAt K H' us ((vals3.take j).flatMap two ++ (two sv).take c)) ?_ (fun c H' _ z => z.2.1.sq (SqT.of htt)) ?_ ?_
      · exact ⟨x3.trans x4, ExI.of (Ex.refl _), us, x4 _ _ hD, by rw [List.take_zero, List.append_nil]; exact wrds_toI hus (.of x4)⟩
      · rintro c y H5 hc ⟨x5, xi5, us5, hD5, hus5⟩
        obtain ⟨bb, rfl, hb⟩ : ∃ bb, y = V.bl bb ∧ (two sv)[c]? = some (some sv, bb) := by
          match c, hc with
          | 0, h => cases h; exact ⟨false, rfl, rfl⟩
          | 1, h => cases h; exact ⟨true, rfl, rfl⟩
          | n + 2, h => simp at h
        have ul : us5.length ≤ 100 := by
          have h1 := Paired.length hus5
          have h2 := tl j
          have h3 : ((two sv).take c).length ≤ 2 := List.length_take_le' ..
          rw [List.length_append] at h1
          omega
        refine ⟨rfl, _, rfl, _, rfl, sz2, fun q nq => ?_⟩
        have x6 := Ex.new (o := .tup [.str sv, .bl bb]) nq
        have hq : upd H5 q (.tup [.str sv, .bl bb]) q = some (.tup [.str sv, .bl bb]) := upd_same
        generalize upd H5 q (.tup [.str sv, .bl bb]) = H6 at x6 hq ⊢
        have hD6 := x6 _ _ hD5
        refine ⟨us5, hD6, by rw [sizeLine_eq]; omega, (x5.trans x6).mut nD, (xi5.trans (.of x6)).trans (ExI.put hD6 rfl), _, upd_same, ?_⟩
        rw [takeS hb, ← List.append_assoc]
        exact paired_app (wrds_toI (wrds_toI hus5 (.of x6)) (ExI.put hD6 rfl)) (.cons ((show WrdAt K H6 (.ref q) (some sv, bb) from ⟨q, rfl, SqT.of hq⟩).toI (ExI.put hD6 rfl)) .nil)
      · rintro H5 ⟨x5, xi5, us5, hD5, hus5⟩
        refine ⟨x5, us5, hD5, ?_⟩
        have e2 : ((two sv).take [V.bl false, V.bl true].length) = two sv := rfl
        rw [e2] at hus5
        rw [takeS hs, List.flatMap_append, List.flatMap_cons, List.flatMap_nil, List.append_nil]
        exact hus5
    · rintro H3 ⟨x3, us, hD, hus⟩
      have hus' : WrdsAt K H3 us (vals3.flatMap two) := hus
      refine ⟨sz2, fun T nT => ⟨sz1, fun L nL => ?_⟩⟩
      have x4 : Ex H3 (upd H3 T (.tup [.non, .bl true])) := Ex.new nT
      have hT : upd H3 T (.tup [.non, .bl true]) T = some (.tup [.non, .bl true]) := upd_same
      generalize upd H3 T (.tup [.non, .bl true]) = H4 at x4 hT nL ⊢
      have x5 : Ex H4 (upd H4 L (.lst [.ref T])) := Ex.new nL
      have hL : upd H4 L (.lst [.ref T]) L = some (.lst [.ref T]) := upd_same
      generalize upd H4 L (.lst [.ref T]) = H5 at x5 hL ⊢
      have ul : us.length = 6 := Paired.length hus'
      refine ⟨D, L, _, _, rfl, rfl, x5 _ _ (x4 _ _ hD), hL, by rw [sizeLine_eq, ul]; simp, fun q nq => ?_⟩
      have x6 := Ex.new (o := .lst (us ++ [.ref T])) nq
      have x06 := ((x3.trans x4).trans x5)
      refine k q _ _ (x06.trans x6) ?_ upd_same ?_
      · cases z : H q with
        | none => rfl
        | some o => have := x06 _ _ z; rw [nq] at this; cases this
      · exact paired_app (wrds_toI hus' (.of ((x4.trans x5).trans x6))) (.cons ⟨T, rfl, SqT.of (x6 _ _ (x5 _ _ hT))⟩ .nil)
theorem ok_of_case {f : Addr} {fd : FuncData} (D : Def K mg "of_case" s_of_case f fd ["pairs", "word"]) (bi : Bi mg)
    (D_behind : Def K mg "_behind" s_behind f_behind fd_behind ["word", "other"])
    (G_behind : FnOk P w K mg base CX0 1 f_behind fd_behind ["word", "other"] (spBehind K)) : FnOk P w K mg base CX0 2 f fd ["pairs", "word"] (spCaseW K) := by
  refine D.fn.ok sc_of_case (fun vs H Q E h => ?_) (fun cdv A outer s0 H vs Q E hr h => ?_)
  · obtain ⟨l, us, ps, v, x, rfl, _⟩ := h
    rfl
  · obtain ⟨l, us, ps, v, x, rfl, hl, hp, hz, hv, k⟩ := h
    refine ⟨_, (pss_cons (ps_set (i := 2) sc_of_case.nd rfl (Or.inl rfl) (pv 1))
  (pss_cons (ps_for PassesOwn.never rfl (pi_list (pe_revL (pv 0))) (pg_tup rfl (pgs_cons (pg_name (i := 3) sc_of_case.nd rfl (Or.inl rfl)) (pgs_cons (pg_name (i := 4) sc_of_case.nd rfl (Or.inl rfl)) pgs_nil)))
    (pss_one (ps_if (pt_cmpR op_isN (pe_ix (ix_tupK (K := K) rfl) (pv 3) pe_int (fun _ _ => rfl)) pe_non (nomark _))
      (pss_one (ps_set (i := 2) sc_of_case.nd rfl (Or.inl rfl) (pv 3)))
      (pss_one (ps_set (i := 2) sc_of_case.nd rfl (Or.inl rfl) (pe_call G_behind (hr.mono (by first | decide | omega)) rfl D_behind.mg D_behind.fn.kp D_behind.bd .nil pass0 (pa_cons (pv 3) (pa_cons (pe_ifExp (pt_cmpR op_eq (pe_ix (ix_tupK (K := K) rfl) (pv 3) pe_int (fun _ _ => rfl)) pe_str (nomark _)) (pv 4) (pv 2)) pa_nil))))))))
  (pss_one (ps_ret (pv 2))))), ?_⟩
    have lx : us.length = ps.length := Paired.length hp
    refine ⟨_, rfl, ?_⟩
    refine ⟨_, rfl, l, _, rfl, SqL.of hl, fun q nq => ?_⟩
    have x2 : Ex H (upd H q (.lst us.reverse)) := Ex.new nq
    have hq : upd H q (.lst us.reverse) q = some (.lst us.reverse) := upd_same
    generalize upd H q (.lst us.reverse) = H2 at x2 hq ⊢
    refine ⟨q, rfl, ⟨_, SqL.of hq⟩, ?_⟩
    refine for_list (xs := us.reverse) (fun j σ H' => ∃ (z : V) (x3 x4 : Option V), σ = [some (.ref l), some v, some z, x3, x4] ∧ Ex H2 H' ∧ WrdAt K H' z (caseW (ps.drop (ps.length - j)) x)) ?_ (fun j σ H' _ z => ?_) ?_ ?_
    · refine ⟨v, _, _, rfl, Ex.refl _, ?_⟩
      rw [Nat.sub_zero, List.drop_length]
      exact hv.to x2
    · obtain ⟨_, _, _, _, e, _⟩ := z
      exact SqL.of (e _ _ hq)
    · rintro j u σ H3 hj ⟨z, x3', x4', rfl, x3, hz'⟩
      have jl : j < us.length := by
        have := (List.getElem?_eq_some_iff.mp hj).1
        simpa using this
      rw [List.getElem?_reverse jl] at hj
      obtain ⟨p, hpj, hpa⟩ := Gx.paired_get hp hj
      obtain ⟨a, x, y, rfl, ha3, ⟨wa, rfl, hwa⟩, hy⟩ := hpa.to (x2.trans x3)
      have dr : ps.drop (ps.length - (j + 1)) = p :: ps.drop (ps.length - j) := by
        obtain ⟨h1, h2⟩ := List.getElem?_eq_some_iff.mp hpj
        rw [show ps.length - (j + 1) = us.length - 1 - j by omega, show ps.length - j = us.length - 1 - j + 1 by omega, ← h2]
        exact List.drop_eq_getElem_cons h1
      have cw : ∀ r x', caseW (p :: r) x' = if p.1.1 = none then p.1 else ((if p.1.1 = some ("yes" : Str) then p.2 else caseW r x').1, p.1.2 || (if p.1.1 = some ("yes" : Str) then p.2 else caseW r x').2) := fun _ _ => rfl
      rw [dr]
      refine ⟨a, _, rfl, ha3, rfl, _, _, rfl, _, _, rfl, rfl, ?_⟩
      obtain ⟨⟨o, bo⟩, pw⟩ := p
      refine ⟨_, rfl, wa, _, 0, _, rfl, rfl, hwa, rfl, rfl, _, rfl, ?_⟩
      cases o with
      | none =>
        refine if_t rfl ⟨_, rfl, .ref wa, _, _, rfl, x3, ?_⟩
        rw [cw, if_pos rfl]
        exact ⟨wa, rfl, hwa⟩
      | some so =>
        refine if_f (decide_eq_false nofun) ⟨_, rfl, _, rfl, wa, _, 0, _, rfl, rfl, hwa, rfl, rfl, _, rfl, ?_⟩
        rw [cw, if_neg nofun]
        by_cases h : so = ("yes" : Str)
        · subst h
          refine if_t (decide_eq_true rfl) ⟨_, rfl, .ref wa, y, _, _, rfl, ⟨wa, rfl, hwa⟩, hy, fun z2 H4 x4 hz2 => ⟨z2, _, _, rfl, x3.trans x4, ?_⟩⟩
          rw [if_pos rfl]
          exact hz2
        · refine if_f (decide_eq_false fun e => h (V.str.inj e)) ⟨_, rfl, .ref wa, z, _, _, rfl, ⟨wa, rfl, hwa⟩, hz', fun z2 H4 x4 hz2 => ⟨z2, _, _, rfl, x3.trans x4, ?_⟩⟩
          rw [if_neg (fun e => h (Option.some.inj e))]
          exact hz2
    · rintro σ H3 ⟨z, x3', x4', rfl, x3, hz'⟩
      rw [List.length_reverse, lx, Nat.sub_self, List.drop_zero] at hz'
      exact ⟨_, rfl, k z H3 (x2.trans x3) hz'⟩
end
end K40

set_option Elab.async false
set_option linter.all false
set_option maxRecDepth 100000
set_option maxHeartbeats 4000000
namespace K40
open PySem PySem.Spec PyProof.Rows L2 Evl Gx
abbrev s_l_one : Stmt := topS 22
theorem sc_l_one : FnScope ["_law_bag_here", "_law_things"] ["_law_bag_here", "_law_things"] (defScope s_l_one) := ⟨rfl, rfl, rfl, by decide +kernel, rfl, by decide +kernel, by decide +kernel⟩
section
variable {P : Program} {w : World} {K : PySem.W.Frag} {mg : Str → Option Value} {base : Heap}
variable {f_l_take f_l_one : Addr} {fd_l_take fd_l_one : FuncData}
theorem ok_one {f : Addr} {fd : FuncData} (D : Def K mg "_law_one" s_l_one f fd ["_law_bag_here", "_law_things"]) (bi : Bi mg)
    (D_l_take : Def K mg "_law_take" s_l_take f_l_take fd_l_take ["_law_bag_here", "_law_many"])
    (G_l_take : FnOk P w K mg base CX0 1 f_l_take fd_l_take ["_law_bag_here", "_law_many"] spTake) :
    FnOk P w K mg base CX0 2 f fd ["_law_bag_here", "_law_things"] (spOne K) := by
  refine D.fn.ok sc_l_one (fun vs H Q E h => ?_) (fun cdv A outer s H vs Q E hr h => ?_)
  · obtain ⟨b, l, xs, rfl, _⟩ := h
    rfl
  · obtain ⟨b, l, xs, rfl, hb, hl, h0, h1, k⟩ := h
    refine ⟨_, (pss_one (ps_ret (pe_ix ix_list (pv 1) (pe_call G_l_take (hr.mono (by first | decide | omega)) rfl D_l_take.mg D_l_take.fn.kp D_l_take.bd .nil pass0 (pa_cons (pv 0) (pa_cons (pe_callB call_len_seq (by rfl) bi.len bt_len (pa_cons (pv 1) pa_nil)) pa_nil))) (fun _ _ => rfl)))), ?_⟩
    refine ⟨_, rfl, _, rfl, _, rfl, l, xs, rfl, .inl hl, b, xs.length, rfl, hb, by omega, by omega, fun i i0 i1 => ?_⟩
    obtain ⟨v, e, m⟩ := item_in i0 i1
    exact ⟨l, xs, i, v, rfl, rfl, hl, e, k v m⟩
end
end K40

set_option Elab.async false
set_option linter.all false
set_option maxRecDepth 100000
set_option maxHeartbeats 4000000
namespace Gx
open PySem PySem.Spec PyProof.Rows L2 Evl
/-! A list, whatever it holds, beside an empty one; how wide data without dicts is. -/
section
variable {X : Cx}
def rNeE (K : PySem.W.Frag) : R2 := fun x y H Q => ∃ a b xs, x = .ref a ∧ y = .ref b ∧ SqL K H a xs ∧ SqL K H b [] ∧ Q (.bl (!decide (xs = []))) H
theorem op_neE (hu : X.A.units + 64 < cLine) : OpR X (compareOp .NotEq) (rNeE X.K) := by
  intro pins s σ H x y v u Q I rx ry h
  obtain ⟨a, b, xs, rfl, rfl, ha, hb, q⟩ := h
  cases rx
  cases ry
  obtain ⟨its, r1, ⟨o, n, h1, h2, h3, h4⟩, _⟩ := I.list ha
  obtain ⟨jts, r2, ⟨p, m, k1, k2, k3, k4⟩, _⟩ := I.list hb
  have e2 : jts = [] := by have := r2.length; simpa using this.symm
  subst e2
  have hl : s.heap.IsList a its.toArray := ⟨o, h1, h2, n, h4⟩
  have hl' : s.heap.IsList b ([] : List Value).toArray := ⟨p, k1, k2, m, k4⟩
  cases xs with
  | nil =>
    have e1 : its = [] := by have := r1.length; simpa using this.symm
    subst e1
    exact SeqAt.RcNeAt.lists (e := fun _ => true) hl hl' rfl (by omega) (fun j j1 _ => absurd j1 (by simp)) X.prog X.w _ _ ⟨.bl _, H, I, rfl, q⟩
  | cons z zs =>
    have e1 : its.length ≠ 0 := by have := r1.length; simp at this; omega
    exact SeqAt.RcNeAt.lists_lengths hl hl' (by simpa using e1) (by omega) X.prog X.w _ _ ⟨.bl _, H, I, rfl, q⟩
end
mutual
theorem wq_wide : ∀ d : PyData, d.hasDict = false → wq d ≤ Gx.wide d
  | .none, _ => by simp [wq, Gx.wide]
  | .bool _, _ => by simp [wq, Gx.wide]
  | .int _, _ => by simp [wq, Gx.wide]
  | .str _, _ => by simp [wq, Gx.wide]
  | .list xs, h => by
    have := wqAll_wide xs (by simpa [PyData.hasDict] using h)
    simp only [wq, Gx.wide]; omega
  | .tuple xs, h => by
    have := wqAll_wide xs (by simpa [PyData.hasDict] using h)
    simp only [wq, Gx.wide]; omega
  | .dict _, h => by simp [PyData.hasDict] at h
theorem wqAll_wide : ∀ ds : List PyData, PyData.hasDictAll ds = false → wq.wqAll ds ≤ wide.wideAll ds
  | [], _ => Nat.le_refl _
  | d :: ds, h => by
    simp only [PyData.hasDictAll, Bool.or_eq_false_iff] at h
    have h1 := wq_wide d h.1
    have h2 := wqAll_wide ds h.2
    simp only [wq.wqAll, wide.wideAll]; omega
end
end Gx

set_option Elab.async false
set_option linter.all false
set_option maxRecDepth 100000
set_option maxHeartbeats 4000000
namespace K40
open PySem PySem.Spec PyProof.Rows L2 Evl Gx
abbrev s_l_seven : Stmt := topS 24
theorem sc_l_seven : FnScope ["_law_bag_here", "_law_some"] ["_law_bag_here"] (defScope s_l_seven) := ⟨rfl, rfl, rfl, by decide +kernel, rfl, by decide +kernel, by decide +kernel⟩
abbrev s_l_heard_of : Stmt := topS 25
theorem sc_l_heard_of : FnScope ["_law_word"] ["_law_word"] (defScope s_l_heard_of) := ⟨rfl, rfl, rfl, by decide +kernel, rfl, by decide +kernel, by decide +kernel⟩
abbrev s_l_as_word : Stmt := topS 30
theorem sc_l_as_word : FnScope ["_law_answers", "_law_values", "_law_said"] ["_law_answers"] (defScope s_l_as_word) := ⟨rfl, rfl, rfl, by decide +kernel, rfl, by decide +kernel, by decide +kernel⟩
def spSeven (K : PySem.W.Frag) : Sp := fun vs H Q _ => ∃ b : Addr, vs = [.ref b] ∧ Bag H b ∧ ∀ v x H', Ex H H' → WrdAt K H' v x → x ∈ allW → Q v H'
def spHeard (K : PySem.W.Frag) : Sp := fun vs H Q _ => ∃ (v : V) (x : Wrd), vs = [v] ∧ WrdAt K H v x ∧ ∀ l H', Ex H H' → H l = none → H' l = some (.lst ((ansOf x).map V.str)) → Q (.ref l) H'
section
variable {P : Program} {w : World} {K : PySem.W.Frag} {mg : Str → Option Value} {base : Heap} {f_l_one : Addr} {fd_l_one : FuncData}
theorem ok_seven {f : Addr} {fd : FuncData} (D : Def K mg "_law_seven" s_l_seven f fd ["_law_bag_here"]) (bi : Bi mg)
    (D_l_one : Def K mg "_law_one" s_l_one f_l_one fd_l_one ["_law_bag_here", "_law_things"])
    (G_l_one : FnOk P w K mg base CX0 2 f_l_one fd_l_one ["_law_bag_here", "_law_things"] (spOne K)) : FnOk P w K mg base CX0 3 f fd ["_law_bag_here"] (spSeven K) := by
  refine D.fn.ok sc_l_seven (fun vs H Q E h => ?_) (fun cdv A outer s0 H vs Q E hr h => ?_)
  · obtain ⟨b, rfl, _⟩ := h
    rfl
  · obtain ⟨b, rfl, hb, k⟩ := h
    refine ⟨_, (pss_cons (ps_set (i := 1) sc_l_seven.nd rfl (Or.inl rfl) (pe_lst (pa_cons (pe_tup (pa_cons pe_str (pa_cons pe_bl pa_nil))) (pa_cons (pe_tup (pa_cons pe_str (pa_cons pe_bl pa_nil))) (pa_cons (pe_tup (pa_cons pe_str (pa_cons pe_bl pa_nil))) (pa_cons (pe_tup (pa_cons pe_str (pa_cons pe_bl pa_nil))) (pa_cons (pe_tup (pa_cons pe_str (pa_cons pe_bl pa_nil))) (pa_cons (pe_tup (pa_cons pe_str (pa_cons pe_bl pa_nil))) pa_nil))))))))
  (pss_one (ps_ret (pe_call G_l_one (hr.mono (by first | decide | omega)) rfl D_l_one.mg D_l_one.fn.kp D_l_one.bd .nil pass0 (pa_cons (pv 0) (pa_cons (pe_op op_cat (pv 1) (pe_lst (pa_cons (pe_tup (pa_cons pe_non (pa_cons pe_bl pa_nil))) pa_nil))) pa_nil)))))), ?_⟩
    refine ⟨sz2, fun T1 n1 => ?_⟩
    have e1 : Ex H (upd H T1 (.tup [.str "no", .bl false])) := Ex.new n1
    have h1 : WrdAt K (upd H T1 (.tup [.str "no", .bl false])) (.ref T1) (some "no", false) := ⟨T1, rfl, SqT.of upd_same⟩
    generalize upd H T1 (.tup [.str "no", .bl false]) = G1 at e1 h1 ⊢
    refine ⟨sz2, fun T2 n2 => ?_⟩
    have e2 : Ex G1 (upd G1 T2 (.tup [.str "no", .bl true])) := Ex.new n2
    have h2 : WrdAt K (upd G1 T2 (.tup [.str "no", .bl true])) (.ref T2) (some "no", true) := ⟨T2, rfl, SqT.of upd_same⟩
    generalize upd G1 T2 (.tup [.str "no", .bl true]) = G2 at e2 h2 ⊢
    refine ⟨sz2, fun T3 n3 => ?_⟩
    have e3 : Ex G2 (upd G2 T3 (.tup [.str "unknown", .bl false])) := Ex.new n3
    have h3 : WrdAt K (upd G2 T3 (.tup [.str "unknown", .bl false])) (.ref T3) (some "unknown", false) := ⟨T3, rfl, SqT.of upd_same⟩
    generalize upd G2 T3 (.tup [.str "unknown", .bl false]) = G3 at e3 h3 ⊢
    refine ⟨sz2, fun T4 n4 => ?_⟩
    have e4 : Ex G3 (upd G3 T4 (.tup [.str "unknown", .bl true])) := Ex.new n4
    have h4 : WrdAt K (upd G3 T4 (.tup [.str "unknown", .bl true])) (.ref T4) (some "unknown", true) := ⟨T4, rfl, SqT.of upd_same⟩
    generalize upd G3 T4 (.tup [.str "unknown", .bl true]) = G4 at e4 h4 ⊢
    refine ⟨sz2, fun T5 n5 => ?_⟩
    have e5 : Ex G4 (upd G4 T5 (.tup [.str "yes", .bl false])) := Ex.new n5
    have h5 : WrdAt K (upd G4 T5 (.tup [.str "yes", .bl false])) (.ref T5) (some "yes", false) := ⟨T5, rfl, SqT.of upd_same⟩
    generalize upd G4 T5 (.tup [.str "yes", .bl false]) = G5 at e5 h5 ⊢
    refine ⟨sz2, fun T6 n6 => ?_⟩
    have e6 : Ex G5 (upd G5 T6 (.tup [.str "yes", .bl true])) := Ex.new n6
    have h6 : WrdAt K (upd G5 T6 (.tup [.str "yes", .bl true])) (.ref T6) (some "yes", true) := ⟨T6, rfl, SqT.of upd_same⟩
    generalize upd G5 T6 (.tup [.str "yes", .bl true]) = G6 at e6 h6 ⊢
    refine ⟨(by decide : (6 : Nat) ≤ sizeLine), fun L nL => ?_⟩
    have e7 : Ex G6 (upd G6 L (.lst [.ref T1, .ref T2, .ref T3, .ref T4, .ref T5, .ref T6])) := Ex.new nL
    have hL : upd G6 L (.lst [.ref T1, .ref T2, .ref T3, .ref T4, .ref T5, .ref T6]) L = some (.lst [.ref T1, .ref T2, .ref T3, .ref T4, .ref T5, .ref T6]) := upd_same
    generalize upd G6 L (.lst [.ref T1, .ref T2, .ref T3, .ref T4, .ref T5, .ref T6]) = G7 at e7 hL ⊢
    refine ⟨_, rfl, _, rfl, sz2, fun T7 n8 => ⟨sz1, fun M nM => ?_⟩⟩
    have e8 : Ex G7 (upd G7 T7 (.tup [.non, .bl true])) := Ex.new n8
    have h8 : WrdAt K (upd G7 T7 (.tup [.non, .bl true])) (.ref T7) (none, true) := ⟨T7, rfl, SqT.of upd_same⟩
    generalize upd G7 T7 (.tup [.non, .bl true]) = G8 at e8 h8 nM ⊢
    have e9 : Ex G8 (upd G8 M (.lst [.ref T7])) := Ex.new nM
    have hM : upd G8 M (.lst [.ref T7]) M = some (.lst [.ref T7]) := upd_same
    generalize upd G8 M (.lst [.ref T7]) = G9 at e9 hM ⊢
    refine ⟨L, M, _, _, rfl, rfl, e9 _ _ (e8 _ _ hL), hM, (by show 7 ≤ sizeLine; decide), fun N nN => ?_⟩
    have e10 : Ex G9 (upd G9 N (.lst ([.ref T1, .ref T2, .ref T3, .ref T4, .ref T5, .ref T6] ++ [.ref T7]))) := Ex.new nN
    have hN : upd G9 N (.lst ([.ref T1, .ref T2, .ref T3, .ref T4, .ref T5, .ref T6] ++ [.ref T7])) N = some (.lst ([.ref T1, .ref T2, .ref T3, .ref T4, .ref T5, .ref T6] ++ [.ref T7])) := upd_same
    generalize upd G9 N (.lst ([.ref T1, .ref T2, .ref T3, .ref T4, .ref T5, .ref T6] ++ [.ref T7])) = G10 at e10 hN ⊢
    have f10 : Ex G7 G10 := (e8.trans e9).trans e10
    have f6 : Ex G6 G10 := e7.trans f10
    have f5 := e6.trans f6
    have f4 := e5.trans f5
    have f3 := e4.trans f4
    have f2 := e3.trans f3
    have f1 := e2.trans f2
    have f0 := e1.trans f1
    refine ⟨b, N, _, rfl, hb.to f0, SqL.of hN, (by show 0 < 7; decide), by show 7 < 100000; decide, fun z hz => ?_⟩
    simp only [List.cons_append, List.nil_append, List.mem_cons, List.not_mem_nil, or_false] at hz
    rcases hz with rfl | rfl | rfl | rfl | rfl | rfl | rfl
    · exact k _ _ _ f0 (h1.to f1) (by decide +kernel)
    · exact k _ _ _ f0 (h2.to f2) (by decide +kernel)
    · exact k _ _ _ f0 (h3.to f3) (by decide +kernel)
    · exact k _ _ _ f0 (h4.to f4) (by decide +kernel)
    · exact k _ _ _ f0 (h5.to f5) (by decide +kernel)
    · exact k _ _ _ f0 (h6.to f6) (by decide +kernel)
    · exact k _ _ _ f0 (h8.to (e9.trans e10)) (by decide +kernel)
theorem ok_heard_of {f : Addr} {fd : FuncData} (D : Def K mg "_law_heard_of" s_l_heard_of f fd ["_law_word"]) (bi : Bi mg) : FnOk P w K mg base CX0 1 f fd ["_law_word"] (spHeard K) := by
  refine D.fn.ok sc_l_heard_of (fun vs H Q E h => ?_) (fun cdv A outer s0 H vs Q E hr h => ?_)
  · obtain ⟨v, x, rfl, _⟩ := h
    rfl
  · obtain ⟨v, ⟨x1, x2⟩, rfl, ⟨a, rfl, ha⟩, k⟩ := h
    refine ⟨_, (pss_one (ps_ret (pe_op op_cat (pe_op op_repL (pe_lst (pa_cons pe_str pa_nil)) (pe_callTy call_int1 (by rfl) bi.int bt_int (pa_cons (pe_ix (ix_tupK (K := K) rfl) (pv 0) pe_int (fun _ _ => rfl)) pa_nil))) (pe_op op_repL (pe_lst (pa_cons (pe_ix (ix_tupK (K := K) rfl) (pv 0) pe_int (fun _ _ => rfl)) pa_nil)) (pe_callTy call_int1 (by rfl) bi.int bt_int (pa_cons (pe_cmpR op_notN (pe_ix (ix_tupK (K := K) rfl) (pv 0) pe_int (fun _ _ => rfl)) pe_non (nomark _)) pa_nil)))))), ?_⟩
    refine ⟨sz1, fun p np => ?_⟩
    have e1 : Ex H (upd H p (.lst [.str "error"])) := Ex.new np
    have hp : upd H p (.lst [.str "error"]) p = some (.lst [.str "error"]) := upd_same
    generalize upd H p (.lst [.str "error"]) = H1 at e1 hp ⊢
    refine ⟨_, rfl, a, _, 1, _, rfl, rfl, ex_t e1 ha, rfl, .inr ⟨x2, rfl, p, _, [.str "error"], rfl, rfl, SqL.of hp, by cases x2 <;> decide, by cases x2 <;> decide, (by show 1 ≤ 100; decide), fun q nq => ?_⟩⟩
    have r1 : (List.replicate (if x2 = true then (1 : Int) else 0).toNat [V.str "error"]).flatten = (if x2 = true then [("error" : Str)] else []).map V.str := by cases x2 <;> rfl
    rw [r1]
    have e2 : Ex H1 (upd H1 q (.lst ((if x2 = true then [("error" : Str)] else []).map V.str))) := Ex.new nq
    have hq : upd H1 q (.lst ((if x2 = true then [("error" : Str)] else []).map V.str)) q = some (.lst ((if x2 = true then [("error" : Str)] else []).map V.str)) := upd_same
    generalize upd H1 q (.lst ((if x2 = true then [("error" : Str)] else []).map V.str)) = H2 at e2 hq ⊢
    refine ⟨_, rfl, a, _, 0, _, rfl, rfl, ex_t (e1.trans e2) ha, rfl, sz1, fun l nl => ?_⟩
    have e3 : Ex H2 (upd H2 l (.lst [wV x1])) := Ex.new nl
    have hl : upd H2 l (.lst [wV x1]) l = some (.lst [wV x1]) := upd_same
    generalize upd H2 l (.lst [wV x1]) = H3 at e3 hl ⊢
    have e03 := (e1.trans e2).trans e3
    refine ⟨_, rfl, a, _, 0, _, rfl, rfl, ex_t e03 ha, rfl, rfl, .inr ⟨!decide (wV x1 = .non), rfl, l, _, [wV x1], rfl, rfl, SqL.of hl, by split <;> decide, by split <;> decide, (by show 1 ≤ 100; decide), fun r nr => ?_⟩⟩
    have r2 : (List.replicate (if (!decide (wV x1 = .non)) = true then (1 : Int) else 0).toNat [wV x1]).flatten = x1.toList.map V.str := by cases x1 <;> rfl
    rw [r2]
    have e4 : Ex H3 (upd H3 r (.lst (x1.toList.map V.str))) := Ex.new nr
    have hr' : upd H3 r (.lst (x1.toList.map V.str)) r = some (.lst (x1.toList.map V.str)) := upd_same
    generalize upd H3 r (.lst (x1.toList.map V.str)) = H4 at e4 hr' ⊢
    refine ⟨q, r, _, _, rfl, rfl, e4 _ _ (e3 _ _ hq), hr', ?_, fun L nL => ?_⟩
    · rw [List.length_map, List.length_map, sizeLine_eq]
      cases x2 <;> cases x1 <;> simp
    · have e04 := e03.trans e4
      refine k L _ (e04.trans (Ex.new nL)) ?_ (by rw [upd_same]; unfold ansOf; rw [List.map_append])
      cases z : H L with
      | none => rfl
      | some o => have := e04 _ _ z; rw [nL] at this; cases this
end
end K40

set_option Elab.async false
set_option linter.all false
set_option maxRecDepth 100000
set_option maxHeartbeats 4000000
namespace K40
open PySem PySem.Spec PyProof.Rows L2 Evl Gx
abbrev s_l_list : Stmt := topS 32
theorem sc_l_list : FnScope ["_law_found", "_law_value"] [] (defScope s_l_list) := ⟨rfl, rfl, rfl, by decide +kernel, rfl, by decide +kernel, by decide +kernel⟩
section
variable {P : Program} {w : World} {K : PySem.W.Frag} {mg : Str → Option Value} {base : Heap}
theorem ok_as_word {f : Addr} {fd : FuncData} (D : Def K mg "_law_as_word" s_l_as_word f fd ["_law_answers"]) (bi : Bi mg) : FnOk P w K mg base CX0 1 f fd ["_law_answers"] (spWordOf K) := by
  refine D.fn.ok sc_l_as_word (fun vs H Q E h => ?_) (fun cdv A outer s0 H vs Q E hr h => ?_)
  · obtain ⟨a, as, rfl, _⟩ := h
    rfl
  · obtain ⟨a, as, rfl, ha, hz, k⟩ := h
    have hu64 := hr.units
    refine ⟨_, (pss_cons (ps_setLc (i := 1) (own := [("_law_said", 2)]) rfl sc_l_as_word.nd rfl rfl (sw_true rfl rfl rfl (by decide +kernel)) (pi_list (pv 0)) (blkOk_by (N := ["_law_answers", "_law_values", "_law_said"]) (sc := defScope s_l_as_word) (by decide +kernel)) (fun _ _ _ _ _ => (pg_name (i := 2) sc_l_as_word.nd rfl (Or.inl rfl))) (fun _ _ _ _ _ => (pts_one (pt_cmpR op_ne (pv 2) pe_str (nomark _)))) (fun _ _ _ _ _ => (pv 2)))
  (pss_one (ps_ret (pe_tup (pa_cons (pe_ifExp (pt_cmpR (op_neE hu64) (pv 1) (pe_lst pa_nil) (nomark _)) (pe_ix ix_list (pv 1) pe_int (fun _ _ => rfl)) pe_non) (pa_cons (pe_cmpR op_in_seq pe_str (pv 0) (by rfl)) pa_nil)))))), ?_⟩
    refine ⟨_, rfl, a, rfl, ⟨_, SqL.of ha⟩, fun D nD => ?_⟩
    refine lc_list (xs := as.map V.str) (fun j H' => Ex H H' ∧ H' D = some (.lst (((as.take j).filter fun a => !decide (a = ("error" : Str))).map V.str))) ?_ (fun j H' _ z => SqL.of (z.1 _ _ ha)) ?_ ?_
    · exact ⟨Ex.new nD, upd_same⟩
    · rintro j z H3 hj ⟨x3, hD⟩
      rw [List.getElem?_map] at hj
      obtain ⟨y, hy, rfl⟩ := Option.map_eq_some_iff.mp hj
      have tk := takeS hy
      have lb : ((as.take j).filter fun a => !decide (a = ("error" : Str))).length ≤ as.length := Nat.le_trans (List.length_filter_le ..) (List.length_take_le' ..)
      refine ⟨rfl, _, rfl, rfl, _, rfl, ?_⟩
      by_cases h : y = ("error" : Str)
      · subst h
        refine if_f (by simp) ⟨x3, ?_⟩
        rw [hD, tk, List.filter_append]
        simp
      · refine if_t (by simp [h]) ⟨_, rfl, _, hD, by rw [List.length_map, sizeLine_eq]; omega, x3.mut nD, ?_⟩
        rw [upd_same, tk, List.filter_append, List.map_append]
        simp [h]
    · rintro H3 ⟨x3, hD⟩
      rw [List.length_map, List.take_length] at hD
      generalize hf : (as.filter fun a => !decide (a = ("error" : Str))) = fs at hD
      have fin : ∀ (o : Option Str), fs.head? = o → ∀ H4, Ex H3 H4 → ∀ T, H4 T = none → Q (.ref T) (upd H4 T (.tup [wV o, .bl (decide (("error" : Str) ∈ as))])) := fun o ho H4 x4 T nT => by
        refine k _ _ ((x3.trans x4).trans (Ex.new nT)) ⟨T, rfl, ?_⟩
        unfold wordOf
        rw [hf, ho]
        exact SqT.of upd_same
      have inn : inV (.str "error") (as.map V.str) = decide (("error" : Str) ∈ as) := inV_strs ..
      refine ⟨_, rfl, Nat.zero_le _, fun E1 nE1 => ?_⟩
      have x4 : Ex H3 (upd H3 E1 (.lst [])) := Ex.new nE1
      have hE1 : upd H3 E1 (.lst []) E1 = some (.lst []) := upd_same
      generalize upd H3 E1 (.lst []) = H4 at x4 hE1 ⊢
      have hD4 := x4 _ _ hD
      have ha4 := (x3.trans x4) _ _ ha
      refine ⟨D, E1, _, rfl, rfl, SqL.of hD4, SqL.of hE1, _, rfl, ?_⟩
      cases fs with
      | nil =>
        refine if_f (by simp) ⟨_, rfl, a, _, rfl, .inl (SqL.of ha4), rfl, flat_strs _, ?_⟩
        rw [inn]
        exact ⟨sz2, fun T nT => fin none rfl H4 x4 T nT⟩
      | cons y ys =>
        refine if_t (by simp) ⟨_, rfl, D, _, 0, _, rfl, rfl, SqL.of hD4, atI_of (by decide) (show ((y :: ys).map V.str)[0]? = some (.str y) from rfl), _, rfl, a, _, rfl, .inl (SqL.of ha4), rfl, flat_strs _, ?_⟩
        rw [inn]
        exact ⟨sz2, fun T nT => fin (some y) rfl H4 x4 T nT⟩
theorem ok_l_list {f : Addr} {fd : FuncData} (D : Def K mg "_law_list" s_l_list f fd []) (bi : Bi mg) : FnOk P w K mg base CX0 1 f fd [] (spAllWords K) := by
  refine D.fn.ok sc_l_list (fun vs H Q E h => ?_) (fun cdv A outer s0 H vs Q E hr h => ?_)
  · obtain ⟨rfl, _⟩ := h
    rfl
  · obtain ⟨rfl, k⟩ := h
    refine ⟨_, (pss_cons (ps_set (i := 0) sc_l_list.nd rfl (Or.inl rfl) (pe_lst pa_nil))
  (Evl.pss_cut (ps_for PassesOwn.never rfl (pi_tup (pe_tup (pa_cons pe_str (pa_cons pe_str (pa_cons pe_str pa_nil))))) (pg_name (i := 1) sc_l_list.nd rfl (Or.inl rfl))
    (pss_one (ps_expr (pe_bm PySem.F.plainAttrs_list PySem.F.slot_list_extend PySem.F.type_list_extend mt_extend (pv 0) (pa_cons (pe_lst (pa_cons (pe_tup (pa_cons (pv 1) (pa_cons pe_bl pa_nil))) (pa_cons (pe_tup (pa_cons (pv 1) (pa_cons pe_bl pa_nil))) pa_nil))) pa_nil)))))
  (pss_one (ps_ret (pe_op op_cat (pv 0) (pe_lst (pa_cons (pe_tup (pa_cons pe_non (pa_cons pe_bl pa_nil))) pa_nil))))))), ?_⟩
    let two : Str → List Wrd := fun s => [(some s, false), (some s, true)]
    have tl : ∀ j, ((vals3.take j).flatMap two).length ≤ 6 := by
      intro j
      rw [List.length_flatMap]
      match j with
      | 0 => decide
      | 1 => decide
      | 2 => decide
      | j + 3 => rw [List.take_of_length_le (by show 3 ≤ j + 3; omega)]; decide
    refine ⟨Nat.zero_le _, fun F nF => ?_⟩
    have e1 : Ex H (upd H F (.lst [])) := Ex.new nF
    have hF : upd H F (.lst []) F = some (.lst []) := upd_same
    generalize upd H F (.lst []) = H1 at e1 hF ⊢
    refine ⟨fun σ H' => ∃ (x1 : Option V) (us : List V), σ = [some (.ref F), x1] ∧ Ex H H' ∧ H' F = some (.lst us) ∧ WrdsAt K H' us (vals3.flatMap two), ?_, ?_⟩
    · refine ⟨sz3, fun T nT => ?_⟩
      have e2 : Ex H1 (upd H1 T (.tup [.str "no", .str "unknown", .str "yes"])) := Ex.new nT
      have hT : upd H1 T (.tup [.str "no", .str "unknown", .str "yes"]) T = some (.tup (vals3.map V.str)) := upd_same
      generalize upd H1 T (.tup [.str "no", .str "unknown", .str "yes"]) = H2 at e2 hT ⊢
      refine ⟨T, rfl, ⟨_, SqT.of hT⟩, ?_⟩
      refine for_tup (xs := vals3.map V.str) (fun j σ H' => ∃ (x1 : Option V) (us : List V), σ = [some (.ref F), x1] ∧ Ex H H' ∧ ExI H2 H' ∧ H' F = some (.lst us) ∧ WrdsAt K H' us ((vals3.take j).flatMap two)) ?_ (fun j σ H' _ z => ?_) ?_ ?_
      · exact ⟨_, [], rfl, e1.trans e2, .of (Ex.refl _), e2 _ _ hF, .nil⟩
      · obtain ⟨_, _, _, _, z, _⟩ := z
        exact z.sq (SqT.of hT)
      · rintro j z σ H3 hj ⟨x1, us, rfl, e3, i3, hF3, hus⟩
        rw [List.getElem?_map] at hj
        obtain ⟨sv, hs, rfl⟩ := Option.map_eq_some_iff.mp hj
        refine ⟨_, rfl, .inl ⟨rfl, _, SqL.of hF3⟩, _, rfl, sz2, fun t1 n1 => ?_⟩
        have e4 : Ex H3 (upd H3 t1 (.tup [.str sv, .bl false])) := Ex.new n1
        have w1 : WrdAt K (upd H3 t1 (.tup [.str sv, .bl false])) (.ref t1) (some sv, false) := ⟨t1, rfl, SqT.of upd_same⟩
        generalize upd H3 t1 (.tup [.str sv, .bl false]) = H4 at e4 w1 ⊢
        refine ⟨_, rfl, sz2, fun t2 n2 => ⟨sz2, fun l nl => ?_⟩⟩
        have e5 : Ex H4 (upd H4 t2 (.tup [.str sv, .bl true])) := Ex.new n2
        have w2 : WrdAt K (upd H4 t2 (.tup [.str sv, .bl true])) (.ref t2) (some sv, true) := ⟨t2, rfl, SqT.of upd_same⟩
        generalize upd H4 t2 (.tup [.str sv, .bl true]) = H5 at e5 w2 nl ⊢
        have e6 : Ex H5 (upd H5 l (.lst [.ref t1, .ref t2])) := Ex.new nl
        have hl : upd H5 l (.lst [.ref t1, .ref t2]) l = some (.lst [.ref t1, .ref t2]) := upd_same
        generalize upd H5 l (.lst [.ref t1, .ref t2]) = H6 at e6 hl ⊢
        have e36 := (e4.trans e5).trans e6
        have hF6 := e36 _ _ hF3
        have ul : us.length ≤ 6 := by rw [Paired.length hus]; exact tl j
        refine ⟨F, l, _, [.ref t1, .ref t2], rfl, rfl, hF6, hl, by rw [sizeLine_eq]; simp only [List.length_cons, List.length_nil]; omega, ?_⟩
        refine ⟨_, us ++ [.ref t1, .ref t2], rfl, (e3.trans e36).mut nF, (i3.trans (.of e36)).trans (ExI.put hF6 rfl), upd_same, ?_⟩
        rw [takeS hs, List.flatMap_append, List.flatMap_cons, List.flatMap_nil, List.append_nil]
        exact wrds_toI (paired_app (wrds_toI hus (.of e36)) (.cons (w1.to (e5.trans e6)) (.cons (w2.to e6) .nil))) (ExI.put hF6 rfl)
      · rintro σ H3 ⟨x1, us, rfl, e3, i3, hF3, hus⟩
        exact ⟨x1, us, rfl, e3, hF3, hus⟩
    rintro σ H3 ⟨x1, us, rfl, e3, hF3, hus⟩
    refine ⟨_, rfl, sz2, fun T nT => ⟨sz1, fun L nL => ?_⟩⟩
    have x4 : Ex H3 (upd H3 T (.tup [.non, .bl true])) := Ex.new nT
    have hT : upd H3 T (.tup [.non, .bl true]) T = some (.tup [.non, .bl true]) := upd_same
    generalize upd H3 T (.tup [.non, .bl true]) = H4 at x4 hT nL ⊢
    have x5 : Ex H4 (upd H4 L (.lst [.ref T])) := Ex.new nL
    have hL : upd H4 L (.lst [.ref T]) L = some (.lst [.ref T]) := upd_same
    generalize upd H4 L (.lst [.ref T]) = H5 at x5 hL ⊢
    have ul : us.length = 6 := Paired.length hus
    refine ⟨F, L, _, _, rfl, rfl, x5 _ _ (x4 _ _ hF3), hL, by rw [sizeLine_eq, ul]; simp, fun q nq => ?_⟩
    have x6 := Ex.new (o := .lst (us ++ [.ref T])) nq
    have x06 := (e3.trans x4).trans x5
    refine k q _ _ (x06.trans x6) ?_ upd_same ?_
    · cases z : H q with
      | none => rfl
      | some o => have := x06 _ _ z; rw [nq] at this; cases this
    · exact paired_app (wrds_toI hus (.of ((x4.trans x5).trans x6))) (.cons ⟨T, rfl, SqT.of (x6 _ _ (x5 _ _ hT))⟩ .nil)
end
end K40

set_option Elab.async false
set_option linter.all false
set_option maxRecDepth 100000
set_option maxHeartbeats 4000000
namespace K40
open PySem PySem.Spec PyProof.Rows L2 Evl Gx
abbrev s_l_order_longer : Stmt := topS 31
theorem sc_l_order_longer : FnScope ["_law_orders_here", "_law_many", "_law_found", "_law_order", "_law_at"] ["_law_orders_here", "_law_many"] (defScope s_l_order_longer) := ⟨rfl, rfl, rfl, by decide +kernel, rfl, by decide +kernel, by decide +kernel⟩
abbrev s_l_orders : Stmt := topS 23
theorem sc_l_orders : FnScope ["_law_many", "_law_found", "_law_k"] ["_law_many"] (defScope s_l_orders) := ⟨rfl, rfl, rfl, by decide +kernel, rfl, by decide +kernel, by decide +kernel⟩
theorem op_notInK {X : Cx} {K : PySem.W.Frag} (h : X.K = K) : OpR X (compareOp .NotIn) (rIn K true) := by
  subst h
  exact op_notIn_seq
def natV (n : Nat) : V := .int (n : Int)
/-- a list of lists of places, each no other than F -/
def OrdsAt (F : Addr) (H : Hp) : List V → List (List Nat) → Prop := Paired fun v o => ∃ a, v = .ref a ∧ a ≠ F ∧ H a = some (.lst (o.map natV))
def longerL (m : Nat) (os : List (List Nat)) : List (List Nat) := os.flatMap fun o => ((List.range m).filter fun a => !decide (a ∈ o)).map fun a => o ++ [a]
def ordersL : Nat → Nat → List (List Nat)
  | _, 0 => [[]]
  | m, k + 1 => longerL m (ordersL m k)
theorem longer_len (m : Nat) : ∀ os : List (List Nat), (longerL m os).length ≤ m * os.length
  | [] => by simp [longerL]
  | o :: os => by
    have ih := longer_len m os
    have h1 : (((List.range m).filter fun a => !decide (a ∈ o)).map fun a => o ++ [a]).length ≤ m := by
      rw [List.length_map]
      exact Nat.le_trans (List.length_filter_le ..) (by rw [List.length_range]; exact Nat.le_refl _)
    have e : longerL m (o :: os) = (((List.range m).filter fun a => !decide (a ∈ o)).map fun a => o ++ [a]) ++ longerL m os := by
      unfold longerL; rw [List.flatMap_cons]
    rw [e, List.length_append, List.length_cons, Nat.mul_add]
    omega
theorem iv_nat (a : Nat) (o : List Nat) : inV (natV a) (o.map natV) = decide (a ∈ o) := by
  rw [Bool.eq_iff_iff, decide_eq_true_iff]
  refine inV_map (f := natV) (fun a b => ?_) a o
  unfold natV
  constructor
  · intro h
    have : decide ((a : Int) = (b : Int)) = true ∨ True := .inr trivial
    simp [eqV] at h
    omega
  · rintro rfl
    simp [eqV]
def spLonger (K : PySem.W.Frag) : Sp := fun vs H Q _ => ∃ (l : Addr) (us : List V) (os : List (List Nat)) (m : Nat), vs = [.ref l, .int m] ∧ H l = some (.lst us) ∧ OrdsAt l H us os ∧ os.length ≤ 1000 ∧ m ≤ 10 ∧ (∀ o ∈ os, o.length ≤ 100) ∧
  ∀ r zs H', Ex H H' → H r = none → H' r = some (.lst zs) → OrdsAt r H' zs (longerL m os) → Q (.ref r) H'
section
variable {P : Program} {w : World} {K : PySem.W.Frag} {mg : Str → Option Value} {base : Heap}
theorem ok_longer {f : Addr} {fd : FuncData} (D : Def K mg "_law_order_longer" s_l_order_longer f fd ["_law_orders_here", "_law_many"]) (bi : Bi mg) : FnOk P w K mg base CX0 1 f fd ["_law_orders_here", "_law_many"] (spLonger K) := by
  refine D.fn.ok sc_l_order_longer (fun vs H Q E h => ?_) (fun cdv A outer s0 H vs Q E hr h => ?_)
  · obtain ⟨l, us, os, m, rfl, _⟩ := h
    rfl
  · obtain ⟨l, us, os, m, rfl, hl, ho, hz, hm, hol, k⟩ := h
    refine ⟨_, (pss_cons (ps_set (i := 2) sc_l_order_longer.nd rfl (Or.inl rfl) (pe_lst pa_nil))
  (pss_cons (ps_for PassesOwn.never rfl (pi_list (pv 0)) (pg_name (i := 3) sc_l_order_longer.nd rfl (Or.inr rfl))
    (pss_one (ps_expr (pe_bm PySem.F.plainAttrs_list PySem.F.slot_list_extend PySem.F.type_list_extend mt_extend (pv 2) (pa_cons (pe_lc (own := [("_law_at", 4)]) rfl sc_l_order_longer.nd (pi_range1 rfl bi.range (pa_cons (pv 1) pa_nil)) (blkOk_by (N := ["_law_orders_here", "_law_many", "_law_found", "_law_order", "_law_at"]) (sc := defScope s_l_order_longer) (by decide +kernel)) (fun _ _ _ _ _ => (pg_name (i := 4) sc_l_order_longer.nd rfl (Or.inl rfl))) (fun _ _ _ _ _ => (pts_one (pt_cmpR (op_notInK (K := K) rfl) (pv 4) (pv 3) (by rfl)))) (fun _ _ _ _ _ => (pe_op op_cat (pv 3) (pe_lst (pa_cons (pv 4) pa_nil))))) pa_nil)))))
  (pss_one (ps_ret (pv 2))))), ?_⟩
    refine ⟨Nat.zero_le _, fun F nF => ?_⟩
    have e1 : Ex H (upd H F (.lst [])) := Ex.new nF
    have hF : upd H F (.lst []) F = some (.lst []) := upd_same
    generalize upd H F (.lst []) = H1 at e1 hF ⊢
    have lo : us.length = os.length := Paired.length ho
    refine ⟨_, rfl, l, rfl, ⟨_, SqL.of (e1 _ _ hl)⟩, ?_⟩
    refine for_list (xs := us) (fun j σ G => ∃ (x3 x4 : Option V) (zs : List V), σ = [some (.ref l), some (.int m), some (.ref F), x3, x4] ∧ Ex H G ∧ G F = some (.lst zs) ∧ OrdsAt F G zs (longerL m (os.take j))) ?_ (fun j σ G _ z => ?_) ?_ ?_
    · exact ⟨none, none, [], rfl, e1, hF, .nil⟩
    · obtain ⟨_, _, _, _, e, _⟩ := z
      exact SqL.of (e _ _ hl)
    · rintro j v σ G hj ⟨x3, x4, zs, rfl, eG, gF, hzs⟩
      obtain ⟨o, hoj, a, rfl, al, ha⟩ := Gx.paired_get ho hj
      have ga := eG _ _ ha
      have zl : zs.length ≤ 10000 := by
        have h1 := Paired.length hzs
        have h2 := longer_len m (os.take j)
        have h3 : (os.take j).length ≤ 1000 := Nat.le_trans (List.length_take_le' ..) hz
        have h4 : m * (os.take j).length ≤ 10 * 1000 := Nat.mul_le_mul hm h3
        omega
      have ol := hol o (List.mem_of_getElem? hoj)
      refine ⟨_, rfl, .inl ⟨rfl, _, SqL.of gF⟩, ?_⟩
      refine ⟨_, rfl, (m : Int), rfl, by omega, by omega, fun D nD => ?_⟩
      have nDF : D ≠ F := fun z => by subst z; rw [gF] at nD; cases nD
      refine lc_range (lo := 0) (n := m) (fun i G' => Ex G G' ∧ ∃ ws : List V, G' D = some (.lst ws) ∧ ws.length ≤ i ∧ Paired (fun v o => ∃ b, v = .ref b ∧ (b ≠ F ∧ b ≠ D) ∧ G' b = some (.lst (o.map natV))) ws (((List.range i).filter fun a => !decide (a ∈ o)).map fun a => o ++ [a])) ?_ ?_ ?_
      · exact ⟨Ex.new nD, [], upd_same, Nat.le_refl _, .nil⟩
      · rintro i G2 hi ⟨e2, ws, hD, wl, hw⟩
        have ga2 := e2 _ _ ga
        refine ⟨rfl, _, rfl, _, rfl, a, _, rfl, .inl (SqL.of ga2), rfl, ?_, _, rfl, ?_⟩
        · rw [List.all_map, List.all_eq_true]; intro _ _; rfl
        · rw [Int.zero_add, show V.int (i : Int) = natV i from rfl, iv_nat]
          have rs : List.range (i + 1) = List.range i ++ [i] := List.range_succ
          by_cases h : i ∈ o
          · refine if_f (by simp [h]) ⟨e2, ws, hD, Nat.le_succ_of_le wl, ?_⟩
            rw [rs, List.filter_append, List.map_append]
            simpa [h] using hw
          · refine if_t (by simp [h]) ⟨_, rfl, _, rfl, sz1, fun t nt => ?_⟩
            have e3 : Ex G2 (upd G2 t (.lst [natV i])) := Ex.new nt
            have ht : upd G2 t (.lst [natV i]) t = some (.lst [natV i]) := upd_same
            generalize upd G2 t (.lst [natV i]) = G3 at e3 ht ⊢
            refine ⟨a, t, _, _, rfl, rfl, e3 _ _ ga2, ht, by rw [List.length_map, sizeLine_eq]; simp only [List.length_cons, List.length_nil]; omega, fun L nL => ?_⟩
            have e4 : Ex G3 (upd G3 L (.lst (o.map natV ++ [natV i]))) := Ex.new nL
            have hL : upd G3 L (.lst (o.map natV ++ [natV i])) L = some (.lst (o.map natV ++ [natV i])) := upd_same
            have nLF : L ≠ F := (ne_of_none (e3 _ _ (e2 _ _ gF)) nL).symm
            have nLD : L ≠ D := (ne_of_none (e3 _ _ hD) nL).symm
            generalize upd G3 L (.lst (o.map natV ++ [natV i])) = G4 at e4 hL ⊢
            have e24 := e3.trans e4
            refine ⟨ws, e24 _ _ hD, by rw [sizeLine_eq]; omega, (e2.trans e24).mut nD, ws ++ [.ref L], upd_same, by rw [List.length_append]; simp only [List.length_cons, List.length_nil]; omega, ?_⟩
            rw [rs, List.filter_append, List.map_append]
            refine paired_app (Paired.mapP hw fun v o z => ?_) ?_
            · obtain ⟨b, z1, z2, z3⟩ := z
              exact ⟨b, z1, z2, by rw [upd_ne z2.2]; exact e24 _ _ z3⟩
            · have : ([i].filter fun a => !decide (a ∈ o)) = [i] := by simp [h]
              rw [this]
              exact .cons ⟨L, rfl, ⟨nLF, nLD⟩, by rw [upd_ne nLD, hL, List.map_append]; rfl⟩ .nil
      · rintro G2 ⟨e2, ws, hD, wl, hw⟩
        have gF2 := e2 _ _ gF
        refine ⟨F, D, zs, ws, rfl, rfl, gF2, hD, by rw [sizeLine_eq]; omega, ?_⟩
        refine ⟨_, _, zs ++ ws, rfl, (eG.trans e2).mut nF, upd_same, ?_⟩
        have e : longerL m (os.take (j + 1)) = longerL m (os.take j) ++ (((List.range m).filter fun a => !decide (a ∈ o)).map fun a => o ++ [a]) := by
          unfold longerL
          rw [takeS hoj, List.flatMap_append, List.flatMap_cons, List.flatMap_nil, List.append_nil]
        rw [e]
        refine paired_app (Paired.mapP hzs fun v o z => ?_) (Paired.mapP hw fun v o z => ?_)
        · obtain ⟨b, z1, z2, z3⟩ := z
          exact ⟨b, z1, z2, by rw [upd_ne z2]; exact e2 _ _ z3⟩
        · obtain ⟨b, z1, z2, z3⟩ := z
          exact ⟨b, z1, z2.1, by rw [upd_ne z2.1]; exact z3⟩
    · rintro σ G ⟨x3, x4, zs, rfl, eG, gF, hzs⟩
      rw [lo, List.take_length] at hzs
      exact ⟨_, rfl, k F zs G eG nF gF hzs⟩
theorem orders_small : ∀ m ≤ 4, ∀ k ≤ 4, (ordersL m k).length ≤ 1000 ∧ ∀ o ∈ ordersL m k, o.length ≤ 100 := by decide +kernel
def spOrders (K : PySem.W.Frag) : Sp := fun vs H Q _ => ∃ m : Nat, vs = [.int m] ∧ m ≤ 4 ∧ ∀ r zs H', Ex H H' → H r = none → H' r = some (.lst zs) → OrdsAt r H' zs (ordersL m m) → Q (.ref r) H'
theorem ok_orders {f_l_order_longer : Addr} {fd_l_order_longer : FuncData} {f : Addr} {fd : FuncData} (D : Def K mg "_law_orders" s_l_orders f fd ["_law_many"]) (bi : Bi mg)
    (D_l_order_longer : Def K mg "_law_order_longer" s_l_order_longer f_l_order_longer fd_l_order_longer ["_law_orders_here", "_law_many"])
    (G_l_order_longer : FnOk P w K mg base CX0 1 f_l_order_longer fd_l_order_longer ["_law_orders_here", "_law_many"] (spLonger K)) : FnOk P w K mg base CX0 2 f fd ["_law_many"] (spOrders K) := by
  refine D.fn.ok sc_l_orders (fun vs H Q E h => ?_) (fun cdv A outer s0 H vs Q E hr h => ?_)
  · obtain ⟨m, rfl, _⟩ := h
    rfl
  · obtain ⟨m, rfl, hm, k⟩ := h
    refine ⟨_, (pss_cons (ps_set (i := 1) sc_l_orders.nd rfl (Or.inl rfl) (pe_lst (pa_cons (pe_lst pa_nil) pa_nil)))
  (pss_cons (ps_for PassesOwn.never rfl (pi_range1 rfl bi.range (pa_cons (pv 0) pa_nil)) (pg_name (i := 2) sc_l_orders.nd rfl (Or.inl rfl))
    (pss_one (ps_set (i := 1) sc_l_orders.nd rfl (Or.inl rfl) (pe_call G_l_order_longer (hr.mono (by first | decide | omega)) rfl D_l_order_longer.mg D_l_order_longer.fn.kp D_l_order_longer.bd .nil pass0 (pa_cons (pv 1) (pa_cons (pv 0) pa_nil))))))
  (pss_one (ps_ret (pv 1))))), ?_⟩
    refine ⟨Nat.zero_le _, fun a na => ⟨sz1, fun F nF => ?_⟩⟩
    have e1 : Ex H (upd H a (.lst [])) := Ex.new na
    have ha : upd H a (.lst []) a = some (.lst []) := upd_same
    generalize upd H a (.lst []) = H1 at e1 ha nF ⊢
    have e2 : Ex H1 (upd H1 F (.lst [.ref a])) := Ex.new nF
    have hF : upd H1 F (.lst [.ref a]) F = some (.lst [.ref a]) := upd_same
    have naF : a ≠ F := ne_of_none ha nF
    generalize upd H1 F (.lst [.ref a]) = H2 at e2 hF ⊢
    have nFH : H F = none := by
      cases z : H F with
      | none => rfl
      | some o => have := e1 _ _ z; rw [nF] at this; cases this
    refine ⟨_, rfl, (m : Int), rfl, by omega, by omega, ?_⟩
    refine for_range (n := m) (fun i σ G => ∃ (r : Addr) (zs : List V) (x2 : Option V), i ≤ m ∧ σ = [some (.int m), some (.ref r), x2] ∧ Ex H G ∧ H r = none ∧ G r = some (.lst zs) ∧ OrdsAt r G zs (ordersL m i)) ?_ ?_ ?_
    · exact ⟨F, _, none, Nat.zero_le _, rfl, e1.trans e2, nFH, hF, .cons ⟨a, rfl, naF, e2 _ _ ha⟩ .nil⟩
    · rintro i σ G hi ⟨r, zs, x2, im, rfl, eG, nr, gr, hz⟩
      obtain ⟨b1, b2⟩ := orders_small m hm i (by omega)
      refine ⟨_, rfl, _, rfl, r, zs, ordersL m i, m, rfl, gr, hz, b1, by omega, b2, fun r2 zs2 G2 e3 n2 g2 h2 => ?_⟩
      refine ⟨r2, zs2, _, hi, rfl, eG.trans e3, ?_, g2, h2⟩
      cases z : H r2 with
      | none => rfl
      | some o => have := eG _ _ z; rw [n2] at this; cases this
    · rintro σ G ⟨r, zs, x2, im, rfl, eG, nr, gr, hz⟩
      exact ⟨_, rfl, k r zs G eG nr gr hz⟩
end
end K40

/-! what a node of words is heard to answer, in any order -/
set_option Elab.async false
set_option linter.all false
set_option maxRecDepth 100000
set_option maxHeartbeats 4000000
namespace Gx
open PySem PySem.Spec PyProof.Rows L2 Evl
/-- what one word is heard to say -/
def Says (x : Wrd) (a : Str) : Prop := (x.2 = true ∧ a = "error") ∨ x.1 = some a
/-- what is heard of words one behind the other, d deciding, e else -/
def HdN (d e : Str) : List Wrd → Str → Prop
  | [], a => a = e
  | x :: xs, a => ∃ s, Says x s ∧ ((s = "error" ∨ s = d) ∧ a = s ∨ ¬ (s = "error" ∨ s = d) ∧ ∃ r, HdN d e xs r ∧ ((s = "unknown" ∧ ¬ (r = "error" ∨ r = d)) ∧ a = s ∨ ¬ (s = "unknown" ∧ ¬ (r = "error" ∨ r = d)) ∧ a = r))
/-- the words' values are such -/
def WOk (d e : Str) (x : Wrd) : Prop := (x.1 = none ∧ x.2 = true) ∨ x.1 = some d ∨ x.1 = some ("unknown" : Str) ∨ x.1 = some e
structure DE (d e : Str) : Prop where
  de : d ≠ "error"
  ee : e ≠ "error"
  ne : d ≠ e
  du : d ≠ "unknown"
  eu : e ≠ "unknown"
theorem de_all : DE "no" "yes" := ⟨by decide +kernel, by decide +kernel, by decide +kernel, by decide +kernel, by decide +kernel⟩
theorem de_any : DE "yes" "no" := ⟨by decide +kernel, by decide +kernel, by decide +kernel, by decide +kernel, by decide +kernel⟩
theorem ue : ("unknown" : Str) ≠ "error" := by decide +kernel
section
variable {d e : Str}
/-- errors come of a word that errs -/
theorem hd_err (D : DE d e) : ∀ {xs : List Wrd}, (∀ x ∈ xs, WOk d e x) → HdN d e xs "error" → ∃ x ∈ xs, x.2 = true
  | [], _, h => absurd h.symm D.ee
  | x :: xs, ok, h => by
    obtain ⟨s, hs, h | h⟩ := h
    · rcases hs with ⟨h1, _⟩ | h1
      · exact ⟨x, .head _, h1⟩
      · have : s = "error" := h.2.symm
        subst this
        rcases ok x (.head _) with z | z | z | z
        · rw [z.1] at h1; cases h1
        · rw [z] at h1; exact absurd (Option.some.inj h1) D.de
        · rw [z] at h1; exact absurd (Option.some.inj h1) ue
        · rw [z] at h1; exact absurd (Option.some.inj h1) D.ee
    · obtain ⟨h1, r, h2, h3 | h3⟩ := h
      · exact absurd (.inl h3.2.symm) h1
      · obtain ⟨y, hy, hy2⟩ := hd_err D (fun y hy => ok y (.tail _ hy)) (h3.2 ▸ h2)
        exact ⟨y, .tail _ hy, hy2⟩
/-- the value that is heard -/
theorem hd_val (D : DE d e) : ∀ {xs : List Wrd} {a : Str}, (∀ x ∈ xs, WOk d e x) → HdN d e xs a → a ≠ "error" →
    (a = d ∧ ∃ x ∈ xs, x.1 = some d) ∨ ((∀ x ∈ xs, x.1 ≠ some d ∧ x.1 ≠ none) ∧ ((a = "unknown" ∧ ∃ x ∈ xs, x.1 = some ("unknown" : Str)) ∨ (a = e ∧ ∀ x ∈ xs, x.1 = some e)))
  | [], a, _, h, _ => .inr ⟨by simp, .inr ⟨h, by simp⟩⟩
  | x :: xs, a, ok, h, ha => by
    obtain ⟨s, hs, h | h⟩ := h
    · obtain ⟨h1 | h1, h2⟩ := h
      · exact absurd (h2.trans h1) ha
      · subst h1
        refine .inl ⟨h2, x, .head _, ?_⟩
        rcases hs with ⟨_, z⟩ | z
        · exact absurd z D.de
        · exact z
    · obtain ⟨h1, r, h2, h3⟩ := h
      have xs1 : x.1 = some s := by
        rcases hs with ⟨_, z⟩ | z
        · exact absurd (.inl z) h1
        · exact z
      have xo : x.1 ≠ some d ∧ x.1 ≠ none := by
        rw [xs1]
        exact ⟨fun z => h1 (.inr (Option.some.inj z)), nofun⟩
      have su : s = "unknown" ∨ s = e := by
        rcases ok x (.head _) with z | z | z | z
        · rw [z.1] at xs1; cases xs1
        · exact absurd z xo.1
        · rw [z] at xs1; exact .inl (Option.some.inj xs1).symm
        · rw [z] at xs1; exact .inr (Option.some.inj xs1).symm
      rcases h3 with ⟨⟨h4, h5⟩, h6⟩ | ⟨h4, h6⟩
      · have re : r ≠ "error" := fun z => h5 (.inl z)
        rcases hd_val D (fun y hy => ok y (.tail _ hy)) h2 re with ⟨z, _⟩ | ⟨z, _⟩
        · exact absurd (.inr z) h5
        · refine .inr ⟨fun y hy => ?_, .inl ⟨h6.trans h4, x, .head _, by rw [xs1, h4]⟩⟩
          rcases List.mem_cons.mp hy with rfl | hy
          · exact xo
          · exact z y hy
      · subst h6
        rcases hd_val D (fun y hy => ok y (.tail _ hy)) h2 ha with ⟨z, y, hy, hy2⟩ | ⟨z, z2⟩
        · exact .inl ⟨z, y, .tail _ hy, hy2⟩
        · refine .inr ⟨fun y hy => ?_, ?_⟩
          · rcases List.mem_cons.mp hy with rfl | hy
            · exact xo
            · exact z y hy
          · rcases z2 with ⟨z2, y, hy, hy2⟩ | ⟨z2, z3⟩
            · exact .inl ⟨z2, y, .tail _ hy, hy2⟩
            · rcases su with su | su
              · exfalso
                refine h4 ⟨su, fun q => ?_⟩
                rcases q with q | q
                · exact ha q
                · exact D.ne (q.symm.trans z2)
              · refine .inr ⟨z2, fun y hy => ?_⟩
                rcases List.mem_cons.mp hy with rfl | hy
                · rw [xs1, su]
                · exact z3 y hy
/-- a word that errs, ahead -/
theorem hd_err_of {x : Wrd} {xs : List Wrd} (h : x.2 = true) : HdN d e (x :: xs) "error" := ⟨"error", .inl ⟨h, rfl⟩, .inl ⟨.inl rfl, rfl⟩⟩
theorem hd_dec_of {x : Wrd} {xs : List Wrd} (h : x.1 = some d) : HdN d e (x :: xs) d := ⟨d, .inr h, .inl ⟨.inr rfl, rfl⟩⟩
theorem hd_rest_of (D : DE d e) : ∀ {xs : List Wrd}, (∀ x ∈ xs, x.1 = some ("unknown" : Str) ∨ x.1 = some e) → HdN d e xs (if ∃ x ∈ xs, x.1 = some ("unknown" : Str) then "unknown" else e)
  | [], _ => by simp [HdN]
  | x :: xs, h => by
    have ih := hd_rest_of D (fun y hy => h y (.tail _ hy))
    rcases h x (.head _) with hx | hx
    · rw [if_pos ⟨x, .head _, hx⟩]
      refine ⟨"unknown", .inr hx, .inr ⟨fun z => z.elim ue fun z => D.du z.symm, _, ih, ?_⟩⟩
      refine .inl ⟨⟨rfl, fun z => ?_⟩, rfl⟩
      split at z
      · exact z.elim ue fun z => D.du z.symm
      · exact z.elim D.ee fun z => D.ne z.symm
    · have e1 : (∃ y ∈ x :: xs, y.1 = some ("unknown" : Str)) ↔ ∃ y ∈ xs, y.1 = some ("unknown" : Str) := by
        constructor
        · rintro ⟨y, hy, h1⟩
          rcases List.mem_cons.mp hy with rfl | hy
          · rw [hx] at h1; exact absurd (Option.some.inj h1) D.eu
          · exact ⟨y, hy, h1⟩
        · rintro ⟨y, hy, h1⟩
          exact ⟨y, .tail _ hy, h1⟩
      refine ⟨e, .inr hx, .inr ⟨fun z => z.elim D.ee fun z => D.ne z.symm, _, ih, .inr ⟨fun z => D.eu z.1, ?_⟩⟩⟩
      by_cases hu : ∃ y ∈ xs, y.1 = some ("unknown" : Str)
      · rw [if_pos (e1.mpr hu), if_pos hu]
      · rw [if_neg (fun z => hu (e1.mp z)), if_neg hu]
/-- what is heard over all orders -/
def nodeV (d e : Str) (ws : List Wrd) : Option Str := if some d ∈ ws.map (·.1) then some d else if none ∈ ws.map (·.1) then none else if some ("unknown" : Str) ∈ ws.map (·.1) then some ("unknown" : Str) else some e
theorem node_err (D : DE d e) {ws : List Wrd} (ok : ∀ x ∈ ws, WOk d e x) : (∃ us, us.Perm ws ∧ HdN d e us "error") ↔ ∃ x ∈ ws, x.2 = true := by
  constructor
  · rintro ⟨us, hp, h⟩
    obtain ⟨x, hx, h2⟩ := hd_err D (fun x hx => ok x (hp.mem_iff.mp hx)) h
    exact ⟨x, hp.mem_iff.mp hx, h2⟩
  · rintro ⟨x, hx, h2⟩
    obtain ⟨s, t, rfl⟩ := List.append_of_mem hx
    exact ⟨x :: (s ++ t), List.perm_middle.symm, hd_err_of h2⟩
theorem node_val (D : DE d e) {ws : List Wrd} (ok : ∀ x ∈ ws, WOk d e x) {v : Str} (hv : v ≠ "error") : (∃ us, us.Perm ws ∧ HdN d e us v) ↔ nodeV d e ws = some v := by
  have mem : ∀ o, o ∈ ws.map (·.1) ↔ ∃ x ∈ ws, x.1 = o := fun o => by simp only [List.mem_map]
  unfold nodeV
  constructor
  · rintro ⟨us, hp, h⟩
    have hm : ∀ {x}, x ∈ us ↔ x ∈ ws := hp.mem_iff
    rcases hd_val D (fun x hx => ok x (hm.mp hx)) h hv with ⟨rfl, x, hx, h1⟩ | ⟨h1, h2⟩
    · rw [if_pos ((mem _).mpr ⟨x, hm.mp hx, h1⟩)]
    · rw [if_neg (fun z => by obtain ⟨x, hx, q⟩ := (mem _).mp z; exact (h1 x (hm.mpr hx)).1 q), if_neg (fun z => by obtain ⟨x, hx, q⟩ := (mem _).mp z; exact (h1 x (hm.mpr hx)).2 q)]
      rcases h2 with ⟨rfl, x, hx, q⟩ | ⟨rfl, h3⟩
      · rw [if_pos ((mem _).mpr ⟨x, hm.mp hx, q⟩)]
      · rw [if_neg (fun z => by obtain ⟨x, hx, q⟩ := (mem _).mp z; rw [h3 x (hm.mpr hx)] at q; exact D.eu (Option.some.inj q))]
  · intro h
    by_cases h1 : some d ∈ ws.map (·.1)
    · rw [if_pos h1] at h
      obtain ⟨x, hx, q⟩ := (mem _).mp h1
      obtain ⟨s, t, rfl⟩ := List.append_of_mem hx
      obtain rfl := Option.some.inj h
      exact ⟨x :: (s ++ t), List.perm_middle.symm, hd_dec_of q⟩
    · rw [if_neg h1] at h
      by_cases h2 : none ∈ ws.map (·.1)
      · rw [if_pos h2] at h; cases h
      · rw [if_neg h2] at h
        have hr : ∀ x ∈ ws, x.1 = some ("unknown" : Str) ∨ x.1 = some e := fun x hx => by
          rcases ok x hx with z | z | z | z
          · exact absurd ((mem _).mpr ⟨x, hx, z.1⟩) h2
          · exact absurd ((mem _).mpr ⟨x, hx, z⟩) h1
          · exact .inl z
          · exact .inr z
        have := hd_rest_of D hr
        refine ⟨ws, .refl _, ?_⟩
        by_cases hu : ∃ x ∈ ws, x.1 = some ("unknown" : Str)
        · rw [if_pos hu] at this
          rw [if_pos ((mem _).mpr hu)] at h
          obtain rfl := Option.some.inj h
          exact this
        · rw [if_neg hu] at this
          rw [if_neg (fun z => hu ((mem _).mp z))] at h
          obtain rfl := Option.some.inj h
          exact this
end
/-! ### cases, the first known -/
/-- an answer is no error, and none stands only beside errors -/
def WFit (x : Wrd) : Prop := x.1 ≠ some ("error" : Str) ∧ (x.1 = none → x.2 = true)
def behindV (x y : Wrd) : Wrd := (y.1, x.2 || y.2)
def caseV : List (Wrd × Wrd) → Wrd → Wrd
  | [], w => w
  | p :: ps, w => if p.1.1 = none then p.1 else behindV p.1 (if p.1.1 = some ("yes" : Str) then p.2 else caseV ps w)
def firstV : List Wrd → Wrd
  | [] => (some ("unknown" : Str), false)
  | x :: xs => if x.1 = some ("unknown" : Str) then behindV x (firstV xs) else x
def HdC : List (Wrd × Wrd) → Wrd → Str → Prop
  | [], w, a => Says w a
  | p :: ps, w, a => ∃ s, Says p.1 s ∧ (s = "error" ∧ a = s ∨ s ≠ "error" ∧ (s = "yes" ∧ Says p.2 a ∨ s ≠ "yes" ∧ HdC ps w a))
def HdF : List Wrd → Str → Prop
  | [], a => a = "unknown"
  | x :: xs, a => ∃ s, Says x s ∧ (s = "unknown" ∧ HdF xs a ∨ s ≠ "unknown" ∧ a = s)
/-- what is heard of a word is the word -/
def Hears (P : Str → Prop) (x : Wrd) : Prop := (P "error" ↔ x.2 = true) ∧ ∀ v : Str, v ≠ "error" → (P v ↔ x.1 = some v)
theorem says_hears {x : Wrd} (h : WFit x) : Hears (Says x) x := by
  refine ⟨⟨fun z => ?_, fun z => .inl ⟨z, rfl⟩⟩, fun v hv => ⟨fun z => ?_, fun z => .inr z⟩⟩
  · rcases z with z | z
    · exact z.1
    · exact absurd z h.1
  · rcases z with z | z
    · exact absurd z.2 hv
    · exact z
theorem case_hears : ∀ {ps : List (Wrd × Wrd)} {w : Wrd}, (∀ p ∈ ps, WFit p.1 ∧ WFit p.2) → WFit w → Hears (HdC ps w) (caseV ps w)
  | [], w, _, h => says_hears h
  | (x, y) :: ps, w, hp, hw => by
    obtain ⟨hx, hy⟩ := hp (x, y) (.head _)
    obtain ⟨r1, r2⟩ := case_hears (fun p h => hp p (.tail _ h)) hw
    obtain ⟨y1, y2⟩ := says_hears hy
    obtain ⟨o, b⟩ := x
    have yne : ("yes" : Str) ≠ "error" := by decide +kernel
    cases o with
    | none =>
      have hb : b = true := hx.2 rfl
      subst hb
      show Hears (HdC (((none, true), y) :: ps) w) (none, true)
      refine ⟨⟨fun _ => rfl, fun _ => ⟨"error", .inl ⟨rfl, rfl⟩, .inl ⟨rfl, rfl⟩⟩⟩, fun v hv => ⟨fun z => ?_, fun z => by cases z⟩⟩
      obtain ⟨s, hs, ⟨_, q⟩ | ⟨q, _⟩⟩ := z
      · rcases hs with ⟨_, z⟩ | z
        · exact absurd (q.trans z) hv
        · cases z
      · rcases hs with ⟨_, z⟩ | z
        · exact absurd z q
        · cases z
    | some o =>
      have oe : o ≠ "error" := fun z => hx.1 (by rw [z])
      by_cases h : o = ("yes" : Str)
      · subst h
        have e : caseV (((some ("yes" : Str), b), y) :: ps) w = (y.1, b || y.2) := by
          show (if (some ("yes" : Str)) = none then _ else behindV _ (if some ("yes" : Str) = some ("yes" : Str) then y else _)) = _
          rw [if_neg nofun, if_pos rfl]
          rfl
        rw [e]
        refine ⟨?_, fun v hv => ?_⟩
        · rw [Bool.or_eq_true, ← y1]
          constructor
          · rintro ⟨s, hs, ⟨q1, _⟩ | ⟨q1, q | q⟩⟩
            · rcases hs with z | z
              · exact .inl z.1
              · exact absurd (q1 ▸ Option.some.inj z) yne
            · exact .inr q.2
            · rcases hs with z | z
              · exact .inl z.1
              · exact absurd (Option.some.inj z).symm q.1
          · rintro (z | z)
            · exact ⟨"error", .inl ⟨z, rfl⟩, .inl ⟨rfl, rfl⟩⟩
            · exact ⟨"yes", .inr rfl, .inr ⟨yne, .inl ⟨rfl, z⟩⟩⟩
        · rw [← y2 v hv]
          constructor
          · rintro ⟨s, hs, ⟨q1, q2⟩ | ⟨q1, q | q⟩⟩
            · exact absurd (q2.trans q1) hv
            · exact q.2
            · rcases hs with z | z
              · exact absurd z.2 q1
              · exact absurd (Option.some.inj z).symm q.1
          · intro z
            exact ⟨"yes", .inr rfl, .inr ⟨yne, .inl ⟨rfl, z⟩⟩⟩
      · have e : caseV (((some o, b), y) :: ps) w = ((caseV ps w).1, b || (caseV ps w).2) := by
          show (if (some o) = none then _ else behindV _ (if some o = some ("yes" : Str) then y else _)) = _
          rw [if_neg nofun, if_neg (fun z => h (Option.some.inj z))]
          rfl
        rw [e]
        refine ⟨?_, fun v hv => ?_⟩
        · rw [Bool.or_eq_true, ← r1]
          constructor
          · rintro ⟨s, hs, ⟨q1, _⟩ | ⟨q1, q | q⟩⟩
            · rcases hs with z | z
              · exact .inl z.1
              · exact absurd (q1 ▸ Option.some.inj z) oe
            · rcases hs with z | z
              · exact .inl z.1
              · exact absurd ((Option.some.inj z).trans q.1) h
            · exact .inr q.2
          · rintro (z | z)
            · exact ⟨"error", .inl ⟨z, rfl⟩, .inl ⟨rfl, rfl⟩⟩
            · exact ⟨o, .inr rfl, .inr ⟨oe, .inr ⟨h, z⟩⟩⟩
        · rw [← r2 v hv]
          constructor
          · rintro ⟨s, hs, ⟨q1, q2⟩ | ⟨q1, q | q⟩⟩
            · exact absurd (q2.trans q1) hv
            · rcases hs with z | z
              · exact absurd z.2 q1
              · exact absurd ((Option.some.inj z).trans q.1) h
            · exact q.2
          · intro z
            exact ⟨o, .inr rfl, .inr ⟨oe, .inr ⟨h, z⟩⟩⟩
theorem first_hears : ∀ {xs : List Wrd}, (∀ x ∈ xs, WFit x) → Hears (HdF xs) (firstV xs)
  | [], _ => ⟨⟨fun z => absurd z.symm ue, fun z => by cases z⟩, fun v hv => ⟨fun z => by rw [show v = "unknown" from z]; rfl, fun z => (Option.some.inj z).symm⟩⟩
  | (o, b) :: xs, h => by
    have hx := h (o, b) (.head _)
    obtain ⟨r1, r2⟩ := first_hears (fun x hx => h x (.tail _ hx))
    obtain ⟨y1, y2⟩ := says_hears hx
    by_cases hu : o = some ("unknown" : Str)
    · subst hu
      have e : firstV ((some ("unknown" : Str), b) :: xs) = ((firstV xs).1, b || (firstV xs).2) := by
        show (if some ("unknown" : Str) = some ("unknown" : Str) then _ else _) = _
        rw [if_pos rfl]
        rfl
      rw [e]
      refine ⟨?_, fun v hv => ?_⟩
      · rw [Bool.or_eq_true, ← r1]
        constructor
        · rintro ⟨s, hs, q | q⟩
          · exact .inr q.2
          · rcases hs with z | z
            · exact .inl z.1
            · exact absurd (Option.some.inj z).symm q.1
        · rintro (z | z)
          · exact ⟨"error", .inl ⟨z, rfl⟩, .inr ⟨fun q => ue q.symm, rfl⟩⟩
          · exact ⟨"unknown", .inr rfl, .inl ⟨rfl, z⟩⟩
      · rw [← r2 v hv]
        constructor
        · rintro ⟨s, hs, q | q⟩
          · exact q.2
          · rcases hs with z | z
            · exact absurd (q.2.trans z.2) hv
            · exact absurd (Option.some.inj z).symm q.1
        · intro z
          exact ⟨"unknown", .inr rfl, .inl ⟨rfl, z⟩⟩
    · have e : firstV ((o, b) :: xs) = (o, b) := by
        show (if o = some ("unknown" : Str) then _ else _) = _
        rw [if_neg hu]
      rw [e]
      have iff : ∀ a, HdF ((o, b) :: xs) a ↔ Says (o, b) a := fun a => by
        constructor
        · rintro ⟨s, hs, q | q⟩
          · exfalso
            rcases hs with z | z
            · exact ue (q.1.symm.trans z.2)
            · exact hu (by rw [← q.1]; exact z)
          · rw [q.2]; exact hs
        · intro z
          refine ⟨a, z, .inr ⟨fun q => ?_, rfl⟩⟩
          subst q
          rcases z with z | z
          · exact ue z.2
          · exact hu z
      exact ⟨(iff _).trans y1, fun v hv => (iff v).trans (y2 v hv)⟩
end Gx

set_option Elab.async false
set_option linter.all false
set_option maxRecDepth 100000
set_option maxHeartbeats 1000000
/-! Stretches in the heap. -/
namespace Gx
open PySem PySem.Spec PyProof.Rows L2 Evl
def dO : Option Int → PyData
  | none => .none
  | some i => .int i
def vO : Option Int → V
  | none => .non
  | some i => .int i
def dSt (p : Sx) : PyData := .tuple [dO p.1, dO p.2]
section
variable {K : PySem.W.Frag} {H H' : Hp}
theorem dp_vO (o : Option Int) : Dp K H (vO o) (dO o) := by cases o; exact .non; exact .int _
theorem dp_vO_inv {o : Option Int} {v : V} (h : Dp K H v (dO o)) : v = vO o := by cases o <;> cases h <;> rfl
theorem dSt_mk {t : Addr} {p : Sx} (h : SqT K H t [vO p.1, vO p.2]) : Dp K H (.ref t) (dSt p) := .tup h (.cons (dp_vO _) (.cons (dp_vO _) .nil))
theorem dSt_inv {v : V} {p : Sx} (h : Dp K H v (dSt p)) : ∃ t, v = .ref t ∧ SqT K H t [vO p.1, vO p.2] := by
  obtain ⟨t, xs, rfl, hs, ha⟩ := h.tup_inv
  obtain ⟨x, y, rfl, h1, h2⟩ := ha.two
  rw [dp_vO_inv h1, dp_vO_inv h2] at hs
  exact ⟨t, rfl, hs⟩
theorem dSt_flat (p : Sx) : flatD (dSt p) = true := by
  obtain ⟨a, b⟩ := p
  cases a <;> cases b <;> rfl
theorem dSts_flat (s : List Sx) : flatDs (s.map dSt) = true := flatDs_all fun d hd => by
  obtain ⟨p, _, rfl⟩ := List.mem_map.mp hd
  exact dSt_flat p
/-- at a a list or a tuple of the stretches s -/
def StsB (t : Bool) (K : PySem.W.Frag) (H : Hp) (a : Addr) (s : List Sx) : Prop := ∃ xs, SqB t K H a xs ∧ DpAll K H xs (s.map dSt)
theorem StsB.to {t : Bool} {a : Addr} {s : List Sx} (h : StsB t K H a s) (e : Ex H H') : StsB t K H' a s := by
  obtain ⟨xs, h1, h2⟩ := h
  exact ⟨xs, h1.to e, h2.to e⟩
theorem sts_get {xs : List V} {s : List Sx} (h : DpAll K H xs (s.map dSt)) {i : Nat} {x : V} (e : xs[i]? = some x) : ∃ p t, s[i]? = some p ∧ x = .ref t ∧ SqT K H t [vO p.1, vO p.2] := by
  obtain ⟨d, h1, h2⟩ := h.get e
  rw [List.getElem?_map] at h1
  obtain ⟨p, hp, rfl⟩ := Option.map_eq_some_iff.mp h1
  obtain ⟨t, e1, e2⟩ := dSt_inv h2
  exact ⟨p, t, hp, e1, e2⟩
theorem sts_get' {xs : List V} {s : List Sx} (h : DpAll K H xs (s.map dSt)) {i : Nat} {p : Sx} (e : s[i]? = some p) : ∃ t, xs[i]? = some (.ref t) ∧ SqT K H t [vO p.1, vO p.2] := by
  obtain ⟨v, h1, h2⟩ := h.get' (i := i) (d := dSt p) (by rw [List.getElem?_map, e]; rfl)
  obtain ⟨t, e1, e2⟩ := dSt_inv h2
  exact ⟨t, by rw [h1, e1], e2⟩
theorem sts_len {xs : List V} {s : List Sx} (h : DpAll K H xs (s.map dSt)) : xs.length = s.length := by rw [h.len, List.length_map]
/-- what isinstance says of an end -/
theorem ty_vO (o : Option Int) : ∃ t, TyX K H (vO o) t ∧ PySem.W.kitOne K t (.type "int") = some o.isSome ∧ PySem.W.kitOne K t (.type "bool") = some false ∧ PySem.W.kitOne K t (.type "tuple") = some false := by
  cases o with
  | none => exact ⟨.type "NoneType", .base .non, kit_ty (by show _ = some false; decide +kernel), kit_ty (by show _ = some false; decide +kernel), kit_ty (by show _ = some false; decide +kernel)⟩
  | some i => exact ⟨.type "int", .base (.int i), kit_ty (by show _ = some true; decide +kernel), kit_ty (by show _ = some false; decide +kernel), kit_ty (by show _ = some false; decide +kernel)⟩
theorem ty_tup {a : Addr} {xs : List V} (h : SqT K H a xs) : TyX K H (.ref a) (.type "tuple") := by
  rcases h with (h | ⟨ob, h⟩) | ⟨o, its, n, hk, hc, _⟩
  · exact .base (.tup h)
  · exact .fTuple h
  · exact .kTuple hk hc
theorem ty_lst {a : Addr} {xs : List V} (h : SqL K H a xs) : TyX K H (.ref a) (.type "list") := by
  rcases h with (h | ⟨ob, h⟩) | ⟨o, its, n, hk, hc, _⟩
  · exact .base (.lst h)
  · exact .base (.frz h)
  · exact .kList hk hc
theorem ko_tt : PySem.W.kitOne K (.type "tuple") (.type "tuple") = some true := kit_ty (by show _ = some true; decide +kernel)
theorem ko_lt : PySem.W.kitOne K (.type "list") (.type "tuple") = some false := kit_ty (by show _ = some false; decide +kernel)
theorem ko_ll : PySem.W.kitOne K (.type "list") (.type "list") = some true := kit_ty (by show _ = some true; decide +kernel)
theorem ko_tl : PySem.W.kitOne K (.type "tuple") (.type "list") = some false := kit_ty (by show _ = some false; decide +kernel)
theorem exB_ex {F : Addr} {H4 : Hp} (e : ExB F H4 H') (e0 : Ex H H4) (n : H F = none) : Ex H H' := fun b o h => e b o (fun z => by subst z; rw [n] at h; cases h) (e0 b o h)
theorem exB_l {F a : Addr} {xs : List V} (e : ExB F H H') (h : H a = some (.lst xs)) (n : a ≠ F) : H' a = some (.lst xs) := e _ _ n h
theorem outs_bind {α : Type} (f : α → Option PyData) (s : List α) : outs (fun i => (s[i]?).bind f) s.length = s.filterMap f := by
  unfold outs
  have go : ∀ n, n ≤ s.length → (List.range n).filterMap (fun i => (s[i]?).bind f) = (s.take n).filterMap f := by
    intro n
    induction n with
    | zero => intro _; simp
    | succ n ih =>
      intro h
      rw [List.range_succ, List.filterMap_append, ih (by omega), List.take_add_one, List.filterMap_append]
      have : s[n]? = some (s[n]'(by omega)) := List.getElem?_eq_getElem (by omega)
      rw [this]
      congr 1
      simp only [Option.toList, List.filterMap_cons, List.filterMap_nil, this, Option.bind]
  have := go s.length (Nat.le_refl _)
  rwa [List.take_length] at this
theorem dpAll_zip {α : Type} (d : α → PyData) : ∀ (zs : List (V × α)), (∀ z ∈ zs, Dp K H z.1 (d z.2)) → DpAll K H (zs.map (·.1)) ((zs.map (·.2)).map d)
  | [], _ => .nil
  | z :: zs, h => .cons (h z List.mem_cons_self) (dpAll_zip d zs fun x hx => h x (List.mem_cons_of_mem _ hx))
theorem zip_dpAll {α : Type} (d : α → PyData) : ∀ {xs : List V} {s : List α}, DpAll K H xs (s.map d) → ∃ zs : List (V × α), zs.map (·.1) = xs ∧ zs.map (·.2) = s ∧ ∀ z ∈ zs, Dp K H z.1 (d z.2)
  | xs, [], h => by cases h; exact ⟨[], rfl, rfl, by simp⟩
  | xs, a :: s, h => by
    cases h with
    | cons h1 h2 =>
      obtain ⟨zs, e1, e2, e3⟩ := zip_dpAll d h2
      refine ⟨(_, a) :: zs, by rw [List.map_cons, e1], by rw [List.map_cons, e2], fun z hz => ?_⟩
      rcases List.mem_cons.mp hz with rfl | hz
      · exact h1
      · exact e3 z hz
/-- what sorted(.., key=_low) makes of stretches -/
theorem sorted_low {l : Addr} {ys : List V} {s : List Sx} {f : Addr} {Q : VK} (hl : SqL K H l ys) (hd : DpAll K H ys (s.map dSt)) (hs : ∀ p ∈ s, p.1.isSome = true)
    (q : ∀ p ws, H p = none → ws.length = s.length → DpAll K (upd H p (.lst ws)) ws ((s.mergeSort fun p q => decide (Spn.lowV p ≤ Spn.lowV q)).map dSt) → Q (.ref p) (upd H p (.lst ws))) :
    rSortedLow K f [.ref l] [.ref f] H Q := by
  obtain ⟨zs, e1, e2, e3⟩ := zip_dpAll dSt hd
  have em : (zs.map fun z => (z.1, Spn.lowV z.2)).map (·.1) = zs.map (·.1) := by rw [List.map_map]; rfl
  refine ⟨l, zs.map fun z => (z.1, Spn.lowV z.2), rfl, rfl, by rw [em, e1]; exact hl, fun p hp => ?_, fun p np => ?_⟩
  · obtain ⟨z, hz, rfl⟩ := List.mem_map.mp hp
    obtain ⟨t, h1, h2⟩ := dSt_inv (e3 z hz)
    have hm : z.2 ∈ s := by rw [← e2]; exact List.mem_map_of_mem hz
    have := hs _ hm
    obtain ⟨v, ⟨a, b⟩⟩ := z
    cases a with
    | none => cases this
    | some a => exact ⟨t, _, h1, h2⟩
  · have s1 : (zs.mergeSort fun x y => decide (Spn.lowV x.2 ≤ Spn.lowV y.2)).map (fun z => (z.1, Spn.lowV z.2)) = (zs.map fun z => (z.1, Spn.lowV z.2)).mergeSort fun x y => decide (x.2 ≤ y.2) :=
      PySem.W.sort_maps _ fun _ _ _ _ => rfl
    have s2 : (zs.mergeSort fun x y => decide (Spn.lowV x.2 ≤ Spn.lowV y.2)).map (·.2) = (zs.map (·.2)).mergeSort fun p q => decide (Spn.lowV p ≤ Spn.lowV q) :=
      PySem.W.sort_maps _ fun _ _ _ _ => rfl
    rw [← s1, List.map_map]
    have s3 : (zs.mergeSort fun x y => decide (Spn.lowV x.2 ≤ Spn.lowV y.2)).map ((fun x : V × Int => x.1) ∘ fun z => (z.1, Spn.lowV z.2)) = (zs.mergeSort fun x y => decide (Spn.lowV x.2 ≤ Spn.lowV y.2)).map (·.1) := rfl
    rw [s3]
    refine q p _ np ?_ ?_
    · rw [List.length_map, List.length_mergeSort, ← e2, List.length_map]
    · rw [← e2, ← s2]
      refine dpAll_zip dSt _ fun z hz => ?_
      exact (e3 z (List.mem_mergeSort.mp hz)).to (Ex.new np)
theorem StsB.toI {a : Addr} {s : List Sx} (h : StsB true K H a s) (e : ExI H H') : StsB true K H' a s := by
  obtain ⟨xs, h1, h2⟩ := h
  exact ⟨xs, e.sq h1, dpAll_exI e _ _ (dSts_flat s) h2⟩
theorem dO_eqv (a b : Option Int) : PyData.eqv (dO a) (dO b) = decide (a = b) := by
  cases a <;> cases b <;> simp [dO, PyData.eqv]
  rename_i x y
  by_cases h : x = y <;> simp [h]
theorem dSt_eqv (p q : Sx) : PyData.eqv (dSt p) (dSt q) = decide (p = q) := by
  obtain ⟨a, b⟩ := p
  obtain ⟨c, d⟩ := q
  simp only [dSt, PyData.eqv, PyData.eqvAll, dO_eqv, Bool.and_true, Prod.mk.injEq, Bool.decide_and]
theorem dSts_eqv : ∀ s r : List Sx, PyData.eqvAll (s.map dSt) (r.map dSt) = decide (s = r)
  | [], [] => rfl
  | [], _ :: _ => rfl
  | _ :: _, [] => rfl
  | p :: s, q :: r => by
    simp only [List.map_cons, PyData.eqvAll, dSt_eqv, dSts_eqv s r, List.cons.injEq, Bool.decide_and]
theorem dO_can (a : Option Int) : PyData.canLay0 (dO a) = true ∧ (dO a).depth = 0 := by cases a <;> exact ⟨rfl, rfl⟩
theorem dSts_can : ∀ s : List Sx, PyData.canLayAll0 (s.map dSt) = true ∧ PyData.depthAll (s.map dSt) ≤ 1
  | [] => ⟨rfl, Nat.zero_le _⟩
  | p :: s => by
    obtain ⟨h1, h2⟩ := dSts_can s
    obtain ⟨a, b⟩ := p
    cases a <;> cases b <;> (refine ⟨?_, ?_⟩ <;> simp_all [PyData.canLayAll0, PyData.canLay0, PyData.depthAll, PyData.depth, dSt, dO])
theorem dSts_shaped (s : List Sx) : SeqAt.shaped (.tuple (s.map dSt)) = true ∧ SeqAt.shaped (.list (s.map dSt)) = true := by
  obtain ⟨h1, h2⟩ := dSts_can s
  have e1 : PyData.canLay0 (.tuple (s.map dSt)) = true := by simpa [PyData.canLay0] using h1
  have e2 : PyData.canLay0 (.list (s.map dSt)) = true := by simpa [PyData.canLay0] using h1
  refine ⟨?_, ?_⟩
  · unfold SeqAt.shaped
    rw [e1, Bool.true_and]
    refine decide_eq_true ?_
    simp only [PyData.depth]
    omega
  · unfold SeqAt.shaped
    rw [e2, Bool.true_and]
    refine decide_eq_true ?_
    simp only [PyData.depth]
    omega
theorem sts_tup {a : Addr} {s : List Sx} (h : StsB true K H a s) : Dp K H (.ref a) (.tuple (s.map dSt)) := by
  obtain ⟨xs, h1, h2⟩ := h
  exact .tup h1 h2
theorem perm_lift {α β : Type} {ys xs : List α} (h : ys.Perm xs) : ∀ ps : List (α × β), ps.map (·.1) = xs → ∃ ps' : List (α × β), ps'.Perm ps ∧ ps'.map (·.1) = ys := by
  induction h with
  | nil => intro ps e; exact ⟨[], by cases ps with | nil => exact .refl _ | cons _ _ => simp at e, rfl⟩
  | cons x _ ih =>
    intro ps e
    cases ps with
    | nil => simp at e
    | cons p ps =>
      simp only [List.map_cons, List.cons.injEq] at e
      obtain ⟨ps', h1, h2⟩ := ih ps e.2
      exact ⟨p :: ps', .cons p h1, by rw [List.map_cons, h2, e.1]⟩
  | swap x y l =>
    intro ps e
    match ps, e with
    | p :: q :: ps, e =>
      simp only [List.map_cons, List.cons.injEq] at e
      exact ⟨q :: p :: ps, .swap p q ps, by rw [List.map_cons, List.map_cons, e.1, e.2.1, e.2.2]⟩
  | trans _ _ ih1 ih2 =>
    intro ps e
    obtain ⟨p1, a1, a2⟩ := ih2 ps e
    obtain ⟨p2, b1, b2⟩ := ih1 p1 a2
    exact ⟨p2, b1.trans a1, b2⟩
theorem dpAll_perm {α : Type} (d : α → PyData) {xs ys : List V} {s : List α} (h : DpAll K H xs (s.map d)) (p : ys.Perm xs) : ∃ s' : List α, s'.Perm s ∧ DpAll K H ys (s'.map d) := by
  obtain ⟨zs, e1, e2, e3⟩ := zip_dpAll d h
  obtain ⟨zs', p1, p2⟩ := perm_lift p zs e1
  refine ⟨zs'.map (·.2), by rw [← e2]; exact p1.map _, ?_⟩
  rw [← p2]
  exact dpAll_zip d zs' fun z hz => e3 z (p1.mem_iff.mp hz)
theorem ints_can : ∀ ns : List Int, PyData.canLayAll0 (ns.map PyData.int) = true ∧ PyData.depthAll (ns.map PyData.int) = 0
  | [] => ⟨rfl, rfl⟩
  | n :: ns => by
    obtain ⟨h1, h2⟩ := ints_can ns
    exact ⟨by simp [PyData.canLayAll0, PyData.canLay0, h1], by simp [PyData.depthAll, PyData.depth, h2]⟩
theorem ints_shaped (ns : List Int) : SeqAt.shaped (.list (ns.map PyData.int)) = true := by
  obtain ⟨h1, h2⟩ := ints_can ns
  unfold SeqAt.shaped
  have e2 : PyData.canLay0 (.list (ns.map PyData.int)) = true := by simpa [PyData.canLay0] using h1
  rw [e2, Bool.true_and]
  refine decide_eq_true ?_
  simp only [PyData.depth, h2]
  omega
theorem ints_nil (ns : List Int) : PyData.eqv (.list (ns.map PyData.int)) (.list []) = decide (ns = []) := by cases ns <;> simp [PyData.eqv, PyData.eqvAll]
end
end Gx

set_option Elab.async false
set_option linter.all false
set_option maxRecDepth 100000
set_option maxHeartbeats 4000000
/-! sorted(xs) of any data that can be compared. -/
namespace Gx
open PySem PySem.Spec PyProof.Rows L2 Evl
/-- ds may be sorted: alike, tuples of an item at least or neither None nor tuples -/
def Sorts (ds : List PyData) : Prop := PySem.W.AllAlike ds ∧ PySem.W.Sortable ds ∧ ∀ d ∈ ds, d.depth ≤ 50
abbrev leD (p q : V × PyData) : Bool := !PySem.W.dataLt q.2 p.2
def rSortedD (K : PySem.W.Frag) : List V → Hp → VK → Prop := fun vs H Q => ∃ (a : Addr) (ps : List (V × PyData)), vs = [.ref a] ∧ SqL K H a (ps.map (·.1)) ∧ (∀ p ∈ ps, Dp K H p.1 p.2) ∧ Sorts (ps.map (·.2)) ∧
  ∀ p, H p = none → Q (.ref p) (upd H p (.lst ((ps.mergeSort leD).map (·.1))))
theorem each_reads {X : Cx} {pins : List (Addr × Obj)} {σ : L2.St} {H : Hp} {s : Shared} (I : L2.Inv X pins σ H s) : ∀ {ps : List (V × PyData)} {us : List Value}, (∀ p ∈ ps, Dp X.K H p.1 p.2) → PySem.W.EachIs (fun u b => RelV b.1 u) us ps →
    PySem.W.EachIs (fun u (b : V × PyData) => ∃ as, Reads s.heap u b.2 as) us ps
  | [], _, _, h => by cases h; exact .nil
  | p :: ps, _, d, h => by
    cases h with
    | cons h1 h2 =>
      exact .cons (Dp.reads I _ _ _ (d p List.mem_cons_self) h1) (each_reads I (fun q hq => d q (List.mem_cons_of_mem _ hq)) h2)
theorem cr_sortedD {X : Cx} (hu : X.A.units + 60 < cLine) : CallR X (.builtin "sorted") (rSortedD X.K) := by
  intro pins s σ H vs us Q I r h
  obtain ⟨a, ps, rfl, hs, hd, ⟨s1, s2, s3⟩, q⟩ := h
  obtain rfl := Vals.ref1 r
  obtain ⟨its, rv, hl, hz⟩ := I.list hs
  have hz' : ps.length ≤ sizeLine := by simpa using hz
  have ev := each_vals (fun b : V × PyData => b.1) rv
  refine PySem.W.sorted_data (β := V × PyData) (R := fun u b => RelV b.1 u) (enc := fun b => b.2) hl.isList ev (each_reads I hd ev) s1 s2 hz' (fun b hb => ?_) fun out lo he => ?_
  · have := s3 b.2 (List.mem_map.mpr ⟨b, hb, rfl⟩)
    show X.A.units + 2 + b.2.depth < cLine
    omega
  · have hv := vals_each (fun b : V × PyData => b.1) he
    obtain ⟨e, le⟩ := sortedAll_at s.heap its (List.toArray out)
    have lb : PySem.W.dataLe false (fun b : V × PyData => b.2) = leD := rfl
    rw [lb] at hv
    have hL : ((ps.mergeSort leD).map (·.1)).length ≤ sizeLine := by simpa using hz'
    exact ⟨.ref _, upd H (s.heap.objs.size + 1) (.lst ((ps.mergeSort leD).map (·.1))), I.laid (t' := s.toks) (fun b o z => sortedAll_old z) (Nat.le_succ _) ⟨hL, out, e, hv, le⟩, rfl, q _ (I.hok.fresh (Nat.le_succ _))⟩
end Gx

set_option Elab.async false
set_option linter.all false
set_option maxRecDepth 100000
set_option maxHeartbeats 4000000
/-! sorted(set(xs)) of a list of texts: the set as it grows -/
namespace Gx
open PySem PySem.Spec PyProof.Rows L2 Evl
def txOf (e : Int × Value) : Str := match e.2 with | .str k _ => k | _ => ""
/-- a set of the texts l, in some order, that can be walked -/
structure Txs (P : Program) (w : World) (h : Heap) (a : Addr) (D : Froz.SD) (l : List Str) : Prop where
  at_ : h.get? a = some (Froz.sObj "set" D)
  ok : Froz.TxOk P w D l
  each : (D.1.toList.map txOf).Perm l
  one : l.Nodup
  up : Ris D.2.2.place.toList
  led : w.params.followText "set-order" = true ∨ D.2.2.led = true
section
variable {P : Program} {w : World} {A : Around} {E : Value → Shared → Prop} {s : Shared}
theorem Txs.keep {h h' : Heap} {a : Addr} {D : Froz.SD} {l : List Str} (T : Txs P w h a D l) (k : ∀ o, h.get? a = some o → h'.get? a = some o) : Txs P w h' a D l :=
  ⟨k _ T.at_, T.ok, T.each, T.one, T.up, T.led⟩
theorem tail_perm (ep : Nat) (es : Array (Int × Value)) (t : SetTable) (b : Bool) : (Froz.tailTx ep es t b).1.toList.Perm es.toList := by
  unfold Froz.tailTx
  by_cases c : (!b && t.tooFull) = true
  · rw [if_pos c]; exact relayAll_perm _ _ _
  · rw [if_neg c]
theorem tail_ris (ep : Nat) (es : Array (Int × Value)) (t : SetTable) (b : Bool) (r : Ris t.place.toList) : Ris (Froz.tailTx ep es t b).2.2.place.toList := by
  unfold Froz.tailTx
  by_cases c : (!b && t.tooFull) = true
  · rw [if_pos c]; exact relayAll_ris _ _ _
  · rw [if_neg c]; exact r
theorem tail_led (ep : Nat) (es : Array (Int × Value)) (t : SetTable) (b : Bool) : (Froz.tailTx ep es t b).2.2.led = t.led := by
  unfold Froz.tailTx
  by_cases c : (!b && t.tooFull) = true
  · rw [if_pos c]; exact relayAll_led _ _ _
  · rw [if_neg c]
theorem addTx_perm (h : Int) (v : Value) (D : Froz.SD) : (Froz.addTx h v D).1.toList.Perm ((h, v) :: D.1.toList) := by
  obtain ⟨es, ep, t⟩ := D
  have p1 := layNew_perm t es h v
  rw [Array.toList_push] at p1
  exact (tail_perm _ _ _ _).trans (p1.trans (List.perm_append_singleton _ _))
theorem addTx_ris (h : Int) (v : Value) (D : Froz.SD) (r : Ris D.2.2.place.toList) : Ris (Froz.addTx h v D).2.2.place.toList := by
  obtain ⟨es, ep, t⟩ := D
  have r1 := layNew_ris t es h v r
  refine tail_ris _ _ _ _ ?_
  split
  · exact r1
  · exact r1
theorem addTx_led (h : Int) (v : Value) (D : Froz.SD) : (Froz.addTx h v D).2.2.led = D.2.2.led := by
  obtain ⟨es, ep, t⟩ := D
  have r1 := layNew_led t es h v
  refine (tail_led _ _ _ _).trans ?_
  split
  · exact r1
  · exact r1
/-- a text that is there already: nothing happens -/
theorem tx_old {a : Addr} {D : Froz.SD} {l : List Str} {k : Str} {u : Tok} {Q : Bool → Shared → Prop} (T : Txs P w s.heap a D l) (hk : k ∈ l) (few : l.length < scanBound) (q : Q false s) :
    wpAny (model P w) A (setAddHashed a (.str k u) (hashStr w k)) Q E s := by
  obtain ⟨es, ep, t⟩ := D
  have el : ElemsOf (strKind P w) es.toList := T.ok.el
  have fit : t.fits es.size = true := T.ok.fit
  have sz : es.size < scanBound := by rw [show es.size = l.length from T.ok.sz]; exact few
  have is : (strKind P w).is k (.str k u) = true := Froz.is_str k u
  have dat : (Froz.sObj "set" (es, ep, t)).data = .set es ep t := rfl
  have found : ∃ j, List.findIdx? (fun e => (strKind P w).is k e.2) es.toList = some j := by
    cases g : List.findIdx? (fun e => (strKind P w).is k e.2) es.toList with
    | some j => exact ⟨j, rfl⟩
    | none =>
      obtain ⟨e, he, z⟩ := (T.ok.mem k).mp hk
      have no := List.findIdx?_eq_none_iff.mp g e he
      rw [z] at no
      cases no
  obtain ⟨j, hj⟩ := found
  unfold setAddHashed setAddHashedIn
  refine wpAny_holding (wpAny_bind (wpAny_setState_of T.at_ dat fit ?_)); dsimp only
  rw [byScan_of (show (Value.str k u).scannable = true from rfl) sz el]; simp only [↓reduceIte]
  unfold setAddByScan
  refine wpAny_bind (wpAny_bind (wpAny_rule (wpAny_bind (wpAny_setScan_of (knd := strKind P w) (k := k) is T.at_ dat fit el ?_))))
  rw [hj]; dsimp only
  exact wpAny_pure (wpAny_pure q)
/-- a text more, new or not -/
theorem tx_add {a : Addr} {D : Froz.SD} {l : List Str} {k : Str} {u : Tok} {Q : Bool → Shared → Prop} (T : Txs P w s.heap a D l) (few : l.length + 1 < scanBound)
    (q : ∀ b h' D' l', Heap.SameBut a s.heap h' → Txs P w h' a D' l' → (∀ x, x ∈ l' ↔ x ∈ l ∨ x = k) → l'.length ≤ l.length + 1 → Q b { s with heap := h' }) :
    wpAny (model P w) A (setAddHashed a (.str k u) (hashStr w k)) Q E s := by
  by_cases hk : k ∈ l
  · exact tx_old T hk (by omega) (q false s.heap D l (Heap.SameBut.refl a s.heap) T (fun x => ⟨.inl, fun z => z.elim id fun e => by rw [e]; exact hk⟩) (Nat.le_succ _))
  · refine Froz.add_x (l := l) T.at_ T.ok hk few (q true _ (Froz.addTx (hashStr w k) (.str k u) D) (k :: l) (Heap.SameBut.update s.heap a _) ?_ (fun x => ?_) (Nat.le_refl _))
    · refine ⟨Froz.get_upd _ T.at_ rfl, Froz.add_ok u T.ok, ?_, List.nodup_cons.mpr ⟨hk, T.one⟩, addTx_ris _ _ _ T.up, T.led.imp id fun z => by rw [addTx_led]; exact z⟩
      have p1 := (addTx_perm (hashStr w k) (.str k u) D).map txOf
      exact p1.trans (T.each.cons k)
    · rw [List.mem_cons]; exact Or.comm
end
end Gx

set_option Elab.async false
set_option linter.all false
set_option maxRecDepth 100000
set_option maxHeartbeats 4000000
/-! sorted(set(xs)) of a list of texts: the set's making, its walk, its order -/
namespace Gx
open PySem PySem.Spec PyProof.Rows L2 Evl
section
variable {P : Program} {w : World} {A : Around} {E : Value → Shared → Prop} {s : Shared}
/-- the loop that fills the set -/
theorem tx_loop {it a : Addr} {fp wr : List Addr} {G : Array GenState → Array GenState → Prop} {n : Nat} {Y : Nat → Value → Prop} {St : Nat → Shared → Prop} {R : Result → Shared → Prop} (W : WalksS P w A.in1 it fp wr G n Y St)
    (off : a ∉ fp) (ks : List Str) (en : n = ks.length) (few : ks.length + 1 < scanBound) (txt : ∀ i v, Y i v → ∃ k u, ks[i]? = some k ∧ v = .str k u) :
    ∀ (m i : Nat) (s : Shared), n - i = m → i ≤ n → St i s → (∃ D l, Txs P w s.heap a D l ∧ (∀ x, x ∈ l ↔ x ∈ ks.take i) ∧ l.length ≤ i) →
      (∀ s' D l, Moved (a :: wr) G s s' → Txs P w s'.heap a D l → (∀ x, x ∈ l ↔ x ∈ ks) → l.length ≤ ks.length → R (.ok (.ret .none)) s') → codeAny (model P w) A (.builtin "set.update.loop" ⟨[.ref a, .ref it], []⟩) R s := by
  have offw : a ∉ wr := fun z => off (W.sub _ z)
  intro m
  induction m with
  | zero =>
    intro i s e le st ⟨D, l, T, me, ll⟩ k
    obtain rfl : i = n := by omega
    refine codeAny_builtin F.entry_set_update_loop ?_
    rw [Around.under_plainId F.plain_set_update_loop _]
    refine wpAny_bind (m := pyNext (.ref it)) (W.done s _ _ st fun t mv => ?_)
    refine wpAny_pure (k t D l (mv.mono fun b z => List.mem_cons_of_mem _ z) (T.keep fun o z => mv.heap a o offw z) (fun x => ?_) (by omega))
    rw [me, en, List.take_length]
  | succ m ih =>
    intro i s e le st ⟨D, l, T, me, ll⟩ k
    have lt : i < n := by omega
    refine codeAny_builtin F.entry_set_update_loop ?_
    rw [Around.under_plainId F.plain_set_update_loop _]
    refine wpAny_bind (m := pyNext (.ref it)) (W.item i s _ _ lt st fun v t hv st2 mv => ?_)
    obtain ⟨x, u, hx, rfl⟩ := txt i v hv
    have T2 : Txs P w t.heap a D l := T.keep fun o z => mv.heap a o offw z
    refine wpAny_bind (m := holding [Value.str x u] (setAdd a (.str x u))) (wpAny_holding ?_)
    unfold setAdd
    refine wpAny_holding (wpAny_bind ((strKind P w).pyHash (k := x) (Froz.is_str x u) ?_))
    refine tx_add (s := { t with toks := t.toks + 1 }) T2 (by omega) fun b h' D' l' same T3 me3 ll3 => ?_
    refine wpAny_pure ⟨plainId_quiet F.plain_set_update_loop _, ih (i + 1) _ (by omega) lt (W.frame _ t _ _ st2 (Nat.le_succ _) fun c hc o z => ?_) ⟨D', l', T3, fun y => ?_, by omega⟩ fun s' D2 l2 mv2 T4 me4 ll4 => ?_⟩
    · rw [same.2 c (fun q : c = a => off (by rw [← q]; exact hc))]; exact z
    · rw [me3, me, L2.take_next hx, List.mem_append, List.mem_singleton]
    · refine k s' D2 l2 (Moved.trans W.gtrans ((mv.mono fun b z => List.mem_cons_of_mem _ z).then_heap (Nat.le_succ _) fun c o hc z => ?_) mv2) T4 me4 ll4
      rw [same.2 c (fun q : c = a => hc (by rw [q]; exact List.mem_cons_self))]; exact z
/-- the empty set -/
theorem txs_fresh {h : Heap} {a : Addr} (at_ : h.get? a = some { cls := .type "set", dict := none, data := .set #[] 0 (.fresh 0 0 (!w.params.followText "set-order")) }) : Txs P w h a (#[], 0, .fresh 0 0 (!w.params.followText "set-order")) [] :=
  ⟨at_, Froz.TxOk.nil rfl, .refl _, List.nodup_nil, List.Pairwise.nil, by cases g : w.params.followText "set-order"; exact .inr rfl; exact .inl rfl⟩
/-- the set as it is made, in the model's words -/
abbrev newSet (w : World) : Obj := { cls := .type "set", dict := none, data := .set #[] 0 (.fresh 0 0 (!w.params.followText "set-order")) }
set_option maxHeartbeats 8000000 in
/-- set(xs), xs a list of texts -/
theorem set_texts {b : Addr} {its : Array Value} (ks : List Str) {Q : Value → Shared → Prop} (calm : A.handled = none) (hb : s.heap.IsList b its) (txt : ∀ (i : Nat) (v : Value), its[i]? = some v → ∃ k u, ks[i]? = some k ∧ v = Value.str k u) (en : its.size = ks.length)
    (few : ks.length + 1 < scanBound) (q : ∀ (h' : Heap) (tk : Nat) D l, Txs P w h' s.heap.objs.size D l → (∀ x, x ∈ l ↔ x ∈ ks) → l.length ≤ ks.length → (∀ c o, s.heap.get? c = some o → h'.get? c = some o) → Q (.ref s.heap.objs.size) { s with heap := h', toks := tk }) :
    wpAny (model P w) A (call (.type "set") [.ref b]) Q E s := by
  obtain ⟨_, _, mr⟩ := F.called_set.mro; have m1 := F.called_set.made; have m2 := F.called_set.sub
  refine wpAny_call (codeAny_of_tree (show wpAny _ _ (callAny (.type "set") _) _ _ _ from ?_))
  refine wpAny_pure ⟨Code.quiet_builtin _ (by decide +kernel), codeAny_builtin F.entry_type_call ?_⟩
  rw [Around.under_plain (weight_type_call_type "set" [.ref b] []) rfl]
  have m3 := F.called_set.notType; have m4 := F.called_set.canCreate; have m5 := F.typeCall_set_1 (.ref b)
  repeat (any_goals (first | assumption | wp_step))
  refine codeAny_mono (L2.code_set_led1 (.ref b) (E := E) (Q₁ := fun z s1 => z = .ref s.heap.objs.size ∧ s1 = { s with heap := s.heap.push (newSet w) }) ⟨rfl, rfl⟩) fun r s1 hr => ?_
  rcases r with _ | fl
  · exact hr
  cases fl <;> try exact hr.elim
  obtain ⟨rfl, rfl⟩ := hr
  have at_ : (s.heap.push (newSet w)).get? s.heap.objs.size = some (newSet w) := Heap.get?_push_size _ rfl
  have ty : Shared.TypeIs { s with heap := s.heap.push (newSet w) } (.ref s.heap.objs.size) "set" := ⟨_, at_, rfl⟩
  have m6 := F.called_set.init.lookup; have m7 := F.called_set.init.bind (.ref s.heap.objs.size)
  repeat (any_goals (first | assumption | wp_step))
  refine codeAny_mono (codeAny_call_builtin (R := wants (fun z s2 => z = .none ∧ ∃ h' tk D l, s2 = { s with heap := h', toks := tk } ∧ Txs P w h' s.heap.objs.size D l ∧ (∀ x, x ∈ l ↔ x ∈ ks) ∧ l.length ≤ ks.length ∧
    (∀ c o, s.heap.get? c = some o → h'.get? c = some o)) E) F.called_set.init.plain F.entry_set_init (check_set_init_1 ty ?_)) fun r s2 hr => ?_
  · obtain ⟨⟨oc, od, oa, os⟩, ho, hc, cap, hd⟩ := hb
    simp only at hc hd
    subst hc hd
    have ho2 : (s.heap.push (newSet w)).get? b = some { cls := .type "list", dict := od, data := .seq its cap, slots := os } := Heap.get?_push_of_some _ ho
    have m8 := F.sub_list_set; have m9 := F.sub_list_frozenset
    have m10 : (Value.type "list" == Value.type "dict") = false := by decide
    have isl : (s.heap.push (newSet w)).IsList b its := ⟨_, ho2, rfl, cap, rfl⟩
    unfold Builtin.«set.__init__» noKeywords Builtin.Frozenset.updateFrom
    generalize gg : pyIter = pit
    wp_walk
    subst gg
    refine wpAny_pyIter_list isl (wpAny_bind (wpAny_runValue ?_))
    have bl : b < s.heap.objs.size := Heap.lt_size ho
    have sz : (s.heap.push (newSet w)).objs.size = s.heap.objs.size + 1 := Heap.size_push ..
    have W := Walks.list (prog := P) (w := w) (A := A.in1.in1.in1) (by simp [calm]) (s.heap.push (newSet w)).objs.size b (by rw [sz]; exact Nat.ne_of_lt (Nat.lt_succ_of_lt bl)) its
    refine tx_loop W.toS (a := s.heap.objs.size) (fun z => ?_) ks en few txt (its.size - 0) 0 _ (by omega) (Nat.zero_le _) ⟨⟨_, Heap.get?_push_size _ rfl, rfl, rfl⟩, isl.push _⟩ ?_ ?_
    · rcases List.mem_cons.mp z with e | e
      · rw [sz] at e; exact absurd e (Nat.ne_of_lt (Nat.lt_succ_self _))
      · exact absurd (List.mem_singleton.mp e) (Nat.ne_of_gt bl)
    · exact ⟨_, [], txs_fresh (Heap.get?_push_of_some _ at_), fun x => by simp, Nat.zero_le _⟩
    · rintro ⟨h', g', d', t', o'⟩ D l mv T me ll
      obtain rfl : g' = s.gens := mv.gens
      obtain rfl : d' = s.drawn := mv.drawn
      obtain rfl : o' = s.os := mv.os
      refine wpAny_pure (wpAny_pure ⟨rfl, h', t', D, l, rfl, T, me, ll, fun c o hc => ?_⟩)
      have lt := Heap.lt_size hc
      refine mv.heap c o (fun z => ?_) (Heap.get?_push_of_some _ (Heap.get?_push_of_some _ hc))
      rcases List.mem_cons.mp z with e | e
      · rw [e] at lt; exact Nat.lt_irrefl _ lt
      · rw [List.mem_singleton.mp e, sz] at lt; exact absurd lt (Nat.not_lt.mpr (Nat.le_succ _))
  · rcases r with _ | fl
    · exact hr
    cases fl <;> try exact hr.elim
    obtain ⟨rfl, h', tk, D, l, rfl, T, me, ll, kp⟩ := hr
    repeat (any_goals (first | assumption | wp_step))
    exact q h' tk D l T me ll kp
end
end Gx

set_option Elab.async false
set_option linter.all false
set_option maxRecDepth 100000
set_option maxHeartbeats 4000000
/-! sorted(set(xs)) of a list of texts, as rules -/
namespace Gx
open PySem PySem.Spec PyProof.Rows L2 Evl
section
variable {P : Program} {w : World} {A : Around} {E : Value → Shared → Prop} {s : Shared}
/-- the texts l, each once, in their order -/
def sortTx (l : List Str) : List Str := l.mergeSort fun a b => decide (a.cps.toList ≤ b.cps.toList)
/-- sorted(the set) -/
theorem sorted_texts {a : Addr} {D : Froz.SD} {l : List Str} {Q : Value → Shared → Prop} (T : Txs P w s.heap a D l) (calm : A.handled = none) (few : l.length < scanBound) (room : A.units + 60 < cLine)
    (q : ∀ s' p (out : Array Value) (c : Nat) (r : List Str), (∀ b o, s.heap.get? b = some o → s'.heap.get? b = some o) → s'.gens = s.gens → s'.os = s.os → s.heap.objs.size ≤ p →
      s'.heap.get? p = some (seqObj "list" out c) → PySem.W.EachIs (fun v (k : Str) => ∃ u, v = Value.str k u) out.toList (sortTx r) → r.Perm l → Q (.ref p) s') : wpAny (model P w) A (call (.builtin "sorted") [.ref a]) Q E s := by
  obtain ⟨es, ep, t⟩ := D
  refine Calls.call_function_entry kind_sorted plain_sorted entry_sorted (args_sorted1 _) ?_
  unfold Builtin.«sorted»
  refine wpAny_bind (m := checkCount "sorted" 1 1 _) (wpAny_pure (wpAny_bind ?_))
  have szl : es.size = l.length := T.ok.sz
  refine collect_set (A := A.in1) calm ⟨_, T.at_, rfl, rfl⟩ T.ok.fit (by rw [szl]; exact few) T.up T.led fun s1 vs kp zs gs os pm => ?_
  have lv : vs.length = l.length := by rw [pm.length_eq, List.length_map, Array.length_toList]; exact szl
  have sline : scanBound ≤ sizeLine := by rw [sizeLine_eq]; decide
  refine wpAny_bind (wpAny_newList ?_ (by rw [lv]; exact Nat.le_of_lt (Nat.lt_of_lt_of_le few sline)))
  have oL : (s1.heap.push (seqObj "list" vs.toArray 0)).get? s1.heap.objs.size = some (seqObj "list" vs.toArray 0) := Heap.get?_push_size _ rfl
  -- what stands in the list: texts
  obtain ⟨r, er, pr⟩ : ∃ r : List Str, PySem.W.EachIs (fun v (k : Str) => ∃ u, v = Value.str k u) vs r ∧ r.Perm l := by
    have ev : ∀ vs : List Value, (∀ v ∈ vs, ∃ k u, v = Value.str k u) → PySem.W.EachIs (fun v (k : Str) => ∃ u, v = Value.str k u) vs (vs.map fun v => txOf (0, v)) := by
      intro vs
      induction vs with
      | nil => intro _; exact .nil
      | cons v vs ih =>
        intro h
        obtain ⟨k, u, rfl⟩ := h v List.mem_cons_self
        exact .cons ⟨u, rfl⟩ (ih fun x hx => h x (List.mem_cons_of_mem _ hx))
    refine ⟨_, ev vs fun v hv => ?_, ?_⟩
    · obtain ⟨e, he, rfl⟩ := List.mem_map.mp (pm.mem_iff.mp hv)
      obtain ⟨⟨k, z, _⟩, _⟩ := T.ok.el e he
      obtain ⟨eh, v⟩ := e
      cases v <;> simp [PySem.strKind, Value.isStrOf] at z
      exact ⟨_, _, rfl⟩
    · have p2 := (pm.map fun v => txOf (0, v)).trans (.of_eq (List.map_map ..))
      exact p2.trans T.each
  have alike : PySem.W.AllAlike (r.map PyData.str) := PySem.W.AllAlike.of (enc := PyData.str) fun _ _ => rfl
  have able : PySem.W.Sortable (r.map PyData.str) := PySem.W.Sortable.others (enc := PyData.str) fun _ => ⟨fun z => (by cases z), fun _ z => (by cases z)⟩
  refine wpAny_bind (wpAny_holding (PySem.W.list_sort_data (s := { s1 with heap := s1.heap.push (seqObj "list" vs.toArray 0) }) (β := Str) (R := fun v (k : Str) => ∃ u, v = Value.str k u) (enc := PyData.str) oL er
    (er.mono fun v k ⟨u, e⟩ => ⟨[], by rw [e]; exact .str k u, List.not_mem_nil⟩) alike able (by rw [pr.length_eq]; exact Nat.le_of_lt (Nat.lt_of_lt_of_le few sline)) (fun k _ => by show A.units + 1 + 1 + 0 < cLine; omega) fun out lo eo => ?_))
  obtain ⟨c, hc⟩ := sortedHeap_at (vs := vs) (out := out.toArray) oL
  have le : PySem.W.dataLe false (fun k : Str => PyData.str k) = fun a b => decide (a.cps.toList ≤ b.cps.toList) := PySem.W.dataLe_str fun k => k
  rw [show PySem.W.dataLe false PyData.str = PySem.W.dataLe false (fun k : Str => PyData.str k) from rfl, le] at eo
  refine wpAny_pure ⟨_, rfl, q _ s1.heap.objs.size out.toArray c r (fun b o e => ?_) gs os zs hc eo pr⟩
  have z := kp b o e
  have lt := Heap.lt_size z
  exact (sortedHeap_old (Nat.ne_of_lt lt) (by rw [size_push']; exact Nat.lt_succ_of_lt lt)).trans (Heap.get?_push_of_some _ z)
end
end Gx

set_option Elab.async false
set_option linter.all false
set_option maxRecDepth 100000
set_option maxHeartbeats 4000000
/-! set(xs) and sorted of it, xs a list of texts -/
namespace Gx
open PySem PySem.Spec PyProof.Rows L2 Evl
/-- r: the texts of S, each once, in their order -/
structure Ords (r : List Str) (S : Str → Prop) : Prop where
  up : r.Pairwise fun a b => a.cps.toList < b.cps.toList
  mem : ∀ x, x ∈ r ↔ S x
theorem str_ext {a b : Str} (h : a.cps.toList = b.cps.toList) : a = b := by
  obtain ⟨x⟩ := a
  obtain ⟨y⟩ := b
  have : x = y := Array.toList_inj.mp h
  rw [this]
theorem ords_one : ∀ {r t : List Str}, r.Pairwise (fun a b : Str => a.cps.toList < b.cps.toList) → t.Pairwise (fun a b : Str => a.cps.toList < b.cps.toList) → (∀ x, x ∈ r ↔ x ∈ t) → r = t
  | [], [], _, _, _ => rfl
  | [], b :: t, _, _, m => absurd ((m b).mpr List.mem_cons_self) (by simp)
  | a :: r, [], _, _, m => absurd ((m a).mp List.mem_cons_self) (by simp)
  | a :: r, b :: t, h1, h2, m => by
    obtain ⟨g1, k1⟩ := List.pairwise_cons.mp h1
    obtain ⟨g2, k2⟩ := List.pairwise_cons.mp h2
    have e : a = b := by
      rcases List.mem_cons.mp ((m a).mp List.mem_cons_self) with z | z
      · exact z
      · rcases List.mem_cons.mp ((m b).mpr List.mem_cons_self) with y | y
        · exact y.symm
        · exact absurd (List.lt_trans (g1 b y) (g2 a z)) (List.lt_irrefl _)
    subst e
    refine congrArg (a :: ·) (ords_one k1 k2 fun x => ⟨fun hx => ?_, fun hx => ?_⟩)
    · rcases List.mem_cons.mp ((m x).mp (List.mem_cons_of_mem _ hx)) with z | z
      · subst z; exact absurd (g1 x hx) (List.lt_irrefl _)
      · exact z
    · rcases List.mem_cons.mp ((m x).mpr (List.mem_cons_of_mem _ hx)) with z | z
      · subst z; exact absurd (g2 x hx) (List.lt_irrefl _)
      · exact z
theorem Ords.one {r t : List Str} {S : Str → Prop} (h : Ords r S) (h' : Ords t S) : r = t := ords_one h.up h'.up fun x => (h.mem x).trans (h'.mem x).symm
theorem sortTx_ords {l r : List Str} (p : r.Perm l) (one : l.Nodup) : Ords (sortTx r) (· ∈ l) := by
  have pm : (sortTx r).Perm r := List.mergeSort_perm _ _
  have nd : (sortTx r).Nodup := pm.nodup_iff.mpr (p.nodup_iff.mpr one)
  have le : (sortTx r).Pairwise fun a b => decide (a.cps.toList ≤ b.cps.toList) = true := List.pairwise_mergeSort (fun a b c h1 h2 => by
      simp only [decide_eq_true_eq] at *; exact List.le_trans h1 h2) (fun a b => by
      simp only [Bool.or_eq_true, decide_eq_true_eq]; exact List.le_total _ _) r
  refine ⟨?_, fun x => pm.mem_iff.trans p.mem_iff⟩
  refine (le.and nd).imp fun {a b} ⟨h1, h2⟩ => ?_
  have h1 := of_decide_eq_true h1
  exact Std.lt_of_le_of_ne h1 fun e => h2 (str_ext e)
/-- a set of the texts l -/
def SetTx (P : Program) (w : World) (a : Addr) (l : List Str) : HO := .ext fun h => ∃ D, Txs P w h a D l
theorem setTx_ok {P : Program} {w : World} {H : Hp} {h : Heap} {a : Addr} {D : Froz.SD} {l : List Str} (T : Txs P w h a D l) : ObjOk P w H h a (SetTx P w a l) :=
  ⟨⟨D, T⟩, ⟨_, T.at_⟩, fun h1 h2 ⟨D', T'⟩ k => ⟨D', T'.keep fun o z => k o z⟩⟩
def rSetTx (K : PySem.W.Frag) (P : Program) (w : World) : List V → Hp → VK → Prop := fun xs H Q => ∃ (b : Addr) (ks : List Str), xs = [.ref b] ∧ SqL K H b (ks.map V.str) ∧ ks.length ≤ 4000 ∧
  ∀ a l, H a = none → (∀ x, x ∈ l ↔ x ∈ ks) → l.length ≤ ks.length → Q (.ref a) (upd H a (SetTx P w a l))
theorem strs_at : ∀ {ks : List Str} {us : List Value}, Vals (ks.map V.str) us → ∀ (i : Nat) (v : Value), us[i]? = some v → ∃ k u, ks[i]? = some k ∧ v = Value.str k u
  | [], _, .nil, i, v, h => by simp at h
  | k :: ks, _, .cons r t, 0, v, h => by
    obtain ⟨u, e⟩ := r
    simp at h
    exact ⟨k, u, rfl, by rw [← h, e]⟩
  | k :: ks, _, .cons r t, i + 1, v, h => strs_at t i v (by simpa using h)
theorem strs_back : ∀ {ks : List Str} {us : List Value}, PySem.W.EachIs (fun v (k : Str) => ∃ u, v = Value.str k u) us ks → Vals (ks.map V.str) us
  | [], _, .nil => .nil
  | k :: ks, _, .cons ⟨u, e⟩ t => .cons ⟨u, e⟩ (strs_back t)
section
variable {X : Cx}
theorem cr_setTx (calm : X.calm = true) : CallR X (.type "set") (rSetTx X.K X.prog X.w) := by
  rintro pins s σ H xs us Q I r ⟨b, ks, rfl, hb, few, q⟩
  obtain rfl := Vals.ref1 r
  obtain ⟨its, rv, pl, hz⟩ := I.list hb
  have lv : its.length = ks.length := by have := rv.length; rw [List.length_map] at this; exact this.symm
  refine set_texts (P := X.prog) (w := X.w) ks (I.ok.hd calm) pl.isList (fun i v h => strs_at rv i v (by simpa using h)) (by simpa using lv) (by unfold scanBound; omega) fun h' tk D l T me ll kp => ?_
  exact ⟨.ref s.heap.objs.size, _, I.laid (t' := tk) (o := SetTx X.prog X.w s.heap.objs.size l) kp (Nat.le_refl _) (setTx_ok T), rfl, q _ l (I.hok.fresh (Nat.le_refl _)) me ll⟩
/-- sorted(set of texts) -/
def rSortedTx (P : Program) (w : World) : List V → Hp → VK → Prop := fun vs H Q => ∃ (a : Addr) (l : List Str), vs = [.ref a] ∧ H a = some (SetTx P w a l) ∧ l.length ≤ 4000 ∧
  ∀ p r, H p = none → Ords r (· ∈ l) → r.length = l.length → Q (.ref p) (upd H p (.lst (r.map V.str)))
theorem cr_sortedTx (calm : X.calm = true) (room : X.A.units + 60 < cLine) : CallR X (.builtin "sorted") (rSortedTx X.prog X.w) := by
  rintro pins s σ H vs us Q I r ⟨a, l, rfl, ha, few, q⟩
  obtain rfl := Vals.ref1 r
  obtain ⟨D, T⟩ := (show ObjOk X.prog X.w H s.heap a (SetTx X.prog X.w a l) from I.hok a _ ha).1
  refine sorted_texts T (I.ok.hd calm) (by unfold scanBound; omega) room fun t p out c rr kp gs os zs at_ each pm => ?_
  have nw : H p = none := I.hok.fresh zs
  have len : (sortTx rr).length = l.length := (List.mergeSort_perm _ _).length_eq.trans pm.length_eq
  have vals := strs_back each
  have J : L2.Inv X pins σ (upd H p (.lst ((sortTx rr).map V.str))) { s with heap := t.heap, gens := t.gens, drawn := t.drawn, toks := t.toks } :=
    I.call (ch := []) (Un.laid kp zs nw) (I.hok.laid kp zs ⟨by rw [List.length_map, len, sizeLine_eq]; omega, out.toList, c, vals, at_⟩) (by rw [gs]; exact I.bare) fun _ z => nomatch z
  have e : t = { s with heap := t.heap, gens := t.gens, drawn := t.drawn, toks := t.toks } := by cases t; cases s; cases os; rfl
  rw [e]
  exact ⟨.ref p, _, J, rfl, q p _ nw (sortTx_ords pm T.one) len⟩
end
end Gx

set_option Elab.async false
set_option linter.all false
set_option maxRecDepth 100000
set_option maxHeartbeats 4000000
/-! xs == [] of a list, whatever it holds -/
namespace Gx
open PySem PySem.Spec PyProof.Rows L2 Evl
section
variable {X : Cx}
def rEqE (K : PySem.W.Frag) : R2 := fun x y H Q => ∃ a b xs, x = .ref a ∧ y = .ref b ∧ SqL K H a xs ∧ SqL K H b [] ∧ Q (.bl (decide (xs = []))) H
theorem op_eqE (room : X.A.units + 64 < cLine) : OpR X (compareOp .Eq) (rEqE X.K) := by
  rintro pins s σ H x y v u Q I rx ry ⟨a, b, xs, rfl, rfl, ha, hb, q⟩
  cases rx; cases ry
  obtain ⟨its, r1, ⟨o, n, g1, g2, g3, g4⟩, _⟩ := I.list ha
  obtain ⟨jts, r2, ⟨p, m, k1, k2, k3, k4⟩, _⟩ := I.list hb
  obtain rfl : jts = [] := by have := r2.length; simpa using this.symm
  have ia : s.heap.IsList a its.toArray := ⟨o, g1, g2, n, g4⟩
  have ib : s.heap.IsList b ([] : List Value).toArray := ⟨p, k1, k2, m, k4⟩
  cases xs with
  | nil =>
    obtain rfl : its = [] := by have := r1.length; simpa using this.symm
    exact SeqAt.RcAt.lists (e := fun _ => true) ia ib rfl (by omega) (fun j h _ => absurd h (by simp)) X.prog X.w _ _ ⟨.bl _, H, I, rfl, q⟩
  | cons z zs =>
    have ne : its.length ≠ 0 := by have := r1.length; simp at this; omega
    exact SeqAt.RcAt.lists_lengths ia ib (by simpa using ne) (by omega) X.prog X.w _ _ ⟨.bl _, H, I, rfl, q⟩
end
end Gx

set_option Elab.async false
set_option linter.all false
set_option maxRecDepth 100000
set_option maxHeartbeats 4000000
namespace K40
open PySem PySem.Spec PyProof.Rows L2 Evl Gx
abbrev s_l_node_heard : Stmt := topS 26
theorem sc_l_node_heard : FnScope ["_law_words", "_law_order", "_law_deciding", "_law_found", "_law_said", "_law_rest"] ["_law_words", "_law_order", "_law_deciding"] (defScope s_l_node_heard) := ⟨rfl, rfl, rfl, by decide +kernel, rfl, by decide +kernel, by decide +kernel⟩
abbrev s_l_all_heard : Stmt := topS 27
theorem sc_l_all_heard : FnScope ["_law_words", "_law_deciding", "_law_found", "_law_order"] ["_law_words", "_law_deciding"] (defScope s_l_all_heard) := ⟨rfl, rfl, rfl, by decide +kernel, rfl, by decide +kernel, by decide +kernel⟩
def pick (ws : List Wrd) (os : List Nat) : List Wrd := os.map fun i => (ws[i]?).getD (none, true)
def Dec (d e : Str) : Prop := (d = "no" ∧ e = "yes") ∨ (d = "yes" ∧ e = "no")
def spNodeH (K : PySem.W.Frag) (n : Nat) : Sp := fun vs H Q _ => ∃ (l o : Addr) (us : List V) (ws : List Wrd) (os : List Nat) (d e : Str), vs = [.ref l, .ref o, .str d] ∧ Dec d e ∧ H l = some (.lst us) ∧ WrdsAt K H us ws ∧ H o = some (.lst (os.map natV)) ∧
  (∀ i ∈ os, i < ws.length) ∧ os.length < n ∧ os.length ≤ 4 ∧
  ∀ (r : List Str) (p : Addr) (H' : Hp), Ex H H' → H p = none → H' p = some (.lst (r.map V.str)) → (∀ a, a ∈ r ↔ HdN d e (pick ws os) a) → r.length ≤ 2 ^ os.length → Q (.ref p) H'
/-- what is heard behind one answer -/
def Beh (d e : Str) (xs : List Wrd) (s a : Str) : Prop := (s = "error" ∨ s = d) ∧ a = s ∨ ¬ (s = "error" ∨ s = d) ∧ ∃ r, HdN d e xs r ∧ ((s = "unknown" ∧ ¬ (r = "error" ∨ r = d)) ∧ a = s ∨ ¬ (s = "unknown" ∧ ¬ (r = "error" ∨ r = d)) ∧ a = r)
theorem says_ans {x : Wrd} {s : Str} : Says x s ↔ s ∈ ansOf x := by
  obtain ⟨o, b⟩ := x
  unfold Says ansOf
  cases b <;> cases o <;> simp [eq_comm (a := s)]
theorem iv2 (s a b : Str) : inV (.str s) [.str a, .str b] = decide (s = a ∨ s = b) := by
  unfold inV
  rw [Bool.eq_iff_iff]
  simp [eqV, eq_comm (a := s)]
/-- what is put down of what is heard behind -/
def putD (d s t : Str) : Str := if s = "unknown" ∧ ¬ (t = "error" ∨ t = d) then s else t
theorem beh_else {d e : Str} {xs : List Wrd} {s a : Str} {r : List Str} (h : ¬ (s = "error" ∨ s = d)) (m : ∀ a, a ∈ r ↔ HdN d e xs a) : Beh d e xs s a ↔ a ∈ r.map (putD d s) := by
  unfold Beh
  constructor
  · rintro (⟨z, _⟩ | ⟨_, t, ht, hh⟩)
    · exact absurd z h
    · refine List.mem_map.mpr ⟨t, (m t).mpr ht, ?_⟩
      unfold putD
      rcases hh with ⟨h1, h2⟩ | ⟨h1, h2⟩
      · rw [if_pos h1, h2]
      · rw [if_neg h1, h2]
  · intro z
    obtain ⟨t, ht, rfl⟩ := List.mem_map.mp z
    refine .inr ⟨h, t, (m t).mp ht, ?_⟩
    unfold putD
    by_cases c : s = "unknown" ∧ ¬ (t = "error" ∨ t = d)
    · rw [if_pos c]; exact .inl ⟨c, rfl⟩
    · rw [if_neg c]; exact .inr ⟨c, rfl⟩
theorem fn_none {P : Program} {w : World} {K : PySem.W.Frag} {mg : Str → Option Value} {base : Heap} {CX : CXT} {k : Nat} {f : Addr} {fd : FuncData} {ps : List Str} {sp : Sp}
    (h : ∀ vs H Q E, ¬ sp vs H Q E) : FnOk P w K mg base CX k f fd ps sp :=
  ⟨fun vs H Q E z => (h vs H Q E z).elim, fun A o s H ar us vs Q E _ _ _ _ z => (h vs H Q E z).elim⟩
theorem orders_mem : ∀ (m k : Nat) (o : List Nat), o ∈ ordersL m k ↔ o.length = k ∧ o.Nodup ∧ ∀ a ∈ o, a < m
  | m, 0, o => by
    show o ∈ [[]] ↔ _
    rw [List.mem_singleton]
    constructor
    · rintro rfl; exact ⟨rfl, List.nodup_nil, by simp⟩
    · rintro ⟨h, _⟩; exact List.length_eq_zero_iff.mp h
  | m, k + 1, o => by
    show o ∈ longerL m (ordersL m k) ↔ _
    unfold longerL
    rw [List.mem_flatMap]
    constructor
    · rintro ⟨o', ho', h⟩
      obtain ⟨a, ha, rfl⟩ := List.mem_map.mp h
      obtain ⟨h1, h2, h3⟩ := (orders_mem m k o').mp ho'
      obtain ⟨h4, h5⟩ := List.mem_filter.mp ha
      have h5 : a ∉ o' := by simpa using h5
      refine ⟨by rw [List.length_append, h1]; rfl, ?_, fun b hb => ?_⟩
      · exact List.nodup_append.mpr ⟨h2, by simp, fun x hx y hy e => by rw [List.mem_singleton] at hy; rw [e, hy] at hx; exact h5 hx⟩
      · rcases List.mem_append.mp hb with z | z
        · exact h3 b z
        · rw [List.mem_singleton] at z; rw [z]; exact List.mem_range.mp h4
    · rintro ⟨h1, h2, h3⟩
      obtain ⟨o', a, rfl⟩ : ∃ o' a, o = o' ++ [a] := by
        have ne : o ≠ [] := fun z => by rw [z] at h1; cases h1
        exact ⟨o.dropLast, o.getLast ne, (List.dropLast_concat_getLast ne).symm⟩
      obtain ⟨g1, g2, g3⟩ := List.nodup_append.mp h2
      refine ⟨o', (orders_mem m k o').mpr ⟨by rw [List.length_append] at h1; simpa using h1, g1, fun b hb => h3 b (List.mem_append_left _ hb)⟩, List.mem_map.mpr ⟨a, List.mem_filter.mpr ⟨List.mem_range.mpr (h3 a (List.mem_append_right _ (List.mem_singleton.mpr rfl))), ?_⟩, rfl⟩⟩
      have : a ∉ o' := fun z => g3 a z a (List.mem_singleton.mpr rfl) rfl
      simpa using this
theorem orders_perm (m : Nat) (o : List Nat) : o ∈ ordersL m m ↔ o.Perm (List.range m) := by
  rw [orders_mem]
  constructor
  · rintro ⟨h1, h2, h3⟩
    refine (List.perm_ext_iff_of_nodup h2 List.nodup_range).mpr fun a => ⟨fun h => List.mem_range.mpr (h3 a h), fun h => ?_⟩
    by_cases c : a ∈ o
    · exact c
    · have z := L2.nat_nodup_len (a :: o) (List.range m) (List.nodup_cons.mpr ⟨c, h2⟩) fun x hx => by
        rcases List.mem_cons.mp hx with e | e
        · rw [e]; exact h
        · exact List.mem_range.mpr (h3 x e)
      rw [List.length_cons, List.length_range] at z
      omega
  · intro h
    exact ⟨h.length_eq.trans (List.length_range ..), h.nodup_iff.mpr List.nodup_range, fun a ha => List.mem_range.mp (h.mem_iff.mp ha)⟩
theorem perm_back {α β : Type} {f : α → β} {l t : List β} (h : l.Perm t) : ∀ is : List α, t = is.map f → ∃ js : List α, js.Perm is ∧ l = js.map f := by
  induction h with
  | nil => intro is e; exact ⟨[], by (cases is with | nil => exact .refl _ | cons a r => cases e), rfl⟩
  | cons x h ih =>
    intro is e
    cases is with
    | nil => cases e
    | cons i is =>
      rw [List.map_cons] at e
      injection e with e1 e2
      obtain ⟨js, p, q⟩ := ih is e2
      exact ⟨i :: js, p.cons i, by rw [List.map_cons, ← e1, q]⟩
  | swap x y l =>
    intro is e
    match is, e with
    | i :: j :: is, e =>
      simp only [List.map_cons, List.cons.injEq] at e
      obtain ⟨e1, e2, e3⟩ := e
      exact ⟨j :: i :: is, .swap .., by simp [e1, e2, e3]⟩
  | trans h1 h2 ih1 ih2 =>
    intro is e
    obtain ⟨js, p, q⟩ := ih2 is e
    obtain ⟨ks, p2, q2⟩ := ih1 js q
    exact ⟨ks, p2.trans p, q2⟩
theorem pick_range (ws : List Wrd) : pick ws (List.range ws.length) = ws := by
  unfold pick
  refine List.ext_getElem (by simp) fun i h1 h2 => ?_
  simp at h1
  simp [h1]
theorem orders_hear {d e : Str} {ws : List Wrd} (a : Str) : (∃ os ∈ ordersL ws.length ws.length, HdN d e (pick ws os) a) ↔ ∃ us, us.Perm ws ∧ HdN d e us a := by
  constructor
  · rintro ⟨os, ho, h⟩
    refine ⟨_, ?_, h⟩
    have p := (((orders_perm _ _).mp ho).map fun i => (ws[i]?).getD (none, true))
    exact p.trans (.of_eq (pick_range ws))
  · rintro ⟨us, p, h⟩
    obtain ⟨js, q, e⟩ := perm_back p (List.range ws.length) (pick_range ws).symm
    refine ⟨js, (orders_perm _ _).mpr q, ?_⟩
    show HdN d _ (js.map _) a
    rw [← e]; exact h
section
variable {P : Program} {w : World} {K : PySem.W.Frag} {mg : Str → Option Value} {base : Heap} {f_l_heard_of f_l_node_heard f_l_orders : Addr} {fd_l_heard_of fd_l_node_heard fd_l_orders : FuncData}
theorem ok_node_of {n : Nat} (D_l_node_heard : Def K mg "_law_node_heard" s_l_node_heard f_l_node_heard fd_l_node_heard ["_law_words", "_law_order", "_law_deciding"]) (bi : Bi mg)
    (D_l_heard_of : Def K mg "_law_heard_of" s_l_heard_of f_l_heard_of fd_l_heard_of ["_law_word"])
    (G_l_heard_of : FnOk P w K mg base CX0 1 f_l_heard_of fd_l_heard_of ["_law_word"] (spHeard K))
    (G_l_node_heard : FnOk P w K mg base CX0 (n + 1) f_l_node_heard fd_l_node_heard ["_law_words", "_law_order", "_law_deciding"] (spNodeH K n)) :
    FnOk P w K mg base CX0 (n + 2) f_l_node_heard fd_l_node_heard ["_law_words", "_law_order", "_law_deciding"] (spNodeH K (n + 1)) := by
  refine D_l_node_heard.fn.ok sc_l_node_heard (fun vs H Q E h => ?_) (fun cdv A outer s0 H vs Q E hr h => ?_)
  · obtain ⟨l, o, us, ws, os, d, e, rfl, _⟩ := h
    rfl
  · obtain ⟨l, o, us, ws, os, d, e, rfl, de, hl, hw, ho, hi, hn, h4, k⟩ := h
    have hu64 := hr.units
    have hu60 := Nat.lt_of_le_of_lt (Nat.add_le_add_left (by decide : 60 ≤ 64) _) hu64
    refine ⟨_, (pss_cons (ps_if (pt_cmpR (op_eqE hu64) (pv 1) (pe_lst pa_nil) (nomark _))
    (pss_one (ps_ret (pe_lst (pa_cons (pe_ifExp (pt_cmpR op_eq (pv 2) pe_str (nomark _)) pe_str pe_str) pa_nil))))
    pss_nil)
  (pss_cons (ps_set (i := 3) sc_l_node_heard.nd rfl (Or.inl rfl) (pe_lst pa_nil))
  (pss_cons (ps_for PassesOwn.never rfl (pi_list (pe_call G_l_heard_of (hr.mono (by first | decide | omega)) rfl D_l_heard_of.mg D_l_heard_of.fn.kp D_l_heard_of.bd .nil pass0 (pa_cons (pe_ix (ix_listK (K := K) rfl) (pv 0) (pe_ix (ix_listK (K := K) rfl) (pv 1) pe_int (fun _ _ => rfl)) (fun _ _ => rfl)) pa_nil))) (pg_name (i := 4) sc_l_node_heard.nd rfl (Or.inl rfl))
    (pss_one (ps_if (pt_cmpR op_in_seq (pv 4) (pe_tup (pa_cons pe_str (pa_cons (pv 2) pa_nil))) (by rfl))
      (pss_one (ps_expr (pe_bm PySem.F.plainAttrs_list PySem.F.slot_list_append PySem.F.type_list_append mt_append (pv 3) (pa_cons (pv 4) pa_nil))))
      (pss_one (ps_for PassesOwn.never rfl (pi_list (pe_call G_l_node_heard (hr.mono (by first | decide | omega)) rfl D_l_node_heard.mg D_l_node_heard.fn.kp D_l_node_heard.bd .nil pass0 (pa_cons (pv 0) (pa_cons (pe_slice sl_list (pv 1) (po_some pe_int) po_none) (pa_cons (pv 2) pa_nil))))) (pg_name (i := 5) sc_l_node_heard.nd rfl (Or.inl rfl))
        (pss_one (ps_expr (pe_bm PySem.F.plainAttrs_list PySem.F.slot_list_append PySem.F.type_list_append mt_append (pv 3) (pa_cons (pe_ifExp (L2.PW.pt (pw_and (pt_cmpR op_eq (pv 4) pe_str (nomark _)) (pw_and1 (pt_cmpR op_notIn_seq (pv 5) (pe_tup (pa_cons pe_str (pa_cons (pv 2) pa_nil))) (by rfl))))) (pv 4) (pv 5)) pa_nil)))))))))
  (pss_one (ps_ret (pe_callB (cr_sortedTx rfl hu60) (by rfl) bi.sorted bt_sorted (pa_cons (pe_callTy (cr_setTx rfl) (by rfl) bi.set bt_set (pa_cons (pv 3) pa_nil)) pa_nil))))))), ?_⟩
    refine ⟨_, rfl, Nat.zero_le _, fun E1 nE1 => ?_⟩
    have X_H1 : Ex H (upd H E1 (.lst [])) := Ex.new nE1
    have F_H1 : upd H E1 (.lst []) E1 = some (.lst []) := upd_same
    generalize upd H E1 (.lst []) = H1 at X_H1 F_H1 ⊢
    refine ⟨o, E1, _, rfl, rfl, SqL.of (X_H1 _ _ ho), SqL.of F_H1, _, rfl, ?_⟩
    cases os with
    | nil =>
      refine if_t rfl ?_
      have go : ∀ p H', Ex H H' → H p = none → H' p = some (.lst [.str e]) → Q (.ref p) H' := fun p H' e1 np hp => k [e] p H' e1 np hp (fun a => by rw [List.mem_singleton]; exact Iff.rfl) (by show 1 ≤ 2 ^ 0; decide)
      have np' : ∀ p, H1 p = none → H p = none := fun p np => by
        cases z : H p with
        | none => rfl
        | some u => rw [X_H1 _ _ z] at np; cases np
      rcases de with ⟨rfl, rfl⟩ | ⟨rfl, rfl⟩
      · exact ⟨_, rfl, rfl, _, rfl, if_t rfl ⟨sz1, fun p np => go p _ (X_H1.trans (Ex.new np)) (np' p np) upd_same⟩⟩
      · exact ⟨_, rfl, rfl, _, rfl, if_f rfl ⟨sz1, fun p np => go p _ (X_H1.trans (Ex.new np)) (np' p np) upd_same⟩⟩
    | cons i os =>
      refine if_f rfl ?_
      refine ⟨Nat.zero_le _, fun F nF => ?_⟩
      have X_H2 : Ex H1 (upd H1 F (.lst [])) := Ex.new nF
      have F_H2 : upd H1 F (.lst []) F = some (.lst []) := upd_same
      generalize upd H1 F (.lst []) = H2 at X_H2 F_H2 ⊢
      have x02 := X_H1.trans X_H2
      have il : i < ws.length := hi i (List.mem_cons_self ..)
      have lu : us.length = ws.length := Paired.length hw
      obtain ⟨v, hv⟩ : ∃ v, us[i]? = some v := ⟨_, List.getElem?_eq_getElem (by omega)⟩
      obtain ⟨x, hx, hxa⟩ := Gx.paired_get hw hv
      refine ⟨_, rfl, _, rfl, o, _, 0, _, rfl, rfl, SqL.of (x02 _ _ ho), atI_nat (j := 0) rfl, l, _, i, v, rfl, rfl, SqL.of (x02 _ _ hl), atI_nat hv, v, x, rfl, hxa.to x02, fun l2 H3 e3 nl2 hl2 => ?_⟩
      refine ⟨l2, rfl, ⟨_, SqL.of hl2⟩, ?_⟩
      have x23 : Ex H H3 := x02.trans e3
      have hF3 := e3 _ _ F_H2
      have nF0 : H F = none := by
        cases z : H F with
        | none => rfl
        | some u => rw [X_H1 _ _ z] at nF; cases nF
      have neF : l2 ≠ F := fun z => by rw [z, F_H2] at nl2; cases nl2
      have al : (ansOf x).length ≤ 2 := by
        obtain ⟨y1, y2⟩ := x
        unfold ansOf
        cases y1 <;> cases y2 <;> simp
      refine for_list (xs := (ansOf x).map V.str) (fun j σ G => ∃ (x4 x5 : Option V) (fs : List Str), σ = [some (.ref l), some (.ref o), some (.str d), some (.ref F), x4, x5] ∧ Ex H G ∧ G l2 = some (.lst ((ansOf x).map V.str)) ∧
        G F = some (.lst (fs.map V.str)) ∧ (∀ a, a ∈ fs ↔ ∃ s ∈ (ansOf x).take j, Beh d e (pick ws os) s a) ∧ fs.length ≤ j * 2 ^ os.length) ?_ (fun j σ G _ z => ?_) ?_ ?_
      · exact ⟨none, none, [], rfl, x23, hl2, hF3, fun a => by simp, Nat.zero_le _⟩
      · obtain ⟨_, _, _, _, _, h, _⟩ := z
        exact SqL.of h
      · rintro j z σ G hj ⟨x4, x5, fs, rfl, eG, g2, gF, mF, lF⟩
        rw [List.getElem?_map] at hj
        obtain ⟨s, hs, rfl⟩ := Option.map_eq_some_iff.mp hj
        have fl : fs.length ≤ 100 := by
          have h2 : 2 ^ os.length ≤ 2 ^ 4 := Nat.pow_le_pow_right (by decide) (by have := List.length_cons (a := i) (as := os); omega)
          have jl : j < (ansOf x).length := (List.getElem?_eq_some_iff.mp hs).1
          have : j * 2 ^ os.length ≤ 2 * 2 ^ 4 := Nat.mul_le_mul (by omega) h2
          omega
        refine ⟨_, rfl, _, rfl, sz2, fun T nT => ?_⟩
        have X_G2 : Ex G (upd G T (.tup [.str "error", .str d])) := Ex.new nT
        have F_G2 : upd G T (.tup [.str "error", .str d]) T = some (.tup [.str "error", .str d]) := upd_same
        generalize upd G T (.tup [.str "error", .str d]) = G2 at X_G2 F_G2 ⊢
        refine ⟨T, _, rfl, .inr (SqT.of F_G2), rfl, rfl, _, rfl, ?_⟩
        rw [iv2]
        have gF2 := X_G2 _ _ gF
        have nx : ∀ (G3 : Hp) (x5' : Option V) (fs' : List Str), Ex H G3 → G3 l2 = some (.lst ((ansOf x).map V.str)) → G3 F = some (.lst (fs'.map V.str)) → (∀ a, a ∈ fs' ↔ a ∈ fs ∨ Beh d e (pick ws os) s a) → fs'.length ≤ fs.length + 2 ^ os.length →
            ∃ (x4 x5 : Option V) (fs : List Str), [some (V.ref l), some (.ref o), some (.str d), some (.ref F), some (.str s), x5'] = [some (.ref l), some (.ref o), some (.str d), some (.ref F), x4, x5] ∧ Ex H G3 ∧ G3 l2 = some (.lst ((ansOf x).map V.str)) ∧
            G3 F = some (.lst (fs.map V.str)) ∧ (∀ a, a ∈ fs ↔ ∃ s ∈ (ansOf x).take (j + 1), Beh d e (pick ws os) s a) ∧ fs.length ≤ (j + 1) * 2 ^ os.length := fun G3 x5' fs' e3 h2 hF m ll => by
          refine ⟨_, x5', fs', rfl, e3, h2, hF, fun a => ?_, by rw [Nat.add_mul, Nat.one_mul]; omega⟩
          rw [m, mF, takeS hs]
          constructor
          · rintro (⟨s', h, b⟩ | b)
            · exact ⟨s', List.mem_append_left _ h, b⟩
            · exact ⟨s, List.mem_append_right _ (List.mem_singleton.mpr rfl), b⟩
          · rintro ⟨s', h, b⟩
            rcases List.mem_append.mp h with h | h
            · exact .inl ⟨s', h, b⟩
            · rw [List.mem_singleton] at h; subst h; exact .inr b
        refine if_d (fun hd => ?_) fun hd => ?_
        · refine ⟨_, rfl, .inl ⟨rfl, _, SqL.of gF2⟩, _, rfl, F, _, .str s, rfl, rfl, gF2, by rw [List.length_map, sizeLine_eq]; omega, ?_⟩
          refine nx _ _ (fs ++ [s]) ((eG.trans X_G2).mut nF0) (by rw [upd_ne neF]; exact X_G2 _ _ g2) (by rw [upd_same, List.map_append]; rfl) (fun a => ?_) (by rw [List.length_append]; have := Nat.one_le_two_pow (n := os.length); show _ + 1 ≤ _; omega)
          rw [List.mem_append, List.mem_singleton]
          refine or_congr_right ⟨fun z => .inl ⟨hd, z⟩, fun z => ?_⟩
          rcases z with z | z
          · exact z.2
          · exact absurd hd z.1
        · have eG2 := eG.trans X_G2
          refine ⟨_, rfl, _, rfl, 1, rfl, o, _, rfl, SqL.of (eG2 _ _ ho), fun c nc => ?_⟩
          rw [cut_tail _ (by simp), List.map_cons, List.tail_cons]
          have X_G3 : Ex G2 (upd G2 c (.lst (os.map natV))) := Ex.new nc
          have F_G3 : upd G2 c (.lst (os.map natV)) c = some (.lst (os.map natV)) := upd_same
          generalize upd G2 c (.lst (os.map natV)) = G3 at X_G3 F_G3 ⊢
          have eG3 := eG2.trans X_G3
          refine ⟨_, rfl, l, c, us, ws, os, d, e, rfl, de, eG3 _ _ hl, wrds_toI hw (.of eG3), F_G3, fun i' h => hi i' (List.mem_cons_of_mem _ h), by simp at hn; omega, by simp at h4; omega, fun r p H5 e5 np hp mr lr => ?_⟩
          refine ⟨p, rfl, ⟨_, SqL.of hp⟩, ?_⟩
          have e35 := X_G3.trans e5
          have gF5 := e35 _ _ gF2
          have g25 := (X_G2.trans e35) _ _ g2
          have neP : p ≠ F := fun z => by rw [z, X_G3 _ _ gF2] at np; cases np
          refine for_list (xs := r.map V.str) (fun m σ G => ∃ (x5 : Option V), σ = [some (.ref l), some (.ref o), some (.str d), some (.ref F), some (.str s), x5] ∧ Ex H G ∧ G l2 = some (.lst ((ansOf x).map V.str)) ∧ G p = some (.lst (r.map V.str)) ∧
            G F = some (.lst ((fs ++ (r.take m).map (putD d s)).map V.str))) ?_ (fun m σ G _ z => ?_) ?_ ?_
          · exact ⟨_, rfl, eG3.trans e5, g25, hp, by rw [List.take_zero, List.map_nil, List.append_nil]; exact gF5⟩
          · obtain ⟨_, _, _, _, h, _⟩ := z
            exact SqL.of h
          · rintro m z σ G6 hm ⟨y5, rfl, eG6, h62, h6p, h6F⟩
            rw [List.getElem?_map] at hm
            obtain ⟨t, ht, rfl⟩ := Option.map_eq_some_iff.mp hm
            have rl : r.length ≤ 16 := Nat.le_trans lr (Nat.le_trans (Nat.pow_le_pow_right (by decide) (by simp at h4; omega : os.length ≤ 4)) (by decide))
            have ml : m < r.length := (List.getElem?_eq_some_iff.mp ht).1
            have fin : ∀ (G7 : Hp) (y : Str), Ex G6 G7 → y = putD d s t → ∃ x5 : Option V, [some (V.ref l), some (.ref o), some (.str d), some (.ref F), some (.str s), some (.str t)] = [some (.ref l), some (.ref o), some (.str d), some (.ref F), some (.str s), x5] ∧
                Ex H (upd G7 F (.lst ((fs ++ (r.take m).map (putD d s)).map V.str ++ [.str y]))) ∧ upd G7 F (.lst ((fs ++ (r.take m).map (putD d s)).map V.str ++ [.str y])) l2 = some (.lst ((ansOf x).map V.str)) ∧
                upd G7 F (.lst ((fs ++ (r.take m).map (putD d s)).map V.str ++ [.str y])) p = some (.lst (r.map V.str)) ∧ upd G7 F (.lst ((fs ++ (r.take m).map (putD d s)).map V.str ++ [.str y])) F = some (.lst ((fs ++ (r.take (m + 1)).map (putD d s)).map V.str)) := fun G7 y e7 hy => by
              refine ⟨_, rfl, (eG6.trans e7).mut nF0, by rw [upd_ne neF]; exact e7 _ _ h62, by rw [upd_ne neP]; exact e7 _ _ h6p, ?_⟩
              rw [upd_same, takeS ht, hy]
              simp only [List.map_append, List.map_cons, List.map_nil, List.append_assoc]
            have sz : (((fs ++ (r.take m).map (putD d s)).map V.str).length) < sizeLine := by
              rw [List.length_map, List.length_append, List.length_map, List.length_take, sizeLine_eq]; omega
            refine ⟨_, rfl, .inl ⟨rfl, _, SqL.of h6F⟩, ?_⟩
            refine ⟨_, rfl, rfl, _, rfl, if_d (fun su => ?_) fun su => ?_⟩
            · refine ⟨_, rfl, _, rfl, sz2, fun T2 nT2 => ?_⟩
              have X_G7 : Ex G6 (upd G6 T2 (.tup [.str "error", .str d])) := Ex.new nT2
              have F_G7 : upd G6 T2 (.tup [.str "error", .str d]) T2 = some (.tup [.str "error", .str d]) := upd_same
              generalize upd G6 T2 (.tup [.str "error", .str d]) = G7 at X_G7 F_G7 ⊢
              refine ⟨T2, _, rfl, .inr (SqT.of F_G7), rfl, rfl, _, rfl, ?_⟩
              rw [iv2]
              have su : s = "unknown" := V.str.inj su
              by_cases c : t = "error" ∨ t = d
              · refine if_f (by rw [decide_eq_true c]; rfl) ?_
                refine ⟨_, rfl, F, _, .str t, rfl, rfl, X_G7 _ _ h6F, sz, fin _ t X_G7 ?_⟩
                unfold putD
                rw [if_neg (fun z => z.2 c)]
              · refine if_t (by rw [decide_eq_false c]; rfl) ?_
                refine ⟨_, rfl, F, _, .str s, rfl, rfl, X_G7 _ _ h6F, sz, fin _ s X_G7 ?_⟩
                unfold putD
                rw [if_pos ⟨su, c⟩]
            · refine ⟨_, rfl, F, _, .str t, rfl, rfl, h6F, sz, fin _ t (Ex.refl _) ?_⟩
              unfold putD
              rw [if_neg (fun z => su (by rw [z.1]))]
          · rintro σ G6 ⟨y5, rfl, eG6, h62, h6p, h6F⟩
            rw [List.length_map, List.take_length] at h6F
            refine nx _ _ _ eG6 h62 h6F (fun a => ?_) (by rw [List.length_append, List.length_map]; omega)
            rw [List.mem_append, beh_else hd mr]
      · rintro σ G ⟨x4, x5, fs, rfl, eG, g2, gF, mF, lF⟩
        rw [List.length_map, List.take_length] at mF
        rw [List.length_map] at lF
        have pw : (ansOf x).length * 2 ^ os.length ≤ 2 ^ (os.length + 1) := by rw [Nat.pow_succ, Nat.mul_comm]; exact Nat.mul_le_mul_left _ al
        have p5 : 2 ^ (os.length + 1) ≤ 2 ^ 4 := Nat.pow_le_pow_right (by decide) (by simp at h4; omega)
        refine ⟨_, rfl, F, fs, rfl, SqL.of gF, by omega, fun c l0 nc m0 l0l => ?_⟩
        refine ⟨c, l0, rfl, upd_same, by omega, fun p r np hr lr => ?_⟩
        have e1 := eG.trans (Ex.new (o := SetTx P w c l0) nc)
        have np' : H p = none := by
          cases z : H p with
          | none => rfl
          | some u => exact absurd ((e1 _ _ z).symm.trans np) (by simp)
        refine k r p _ (e1.trans (Ex.new np)) np' upd_same (fun a => ?_) (by show r.length ≤ 2 ^ (os.length + 1); omega)
        rw [hr.mem, m0, mF]
        have px : (ws[i]?).getD (none, true) = x := by rw [hx]; rfl
        show _ ↔ HdN d e (((ws[i]?).getD (none, true)) :: pick ws os) a
        rw [px]
        constructor
        · rintro ⟨s, h, b⟩
          exact ⟨s, says_ans.mpr h, b⟩
        · rintro ⟨s, h, b⟩
          exact ⟨s, says_ans.mp h, b⟩
theorem ok_node (D_l_node_heard : Def K mg "_law_node_heard" s_l_node_heard f_l_node_heard fd_l_node_heard ["_law_words", "_law_order", "_law_deciding"]) (bi : Bi mg)
    (D_l_heard_of : Def K mg "_law_heard_of" s_l_heard_of f_l_heard_of fd_l_heard_of ["_law_word"])
    (G_l_heard_of : FnOk P w K mg base CX0 1 f_l_heard_of fd_l_heard_of ["_law_word"] (spHeard K)) :
    ∀ n : Nat, FnOk P w K mg base CX0 (n + 1) f_l_node_heard fd_l_node_heard ["_law_words", "_law_order", "_law_deciding"] (spNodeH K n)
  | 0 => fn_none fun vs H Q E ⟨_, _, _, _, _, _, _, _, _, _, _, _, _, h, _⟩ => absurd h (Nat.not_lt_zero _)
  | n + 1 => ok_node_of D_l_node_heard bi D_l_heard_of G_l_heard_of (ok_node D_l_node_heard bi D_l_heard_of G_l_heard_of n)
def spAllH (K : PySem.W.Frag) : Sp := fun vs H Q _ => ∃ (l : Addr) (us : List V) (ws : List Wrd) (d e : Str), vs = [.ref l, .str d] ∧ Dec d e ∧ H l = some (.lst us) ∧ WrdsAt K H us ws ∧ ws.length ≤ 4 ∧
  ∀ (r : List Str) (p : Addr) (H' : Hp), Ex H H' → H p = none → H' p = some (.lst (r.map V.str)) → (∀ a, a ∈ r ↔ ∃ us, us.Perm ws ∧ HdN d e us a) → r.length ≤ 1000 → Q (.ref p) H'
theorem ok_all_heard {f : Addr} {fd : FuncData} (D : Def K mg "_law_all_heard" s_l_all_heard f fd ["_law_words", "_law_deciding"]) (bi : Bi mg)
    (D_l_orders : Def K mg "_law_orders" s_l_orders f_l_orders fd_l_orders ["_law_many"])
    (G_l_orders : FnOk P w K mg base CX0 2 f_l_orders fd_l_orders ["_law_many"] (spOrders K))
    (D_l_node_heard : Def K mg "_law_node_heard" s_l_node_heard f_l_node_heard fd_l_node_heard ["_law_words", "_law_order", "_law_deciding"])
    (G_l_node_heard : FnOk P w K mg base CX0 6 f_l_node_heard fd_l_node_heard ["_law_words", "_law_order", "_law_deciding"] (spNodeH K 5)) :
    FnOk P w K mg base CX0 7 f fd ["_law_words", "_law_deciding"] (spAllH K) := by
  refine D.fn.ok sc_l_all_heard (fun vs H Q E h => ?_) (fun cdv A outer s0 H vs Q E hr h => ?_)
  · obtain ⟨l, us, ws, d, e, rfl, _⟩ := h
    rfl
  · obtain ⟨l, us, ws, d, e, rfl, de, hl, hw, h4, k⟩ := h
    have hu60 := Nat.lt_of_le_of_lt (Nat.add_le_add_left (by decide : 60 ≤ 64) _) hr.units
    refine ⟨_, (pss_cons (ps_set (i := 2) sc_l_all_heard.nd rfl (Or.inl rfl) (pe_lst pa_nil))
  (pss_cons (ps_for PassesOwn.never rfl (pi_list (pe_call G_l_orders (hr.mono (by first | decide | omega)) rfl D_l_orders.mg D_l_orders.fn.kp D_l_orders.bd .nil pass0 (pa_cons (pe_callB call_len_seq (by rfl) bi.len bt_len (pa_cons (pv 0) pa_nil)) pa_nil))) (pg_name (i := 3) sc_l_all_heard.nd rfl (Or.inl rfl))
    (pss_one (ps_expr (pe_bm PySem.F.plainAttrs_list PySem.F.slot_list_extend PySem.F.type_list_extend mt_extend (pv 2) (pa_cons (pe_call G_l_node_heard (hr.mono (by first | decide | omega)) rfl D_l_node_heard.mg D_l_node_heard.fn.kp D_l_node_heard.bd .nil pass0 (pa_cons (pv 0) (pa_cons (pv 3) (pa_cons (pv 1) pa_nil)))) pa_nil)))))
  (pss_one (ps_ret (pe_callB (cr_sortedTx rfl hu60) (by rfl) bi.sorted bt_sorted (pa_cons (pe_callTy (cr_setTx rfl) (by rfl) bi.set bt_set (pa_cons (pv 2) pa_nil)) pa_nil)))))), ?_⟩
    refine ⟨Nat.zero_le _, fun F nF => ?_⟩
    have X_H1 : Ex H (upd H F (.lst [])) := Ex.new nF
    have F_H1 : upd H F (.lst []) F = some (.lst []) := upd_same
    generalize upd H F (.lst []) = H1 at X_H1 F_H1 ⊢
    have lu : us.length = ws.length := Paired.length hw
    refine ⟨_, rfl, l, us, rfl, .inl (SqL.of (X_H1 _ _ hl)), ws.length, by rw [lu]; rfl, h4, fun r zs H2 e2 nr hr2 hz => ?_⟩
    have hz0 := hz
    have x02 := X_H1.trans e2
    have hF2 := e2 _ _ F_H1
    have neF : r ≠ F := fun z => by rw [z, F_H1] at nr; cases nr
    refine ⟨r, rfl, ⟨_, SqL.of hr2⟩, ?_⟩
    have zl : zs.length = (ordersL ws.length ws.length).length := Paired.length hz
    refine for_list (xs := zs) (fun j σ G => ∃ (x3 : Option V) (fs : List Str), σ = [some (.ref l), some (.str d), some (.ref F), x3] ∧ Ex H G ∧ ExB F H2 G ∧
      G F = some (.lst (fs.map V.str)) ∧ (∀ a, a ∈ fs ↔ ∃ os ∈ (ordersL ws.length ws.length).take j, HdN d e (pick ws os) a) ∧ fs.length ≤ j * 16) ?_ (fun j σ G _ z => ?_) ?_ ?_
    · exact ⟨none, [], rfl, x02, .of (Ex.refl _), hF2, fun a => by simp, Nat.zero_le _⟩
    · obtain ⟨_, _, _, _, h, _⟩ := z
      exact SqL.of (h _ _ neF hr2)
    · rintro j z σ G hj ⟨x3, fs, rfl, eG, eB, gF, mF, lF⟩
      obtain ⟨os, ho, a, rfl, na, ha⟩ := Gx.paired_get hz hj
      have mm := (orders_mem _ _ os).mp (List.mem_of_getElem? ho)
      have jl : j < zs.length := (List.getElem?_eq_some_iff.mp hj).1
      have ga : G a = some (.lst (os.map natV)) := by
        by_cases c : a = F
        · subst c
          rw [hF2] at ha
          have e0 : os = [] := by
            have := HO.lst.inj (Option.some.inj ha)
            exact List.map_eq_nil_iff.mp this.symm
          subst e0
          have m0 : ws.length = 0 := mm.1.symm
          have zl1 : zs.length = 1 := by rw [zl, m0]; rfl
          have f0 : fs = [] := List.length_eq_zero_iff.mp (by omega)
          rw [gF, f0]
          rfl
        · exact eB _ _ c ha
      have fl : fs.length ≤ 24 * 16 := by
        have : (ordersL ws.length ws.length).length ≤ 24 := by
          rcases (by omega : ws.length = 0 ∨ ws.length = 1 ∨ ws.length = 2 ∨ ws.length = 3 ∨ ws.length = 4) with e | e | e | e | e <;> rw [e] <;> decide +kernel
        have : j * 16 ≤ 24 * 16 := Nat.mul_le_mul_right _ (by omega)
        omega
      refine ⟨_, rfl, .inl ⟨rfl, _, SqL.of gF⟩, _, rfl, _, rfl, _, rfl, l, a, us, ws, os, d, e, rfl, de, eG _ _ hl, wrds_toI hw (.of eG), ga, mm.2.2, by omega, by omega, fun r5 p5 H5 e5 np5 hp5 mr lr => ?_⟩
      have r16 : r5.length ≤ 16 := Nat.le_trans lr (Nat.le_trans (Nat.pow_le_pow_right (by decide) (by omega : os.length ≤ 4)) (by decide))
      refine ⟨F, p5, _, _, rfl, rfl, e5 _ _ gF, hp5, by rw [List.length_map, List.length_map, sizeLine_eq]; omega, ?_⟩
      refine ⟨_, fs ++ r5, rfl, (eG.trans e5).mut nF, (eB.trans (.of e5)).trans .put, by rw [upd_same, List.map_append], fun y => ?_, by rw [List.length_append, Nat.add_mul, Nat.one_mul]; omega⟩
      rw [List.mem_append, mF, mr, takeS ho]
      constructor
      · rintro (⟨o', h, b⟩ | b)
        · exact ⟨o', List.mem_append_left _ h, b⟩
        · exact ⟨os, List.mem_append_right _ (List.mem_singleton.mpr rfl), b⟩
      · rintro ⟨o', h, b⟩
        rcases List.mem_append.mp h with h | h
        · exact .inl ⟨o', h, b⟩
        · rw [List.mem_singleton] at h; subst h; exact .inr b
    · rintro σ G ⟨x3, fs, rfl, eG, eB, gF, mF, lF⟩
      rw [zl, List.take_length] at mF
      rw [zl] at lF
      have lo : (ordersL ws.length ws.length).length ≤ 24 := by
        rcases (by omega : ws.length = 0 ∨ ws.length = 1 ∨ ws.length = 2 ∨ ws.length = 3 ∨ ws.length = 4) with e | e | e | e | e <;> rw [e] <;> decide +kernel
      refine ⟨_, rfl, F, fs, rfl, SqL.of gF, by omega, fun c l0 nc m0 l0l => ?_⟩
      refine ⟨c, l0, rfl, upd_same, by omega, fun p r np hr lr => ?_⟩
      have e1 := eG.trans (Ex.new (o := SetTx P w c l0) nc)
      have np' : H p = none := by
        cases z : H p with
        | none => rfl
        | some u => exact absurd ((e1 _ _ z).symm.trans np) (by simp)
      refine k r p _ (e1.trans (Ex.new np)) np' upd_same (fun a => ?_) (by omega)
      rw [hr.mem, m0, mF]
      exact orders_hear a
end
end K40

set_option Elab.async false
set_option linter.all false
set_option maxRecDepth 100000
set_option maxHeartbeats 4000000
namespace K40
open PySem PySem.Spec PyProof.Rows L2 Evl Gx
abbrev s_l_case_heard : Stmt := topS 28
theorem sc_l_case_heard : FnScope ["_law_pairs", "_law_word", "_law_found", "_law_said"] ["_law_pairs", "_law_word"] (defScope s_l_case_heard) := ⟨rfl, rfl, rfl, by decide +kernel, rfl, by decide +kernel, by decide +kernel⟩
abbrev s_l_first_heard : Stmt := topS 29
theorem sc_l_first_heard : FnScope ["_law_words", "_law_found", "_law_said"] ["_law_words"] (defScope s_l_first_heard) := ⟨rfl, rfl, rfl, by decide +kernel, rfl, by decide +kernel, by decide +kernel⟩
def spCaseH (K : PySem.W.Frag) (n : Nat) : Sp := fun vs H Q _ => ∃ (l : Addr) (us : List V) (ps : List (Wrd × Wrd)) (v : V) (x : Wrd), vs = [.ref l, v] ∧ H l = some (.lst us) ∧ Paired (WpAt K H) us ps ∧ WrdAt K H v x ∧ ps.length < n ∧ ps.length ≤ 6 ∧
  ∀ (r : List Str) (p : Addr) (H' : Hp), Ex H H' → H p = none → H' p = some (.lst (r.map V.str)) → (∀ a, a ∈ r ↔ HdC ps x a) → r.length ≤ 2 ^ (ps.length + 1) → Q (.ref p) H'
def spFirstH (K : PySem.W.Frag) (n : Nat) : Sp := fun vs H Q _ => ∃ (l : Addr) (us : List V) (ws : List Wrd), vs = [.ref l] ∧ H l = some (.lst us) ∧ WrdsAt K H us ws ∧ ws.length < n ∧ ws.length ≤ 6 ∧
  ∀ (r : List Str) (p : Addr) (H' : Hp), Ex H H' → H p = none → H' p = some (.lst (r.map V.str)) → (∀ a, a ∈ r ↔ HdF ws a) → r.length ≤ 2 ^ ws.length → Q (.ref p) H'
/-- what is heard of a case behind one answer -/
def BehC (ps : List (Wrd × Wrd)) (y w : Wrd) (s a : Str) : Prop := s = "error" ∧ a = s ∨ s ≠ "error" ∧ (s = "yes" ∧ Says y a ∨ s ≠ "yes" ∧ HdC ps w a)
def BehF (xs : List Wrd) (s a : Str) : Prop := s = "unknown" ∧ HdF xs a ∨ s ≠ "unknown" ∧ a = s
theorem ans_two (x : Wrd) : (ansOf x).length ≤ 2 := by
  obtain ⟨y1, y2⟩ := x
  unfold ansOf
  cases y1 <;> cases y2 <;> simp
theorem none_back {H H' : Hp} {p : Addr} (e : Ex H H') (n : H' p = none) : H p = none := by
  cases z : H p with
  | none => rfl
  | some u => rw [e _ _ z] at n; cases n
/-- one answer more -/
theorem more_one {L : List Str} {j : Nat} {s : Str} {B : Str → Str → Prop} {fs fs' : List Str} (hs : L[j]? = some s) (m : ∀ a, a ∈ fs ↔ ∃ s ∈ L.take j, B s a) (m' : ∀ a, a ∈ fs' ↔ a ∈ fs ∨ B s a) (a : Str) : a ∈ fs' ↔ ∃ s ∈ L.take (j + 1), B s a := by
  rw [m', m, takeS hs]
  constructor
  · rintro (⟨s', h, b⟩ | b)
    · exact ⟨s', List.mem_append_left _ h, b⟩
    · exact ⟨s, List.mem_append_right _ (List.mem_singleton.mpr rfl), b⟩
  · rintro ⟨s', h, b⟩
    rcases List.mem_append.mp h with h | h
    · exact .inl ⟨s', h, b⟩
    · rw [List.mem_singleton] at h; subst h; exact .inr b
section
variable {P : Program} {w : World} {K : PySem.W.Frag} {mg : Str → Option Value} {base : Heap} {f_l_heard_of f_l_case_heard f_l_first_heard : Addr} {fd_l_heard_of fd_l_case_heard fd_l_first_heard : FuncData}
theorem ok_case_of {n : Nat} (D_l_case_heard : Def K mg "_law_case_heard" s_l_case_heard f_l_case_heard fd_l_case_heard ["_law_pairs", "_law_word"]) (bi : Bi mg)
    (D_l_heard_of : Def K mg "_law_heard_of" s_l_heard_of f_l_heard_of fd_l_heard_of ["_law_word"])
    (G_l_heard_of : FnOk P w K mg base CX0 1 f_l_heard_of fd_l_heard_of ["_law_word"] (spHeard K))
    (G_l_case_heard : FnOk P w K mg base CX0 (n + 1) f_l_case_heard fd_l_case_heard ["_law_pairs", "_law_word"] (spCaseH K n)) :
    FnOk P w K mg base CX0 (n + 2) f_l_case_heard fd_l_case_heard ["_law_pairs", "_law_word"] (spCaseH K (n + 1)) := by
  refine D_l_case_heard.fn.ok sc_l_case_heard (fun vs H Q E h => ?_) (fun cdv A outer s0 H vs Q E hr h => ?_)
  · obtain ⟨l, us, ps, v, x, rfl, _⟩ := h
    rfl
  · obtain ⟨l, us, ps, v, x, rfl, hl, hp, hx, hn, h6, k⟩ := h
    have hu64 := hr.units
    have hu60 := Nat.lt_of_le_of_lt (Nat.add_le_add_left (by decide : 60 ≤ 64) _) hu64
    refine ⟨_, (pss_cons (ps_if (pt_cmpR (op_eqE hu64) (pv 0) (pe_lst pa_nil) (nomark _))
    (pss_one (ps_ret (pe_call G_l_heard_of (hr.mono (by first | decide | omega)) rfl D_l_heard_of.mg D_l_heard_of.fn.kp D_l_heard_of.bd .nil pass0 (pa_cons (pv 1) pa_nil))))
    pss_nil)
  (pss_cons (ps_set (i := 2) sc_l_case_heard.nd rfl (Or.inl rfl) (pe_lst pa_nil))
  (pss_cons (ps_for PassesOwn.never rfl (pi_list (pe_call G_l_heard_of (hr.mono (by first | decide | omega)) rfl D_l_heard_of.mg D_l_heard_of.fn.kp D_l_heard_of.bd .nil pass0 (pa_cons (pe_ix (ix_tupK (K := K) rfl) (pe_ix (ix_listK (K := K) rfl) (pv 0) pe_int (fun _ _ => rfl)) pe_int (fun _ _ => rfl)) pa_nil))) (pg_name (i := 3) sc_l_case_heard.nd rfl (Or.inl rfl))
    (pss_one (ps_if (pt_cmpR op_eq (pv 3) pe_str (nomark _))
      (pss_one (ps_expr (pe_bm PySem.F.plainAttrs_list PySem.F.slot_list_append PySem.F.type_list_append mt_append (pv 2) (pa_cons (pv 3) pa_nil))))
      (pss_one (ps_expr (pe_bm PySem.F.plainAttrs_list PySem.F.slot_list_extend PySem.F.type_list_extend mt_extend (pv 2) (pa_cons (pe_ifExp (pt_cmpR op_eq (pv 3) pe_str (nomark _)) (pe_call G_l_heard_of (hr.mono (by first | decide | omega)) rfl D_l_heard_of.mg D_l_heard_of.fn.kp D_l_heard_of.bd .nil pass0 (pa_cons (pe_ix (ix_tupK (K := K) rfl) (pe_ix (ix_listK (K := K) rfl) (pv 0) pe_int (fun _ _ => rfl)) pe_int (fun _ _ => rfl)) pa_nil)) (pe_call G_l_case_heard (hr.mono (by first | decide | omega)) rfl D_l_case_heard.mg D_l_case_heard.fn.kp D_l_case_heard.bd .nil pass0 (pa_cons (pe_slice sl_list (pv 0) (po_some pe_int) po_none) (pa_cons (pv 1) pa_nil)))) pa_nil)))))))
  (pss_one (ps_ret (pe_callB (cr_sortedTx rfl hu60) (by rfl) bi.sorted bt_sorted (pa_cons (pe_callTy (cr_setTx rfl) (by rfl) bi.set bt_set (pa_cons (pv 2) pa_nil)) pa_nil))))))), ?_⟩
    refine ⟨_, rfl, Nat.zero_le _, fun E1 nE1 => ?_⟩
    have X_H1 : Ex H (upd H E1 (.lst [])) := Ex.new nE1
    have F_H1 : upd H E1 (.lst []) E1 = some (.lst []) := upd_same
    generalize upd H E1 (.lst []) = H1 at X_H1 F_H1 ⊢
    refine ⟨l, E1, _, rfl, rfl, SqL.of (X_H1 _ _ hl), SqL.of F_H1, _, rfl, ?_⟩
    have lu : us.length = ps.length := Paired.length hp
    cases ps with
    | nil =>
      obtain rfl : us = [] := List.length_eq_zero_iff.mp lu
      refine if_t rfl ?_
      refine ⟨_, rfl, v, x, rfl, hx.to X_H1, fun r H2 e2 nr hr2 => ?_⟩
      exact k (ansOf x) r H2 (X_H1.trans e2) (none_back X_H1 nr) hr2 (fun a => says_ans.symm) (ans_two x)
    | cons q ps =>
      obtain ⟨q1, q2⟩ := q
      obtain ⟨u, hu⟩ : ∃ u, us[0]? = some u := ⟨_, List.getElem?_eq_getElem (by simp at lu; omega)⟩
      obtain ⟨q', hq', b, y, z, rfl, hb, hy, hz⟩ := Gx.paired_get hp hu
      obtain rfl : q' = (q1, q2) := by simpa using hq'.symm
      have hd : us ≠ [] := fun z => by rw [z] at hu; cases hu
      refine if_f (by simp [hd]) ?_
      refine ⟨Nat.zero_le _, fun F nF => ?_⟩
      have X_H2 : Ex H1 (upd H1 F (.lst [])) := Ex.new nF
      have F_H2 : upd H1 F (.lst []) F = some (.lst []) := upd_same
      generalize upd H1 F (.lst []) = H2 at X_H2 F_H2 ⊢
      have x02 := X_H1.trans X_H2
      have nF0 := none_back X_H1 nF
      refine ⟨_, rfl, l, _, 0, _, rfl, rfl, SqL.of (x02 _ _ hl), atI_nat (j := 0) hu, b, _, 0, _, rfl, rfl, ex_t x02 hb, rfl, y, q1, rfl, hy.to x02, fun l2 H3 e3 nl2 hl2 => ?_⟩
      refine ⟨l2, rfl, ⟨_, SqL.of hl2⟩, ?_⟩
      have x23 : Ex H H3 := x02.trans e3
      have hF3 := e3 _ _ F_H2
      have neF : l2 ≠ F := fun z => by rw [z, F_H2] at nl2; cases nl2
      have al := ans_two q1
      have p2 : 2 ^ (ps.length + 1) ≤ 2 ^ 6 := Nat.pow_le_pow_right (by decide) (by simp at h6; omega)
      refine for_list (xs := (ansOf q1).map V.str) (fun j σ G => ∃ (x3 : Option V) (fs : List Str), σ = [some (.ref l), some v, some (.ref F), x3] ∧ Ex H G ∧ G l2 = some (.lst ((ansOf q1).map V.str)) ∧
        G F = some (.lst (fs.map V.str)) ∧ (∀ a, a ∈ fs ↔ ∃ s ∈ (ansOf q1).take j, BehC ps q2 x s a) ∧ fs.length ≤ j * 2 ^ (ps.length + 1)) ?_ (fun j σ G _ z => ?_) ?_ ?_
      · exact ⟨none, [], rfl, x23, hl2, hF3, fun a => by simp, Nat.zero_le _⟩
      · obtain ⟨_, _, _, _, h, _⟩ := z
        exact SqL.of h
      · rintro j z' σ G hj ⟨x3, fs, rfl, eG, g2, gF, mF, lF⟩
        rw [List.getElem?_map] at hj
        obtain ⟨s, hs, rfl⟩ := Option.map_eq_some_iff.mp hj
        have jl : j < (ansOf q1).length := (List.getElem?_eq_some_iff.mp hs).1
        have fl : fs.length ≤ 200 := by
          have : j * 2 ^ (ps.length + 1) ≤ 2 * 2 ^ 6 := Nat.mul_le_mul (by omega) p2
          omega
        have one : 2 ≤ 2 ^ (ps.length + 1) := by rw [Nat.pow_succ]; have := Nat.one_le_two_pow (n := ps.length); omega
        have nx : ∀ (G3 : Hp) (fs' : List Str), Ex G G3 → (∀ a, a ∈ fs' ↔ a ∈ fs ∨ BehC ps q2 x s a) → fs'.length ≤ fs.length + 2 ^ (ps.length + 1) →
            ∃ (x3 : Option V) (fs : List Str), [some (V.ref l), some v, some (.ref F), some (.str s)] = [some (.ref l), some v, some (.ref F), x3] ∧ Ex H (upd G3 F (.lst (fs'.map V.str))) ∧ upd G3 F (.lst (fs'.map V.str)) l2 = some (.lst ((ansOf q1).map V.str)) ∧
            upd G3 F (.lst (fs'.map V.str)) F = some (.lst (fs.map V.str)) ∧ (∀ a, a ∈ fs ↔ ∃ s ∈ (ansOf q1).take (j + 1), BehC ps q2 x s a) ∧ fs.length ≤ (j + 1) * 2 ^ (ps.length + 1) := fun G3 fs' e3 m ll =>
          ⟨_, fs', rfl, (eG.trans e3).mut nF0, by rw [upd_ne neF]; exact e3 _ _ g2, upd_same, more_one hs mF m, by rw [Nat.add_mul, Nat.one_mul]; omega⟩
        refine ⟨_, rfl, rfl, _, rfl, if_d (fun se => ?_) fun se => ?_⟩
        · have se : s = "error" := V.str.inj se
          refine ⟨_, rfl, .inl ⟨rfl, _, SqL.of gF⟩, _, rfl, F, _, .str s, rfl, rfl, gF, by rw [List.length_map, sizeLine_eq]; omega, ?_⟩
          have := nx G (fs ++ [s]) (Ex.refl _) (fun a => by
            rw [List.mem_append, List.mem_singleton]
            refine or_congr_right ⟨fun z => .inl ⟨se, z⟩, fun z => ?_⟩
            rcases z with z | z
            · exact z.2
            · exact absurd se z.1) (by rw [List.length_append]; show _ + 1 ≤ _; omega)
          rw [List.map_append] at this
          exact this
        · have se : s ≠ "error" := fun z => se (by rw [z])
          refine ⟨_, rfl, .inl ⟨rfl, _, SqL.of gF⟩, ?_⟩
          refine ⟨_, rfl, rfl, _, rfl, if_d (fun sy => ?_) fun sy => ?_⟩
          · have sy : s = "yes" := V.str.inj sy
            refine ⟨_, rfl, l, _, 0, _, rfl, rfl, SqL.of (eG _ _ hl), atI_nat (j := 0) hu, b, _, 1, _, rfl, rfl, ex_t eG hb, rfl, z, q2, rfl, hz.to eG, fun l5 G5 e5 nl5 hl5 => ?_⟩
            have a2 := ans_two q2
            refine ⟨F, l5, _, _, rfl, rfl, e5 _ _ gF, hl5, by rw [List.length_map, List.length_map, sizeLine_eq]; omega, ?_⟩
            have := nx G5 (fs ++ ansOf q2) e5 (fun a => by
              rw [List.mem_append, ← says_ans]
              refine or_congr_right ⟨fun z => .inr ⟨se, .inl ⟨sy, z⟩⟩, fun z => ?_⟩
              rcases z with z | ⟨_, z | z⟩
              · exact absurd z.1 se
              · exact z.2
              · exact absurd sy z.1) (by rw [List.length_append]; omega)
            rw [List.map_append] at this
            exact this
          · have sy : s ≠ "yes" := fun z => sy (by rw [z])
            refine ⟨_, rfl, 1, rfl, l, _, rfl, SqL.of (eG _ _ hl), fun c nc => ?_⟩
            cases us with
            | nil => exact absurd rfl hd
            | cons u0 us =>
              rw [cut_tail _ (by simp), List.tail_cons]
              have X_G3 : Ex G (upd G c (.lst us)) := Ex.new nc
              have F_G3 : upd G c (.lst us) c = some (.lst us) := upd_same
              generalize upd G c (.lst us) = G3 at X_G3 F_G3 ⊢
              have eG3 := eG.trans X_G3
              cases hp with
              | cons hp1 hp2 =>
                refine ⟨_, rfl, c, us, ps, v, x, rfl, F_G3, Paired.mapP hp2 fun _ _ h => h.to eG3, hx.to eG3, by simp at hn; omega, by simp at h6; omega, fun r p H5 e5 np hp5 mr lr => ?_⟩
                refine ⟨F, p, _, _, rfl, rfl, (X_G3.trans e5) _ _ gF, hp5, by rw [List.length_map, List.length_map, sizeLine_eq]; omega, ?_⟩
                have := nx H5 (fs ++ r) (X_G3.trans e5) (fun a => by
                  rw [List.mem_append, mr]
                  refine or_congr_right ⟨fun z => .inr ⟨se, .inr ⟨sy, z⟩⟩, fun z => ?_⟩
                  rcases z with z | ⟨_, z | z⟩
                  · exact absurd z.1 se
                  · exact absurd z.1 sy
                  · exact z.2) (by rw [List.length_append]; omega)
                rw [List.map_append] at this
                exact this
      · rintro σ G ⟨x3, fs, rfl, eG, g2, gF, mF, lF⟩
        rw [List.length_map, List.take_length] at mF
        rw [List.length_map] at lF
        have pw : (ansOf q1).length * 2 ^ (ps.length + 1) ≤ 2 ^ (ps.length + 1 + 1) := by rw [Nat.pow_succ 2 (ps.length + 1), Nat.mul_comm]; exact Nat.mul_le_mul_left _ al
        have p5 : 2 ^ (ps.length + 1 + 1) ≤ 2 ^ 7 := Nat.pow_le_pow_right (by decide) (by simp at h6; omega)
        refine ⟨_, rfl, F, fs, rfl, SqL.of gF, by omega, fun c l0 nc m0 l0l => ?_⟩
        refine ⟨c, l0, rfl, upd_same, by omega, fun p r np hr lr => ?_⟩
        have e1 := eG.trans (Ex.new (o := SetTx P w c l0) nc)
        refine k r p _ (e1.trans (Ex.new np)) (none_back e1 np) upd_same (fun a => ?_) (by show r.length ≤ 2 ^ (ps.length + 1 + 1); omega)
        rw [hr.mem, m0, mF]
        constructor
        · rintro ⟨s, h, b⟩
          exact ⟨s, says_ans.mpr h, b⟩
        · rintro ⟨s, h, b⟩
          exact ⟨s, says_ans.mp h, b⟩
theorem ok_case (D_l_case_heard : Def K mg "_law_case_heard" s_l_case_heard f_l_case_heard fd_l_case_heard ["_law_pairs", "_law_word"]) (bi : Bi mg)
    (D_l_heard_of : Def K mg "_law_heard_of" s_l_heard_of f_l_heard_of fd_l_heard_of ["_law_word"])
    (G_l_heard_of : FnOk P w K mg base CX0 1 f_l_heard_of fd_l_heard_of ["_law_word"] (spHeard K)) :
    ∀ n : Nat, FnOk P w K mg base CX0 (n + 1) f_l_case_heard fd_l_case_heard ["_law_pairs", "_law_word"] (spCaseH K n)
  | 0 => fn_none fun vs H Q E ⟨_, _, _, _, _, _, _, _, _, h, _⟩ => absurd h (Nat.not_lt_zero _)
  | n + 1 => ok_case_of D_l_case_heard bi D_l_heard_of G_l_heard_of (ok_case D_l_case_heard bi D_l_heard_of G_l_heard_of n)
theorem ok_first_of {n : Nat} (D_l_first_heard : Def K mg "_law_first_heard" s_l_first_heard f_l_first_heard fd_l_first_heard ["_law_words"]) (bi : Bi mg)
    (D_l_heard_of : Def K mg "_law_heard_of" s_l_heard_of f_l_heard_of fd_l_heard_of ["_law_word"])
    (G_l_heard_of : FnOk P w K mg base CX0 1 f_l_heard_of fd_l_heard_of ["_law_word"] (spHeard K))
    (G_l_first_heard : FnOk P w K mg base CX0 (n + 1) f_l_first_heard fd_l_first_heard ["_law_words"] (spFirstH K n)) :
    FnOk P w K mg base CX0 (n + 2) f_l_first_heard fd_l_first_heard ["_law_words"] (spFirstH K (n + 1)) := by
  refine D_l_first_heard.fn.ok sc_l_first_heard (fun vs H Q E h => ?_) (fun cdv A outer s0 H vs Q E hr h => ?_)
  · obtain ⟨l, us, ws, rfl, _⟩ := h
    rfl
  · obtain ⟨l, us, ws, rfl, hl, hw, hn, h6, k⟩ := h
    have hu64 := hr.units
    have hu60 := Nat.lt_of_le_of_lt (Nat.add_le_add_left (by decide : 60 ≤ 64) _) hu64
    refine ⟨_, (pss_cons (ps_if (pt_cmpR (op_eqE hu64) (pv 0) (pe_lst pa_nil) (nomark _))
    (pss_one (ps_ret (pe_lst (pa_cons pe_str pa_nil))))
    pss_nil)
  (pss_cons (ps_set (i := 1) sc_l_first_heard.nd rfl (Or.inl rfl) (pe_lst pa_nil))
  (pss_cons (ps_for PassesOwn.never rfl (pi_list (pe_call G_l_heard_of (hr.mono (by first | decide | omega)) rfl D_l_heard_of.mg D_l_heard_of.fn.kp D_l_heard_of.bd .nil pass0 (pa_cons (pe_ix (ix_listK (K := K) rfl) (pv 0) pe_int (fun _ _ => rfl)) pa_nil))) (pg_name (i := 2) sc_l_first_heard.nd rfl (Or.inl rfl))
    (pss_one (ps_expr (pe_bm PySem.F.plainAttrs_list PySem.F.slot_list_extend PySem.F.type_list_extend mt_extend (pv 1) (pa_cons (pe_ifExp (pt_cmpR op_eq (pv 2) pe_str (nomark _)) (pe_call G_l_first_heard (hr.mono (by first | decide | omega)) rfl D_l_first_heard.mg D_l_first_heard.fn.kp D_l_first_heard.bd .nil pass0 (pa_cons (pe_slice sl_list (pv 0) (po_some pe_int) po_none) pa_nil)) (pe_lst (pa_cons (pv 2) pa_nil))) pa_nil)))))
  (pss_one (ps_ret (pe_callB (cr_sortedTx rfl hu60) (by rfl) bi.sorted bt_sorted (pa_cons (pe_callTy (cr_setTx rfl) (by rfl) bi.set bt_set (pa_cons (pv 1) pa_nil)) pa_nil))))))), ?_⟩
    refine ⟨_, rfl, Nat.zero_le _, fun E1 nE1 => ?_⟩
    have X_H1 : Ex H (upd H E1 (.lst [])) := Ex.new nE1
    have F_H1 : upd H E1 (.lst []) E1 = some (.lst []) := upd_same
    generalize upd H E1 (.lst []) = H1 at X_H1 F_H1 ⊢
    refine ⟨l, E1, _, rfl, rfl, SqL.of (X_H1 _ _ hl), SqL.of F_H1, _, rfl, ?_⟩
    cases hw with
    | nil =>
      refine if_t rfl ?_
      exact ⟨sz1, fun p np => k ["unknown"] p _ (X_H1.trans (Ex.new np)) (none_back X_H1 np) upd_same (fun a => by rw [List.mem_singleton]; exact Iff.rfl) (by show 1 ≤ 2 ^ 0; decide)⟩
    | @cons u q1 us ws hq hw =>
      refine if_f (by simp) ?_
      refine ⟨Nat.zero_le _, fun F nF => ?_⟩
      have X_H2 : Ex H1 (upd H1 F (.lst [])) := Ex.new nF
      have F_H2 : upd H1 F (.lst []) F = some (.lst []) := upd_same
      generalize upd H1 F (.lst []) = H2 at X_H2 F_H2 ⊢
      have x02 := X_H1.trans X_H2
      have nF0 := none_back X_H1 nF
      refine ⟨_, rfl, l, _, 0, _, rfl, rfl, SqL.of (x02 _ _ hl), atI_nat (j := 0) rfl, u, q1, rfl, hq.to x02, fun l2 H3 e3 nl2 hl2 => ?_⟩
      refine ⟨l2, rfl, ⟨_, SqL.of hl2⟩, ?_⟩
      have x23 : Ex H H3 := x02.trans e3
      have hF3 := e3 _ _ F_H2
      have neF : l2 ≠ F := fun z => by rw [z, F_H2] at nl2; cases nl2
      have al := ans_two q1
      have p2 : 2 ^ ws.length ≤ 2 ^ 6 := Nat.pow_le_pow_right (by decide) (by simp at h6; omega)
      have one : 1 ≤ 2 ^ ws.length := Nat.one_le_two_pow
      refine for_list (xs := (ansOf q1).map V.str) (fun j σ G => ∃ (x3 : Option V) (fs : List Str), σ = [some (.ref l), some (.ref F), x3] ∧ Ex H G ∧ G l2 = some (.lst ((ansOf q1).map V.str)) ∧
        G F = some (.lst (fs.map V.str)) ∧ (∀ a, a ∈ fs ↔ ∃ s ∈ (ansOf q1).take j, BehF ws s a) ∧ fs.length ≤ j * 2 ^ ws.length) ?_ (fun j σ G _ z => ?_) ?_ ?_
      · exact ⟨none, [], rfl, x23, hl2, hF3, fun a => by simp, Nat.zero_le _⟩
      · obtain ⟨_, _, _, _, h, _⟩ := z
        exact SqL.of h
      · rintro j z' σ G hj ⟨x3, fs, rfl, eG, g2, gF, mF, lF⟩
        rw [List.getElem?_map] at hj
        obtain ⟨s, hs, rfl⟩ := Option.map_eq_some_iff.mp hj
        have jl : j < (ansOf q1).length := (List.getElem?_eq_some_iff.mp hs).1
        have fl : fs.length ≤ 200 := by
          have : j * 2 ^ ws.length ≤ 2 * 2 ^ 6 := Nat.mul_le_mul (by omega) p2
          omega
        have nx : ∀ (G3 : Hp) (fs' : List Str), Ex G G3 → (∀ a, a ∈ fs' ↔ a ∈ fs ∨ BehF ws s a) → fs'.length ≤ fs.length + 2 ^ ws.length →
            ∃ (x3 : Option V) (fs : List Str), [some (V.ref l), some (.ref F), some (.str s)] = [some (.ref l), some (.ref F), x3] ∧ Ex H (upd G3 F (.lst (fs'.map V.str))) ∧ upd G3 F (.lst (fs'.map V.str)) l2 = some (.lst ((ansOf q1).map V.str)) ∧
            upd G3 F (.lst (fs'.map V.str)) F = some (.lst (fs.map V.str)) ∧ (∀ a, a ∈ fs ↔ ∃ s ∈ (ansOf q1).take (j + 1), BehF ws s a) ∧ fs.length ≤ (j + 1) * 2 ^ ws.length := fun G3 fs' e3 m ll =>
          ⟨_, fs', rfl, (eG.trans e3).mut nF0, by rw [upd_ne neF]; exact e3 _ _ g2, upd_same, more_one hs mF m, by rw [Nat.add_mul, Nat.one_mul]; omega⟩
        refine ⟨_, rfl, .inl ⟨rfl, _, SqL.of gF⟩, ?_⟩
        refine ⟨_, rfl, rfl, _, rfl, if_d (fun su => ?_) fun su => ?_⟩
        · have su : s = "unknown" := V.str.inj su
          refine ⟨_, rfl, 1, rfl, l, _, rfl, SqL.of (eG _ _ hl), fun c nc => ?_⟩
          rw [cut_tail _ (by simp), List.tail_cons]
          have X_G3 : Ex G (upd G c (.lst us)) := Ex.new nc
          have F_G3 : upd G c (.lst us) c = some (.lst us) := upd_same
          generalize upd G c (.lst us) = G3 at X_G3 F_G3 ⊢
          have eG3 := eG.trans X_G3
          refine ⟨c, us, ws, rfl, F_G3, Paired.mapP hw fun _ _ h => h.to eG3, by simp at hn; omega, by simp at h6; omega, fun r p H5 e5 np hp5 mr lr => ?_⟩
          refine ⟨F, p, _, _, rfl, rfl, (X_G3.trans e5) _ _ gF, hp5, by rw [List.length_map, List.length_map, sizeLine_eq]; omega, ?_⟩
          have := nx H5 (fs ++ r) (X_G3.trans e5) (fun a => by
            rw [List.mem_append, mr]
            refine or_congr_right ⟨fun z => .inl ⟨su, z⟩, fun z => ?_⟩
            rcases z with z | z
            · exact z.2
            · exact absurd su z.1) (by rw [List.length_append]; omega)
          rw [List.map_append] at this
          exact this
        · have su : s ≠ "unknown" := fun z => su (by rw [z])
          refine ⟨_, rfl, sz1, fun c nc => ?_⟩
          have X_G3 : Ex G (upd G c (.lst [.str s])) := Ex.new nc
          have F_G3 : upd G c (.lst [.str s]) c = some (.lst [.str s]) := upd_same
          generalize upd G c (.lst [.str s]) = G3 at X_G3 F_G3 ⊢
          refine ⟨F, c, _, _, rfl, rfl, X_G3 _ _ gF, F_G3, by rw [List.length_map, sizeLine_eq]; show _ + 1 ≤ _; omega, ?_⟩
          have := nx G3 (fs ++ [s]) X_G3 (fun a => by
            rw [List.mem_append, List.mem_singleton]
            refine or_congr_right ⟨fun z => .inr ⟨su, z⟩, fun z => ?_⟩
            rcases z with z | z
            · exact absurd z.1 su
            · exact z.2) (by rw [List.length_append]; show _ + 1 ≤ _; omega)
          rw [List.map_append] at this
          exact this
      · rintro σ G ⟨x3, fs, rfl, eG, g2, gF, mF, lF⟩
        rw [List.length_map, List.take_length] at mF
        rw [List.length_map] at lF
        have pw : (ansOf q1).length * 2 ^ ws.length ≤ 2 ^ (ws.length + 1) := by rw [Nat.pow_succ 2 ws.length, Nat.mul_comm]; exact Nat.mul_le_mul_left _ al
        have p5 : 2 ^ (ws.length + 1) ≤ 2 ^ 7 := Nat.pow_le_pow_right (by decide) (by simp at h6; omega)
        refine ⟨_, rfl, F, fs, rfl, SqL.of gF, by omega, fun c l0 nc m0 l0l => ?_⟩
        refine ⟨c, l0, rfl, upd_same, by omega, fun p r np hr lr => ?_⟩
        have e1 := eG.trans (Ex.new (o := SetTx P w c l0) nc)
        refine k r p _ (e1.trans (Ex.new np)) (none_back e1 np) upd_same (fun a => ?_) (by show r.length ≤ 2 ^ (ws.length + 1); omega)
        rw [hr.mem, m0, mF]
        constructor
        · rintro ⟨s, h, b⟩
          exact ⟨s, says_ans.mpr h, b⟩
        · rintro ⟨s, h, b⟩
          exact ⟨s, says_ans.mp h, b⟩
theorem ok_firstH (D_l_first_heard : Def K mg "_law_first_heard" s_l_first_heard f_l_first_heard fd_l_first_heard ["_law_words"]) (bi : Bi mg)
    (D_l_heard_of : Def K mg "_law_heard_of" s_l_heard_of f_l_heard_of fd_l_heard_of ["_law_word"])
    (G_l_heard_of : FnOk P w K mg base CX0 1 f_l_heard_of fd_l_heard_of ["_law_word"] (spHeard K)) :
    ∀ n : Nat, FnOk P w K mg base CX0 (n + 1) f_l_first_heard fd_l_first_heard ["_law_words"] (spFirstH K n)
  | 0 => fn_none fun vs H Q E ⟨_, _, _, _, _, _, h, _⟩ => absurd h (Nat.not_lt_zero _)
  | n + 1 => ok_first_of D_l_first_heard bi D_l_heard_of G_l_heard_of (ok_firstH D_l_first_heard bi D_l_heard_of G_l_heard_of n)
end
end K40

set_option Elab.async false
set_option linter.all false
set_option maxRecDepth 100000
set_option maxHeartbeats 2000000
/-! What isinstance answers of data. -/
namespace Gx
open PySem PySem.Spec PyProof.Rows L2 Evl
def tyName : PyData → String
  | .none => "NoneType" | .bool _ => "bool" | .int _ => "int" | .str _ => "str" | .list _ => "list" | .tuple _ => "tuple" | .dict _ => "dict"
def isaD (x : PyData) (T : String) : Bool := tyName x == T || (tyName x == "bool" && T == "int")
def tys6 : List String := ["bool", "int", "str", "list", "tuple", "dict"]
theorem kit_tbl : (["NoneType", "bool", "int", "str", "list", "tuple", "dict"].all fun n => tys6.all fun T => L2.kitB n T == some (n == T || (n == "bool" && T == "int"))) = true := by decide +kernel
theorem kit_isa {K : PySem.W.Frag} (x : PyData) {T : String} (h : T ∈ tys6) : PySem.W.kitOne K (.type (tyName x)) (.type T) = some (isaD x T) := by
  refine L2.kit_ty ?_
  have m : tyName x ∈ ["NoneType", "bool", "int", "str", "list", "tuple", "dict"] := by cases x <;> simp [tyName]
  have q := List.all_eq_true.mp (List.all_eq_true.mp kit_tbl _ m) _ h
  exact eq_of_beq q
section
variable {K : PySem.W.Frag} {H : Hp}
theorem dq_ty {v : V} {x : PyData} (h : Dq K H v x) : L2.TyX K H v (.type (tyName x)) := by
  cases h with
  | non => exact .base .non
  | bl b => exact .base (.bl b)
  | int i => exact .base (.int i)
  | str x => exact .base (.str x)
  | lst hs _ =>
    rcases hs with hs | ⟨o, its, n, l, c, _⟩
    · rcases hs with hs | ⟨o, hs⟩
      · exact .base (.lst hs)
      · exact .base (.frz hs)
    · exact .kList l c
  | tup hs _ =>
    rcases hs with hs | ⟨o, its, n, l, c, _⟩
    · rcases hs with hs | ⟨o, hs⟩
      · exact .base (.tup hs)
      · exact .fTuple hs
    · exact .kTuple l c
  | dct h _ => exact .base (.dK h)
end
/-- repr within a comprehension -/
theorem call_reprQK {X : Cx} {K : PySem.W.Frag} (e : X.K = K) (qu : Quiet X.A) (room : X.A.units + 200 < cLine) : CallR X (.builtin "repr") (rRepQ K) := by
  subst e
  exact call_reprQ qu room
end Gx

set_option Elab.async false
set_option linter.all false
set_option maxRecDepth 100000
set_option maxHeartbeats 4000000
namespace K40
open PySem PySem.Spec PyProof.Rows L2 Evl Gx
abbrev s_is_word : Stmt := topS 5
theorem sc_is_word : FnScope ["thing", "value", "errs"] ["thing"] (defScope s_is_word) := ⟨rfl, rfl, rfl, by decide +kernel, rfl, by decide +kernel, by decide +kernel⟩
abbrev s_l_as_listed : Stmt := topS 34
theorem sc_l_as_listed : FnScope ["_law_thing", "_law_one_here"] ["_law_thing"] (defScope s_l_as_listed) := ⟨rfl, rfl, rfl, by decide +kernel, rfl, by decide +kernel, by decide +kernel⟩
/-- a word, or anything -/
def isWordD : PyData → Bool
  | .tuple [.none, .bool b] => b
  | .tuple [.str s, .bool _] => decide (s ∈ vals3)
  | _ => false
def spIsWord (K : PySem.W.Frag) : Sp := fun vs H Q _ => ∃ (v : V) (d : PyData), vs = [v] ∧ Dq K H v d ∧ ∀ H', Ex H H' → Q (.bl (isWordD d)) H'
def isTu : PyData → Bool | .tuple _ => true | _ => false
def isBo : PyData → Bool | .bool _ => true | _ => false
def isSt : PyData → Bool | .str _ => true | _ => false
theorem isa_tu (d : PyData) : isaD d "tuple" = isTu d := by
  have t : (["NoneType", "bool", "int", "str", "list", "tuple", "dict"].map fun n => (n == "tuple" || (n == "bool" && "tuple" == "int"))) = [false, false, false, false, false, true, false] := by decide +kernel
  simp only [List.map_cons, List.map_nil, List.cons.injEq, and_true] at t
  obtain ⟨t1, t2, t3, t4, t5, t6, t7⟩ := t
  unfold isaD
  cases d <;> simp only [tyName] <;> assumption
theorem isa_bo (d : PyData) : isaD d "bool" = isBo d := by
  have t : (["NoneType", "bool", "int", "str", "list", "tuple", "dict"].map fun n => (n == "bool" || (n == "bool" && "bool" == "int"))) = [false, true, false, false, false, false, false] := by decide +kernel
  simp only [List.map_cons, List.map_nil, List.cons.injEq, and_true] at t
  obtain ⟨t1, t2, t3, t4, t5, t6, t7⟩ := t
  unfold isaD
  cases d <;> simp only [tyName] <;> assumption
theorem isa_st (d : PyData) : isaD d "str" = isSt d := by
  have t : (["NoneType", "bool", "int", "str", "list", "tuple", "dict"].map fun n => (n == "str" || (n == "bool" && "str" == "int"))) = [false, false, false, true, false, false, false] := by decide +kernel
  simp only [List.map_cons, List.map_nil, List.cons.injEq, and_true] at t
  obtain ⟨t1, t2, t3, t4, t5, t6, t7⟩ := t
  unfold isaD
  cases d <;> simp only [tyName] <;> assumption
theorem kt_tu {K : PySem.W.Frag} (d : PyData) : PySem.W.kitOne K (.type (tyName d)) (.type "tuple") = some (isTu d) := by rw [← isa_tu]; exact kit_isa d (by decide +kernel)
theorem kt_bo {K : PySem.W.Frag} (d : PyData) : PySem.W.kitOne K (.type (tyName d)) (.type "bool") = some (isBo d) := by rw [← isa_bo]; exact kit_isa d (by decide +kernel)
theorem kt_st {K : PySem.W.Frag} (d : PyData) : PySem.W.kitOne K (.type (tyName d)) (.type "str") = some (isSt d) := by rw [← isa_st]; exact kit_isa d (by decide +kernel)
theorem dqAll_len {K : PySem.W.Frag} {H : Hp} : ∀ {vs : List V} {ds : List PyData}, DqAll K H vs ds → vs.length = ds.length
  | _, _, .nil => rfl
  | _, _, .cons _ b => by rw [List.length_cons, List.length_cons, dqAll_len b]
theorem two_inv {K : PySem.W.Frag} {H : Hp} {xs : List V} {ds : List PyData} (h : DqAll K H xs ds) (l : xs.length = 2) : ∃ x y dx dy, xs = [x, y] ∧ ds = [dx, dy] ∧ Dq K H x dx ∧ Dq K H y dy := by
  cases h with
  | nil => cases l
  | cons a h =>
    cases h with
    | nil => cases l
    | cons b h =>
      cases h with
      | nil => exact ⟨_, _, _, _, rfl, rfl, a, b⟩
      | cons c h => simp at l
theorem word_len {ds : List PyData} (h : ds.length ≠ 2) : isWordD (.tuple ds) = false := by
  unfold isWordD
  split
  · simp_all
  · simp_all
  · rfl
theorem iv_vals (z : Str) : inV (.str z) (vals3.map V.str) = decide (z ∈ vals3) := by
  unfold inV
  rw [Bool.eq_iff_iff, List.any_map, List.any_eq_true, decide_eq_true_iff]
  constructor
  · rintro ⟨y, hy, e⟩
    have e : (y == z) = true := e
    rw [← eq_of_beq e]; exact hy
  · intro h
    exact ⟨z, h, (beq_self_eq_true z : (z == z) = true)⟩
section
variable {P : Program} {w : World} {K : PySem.W.Frag} {mg : Str → Option Value} {base : Heap} {a_VALUES f_l_list : Addr} {fd_l_list : FuncData}
theorem ok_is_word {f : Addr} {fd : FuncData} (D : Def K mg "is_word" s_is_word f fd ["thing"]) (bi : Bi mg) (C_VALUES : ConT K mg "VALUES" a_VALUES (vals3.map V.str)) : FnOk P w K mg base CX0 1 f fd ["thing"] (spIsWord K) := by
  refine D.fn.ok sc_is_word (fun vs H Q E h => ?_) (fun cdv A outer s0 H vs Q E hr h => ?_)
  · obtain ⟨v, d, rfl, _⟩ := h
    rfl
  · obtain ⟨v, d, rfl, hd, k⟩ := h
    refine ⟨_, (pss_cons (ps_if (L2.PW.pt (pw_or (pt_not (pt_val (pe_callB call_isi (by rfl) bi.isinstance bt_isinstance (pa_cons (pv 0) (pa_cons (pe_bltn (v := .ty "tuple") rfl bi.tuple bt_tuple rfl) pa_nil))))) (pw_or (pt_cmpR op_ne (pe_callB call_len_seq (by rfl) bi.len bt_len (pa_cons (pv 0) pa_nil)) pe_int (nomark _)) (pw_or1 (pt_not (pt_val (pe_callB call_isi (by rfl) bi.isinstance bt_isinstance (pa_cons (pe_ix (ix_tupK (K := K) rfl) (pv 0) pe_int (fun _ _ => rfl)) (pa_cons (pe_bltn (v := .ty "bool") rfl bi.bool bt_bool rfl) pa_nil)))))))))
    (pss_one (ps_ret pe_bl))
    pss_nil)
  (pss_cons (ps_asg (pv 0) (pg_tup rfl (pgs_cons (pg_name (i := 1) sc_is_word.nd rfl (Or.inl rfl)) (pgs_cons (pg_name (i := 2) sc_is_word.nd rfl (Or.inl rfl)) pgs_nil))))
  (pss_cons (ps_if (pt_cmpR op_isN (pv 1) pe_non (nomark _))
    (pss_one (ps_ret (pv 2)))
    pss_nil)
  (pss_one (ps_ret (pe_and (pe_callB call_isi (by rfl) bi.isinstance bt_isinstance (pa_cons (pv 1) (pa_cons (pe_bltn (v := .ty "str") rfl bi.str bt_str rfl) pa_nil))) (pe_one (pe_cmpR op_in_seq (pv 1) (pe_glob (v := .ref a_VALUES) rfl C_VALUES.mg rfl) (by rfl))))))))), ?_⟩
    refine ⟨_, rfl, v, .ty "tuple", _, _, _, rfl, .ty "tuple", dq_ty hd, kt_tu d, _, rfl, ?_⟩
    have e0 := Ex.refl H
    cases hd with
    | tup ha hq =>
      rename_i a xs ds
      refine if_f rfl ?_
      have ln : xs.length = ds.length := dqAll_len hq
      refine ⟨_, rfl, a, xs, rfl, .inr ha, rfl, _, rfl, ?_⟩
      by_cases l2 : xs.length = 2
      · refine if_f (by rw [l2]; rfl) ?_
        obtain ⟨x, y, dx, dy, rfl, rfl, hx, hy⟩ := two_inv hq l2
        · skip
          refine ⟨_, rfl, a, _, 1, y, rfl, rfl, ha, rfl, y, .ty "bool", _, _, _, rfl, .ty "bool", dq_ty hy, kt_bo dy, _, rfl, ?_⟩
          have yes : ∀ b, dy = .bool b → y = .bl b := fun b e => by subst e; cases hy; rfl
          by_cases hb : ∃ b, dy = .bool b
          · obtain ⟨b, rfl⟩ := hb
            obtain rfl := yes b rfl
            refine if_f rfl ?_
            refine ⟨_, rfl, a, _, rfl, ha, rfl, _, _, rfl, _, _, rfl, rfl, ?_⟩
            cases hx with
            | non => exact ⟨_, rfl, rfl, _, rfl, if_t rfl ⟨_, rfl, k H e0⟩⟩
            | str z =>
              refine ⟨_, rfl, rfl, _, rfl, if_f rfl ?_⟩
              refine ⟨_, rfl, .str z, .ty "str", _, _, _, rfl, .ty "str", .base (.str z), kt_st (.str z), _, rfl, if_t rfl ?_⟩
              refine ⟨_, rfl, a_VALUES, _, rfl, .inr (C_VALUES.at_ H), rfl, by decide +kernel, ?_⟩
              rw [if_neg (by decide), iv_vals]
              exact k H e0
            | bl c => exact ⟨_, rfl, rfl, _, rfl, if_f rfl ⟨_, rfl, .bl c, .ty "str", _, _, _, rfl, .ty "str", .base (.bl c), kt_st (.bool c), _, rfl, if_f rfl (k H e0)⟩⟩
            | int c => exact ⟨_, rfl, rfl, _, rfl, if_f rfl ⟨_, rfl, .int c, .ty "str", _, _, _, rfl, .ty "str", .base (.int c), kt_st (.int c), _, rfl, if_f rfl (k H e0)⟩⟩
            | lst h1 h2 => exact ⟨_, rfl, rfl, _, rfl, if_f rfl ⟨_, rfl, _, .ty "str", _, _, _, rfl, .ty "str", dq_ty (.lst h1 h2), kt_st (.list _), _, rfl, if_f rfl (k H e0)⟩⟩
            | tup h1 h2 => exact ⟨_, rfl, rfl, _, rfl, if_f rfl ⟨_, rfl, _, .ty "str", _, _, _, rfl, .ty "str", dq_ty (.tup h1 h2), kt_st (.tuple _), _, rfl, if_f rfl (k H e0)⟩⟩
            | dct h1 h2 => exact ⟨_, rfl, rfl, _, rfl, if_f rfl ⟨_, rfl, _, .ty "str", _, _, _, rfl, .ty "str", dq_ty (.dct h1 h2), kt_st (.dict _), _, rfl, if_f rfl (k H e0)⟩⟩
          · have nb : isBo dy = false := by
              cases dy <;> first | rfl | (exact absurd ⟨_, rfl⟩ hb)
            rw [nb]
            refine if_t rfl ?_
            have e : isWordD (.tuple [dx, dy]) = false := by
              cases dy <;> first | (cases dx <;> rfl) | (exact absurd ⟨_, rfl⟩ hb)
            rw [e] at k
            exact k H e0
      · refine if_t (by have : ¬ ((xs.length : Nat) : Int) = 2 := fun z => l2 (by omega)
                        simpa using this) ?_
        have e := word_len (ds := ds) (by omega)
        rw [e] at k
        exact k H e0
    | non => exact if_t rfl (k H e0)
    | str z => exact if_t rfl (k H e0)
    | bl c => exact if_t rfl (k H e0)
    | int c => exact if_t rfl (k H e0)
    | lst h1 h2 => exact if_t rfl (k H e0)
    | dct h1 h2 => exact if_t rfl (k H e0)
def spListed (K : PySem.W.Frag) : Sp := fun vs H Q _ => ∃ (v : V) (d : PyData), vs = [v] ∧ Dq K H v d ∧ d.showable = true ∧ d.depth ≤ 100 ∧ wq d ≤ 10000000 ∧ ∀ H', Ex H H' → Q (.bl (decide (∃ x ∈ allW, x.data.shown = d.shown))) H'
theorem words_show : ∀ x ∈ allW, x.data.showable = true ∧ x.data.depth ≤ 100 ∧ wq x.data ≤ 10000000 := by decide +kernel
theorem ok_listed {f : Addr} {fd : FuncData} (D : Def K mg "_law_as_listed" s_l_as_listed f fd ["_law_thing"]) (bi : Bi mg)
    (D_l_list : Def K mg "_law_list" s_l_list f_l_list fd_l_list [])
    (G_l_list : FnOk P w K mg base CX0 1 f_l_list fd_l_list [] (spAllWords K)) : FnQ P w K mg base CX0 2 f fd ["_law_thing"] (spListed K) := by
  refine fnq_ok D.fn sc_l_as_listed (fun vs H Q E h => ?_) (fun cdv A outer s0 H vs Q E hr qu h => ?_)
  · obtain ⟨v, d, rfl, _⟩ := h
    rfl
  · obtain ⟨v, d, rfl, hd, h1, h2, h3, k⟩ := h
    have hu64 := hr.units
    have hu2 : (A.deeper (envOfC "_law_as_listed" (defScope s_l_as_listed) s0.heap.objs.size f cdv)).units + 200 < cLine := by have := hr.un; omega
    refine ⟨_, (pss_one (ps_ret (pe_cmpR (op_neE hu64) (pe_lc (own := [("_law_one_here", 1)]) rfl sc_l_as_listed.nd (pi_list (pe_call0 G_l_list (hr.mono (by first | decide | omega)) rfl D_l_list.mg D_l_list.fn.kp D_l_list.bd .nil pass0)) (blkOk_by (N := ["_law_thing", "_law_one_here"]) (sc := defScope s_l_as_listed) (by decide +kernel)) (fun _ _ _ _ _ => (pg_name (i := 1) sc_l_as_listed.nd rfl (Or.inl rfl))) (fun _ _ _ _ _ => (pts_one (pt_cmpR op_eq (pe_callB (call_reprQK (K := K) rfl qu hu2) (by rfl) bi.repr bt_repr (pa_cons (pv 1) pa_nil)) (pe_callB (call_reprQK (K := K) rfl qu hu2) (by rfl) bi.repr bt_repr (pa_cons (pv 0) pa_nil)) (nomark _)))) (fun _ _ _ _ _ => (pv 1))) (pe_lst pa_nil) (nomark _)))), ?_⟩
    refine ⟨rfl, fun l us H1 e1 nl hl hw => ?_⟩
    refine ⟨l, rfl, ⟨_, SqL.of hl⟩, fun D nD => ?_⟩
    have lu : us.length = allW.length := Paired.length hw
    have a7 : allW.length = 7 := rfl
    refine lc_list (xs := us) (fun j G => Ex H1 G ∧ ∃ zs : List V, G D = some (.lst zs) ∧ zs.length ≤ j ∧ (zs ≠ [] ↔ ∃ x ∈ allW.take j, x.data.shown = d.shown)) ?_ (fun j G _ z => SqL.of (z.1 _ _ hl)) ?_ ?_
    · exact ⟨Ex.new nD, [], upd_same, Nat.zero_le _, by simp⟩
    · rintro j z G hj ⟨eG, zs, hD, lz, mz⟩
      obtain ⟨x, hx, hxa⟩ := Gx.paired_get hw hj
      obtain ⟨s1, s2, s3⟩ := words_show x (List.mem_of_getElem? hx)
      have eHG := e1.trans eG
      have jl : j < us.length := (List.getElem?_eq_some_iff.mp hj).1
      refine ⟨rfl, _, rfl, z, x.data, rfl, (hxa.to eG).dp.dq, s1, s2, s3, _, rfl, v, d, rfl, hd.to eHG, h1, h2, h3, rfl, _, rfl, ?_⟩
      refine if_d (fun c => ?_) fun c => ?_
      · have c : x.data.shown = d.shown := V.str.inj c
        refine ⟨_, rfl, zs, hD, by rw [sizeLine_eq]; omega, eG.mut nD, zs ++ [z], upd_same, by rw [List.length_append]; show _ + 1 ≤ _; omega, ?_⟩
        refine ⟨fun _ => ⟨x, ?_, c⟩, fun _ => by simp⟩
        rw [takeS hx]
        exact List.mem_append_right _ (List.mem_singleton.mpr rfl)
      · have c : x.data.shown ≠ d.shown := fun z => c (by rw [z])
        refine ⟨eG, zs, hD, by omega, ?_⟩
        rw [mz, takeS hx]
        constructor
        · rintro ⟨y, hy, q⟩
          exact ⟨y, List.mem_append_left _ hy, q⟩
        · rintro ⟨y, hy, q⟩
          rcases List.mem_append.mp hy with hy | hy
          · exact ⟨y, hy, q⟩
          · rw [List.mem_singleton] at hy; subst hy; exact absurd q c
    · rintro G ⟨eG, zs, hD, lz, mz⟩
      rw [lu, List.take_length] at mz
      refine ⟨Nat.zero_le _, fun E1 nE1 => ?_⟩
      have X_G2 : Ex G (upd G E1 (.lst [])) := Ex.new nE1
      have F_G2 : upd G E1 (.lst []) E1 = some (.lst []) := upd_same
      generalize upd G E1 (.lst []) = G2 at X_G2 F_G2 ⊢
      refine ⟨D, E1, zs, rfl, rfl, SqL.of (X_G2 _ _ hD), SqL.of F_G2, ?_⟩
      have e : (!decide (zs = [])) = decide (∃ x ∈ allW, x.data.shown = d.shown) := by
        rw [Bool.eq_iff_iff]
        simp only [Bool.not_eq_true', decide_eq_false_iff_not, decide_eq_true_iff]
        exact mz
      rw [e]
      exact k _ ((e1.trans eG).trans X_G2)
end
end K40

set_option Elab.async false
set_option linter.all false
set_option maxRecDepth 100000
set_option maxHeartbeats 4000000
/-! d.get(y, z), where y may be None (d's keys ints and texts) -/
namespace Gx
open PySem PySem.Spec PyProof.Rows L2 Evl
section
variable {X : Cx} {pins : List (Addr × Obj)} {σ : L2.St} {H : Hp} {s : Shared} {a : Addr} {d : V} {r : Value} {kvs : List (Key × V)} {A : Around} {E : Value → Shared → Prop}
theorem get_none {Q : Value → Shared → Prop} (I : L2.Inv X pins σ H s) (e : Rd H a (.dK kvs)) (q : ∀ t, L2.Inv X pins σ H t → Q r t) : wpAny (model X.prog X.w) A (call (.builtin "dict.get") [.ref a, .none, r]) Q E s := by
  obtain ⟨_, ns, vs, _, dd⟩ := dk_rd I.hok e
  obtain ⟨f, hm, f0⟩ := none_map dd
  refine call_meetsIn PySem.F.slot_dict_get dd.typeIs PySem.F.entry_dict_get (PySem.F.args_dict_get_3 _ _ _) (meets_dict_get_default (noneKind X.prog X.w) a (k := none) rfl ns r) ⟨f, hm, ?_⟩
  rw [f0]
  exact q _ (I.tok _)
end
def tDGetN (td ty tx : TE) : TE := fun σ H Q => td σ H fun x H1 => ∃ a, x = .ref a ∧ IsD H1 a ∧ ty σ H1 fun y H2 => tx σ H2 fun z H3 => (∃ o, DGet H3 a y o ∧ Q (o.getD z) H3) ∨ ∃ kvs, y = .non ∧ Rd H3 a (.dK kvs) ∧ Q z H3
section
variable {X : Cx} {o e f : Expr} {td ty tx : TE} {apos cpos : Pos}
theorem pe_dgetN (room : X.A.units + 1 < cLine) (ho : PE X o td) (he : PE X e ty) (hf : PE X f tx) (m : M2 X o "get" apos e f cpos) : PE X (.Call (.Attribute o "get" apos) [e, f] [] cpos) (tDGetN td ty tx) := by
  refine ⟨fun pins s σ H Q I h => ?_⟩
  refine wpAny_Call_method m.base m.few m.line PySem.F.plainAttrs_dict PySem.F.slot_dict_get PySem.F.type_dict_get (thn (ho.run pins s σ H _ I h) fun u s1 ⟨x, H1, I1, rx, a, ex, d, q1⟩ => ?_)
  subst ex
  obtain rfl : u = Value.ref a := rx
  obtain ⟨t1, t2, _⟩ := isD_at I1 d
  refine ⟨t1, t2, ?_⟩
  rw [m.trees]
  refine Calls.callWith_builtin rfl (Calls.evalArgs_plain (Calls.spliced_cons (thn (he.run pins s1 σ H1 _ I1 q1) fun iv s2 ⟨y, H2, I2, ry, q2⟩ => Calls.spliced_cons (thn (hf.run pins s2 σ H2 _ I2 q2) fun fv s3 ⟨z, H3, I3, rz, q3⟩ => Calls.spliced_nil ?_))))
  rcases q3 with ⟨ov, g, q3⟩ | ⟨kvs, rfl, g, q3⟩
  · exact d_get2 room I3 g ry rz fun w' s4 I4 rw' => ⟨_, H3, I4, rw', q3⟩
  · obtain rfl : iv = Value.none := ry
    exact get_none I3 g fun s4 I4 => ⟨_, H3, I4, rz, q3⟩
end
end Gx

set_option Elab.async false
set_option linter.all false
set_option maxRecDepth 100000
set_option maxHeartbeats 4000000
namespace K40
open PySem PySem.Spec PyProof.Rows L2 Evl Gx
abbrev s_l_alike : Stmt := topS 20
theorem sc_l_alike : FnScope ["_law_found", "_law_due"] ["_law_found", "_law_due"] (defScope s_l_alike) := ⟨rfl, rfl, rfl, by decide +kernel, rfl, by decide +kernel, by decide +kernel⟩
abbrev s_l_mixed : Stmt := topS 21
theorem sc_l_mixed : FnScope ["_law_bag_here", "_law_things", "_law_found", "_law_thing"] ["_law_bag_here", "_law_things"] (defScope s_l_mixed) := ⟨rfl, rfl, rfl, by decide +kernel, rfl, by decide +kernel, by decide +kernel⟩
abbrev s_l_single_right : Stmt := topS 33
theorem sc_l_single_right : FnScope ["_law_bag_here", "_law_word", "_law_turned_one", "_law_heard", "_law_found", "_law_several", "_law_said", "_law_made"] ["_law_bag_here", "_law_word"] (defScope s_l_single_right) := ⟨rfl, rfl, rfl, by decide +kernel, rfl, by decide +kernel, by decide +kernel⟩
def spAlike (K : PySem.W.Frag) : Sp := fun vs H Q _ => ∃ (x y : V) (d : PyData), vs = [x, y] ∧ Dp K H x d ∧ Dp K H y d ∧
  SeqAt.shaped d = true ∧ d.showable = true ∧ wide d ≤ 10000000 ∧ Q (.bl true) H
def spMixed (K : PySem.W.Frag) : Sp := fun vs H Q _ => ∃ (b a : Addr) (xs : List V), vs = [.ref b, .ref a] ∧ Bag H b ∧ SqL K H a xs ∧ xs.length ≤ 1000 ∧
  ∀ l ys H', Ex H H' → H l = none → H' l = some (.lst ys) → ys.Perm xs → Q (.ref l) H'
def spSingle (K : PySem.W.Frag) : Sp := fun vs H Q _ => ∃ (b : Addr) (v : V) (x : Wrd), vs = [.ref b, v] ∧ Bag H b ∧ WrdAt K H v x ∧ x ∈ allW ∧ ∀ H', Ex H H' → Q (.bl true) H'
theorem words_ok : ∀ x ∈ allW, Wrd.ok x := by
  unfold Wrd.ok
  decide +kernel
theorem merge_two : mergeK [] [((.inr "yes" : Key), V.str "no"), (.inr "no", .str "yes")] = [(.inr "yes", .str "no"), (.inr "no", .str "yes")] := by decide +kernel
theorem notW_get (s : Str) : (valV [((.inr "yes" : Key), V.str "no"), (.inr "no", .str "yes")] (.inr s)).getD (.str s) = wV (notW (some s)) := by
  unfold valV notW
  by_cases h1 : s = "yes"
  · subst h1; decide +kernel
  · by_cases h2 : s = "no"
    · subst h2; decide +kernel
    · have n1 : ¬ (Sum.inr "yes" : Key) = .inr s := fun z => h1 (Sum.inr.inj z).symm
      have n2 : ¬ (Sum.inr "no" : Key) = .inr s := fun z => h2 (Sum.inr.inj z).symm
      simp [List.find?, n1, n2, h1, h2, wV]
theorem sort_ans (x : Wrd) (h : x ∈ allW) : ((((ansOf x).map fun s => (V.str s, PyData.str s)).mergeSort leD).map (·.1)) = (ansOf x).map V.str := by
  have up : ∀ x ∈ allW, (ansOf x).Pairwise (fun a b => decide (b.cps.toList < a.cps.toList) = false) := by decide +kernel
  have pw : ((ansOf x).map fun s => (V.str s, PyData.str s)).Pairwise (fun a b => leD a b = true) := by
    refine List.pairwise_map.mpr ((up x h).imp fun {a b} z => ?_)
    show (!PySem.W.dataLt (.str b) (.str a)) = true
    rw [PySem.W.dataLt_str, z]
    rfl
  rw [List.mergeSort_of_pairwise pw, List.map_map]
  rfl
theorem sorts_strs (r : List Str) : Sorts ((r.map fun s => (V.str s, PyData.str s)).map (·.2)) := by
  rw [List.map_map]
  refine ⟨PySem.W.AllAlike.of (enc := PyData.str) fun _ _ => rfl, PySem.W.Sortable.others (enc := PyData.str) fun _ => ⟨fun z => (by cases z), fun _ z => (by cases z)⟩, fun d hd => ?_⟩
  obtain ⟨s, _, rfl⟩ := List.mem_map.mp hd
  exact Nat.zero_le _
theorem one_ok : ∀ x ∈ allW, SeqAt.shaped (.list [Wrd.data (notW x.1, x.2), .list ((ansOf x).map PyData.str)]) = true ∧ PyData.showable (.list [Wrd.data (notW x.1, x.2), .list ((ansOf x).map PyData.str)]) = true ∧
    wide (.list [Wrd.data (notW x.1, x.2), .list ((ansOf x).map PyData.str)]) ≤ 10000000 := by decide +kernel
theorem plain_ok : ∀ x ∈ allW, SeqAt.shaped (Wrd.data (if x.1 = some ("unknown" : Str) then some ("no" : Str) else x.1, x.2)) = true ∧ PyData.showable (Wrd.data (if x.1 = some ("unknown" : Str) then some ("no" : Str) else x.1, x.2)) = true ∧
    wide (Wrd.data (if x.1 = some ("unknown" : Str) then some ("no" : Str) else x.1, x.2)) ≤ 10000000 := by decide +kernel
theorem dp_strs {K : PySem.W.Frag} {H : Hp} : ∀ r : List Str, DpAll K H (r.map V.str) (r.map PyData.str)
  | [] => .nil
  | s :: r => .cons (.str s) (dp_strs r)
theorem wV_un {o : Option Str} (h : o ≠ some ("unknown" : Str)) : decide (wV o = .str "unknown") = false := by
  refine decide_eq_false fun z => h ?_
  cases o with
  | none => cases z
  | some s => rw [V.str.inj z]
theorem ans_short : ∀ x ∈ allW, ∀ s ∈ ansOf x, wide (.str s) ≤ 100 := by decide +kernel
theorem words_fit : ∀ x ∈ allW, WFit x := by
  unfold WFit
  decide +kernel
theorem strs_ok {as : List Str} (l : as.length ≤ 6) (h : ∀ s ∈ as, wide (.str s) ≤ 100) : PyData.showable (.list (as.map PyData.str)) = true ∧ PyData.hasDict (.list (as.map PyData.str)) = false ∧ PyData.depth (.list (as.map PyData.str)) ≤ 100 ∧ wide (.list (as.map PyData.str)) ≤ 10000000 := by
  have g : ∀ as : List Str, (∀ s ∈ as, wide (.str s) ≤ 100) → PyData.showableAll (as.map PyData.str) = true ∧ PyData.hasDictAll (as.map PyData.str) = false ∧ PyData.depthAll (as.map PyData.str) = 0 ∧ wide.wideAll (as.map PyData.str) ≤ as.length * 102 := by
    intro as
    induction as with
    | nil => intro _; exact ⟨rfl, rfl, rfl, Nat.le_refl _⟩
    | cons s r ih =>
      intro h
      obtain ⟨i1, i2, i3, i4⟩ := ih fun x hx => h x (List.mem_cons_of_mem _ hx)
      have hs := h s List.mem_cons_self
      refine ⟨by simp only [List.map_cons, PyData.showableAll, PyData.showable, i1]; rfl, by simp only [List.map_cons, PyData.hasDictAll, PyData.hasDict, i2]; rfl, by simp only [List.map_cons, PyData.depthAll, PyData.depth, i3]; rfl, ?_⟩
      simp only [List.map_cons, wide.wideAll, List.length_cons]
      omega
  obtain ⟨i1, i2, i3, i4⟩ := g as h
  exact ⟨i1, i2, by simp only [PyData.depth, i3]; omega, by simp only [wide]; omega⟩
theorem flat_len {α : Type} (l : List α) : ∀ n : Nat, ((List.replicate n l).flatten).length = n * l.length
  | 0 => by simp
  | n + 1 => by rw [List.replicate_succ, List.flatten_cons, List.length_append, flat_len l n, Nat.add_mul, Nat.one_mul, Nat.add_comm]
theorem word_hears {as : List Str} {Pr : Str → Prop} {x : Wrd} (m : ∀ a, a ∈ as ↔ Pr a) (h : Hears Pr x) (ne : x.1 ≠ some ("error" : Str)) : wordOf as = x := by
  obtain ⟨o, b⟩ := x
  obtain ⟨h1, h2⟩ := h
  unfold wordOf
  have e2 : decide (("error" : Str) ∈ as) = b := by
    rw [Bool.eq_iff_iff, decide_eq_true_iff, m]
    exact h1
  rw [e2]
  refine congrArg (·, b) ?_
  have inF : ∀ a, a ∈ (as.filter fun a => !decide (a = ("error" : Str))) ↔ a ∈ as ∧ a ≠ "error" := fun a => by
    rw [List.mem_filter, Bool.not_eq_true', decide_eq_false_iff_not]
  cases hf : as.filter fun a => !decide (a = ("error" : Str)) with
  | nil =>
    cases o with
    | none => rfl
    | some v =>
      have ve : v ≠ "error" := fun z => ne (by rw [z])
      have := (inF v).mpr ⟨(m v).mpr ((h2 v ve).mpr rfl), ve⟩
      rw [hf] at this; cases this
  | cons a r =>
    have ha : a ∈ as.filter fun a => !decide (a = ("error" : Str)) := by rw [hf]; exact List.mem_cons_self
    obtain ⟨h3, h4⟩ := (inF a).mp ha
    exact ((h2 a h4).mp ((m a).mp h3)).symm
theorem last_ok : ∀ x ∈ allW, SeqAt.shaped (.list [x.data, .list ((ansOf x).map PyData.str)]) = true ∧ PyData.showable (.list [x.data, .list ((ansOf x).map PyData.str)]) = true ∧
    wide (.list [x.data, .list ((ansOf x).map PyData.str)]) ≤ 10000000 := by decide +kernel
section
variable {P : Program} {w : World} {K : PySem.W.Frag} {mg : Str → Option Value} {base : Heap} {a_OPPOSITES f_l_take f_l_heard_of f_l_mixed f_l_alike f_of_not f_answers_of f_plainly f_word_of : Addr} {fd_l_take fd_l_heard_of fd_l_mixed fd_l_alike fd_of_not fd_answers_of fd_plainly fd_word_of : FuncData}
theorem ok_alike {f : Addr} {fd : FuncData} (D : Def K mg "_law_alike" s_l_alike f fd ["_law_found", "_law_due"]) (bi : Bi mg) :
    FnQ P w K mg base CX0 1 f fd ["_law_found", "_law_due"] (spAlike K) := by
  refine fnq_ok D.fn sc_l_alike (fun vs H Q E h => ?_) (fun cdv A outer s0 H vs Q E hr qu h => ?_)
  · obtain ⟨x, y, d, rfl, _⟩ := h
    rfl
  · obtain ⟨x, y, d, rfl, hx, hy, h1, h2, h3, k⟩ := h
    have hu64 := hr.units
    have hu2 : (A.deeper (envOfC "_law_alike" (defScope s_l_alike) s0.heap.objs.size f cdv)).units + 200 < cLine := by have := hr.un; omega
    refine ⟨_, (pss_one (ps_ret (pe_and (pe_cmpR (op_eqD hu64) (pv 0) (pv 1) (nomark _)) (pe_one (pe_cmpR op_eq (pe_callB (call_repD qu hu2) (by rfl) bi.repr bt_repr (pa_cons (pv 0) pa_nil)) (pe_callB (call_repD qu hu2) (by rfl) bi.repr bt_repr (pa_cons (pv 1) pa_nil)) (nomark _)))))), ?_⟩
    have dd : d.hasDict = false := PyData.hasDict_of_canLay d (SeqAt.canLay_of_shaped h1)
    have dp : d.depth ≤ 100 := Nat.le_trans (SeqAt.depth_of_shaped h1) (by decide)
    refine ⟨_, rfl, _, rfl, d, d, hx, hy, h1, h1, _, rfl, ?_⟩
    rw [SeqAt.eqv_refl d (SeqAt.canLay_of_shaped h1)]
    refine iteT ⟨_, rfl, x, d, rfl, hx, h2, dd, dp, h3, _, rfl, y, d, rfl, hy, h2, dd, dp, h3, rfl, ?_⟩
    rw [decide_eq_true rfl]
    exact k
theorem ok_mixed {f : Addr} {fd : FuncData} (D : Def K mg "_law_mixed" s_l_mixed f fd ["_law_bag_here", "_law_things"]) (bi : Bi mg)
    (D_l_take : Def K mg "_law_take" s_l_take f_l_take fd_l_take ["_law_bag_here", "_law_many"])
    (G_l_take : FnOk P w K mg base CX0 1 f_l_take fd_l_take ["_law_bag_here", "_law_many"] spTake) : FnOk P w K mg base CX0 2 f fd ["_law_bag_here", "_law_things"] (spMixed K) := by
  refine D.fn.ok sc_l_mixed (fun vs H Q E h => ?_) (fun cdv A outer s0 H vs Q E hr h => ?_)
  · obtain ⟨b, a, xs, rfl, _⟩ := h
    rfl
  · obtain ⟨b, a, xs, rfl, hb, hq, hz, k⟩ := h
    refine ⟨_, (pss_cons (ps_set (i := 2) sc_l_mixed.nd rfl (Or.inl rfl) (pe_lst pa_nil))
  (pss_cons (ps_for PassesOwn.never rfl (pi_list (pv 1)) (pg_name (i := 3) sc_l_mixed.nd rfl (Or.inl rfl))
    (pss_one (ps_expr (pe_bm PySem.F.plainAttrs_list PySem.F.slot_list_insert PySem.F.type_list_insert mt_insert (pv 2) (pa_cons (pe_call G_l_take (hr.mono (by first | decide | omega)) rfl D_l_take.mg D_l_take.fn.kp D_l_take.bd .nil pass0 (pa_cons (pv 0) (pa_cons (pe_op op_add (pe_callB call_len_seq (by rfl) bi.len bt_len (pa_cons (pv 2) pa_nil)) pe_int) pa_nil))) (pa_cons (pv 3) pa_nil))))))
  (pss_one (ps_ret (pv 2))))), ?_⟩
    refine ⟨Nat.zero_le _, fun F nF => ?_⟩
    have e1 : Ex H (upd H F (.lst [])) := Ex.new nF
    have hF : upd H F (.lst []) F = some (.lst []) := upd_same
    generalize upd H F (.lst []) = H1 at e1 hF ⊢
    refine ⟨_, rfl, a, rfl, ⟨_, ex_l e1 hq⟩, ?_⟩
    refine for_list (xs := xs) (fun i σ H' => i ≤ xs.length ∧ ∃ (x3 : Option V) (ys : List V), σ = [some (.ref b), some (.ref a), some (.ref F), x3] ∧ ExB F H1 H' ∧ H' F = some (.lst ys) ∧ ys.Perm (xs.take i)) ?_ (fun i σ H' _ q => ?_) ?_ ?_
    · exact ⟨Nat.zero_le _, none, [], rfl, .of (Ex.refl _), hF, .refl _⟩
    · obtain ⟨_, _, _, _, e, _⟩ := q
      exact ex_l (exB_ex e e1 nF) hq
    · rintro i x σ H2 hx ⟨hi, x3, ys, rfl, e2, hF2, hp⟩
      have hb2 := hb.to (exB_ex e2 e1 nF)
      have il := (List.getElem?_eq_some_iff.mp hx).1
      have yl : ys.length = i := by rw [hp.length_eq, List.length_take]; omega
      refine ⟨_, rfl, .inl ⟨rfl, _, SqL.of hF2⟩, _, rfl, _, rfl, F, ys, rfl, .inl (SqL.of hF2), (ys.length : Int), 1, rfl, rfl, b, (ys.length : Int) + 1, rfl, hb2, by omega, by omega, fun z z0 z1 => ?_⟩
      refine ⟨_, rfl, F, ys, z, x, rfl, rfl, hF2, small (by omega), z0, by omega, il, _, _, rfl, e2.trans .put, upd_same, ?_⟩
      rw [takeS hx]
      have h1 : (ys.take z.toNat ++ [x] ++ ys.drop z.toNat).Perm (x :: (ys.take z.toNat ++ ys.drop z.toNat)) := by
        rw [List.append_assoc]
        exact List.perm_middle
      refine h1.trans ?_
      rw [List.take_append_drop]
      exact (List.Perm.cons x hp).trans (List.perm_append_singleton x _).symm
    · rintro σ H2 ⟨_, x3, ys, rfl, e2, hF2, hp⟩
      rw [List.take_length] at hp
      exact ⟨_, rfl, k F ys H2 (exB_ex e2 e1 nF) nF hF2 hp⟩
theorem ok_single {f : Addr} {fd : FuncData} (D : Def K mg "_law_single_right" s_l_single_right f fd ["_law_bag_here", "_law_word"]) (bi : Bi mg)
    (D_l_take : Def K mg "_law_take" s_l_take f_l_take fd_l_take ["_law_bag_here", "_law_many"])
    (G_l_take : FnOk P w K mg base CX0 1 f_l_take fd_l_take ["_law_bag_here", "_law_many"] spTake)
    (D_l_heard_of : Def K mg "_law_heard_of" s_l_heard_of f_l_heard_of fd_l_heard_of ["_law_word"])
    (G_l_heard_of : FnOk P w K mg base CX0 1 f_l_heard_of fd_l_heard_of ["_law_word"] (spHeard K))
    (D_l_mixed : Def K mg "_law_mixed" s_l_mixed f_l_mixed fd_l_mixed ["_law_bag_here", "_law_things"])
    (G_l_mixed : FnOk P w K mg base CX0 2 f_l_mixed fd_l_mixed ["_law_bag_here", "_law_things"] (spMixed K))
    (D_l_alike : Def K mg "_law_alike" s_l_alike f_l_alike fd_l_alike ["_law_found", "_law_due"])
    (G_l_alike : FnQ P w K mg base CX0 1 f_l_alike fd_l_alike ["_law_found", "_law_due"] (spAlike K))
    (D_of_not : Def K mg "of_not" s_of_not f_of_not fd_of_not ["word"])
    (G_of_not : FnOk P w K mg base CX0 1 f_of_not fd_of_not ["word"] (spOfNot K))
    (D_answers_of : Def K mg "answers_of" s_answers_of f_answers_of fd_answers_of ["word"])
    (G_answers_of : FnOk P w K mg base CX0 1 f_answers_of fd_answers_of ["word"] (spAnswersOf K))
    (D_plainly : Def K mg "plainly" s_plainly f_plainly fd_plainly ["word"])
    (G_plainly : FnOk P w K mg base CX0 1 f_plainly fd_plainly ["word"] (spPlainly K))
    (D_word_of : Def K mg "word_of" s_word_of f_word_of fd_word_of ["answers"])
    (G_word_of : FnOk P w K mg base CX0 1 f_word_of fd_word_of ["answers"] (spWordOf K)) : FnQ P w K mg base CX0 4 f fd ["_law_bag_here", "_law_word"] (spSingle K) := by
  refine fnq_ok D.fn sc_l_single_right (fun vs H Q E h => ?_) (fun cdv A outer s0 H vs Q E hr qu h => ?_)
  · obtain ⟨b, v, x, rfl, _⟩ := h
    rfl
  · obtain ⟨b, v, x, rfl, hb, hx, ok, k⟩ := h
    have hu64 := hr.units
    have hu60 := Nat.lt_of_le_of_lt (Nat.add_le_add_left (by decide : 60 ≤ 64) _) hu64
    have hu2 : (A.deeper (envOfC "_law_single_right" (defScope s_l_single_right) s0.heap.objs.size f cdv)).units + 200 < cLine := by have := hr.un; omega
    have hu : (A.deeper (envOfC "_law_single_right" (defScope s_l_single_right) s0.heap.objs.size f cdv)).units + 1 < cLine := by omega
    refine ⟨_, (Evl.pss_cut (ps_set (i := 2) sc_l_single_right.nd rfl (Or.inl rfl) (pe_dgetN hu (pe_disp (pps_cons pe_str pe_str (pps_cons pe_str pe_str pps_nil)) rfl rfl (fun z => by cases z) (by decide)) (pe_ix (ix_tupK (K := K) rfl) (pv 1) pe_int (fun _ _ => rfl)) (pe_ix (ix_tupK (K := K) rfl) (pv 1) pe_int (fun _ _ => rfl)) ⟨rfl, rfl, rfl, rfl⟩))
  (pss_cons (ps_set (i := 3) sc_l_single_right.nd rfl (Or.inl rfl) (pe_callB (cr_sortedD hu60) (by rfl) bi.sorted bt_sorted (pa_cons (pe_call G_l_heard_of (hr.mono (by first | decide | omega)) rfl D_l_heard_of.mg D_l_heard_of.fn.kp D_l_heard_of.bd .nil pass0 (pa_cons (pv 1) pa_nil)) pa_nil)))
  (pss_cons (ps_if (pt_not (pt_val (pe_callQ G_l_alike qu (hr.mono (by first | decide | omega)) rfl D_l_alike.mg D_l_alike.fn.kp D_l_alike.bd pass0 (pa_cons (pe_lst (pa_cons (pe_call G_of_not (hr.mono (by first | decide | omega)) rfl D_of_not.mg D_of_not.fn.kp D_of_not.bd .nil pass0 (pa_cons (pv 1) pa_nil)) (pa_cons (pe_call G_answers_of (hr.mono (by first | decide | omega)) rfl D_answers_of.mg D_answers_of.fn.kp D_answers_of.bd .nil pass0 (pa_cons (pv 1) pa_nil)) pa_nil))) (pa_cons (pe_lst (pa_cons (pe_tup (pa_cons (pv 2) (pa_cons (pe_ix (ix_tupK (K := K) rfl) (pv 1) pe_int (fun _ _ => rfl)) pa_nil))) (pa_cons (pv 3) pa_nil))) pa_nil)))))
    (pss_one (ps_ret pe_bl))
    pss_nil)
  (Evl.pss_cut (ps_if (pt_not (pt_val (pe_callQ G_l_alike qu (hr.mono (by first | decide | omega)) rfl D_l_alike.mg D_l_alike.fn.kp D_l_alike.bd pass0 (pa_cons (pe_call G_plainly (hr.mono (by first | decide | omega)) rfl D_plainly.mg D_plainly.fn.kp D_plainly.bd .nil pass0 (pa_cons (pv 1) pa_nil)) (pa_cons (pe_tup (pa_cons (pe_ifExp (pt_cmpR op_eq (pe_ix (ix_tupK (K := K) rfl) (pv 1) pe_int (fun _ _ => rfl)) pe_str (nomark _)) pe_str (pe_ix (ix_tupK (K := K) rfl) (pv 1) pe_int (fun _ _ => rfl))) (pa_cons (pe_ix (ix_tupK (K := K) rfl) (pv 1) pe_int (fun _ _ => rfl)) pa_nil))) pa_nil)))))
    (pss_one (ps_ret pe_bl))
    pss_nil)
  (pss_cons (ps_set (i := 4) sc_l_single_right.nd rfl (Or.inl rfl) (pe_call G_answers_of (hr.mono (by first | decide | omega)) rfl D_answers_of.mg D_answers_of.fn.kp D_answers_of.bd .nil pass0 (pa_cons (pv 1) pa_nil)))
  (pss_cons (ps_expr (pe_bm PySem.F.plainAttrs_list PySem.F.slot_list_append PySem.F.type_list_append mt_append (pv 4) (pa_cons pe_non pa_nil)))
  (pss_cons (ps_set (i := 5) sc_l_single_right.nd rfl (Or.inl rfl) (pe_call G_l_mixed (hr.mono (by first | decide | omega)) rfl D_l_mixed.mg D_l_mixed.fn.kp D_l_mixed.bd .nil pass0 (pa_cons (pv 0) (pa_cons (pe_op op_repL (pv 3) (pe_op op_add pe_int (pe_call G_l_take (hr.mono (by first | decide | omega)) rfl D_l_take.mg D_l_take.fn.kp D_l_take.bd .nil pass0 (pa_cons (pv 0) (pa_cons pe_int pa_nil))))) pa_nil))))
  (pss_cons (ps_par (i := 6) (j := 7) rfl sc_l_single_right.nd rfl rfl (by decide) rfl rfl (pa_cons (pe_callB (call_repD qu hu2) (by rfl) bi.repr bt_repr (pa_cons (pv 5) pa_nil)) (pa_cons (pe_call G_word_of (hr.mono (by first | decide | omega)) rfl D_word_of.mg D_word_of.fn.kp D_word_of.bd .nil pass0 (pa_cons (pv 5) pa_nil)) pa_nil)) (by rfl))
  (pss_one (ps_ret (pe_and (pe_cmpR op_eq (pe_callB (call_repD qu hu2) (by rfl) bi.repr bt_repr (pa_cons (pv 5) pa_nil)) (pv 6) (nomark _)) (pe_one (pe_callQ G_l_alike qu (hr.mono (by first | decide | omega)) rfl D_l_alike.mg D_l_alike.fn.kp D_l_alike.bd pass0 (pa_cons (pe_lst (pa_cons (pv 7) (pa_cons (pe_call G_answers_of (hr.mono (by first | decide | omega)) rfl D_answers_of.mg D_answers_of.fn.kp D_answers_of.bd .nil pass0 (pa_cons (pv 1) pa_nil)) pa_nil))) (pa_cons (pe_lst (pa_cons (pv 1) (pa_cons (pv 3) pa_nil))) pa_nil))))))))))))))), ?_⟩
    obtain ⟨a, rfl, ha⟩ := id hx
    have ok' : Wrd.ok x := words_ok x ok
    refine ⟨fun σ H' => σ = [some (.ref b), some (.ref a), some (wV (notW x.1)), none, none, none, none, none] ∧ Ex H H', ?_, ?_⟩
    · refine fun p np => ⟨upd_same, [(.inr "yes", .str "no"), (.inr "no", .str "yes")], rfl, by decide, ?_⟩
      have e1 : Ex H (upd (upd H p (.dK [])) p (.dK (mergeK [] [(.inr "yes", .str "no"), (.inr "no", .str "yes")]))) := by rw [upd_upd]; exact Ex.new np
      have hp : upd (upd H p (.dK [])) p (.dK (mergeK [] [((.inr "yes" : Key), V.str "no"), (.inr "no", .str "yes")])) p = some (.dK [(.inr "yes", .str "no"), (.inr "no", .str "yes")]) := by rw [upd_same, merge_two]
      generalize upd (upd H p (.dK [])) p (.dK (mergeK [] [((.inr "yes" : Key), V.str "no"), (.inr "no", .str "yes")])) = H1 at e1 hp ⊢
      have ha1 := ex_t e1 ha
      refine ⟨p, rfl, .inl ⟨_, .inl hp⟩, _, rfl, a, _, 0, _, rfl, rfl, ha1, rfl, _, rfl, a, _, 0, _, rfl, rfl, ha1, rfl, ?_⟩
      obtain ⟨o, b2⟩ := x
      cases o with
      | none => exact .inr ⟨_, rfl, .inl hp, rfl, e1⟩
      | some s =>
        refine .inl ⟨_, DGet.k (k := .inr s) hp, ?_, e1⟩
        show List.set _ 2 (some ((valV _ (Sum.inr s : Key)).getD (.str s))) = _
        rw [notW_get]
        rfl
    rintro σ H1 ⟨rfl, e1⟩
    refine ⟨_, rfl, .ref a, x, rfl, hx.to e1, fun l H2 e2 nl hl => ?_⟩
    have so := sort_ans x ok
    refine ⟨l, (ansOf x).map fun s => (V.str s, .str s), rfl, by rw [List.map_map]; exact SqL.of hl, fun p hp => ?_, sorts_strs _, fun S nS => ?_⟩
    · obtain ⟨s, _, rfl⟩ := List.mem_map.mp hp
      exact .str s
    rw [so]
    have X_H3 : Ex H2 (upd H2 S (.lst ((ansOf x).map V.str))) := Ex.new nS
    have F_H3 : upd H2 S (.lst ((ansOf x).map V.str)) S = some (.lst ((ansOf x).map V.str)) := upd_same
    generalize upd H2 S (.lst ((ansOf x).map V.str)) = H3 at X_H3 F_H3 ⊢
    have e03 := (e1.trans e2).trans X_H3
    refine ⟨_, rfl, .ref a, x, rfl, hx.to e03, ok', fun z H4 e4 hz => ?_⟩
    have e04 := e03.trans e4
    refine ⟨_, rfl, .ref a, x, rfl, hx.to e04, fun l2 H5 e5 nl2 hl2 => ⟨sz2, fun F nF => ?_⟩⟩
    have X_H6 : Ex H5 (upd H5 F (.lst [z, .ref l2])) := Ex.new nF
    have F_H6 : upd H5 F (.lst [z, .ref l2]) F = some (.lst [z, .ref l2]) := upd_same
    generalize upd H5 F (.lst [z, .ref l2]) = H6 at X_H6 F_H6 ⊢
    have e06 := (e04.trans e5).trans X_H6
    refine ⟨_, rfl, _, rfl, a, _, 1, _, rfl, rfl, ex_t e06 ha, rfl, sz2, fun T nT => ?_⟩
    have X_H7 : Ex H6 (upd H6 T (.tup [wV (notW x.1), .bl x.2])) := Ex.new nT
    have F_H7 : upd H6 T (.tup [wV (notW x.1), .bl x.2]) T = some (.tup [wV (notW x.1), .bl x.2]) := upd_same
    generalize upd H6 T (.tup [wV (notW x.1), .bl x.2]) = H7 at X_H7 F_H7 ⊢
    refine ⟨_, rfl, sz2, fun G nG => ?_⟩
    have X_H8 : Ex H7 (upd H7 G (.lst [.ref T, .ref S])) := Ex.new nG
    have F_H8 : upd H7 G (.lst [.ref T, .ref S]) G = some (.lst [.ref T, .ref S]) := upd_same
    generalize upd H7 G (.lst [.ref T, .ref S]) = H8 at X_H8 F_H8 ⊢
    have x56 : Ex H5 H8 := (X_H6.trans X_H7).trans X_H8
    have x38 : Ex H3 H8 := (e4.trans e5).trans x56
    obtain ⟨q1, q2, q3⟩ := one_ok x ok
    refine ⟨.ref F, .ref G, _, rfl, .lst (SqL.of ((X_H7.trans X_H8) _ _ F_H6)) (.cons (hz.to (e5.trans x56)).dp (.cons (.lst (SqL.of (x56 _ _ hl2)) (dp_strs _)) .nil)),
      .lst (SqL.of F_H8) (.cons (show WrdAt K H8 (.ref T) (notW x.1, x.2) from ⟨T, rfl, SqT.of (X_H8 _ _ F_H7)⟩).dp (.cons (.lst (SqL.of (x38 _ _ F_H3)) (dp_strs _)) .nil)), q1, q2, q3, _, rfl, if_f rfl ?_⟩
    have e08 := e03.trans x38
    have hS := x38 _ _ F_H3
    generalize (some (wV (notW x.1))) = t1
    clear x56 x38 X_H8 F_H8 X_H7 F_H7 X_H6 F_H6 hl2 hz e5 e4 X_H3
    refine ⟨fun σ H' => σ = [some (.ref b), some (.ref a), t1, some (.ref S), none, none, none, none] ∧ Ex H8 H', ?_, ?_⟩
    · refine ⟨_, rfl, .ref a, x, rfl, hx.to e08, ok', fun z H9 e9 hz => ?_⟩
      have ha9 := ex_t (e08.trans e9) ha
      refine ⟨_, rfl, a, _, 0, _, rfl, rfl, ha9, rfl, by cases x.1 <;> rfl, _, rfl, ?_⟩
      have go : ∀ o, o = (if x.1 = some ("unknown" : Str) then some ("no" : Str) else x.1) → ∀ T, H9 T = none → Dp K (upd H9 T (.tup [wV o, .bl x.2])) z (Wrd.data (if x.1 = some ("unknown" : Str) then some ("no" : Str) else x.1, x.2)) ∧
          Dp K (upd H9 T (.tup [wV o, .bl x.2])) (.ref T) (Wrd.data (if x.1 = some ("unknown" : Str) then some ("no" : Str) else x.1, x.2)) ∧ Ex H8 (upd H9 T (.tup [wV o, .bl x.2])) := fun o eo T nT => by
        subst eo
        exact ⟨(hz.to (Ex.new nT)).dp, (show WrdAt K _ (.ref T) (_, x.2) from ⟨T, rfl, SqT.of upd_same⟩).dp, e9.trans (Ex.new nT)⟩
      obtain ⟨q1, q2, q3⟩ := plain_ok x ok
      by_cases c : x.1 = some ("unknown" : Str)
      · refine if_t (by rw [c]; rfl) ?_
        refine ⟨_, rfl, a, _, 1, _, rfl, rfl, ha9, rfl, sz2, fun T nT => ?_⟩
        obtain ⟨g1, g2, g3⟩ := go (some "no") (by rw [if_pos c]) T nT
        exact ⟨z, .ref T, _, rfl, g1, g2, q1, q2, q3, _, rfl, if_f rfl ⟨rfl, g3⟩⟩
      · refine if_f (wV_un c) ?_
        refine ⟨_, rfl, a, _, 0, _, rfl, rfl, ha9, rfl, _, rfl, a, _, 1, _, rfl, rfl, ha9, rfl, sz2, fun T nT => ?_⟩
        obtain ⟨g1, g2, g3⟩ := go x.1 (by rw [if_neg c]) T nT
        exact ⟨z, .ref T, _, rfl, g1, g2, q1, q2, q3, _, rfl, if_f rfl ⟨rfl, g3⟩⟩
    rintro σ H9 ⟨rfl, e9⟩
    have e09 := e08.trans e9
    have hS9 := e9 _ _ hS
    have hb9 := hb.to e09
    refine ⟨_, rfl, .ref a, x, rfl, hx.to e09, fun l3 H10 e10 nl3 hl3 => ?_⟩
    have a2 := ans_two x
    refine ⟨_, rfl, .inl ⟨rfl, _, SqL.of hl3⟩, l3, _, .non, rfl, rfl, hl3, by rw [List.length_map, sizeLine_eq]; omega, ?_⟩
    have e11 : Ex H9 (upd H10 l3 (.lst ((ansOf x).map V.str ++ [.non]))) := e10.mut nl3
    generalize upd H10 l3 (.lst ((ansOf x).map V.str ++ [.non])) = H11 at e11 ⊢
    have e011 := e09.trans e11
    have hS11 := e11 _ _ hS9
    refine ⟨_, rfl, _, rfl, _, rfl, b, 3, rfl, hb.to e011, by decide, by decide, fun u u0 u1 => ⟨1, u, rfl, rfl, S, 1 + u, (ansOf x).map V.str, rfl, rfl, SqL.of hS11, by omega, by omega, by rw [List.length_map]; omega, fun R nR => ?_⟩⟩
    have fr : (List.replicate (1 + u).toNat ((ansOf x).map V.str)).flatten = ((List.replicate (1 + u).toNat (ansOf x)).flatten).map V.str := by rw [List.map_flatten, List.map_replicate]
    have lr : ((List.replicate (1 + u).toNat (ansOf x)).flatten).length ≤ 6 := by
      rw [flat_len]
      exact Nat.mul_le_mul (by omega : (1 + u).toNat ≤ 3) a2
    have mr : ∀ s, s ∈ (List.replicate (1 + u).toNat (ansOf x)).flatten ↔ s ∈ ansOf x := fun s => by
      rw [List.mem_flatten]
      constructor
      · rintro ⟨l, hl, h⟩
        rw [(List.mem_replicate.mp hl).2] at h; exact h
      · intro h
        exact ⟨ansOf x, List.mem_replicate.mpr ⟨by omega, rfl⟩, h⟩
    rw [fr]
    generalize (List.replicate (1 + u).toNat (ansOf x)).flatten = rep at lr mr ⊢
    have X_H12 : Ex H11 (upd H11 R (.lst (rep.map V.str))) := Ex.new nR
    have F_H12 : upd H11 R (.lst (rep.map V.str)) R = some (.lst (rep.map V.str)) := upd_same
    generalize upd H11 R (.lst (rep.map V.str)) = H12 at X_H12 F_H12 ⊢
    refine ⟨b, R, _, rfl, hb.to (e011.trans X_H12), SqL.of F_H12, by rw [List.length_map]; omega, fun l4 ys H13 e13 nl4 hl4 pm => ?_⟩
    obtain ⟨as, pa, rfl⟩ := perm_back pm rep rfl
    have la : as.length ≤ 6 := by rw [pa.length_eq]; exact lr
    have ma : ∀ s, s ∈ as ↔ Says x s := fun s => by rw [pa.mem_iff, mr, says_ans]
    have e013 := (e011.trans X_H12).trans e13
    obtain ⟨w1, w2, w3, w4⟩ := strs_ok (as := as) la fun s hs => ans_short x ok s (says_ans.mp ((ma s).mp hs))
    have dl : ∀ G, Ex H13 G → Dp K G (.ref l4) (.list (as.map PyData.str)) := fun G e => .lst (SqL.of (e _ _ hl4)) (dp_strs _)
    refine ⟨_, rfl, .ref l4, _, rfl, dl _ (Ex.refl _), w1, w2, w3, w4, ?_⟩
    refine ⟨_, rfl, l4, as, rfl, hl4, by omega, fun m H14 e14 hm => ⟨_, _, rfl, ?_⟩⟩
    rw [word_hears ma (says_hears (words_fit x ok)) (words_fit x ok).1] at hm
    refine ⟨_, rfl, .ref l4, _, rfl, dl _ e14, w1, w2, w3, w4, _, rfl, rfl, _, rfl, if_t (decide_eq_true rfl) ?_⟩
    have e014 := e013.trans e14
    refine ⟨_, rfl, _, rfl, .ref a, x, rfl, hx.to e014, fun l5 H15 e15 nl5 hl5 => ⟨sz2, fun F nF => ?_⟩⟩
    have X_H16 : Ex H15 (upd H15 F (.lst [m, .ref l5])) := Ex.new nF
    have F_H16 : upd H15 F (.lst [m, .ref l5]) F = some (.lst [m, .ref l5]) := upd_same
    generalize upd H15 F (.lst [m, .ref l5]) = H16 at X_H16 F_H16 ⊢
    refine ⟨_, rfl, _, rfl, sz2, fun G nG => ?_⟩
    have X_H17 : Ex H16 (upd H16 G (.lst [.ref a, .ref S])) := Ex.new nG
    have F_H17 : upd H16 G (.lst [.ref a, .ref S]) G = some (.lst [.ref a, .ref S]) := upd_same
    generalize upd H16 G (.lst [.ref a, .ref S]) = H17 at X_H17 F_H17 ⊢
    have x57 : Ex H15 H17 := X_H16.trans X_H17
    have e017 := (e014.trans e15).trans x57
    have hS17 := (((((X_H12.trans e13).trans e14).trans e15).trans x57) _ _ hS11)
    obtain ⟨q1, q2, q3⟩ := last_ok x ok
    exact ⟨.ref F, .ref G, _, rfl, .lst (SqL.of (X_H17 _ _ F_H16)) (.cons (hm.to (e15.trans x57)).dp (.cons (.lst (SqL.of (x57 _ _ hl5)) (dp_strs _)) .nil)),
      .lst (SqL.of F_H17) (.cons (hx.to e017).dp (.cons (.lst (SqL.of hS17) (dp_strs _)) .nil)), q1, q2, q3, k _ e017⟩
end
end K40

set_option Elab.async false
set_option linter.all false
set_option maxRecDepth 100000
set_option maxHeartbeats 4000000
namespace K40
open PySem PySem.Spec PyProof.Rows L2 Evl Gx
def Shrt (x : Wrd) : Prop := x.1 = none ∨ ∃ s ∈ vals3, x.1 = some s
theorem words_short : ∀ x ∈ allW, Shrt x := by unfold Shrt; decide +kernel
theorem wok_all : ∀ x ∈ allW, WOk "no" "yes" x := by unfold WOk; decide +kernel
theorem wok_any : ∀ x ∈ allW, WOk "yes" "no" x := by unfold WOk; decide +kernel
theorem nodeW_all (ws : List Wrd) : nodeW ranksAll ws = (nodeV "no" "yes" ws, decide (true ∈ ws.map (·.2))) := by
  unfold nodeW nodeV ranksAll
  refine congrArg (·, decide (true ∈ ws.map (·.2))) ?_
  by_cases h1 : some ("no" : Str) ∈ ws.map (·.1)
  · simp only [List.find?, h1, decide_true, if_true]; rfl
  · by_cases h2 : (none : Option Str) ∈ ws.map (·.1)
    · simp only [List.find?, h1, h2, decide_true, decide_false, if_true, if_false]; rfl
    · by_cases h3 : some ("unknown" : Str) ∈ ws.map (·.1)
      · simp only [List.find?, h1, h2, h3, decide_true, decide_false, if_true, if_false]; rfl
      · by_cases h4 : some ("yes" : Str) ∈ ws.map (·.1)
        · simp only [List.find?, h1, h2, h3, h4, decide_true, decide_false, if_true, if_false]; rfl
        · simp only [List.find?, h1, h2, h3, h4, decide_true, decide_false, if_true, if_false]; rfl
theorem nodeW_any (ws : List Wrd) : nodeW ranksAny ws = (nodeV "yes" "no" ws, decide (true ∈ ws.map (·.2))) := by
  unfold nodeW nodeV ranksAny
  refine congrArg (·, decide (true ∈ ws.map (·.2))) ?_
  by_cases h1 : some ("yes" : Str) ∈ ws.map (·.1)
  · simp only [List.find?, h1, decide_true, if_true]; rfl
  · by_cases h2 : (none : Option Str) ∈ ws.map (·.1)
    · simp only [List.find?, h1, h2, decide_true, decide_false, if_true, if_false]; rfl
    · by_cases h3 : some ("unknown" : Str) ∈ ws.map (·.1)
      · simp only [List.find?, h1, h2, h3, decide_true, decide_false, if_true, if_false]; rfl
      · by_cases h4 : some ("no" : Str) ∈ ws.map (·.1)
        · simp only [List.find?, h1, h2, h3, h4, decide_true, decide_false, if_true, if_false]; rfl
        · simp only [List.find?, h1, h2, h3, h4, decide_true, decide_false, if_true, if_false]; rfl
theorem node_hears {d e : Str} (D : DE d e) {ws : List Wrd} (ok : ∀ x ∈ ws, WOk d e x) : Hears (fun a => ∃ us, us.Perm ws ∧ HdN d e us a) (nodeV d e ws, decide (true ∈ ws.map (·.2))) := by
  refine ⟨(node_err D ok).trans ?_, fun v hv => node_val D ok hv⟩
  rw [decide_eq_true_iff, List.mem_map]
theorem nodeV_short {d e : Str} (hd : d ∈ vals3) (he : e ∈ vals3) (ws : List Wrd) (b : Bool) : Shrt (nodeV d e ws, b) := by
  unfold Shrt nodeV
  by_cases h1 : some d ∈ ws.map (·.1)
  · rw [if_pos h1]; exact .inr ⟨d, hd, rfl⟩
  · by_cases h2 : (none : Option Str) ∈ ws.map (·.1)
    · rw [if_neg h1, if_pos h2]; exact .inl rfl
    · by_cases h3 : some ("unknown" : Str) ∈ ws.map (·.1)
      · rw [if_neg h1, if_neg h2, if_pos h3]; exact .inr ⟨"unknown", by decide +kernel, rfl⟩
      · rw [if_neg h1, if_neg h2, if_neg h3]; exact .inr ⟨e, he, rfl⟩
theorem caseW_eq : ∀ (ps : List (Wrd × Wrd)) (w : Wrd), caseW ps w = caseV ps w
  | [], _ => rfl
  | p :: ps, w => by
    have ih := caseW_eq ps w
    show (if p.1.1 = none then p.1 else ((if p.1.1 = some ("yes" : Str) then p.2 else caseW ps w).1, p.1.2 || (if p.1.1 = some ("yes" : Str) then p.2 else caseW ps w).2)) = _
    rw [ih]
    rfl
theorem firstW_eq : ∀ ws : List Wrd, firstW ws = firstV ws
  | [] => rfl
  | x :: ws => by
    have ih := firstW_eq ws
    show (if x.1 = some ("unknown" : Str) then ((firstW ws).1, x.2 || (firstW ws).2) else x) = _
    rw [ih]
    rfl
theorem caseV_short : ∀ {ps : List (Wrd × Wrd)} {w : Wrd}, (∀ p ∈ ps, Shrt p.1 ∧ Shrt p.2) → Shrt w → Shrt (caseV ps w)
  | [], _, _, h => h
  | p :: ps, w, h, hw => by
    obtain ⟨h1, h2⟩ := h p List.mem_cons_self
    have ih := caseV_short (fun q hq => h q (List.mem_cons_of_mem _ hq)) hw
    show Shrt (if p.1.1 = none then p.1 else behindV p.1 (if p.1.1 = some ("yes" : Str) then p.2 else caseV ps w))
    by_cases c : p.1.1 = none
    · rw [if_pos c]; exact h1
    · rw [if_neg c]
      by_cases c2 : p.1.1 = some ("yes" : Str)
      · rw [if_pos c2]; exact h2
      · rw [if_neg c2]; exact ih
theorem firstV_short : ∀ {ws : List Wrd}, (∀ x ∈ ws, Shrt x) → Shrt (firstV ws)
  | [], _ => .inr ⟨"unknown", by decide +kernel, rfl⟩
  | x :: ws, h => by
    have ih := firstV_short fun y hy => h y (List.mem_cons_of_mem _ hy)
    show Shrt (if x.1 = some ("unknown" : Str) then behindV x (firstV ws) else x)
    by_cases c : x.1 = some ("unknown" : Str)
    · rw [if_pos c]; exact ih
    · rw [if_neg c]; exact h x List.mem_cons_self
theorem short_ne {x : Wrd} (h : Shrt x) : x.1 ≠ some ("error" : Str) := by
  rcases h with h | ⟨s, hs, h⟩
  · rw [h]; exact fun z => by cases z
  · rw [h]
    intro z
    have : ∀ s ∈ vals3, s ≠ "error" := by decide +kernel
    exact this s hs (Option.some.inj z)
theorem vals_wide : ∀ s ∈ vals3, wide (.str s) ≤ 20 := by decide +kernel
theorem word_data {x : Wrd} (h : Shrt x) : x.data.canLay0 = true ∧ x.data.depth = 1 ∧ x.data.showable = true ∧ x.data.hasDict = false ∧ wide x.data ≤ 40 := by
  obtain ⟨o, b⟩ := x
  rcases h with h | ⟨s, hs, h⟩
  · obtain rfl : o = none := h
    exact ⟨rfl, rfl, rfl, rfl, by show wide (.tuple [.none, .bool b]) ≤ 40; simp [wide, wide.wideAll]⟩
  · obtain rfl : o = some s := h
    have cl : ∀ s ∈ vals3, PyData.canLay0 (.str s) = true := by decide +kernel
    refine ⟨by show (PyData.canLay0 (.str s) && (PyData.canLay0 (.bool b) && true)) = true; rw [cl s hs]; rfl, rfl, rfl, rfl, ?_⟩
    have := vals_wide s hs
    show wide (.tuple [.str s, .bool b]) ≤ 40
    simp only [wide, wide.wideAll] at this ⊢
    omega
theorem words_data : ∀ {ws : List Wrd}, (∀ x ∈ ws, Shrt x) → PyData.canLayAll0 (ws.map Wrd.data) = true ∧ PyData.depthAll (ws.map Wrd.data) ≤ 1 ∧ PyData.showableAll (ws.map Wrd.data) = true ∧ PyData.hasDictAll (ws.map Wrd.data) = false ∧ wide.wideAll (ws.map Wrd.data) ≤ 42 * ws.length
  | [], _ => ⟨rfl, Nat.zero_le _, rfl, rfl, Nat.le_refl _⟩
  | x :: ws, h => by
    obtain ⟨a1, a2, a3, a4, a5⟩ := word_data (h x List.mem_cons_self)
    obtain ⟨b1, b2, b3, b4, b5⟩ := words_data fun y hy => h y (List.mem_cons_of_mem _ hy)
    refine ⟨by simp only [List.map_cons, PyData.canLayAll0, a1, b1]; rfl, by simp only [List.map_cons, PyData.depthAll, a2]; omega, by simp only [List.map_cons, PyData.showableAll, a3, b3]; rfl, by simp only [List.map_cons, PyData.hasDictAll, a4, b4]; rfl, ?_⟩
    simp only [List.map_cons, wide.wideAll, List.length_cons]
    omega
def pairD (p : Wrd × Wrd) : PyData := .tuple [p.1.data, p.2.data]
theorem pairs_data : ∀ {ps : List (Wrd × Wrd)}, (∀ p ∈ ps, Shrt p.1 ∧ Shrt p.2) → PyData.depthAll (ps.map pairD) ≤ 2 ∧ PyData.showableAll (ps.map pairD) = true ∧ PyData.hasDictAll (ps.map pairD) = false ∧ wide.wideAll (ps.map pairD) ≤ 100 * ps.length
  | [], _ => ⟨Nat.zero_le _, rfl, rfl, Nat.le_refl _⟩
  | p :: ps, h => by
    obtain ⟨h1, h2⟩ := h p List.mem_cons_self
    obtain ⟨a1, a2, a3, a4, a5⟩ := word_data h1
    obtain ⟨c1, c2, c3, c4, c5⟩ := word_data h2
    obtain ⟨b2, b3, b4, b5⟩ := pairs_data fun y hy => h y (List.mem_cons_of_mem _ hy)
    refine ⟨by simp only [List.map_cons, PyData.depthAll, pairD, PyData.depth, a2, c2]; omega, by simp only [List.map_cons, PyData.showableAll, pairD, PyData.showable, a3, c3, b3]; rfl, by simp only [List.map_cons, PyData.hasDictAll, pairD, PyData.hasDict, a4, c4, b4]; rfl, ?_⟩
    simp only [List.map_cons, wide.wideAll, List.length_cons, pairD, wide]
    omega
theorem list_ok {ws : List Wrd} (h : ∀ x ∈ ws, Shrt x) (l : ws.length ≤ 100) : SeqAt.shaped (.list (ws.map Wrd.data)) = true ∧ PyData.showable (.list (ws.map Wrd.data)) = true ∧ wide (.list (ws.map Wrd.data)) ≤ 10000000 := by
  obtain ⟨b1, b2, b3, b4, b5⟩ := words_data h
  refine ⟨?_, b3, by simp only [wide]; omega⟩
  unfold SeqAt.shaped
  have e2 : PyData.canLay0 (.list (ws.map Wrd.data)) = true := by simp only [PyData.canLay0, b1]
  rw [e2, Bool.true_and]
  refine decide_eq_true ?_
  simp only [PyData.depth]
  omega
theorem both_ok {ws : List Wrd} {ps : List (Wrd × Wrd)} (h : ∀ x ∈ ws, Shrt x) (h' : ∀ p ∈ ps, Shrt p.1 ∧ Shrt p.2) (l : ws.length ≤ 100) (l' : ps.length ≤ 100) :
    PyData.showable (.list [.list (ws.map Wrd.data), .list (ps.map pairD)]) = true ∧ PyData.hasDict (.list [.list (ws.map Wrd.data), .list (ps.map pairD)]) = false ∧ PyData.depth (.list [.list (ws.map Wrd.data), .list (ps.map pairD)]) ≤ 100 ∧ wide (.list [.list (ws.map Wrd.data), .list (ps.map pairD)]) ≤ 10000000 := by
  obtain ⟨b1, b2, b3, b4, b5⟩ := words_data h
  obtain ⟨c2, c3, c4, c5⟩ := pairs_data h'
  refine ⟨by simp only [PyData.showable, PyData.showableAll, b3, c3]; rfl, by simp only [PyData.hasDict, PyData.hasDictAll, b4, c4]; rfl, by simp only [PyData.depth, PyData.depthAll]; omega, by simp only [wide, wide.wideAll]; omega⟩
theorem wrds_dp {K : PySem.W.Frag} {H : Hp} {us : List V} {ws : List Wrd} (h : WrdsAt K H us ws) : DpAll K H us (ws.map Wrd.data) := by
  induction h with
  | nil => exact .nil
  | cons a b ih => exact .cons a.dp ih
theorem wps_dp {K : PySem.W.Frag} {H : Hp} {us : List V} {ps : List (Wrd × Wrd)} (h : Paired (WpAt K H) us ps) : DpAll K H us (ps.map pairD) := by
  induction h with
  | nil => exact .nil
  | cons a b ih =>
    obtain ⟨t, x, y, rfl, h1, h2, h3⟩ := a
    exact .cons (.tup h1 (.cons h2.dp (.cons h3.dp .nil))) ih
end K40

set_option Elab.async false
set_option linter.all false
set_option maxRecDepth 100000
set_option maxHeartbeats 8000000
namespace K40
open PySem PySem.Spec PyProof.Rows L2 Evl Gx
abbrev s_law : Stmt := topS 35
theorem sc_law : FnScope ["_law_script", "_law_bag_here", "_law_again", "_law_found", "_law_turn", "_law_words", "_law_k", "_law_pairs", "_law_word", "_law_said", "_law_due", "_law_odd", "_law_thing"] ["_law_script"] (defScope s_law) := ⟨rfl, rfl, rfl, by decide +kernel, rfl, by decide +kernel, by decide +kernel⟩
def spLaw (K : PySem.W.Frag) : Sp := fun vs H Q _ => ∃ (a : Addr) (ns : List Int), vs = [.ref a] ∧ SqL K H a (ns.map V.int) ∧ ns.length ≤ 63 ∧ ∀ H', Q (.bl true) H'
theorem pw6 {n : Nat} (h : n ≤ 5) : 2 ^ (n + 1) ≤ 64 := Nat.le_trans (Nat.pow_le_pow_right (by decide) (by omega : n + 1 ≤ 6)) (by decide)
theorem pw4 {n : Nat} (h : n ≤ 4) : 2 ^ n ≤ 16 := Nat.le_trans (Nat.pow_le_pow_right (by decide) h) (by decide)
theorem merge_one : mergeK [] [((.inr "yes" : Key), V.bl true)] = [(.inr "yes", .bl true)] := by decide +kernel
/-- what is asked of a thing -/
def goodB (d : PyData) : Bool := (isWordD d == allW.any fun x => x.data.shown == d.shown) && (d.showable && (decide (d.depth ≤ 100) && decide (wq d ≤ 10000000)))
theorem good_of {d : PyData} (h : goodB d = true) : isWordD d = decide (∃ x ∈ allW, x.data.shown = d.shown) ∧ d.showable = true ∧ d.depth ≤ 100 ∧ wq d ≤ 10000000 := by
  unfold goodB at h
  simp only [Bool.and_eq_true, decide_eq_true_eq] at h
  obtain ⟨h1, h2, h3, h4⟩ := h
  refine ⟨?_, h2, h3, h4⟩
  rw [eq_of_beq h1, Bool.eq_iff_iff, List.any_eq_true, decide_eq_true_iff]
  exact ⟨fun ⟨x, hx, e⟩ => ⟨x, hx, eq_of_beq e⟩, fun ⟨x, hx, e⟩ => ⟨x, hx, beq_iff_eq.mpr e⟩⟩
theorem good_words : ∀ x ∈ allW, goodB x.data = true := by decide +kernel
theorem wp_toI {K : PySem.W.Frag} {H H' : Hp} {v : V} {p : Wrd × Wrd} (h : WpAt K H v p) (e : ExI H H') : WpAt K H' v p := by
  obtain ⟨a, x, y, h1, h2, h3, h4⟩ := h
  exact ⟨a, x, y, h1, e.sq h2, h3.toI e, h4.toI e⟩
section
variable {P : Program} {w : World} {K : PySem.W.Frag} {mg : Str → Option Value} {base : Heap} {f_is_word f_all_words f_of_all f_of_any f_of_case f_of_first f_l_bag f_l_take f_l_alike f_l_seven f_l_all_heard f_l_case_heard f_l_first_heard f_l_as_word f_l_list f_l_single_right f_l_as_listed : Addr} {fd_is_word fd_all_words fd_of_all fd_of_any fd_of_case fd_of_first fd_l_bag fd_l_take fd_l_alike fd_l_seven fd_l_all_heard fd_l_case_heard fd_l_first_heard fd_l_as_word fd_l_list fd_l_single_right fd_l_as_listed : FuncData}
theorem ok_law {f : Addr} {fd : FuncData} (D : Def K mg "law" s_law f fd ["_law_script"]) (bi : Bi mg)
    (D_is_word : Def K mg "is_word" s_is_word f_is_word fd_is_word ["thing"])
    (G_is_word : FnOk P w K mg base CX0 1 f_is_word fd_is_word ["thing"] (spIsWord K))
    (D_all_words : Def K mg "all_words" s_all_words f_all_words fd_all_words [])
    (G_all_words : FnOk P w K mg base CX0 1 f_all_words fd_all_words [] (spAllWords K))
    (D_of_all : Def K mg "of_all" s_of_all f_of_all fd_of_all ["words"])
    (G_of_all : FnOk P w K mg base CX0 2 f_of_all fd_of_all ["words"] (spAllW K ranksAll))
    (D_of_any : Def K mg "of_any" s_of_any f_of_any fd_of_any ["words"])
    (G_of_any : FnOk P w K mg base CX0 2 f_of_any fd_of_any ["words"] (spAllW K ranksAny))
    (D_of_case : Def K mg "of_case" s_of_case f_of_case fd_of_case ["pairs", "word"])
    (G_of_case : FnOk P w K mg base CX0 2 f_of_case fd_of_case ["pairs", "word"] (spCaseW K))
    (D_of_first : Def K mg "of_first" s_of_first f_of_first fd_of_first ["words"])
    (G_of_first : FnOk P w K mg base CX0 2 f_of_first fd_of_first ["words"] (spFirstW K))
    (D_l_bag : Def K mg "_law_bag" s_l_bag f_l_bag fd_l_bag ["_law_script"])
    (G_l_bag : FnOk P w K mg base CX0 1 f_l_bag fd_l_bag ["_law_script"] (spBag K))
    (D_l_take : Def K mg "_law_take" s_l_take f_l_take fd_l_take ["_law_bag_here", "_law_many"])
    (G_l_take : FnOk P w K mg base CX0 1 f_l_take fd_l_take ["_law_bag_here", "_law_many"] spTake)
    (D_l_alike : Def K mg "_law_alike" s_l_alike f_l_alike fd_l_alike ["_law_found", "_law_due"])
    (G_l_alike : FnQ P w K mg base CX0 1 f_l_alike fd_l_alike ["_law_found", "_law_due"] (spAlike K))
    (D_l_seven : Def K mg "_law_seven" s_l_seven f_l_seven fd_l_seven ["_law_bag_here"])
    (G_l_seven : FnOk P w K mg base CX0 3 f_l_seven fd_l_seven ["_law_bag_here"] (spSeven K))
    (D_l_all_heard : Def K mg "_law_all_heard" s_l_all_heard f_l_all_heard fd_l_all_heard ["_law_words", "_law_deciding"])
    (G_l_all_heard : FnOk P w K mg base CX0 7 f_l_all_heard fd_l_all_heard ["_law_words", "_law_deciding"] (spAllH K))
    (D_l_case_heard : Def K mg "_law_case_heard" s_l_case_heard f_l_case_heard fd_l_case_heard ["_law_pairs", "_law_word"])
    (G_l_case_heard : FnOk P w K mg base CX0 8 f_l_case_heard fd_l_case_heard ["_law_pairs", "_law_word"] (spCaseH K 7))
    (D_l_first_heard : Def K mg "_law_first_heard" s_l_first_heard f_l_first_heard fd_l_first_heard ["_law_words"])
    (G_l_first_heard : FnOk P w K mg base CX0 8 f_l_first_heard fd_l_first_heard ["_law_words"] (spFirstH K 7))
    (D_l_as_word : Def K mg "_law_as_word" s_l_as_word f_l_as_word fd_l_as_word ["_law_answers"])
    (G_l_as_word : FnOk P w K mg base CX0 1 f_l_as_word fd_l_as_word ["_law_answers"] (spWordOf K))
    (D_l_list : Def K mg "_law_list" s_l_list f_l_list fd_l_list [])
    (G_l_list : FnOk P w K mg base CX0 1 f_l_list fd_l_list [] (spAllWords K))
    (D_l_single_right : Def K mg "_law_single_right" s_l_single_right f_l_single_right fd_l_single_right ["_law_bag_here", "_law_word"])
    (G_l_single_right : FnQ P w K mg base CX0 4 f_l_single_right fd_l_single_right ["_law_bag_here", "_law_word"] (spSingle K))
    (D_l_as_listed : Def K mg "_law_as_listed" s_l_as_listed f_l_as_listed fd_l_as_listed ["_law_thing"])
    (G_l_as_listed : FnQ P w K mg base CX0 2 f_l_as_listed fd_l_as_listed ["_law_thing"] (spListed K)) : FnQ P w K mg base CX0 9 f fd ["_law_script"] (spLaw K) := by
  refine fnq_ok D.fn sc_law (fun vs H Q E h => ?_) (fun cdv A outer s0 H vs Q E hr qu h => ?_)
  · obtain ⟨a, ns, rfl, _⟩ := h
    rfl
  · obtain ⟨a, ns, rfl, ha, hz, k⟩ := h
    have hu64 := hr.units
    have hu2 : (A.deeper (envOfC "law" (defScope s_law) s0.heap.objs.size f cdv)).units + 200 < cLine := by have := hr.un; omega
    refine ⟨_, (pss_cons (ps_set (i := 1) sc_law.nd rfl (Or.inr rfl) (pe_call G_l_bag (hr.mono (by first | decide | omega)) rfl D_l_bag.mg D_l_bag.fn.kp D_l_bag.bd .nil pass0 (pa_cons (pv 0) pa_nil)))
  (pss_cons (ps_for PassesOwn.never rfl (pi_range1 rfl bi.range (pa_cons pe_int pa_nil)) (pg_name (i := 2) sc_law.nd rfl (Or.inl rfl))
    (pss_cons (ps_set (i := 3) sc_law.nd rfl (Or.inl rfl) (pe_call0 G_all_words (hr.mono (by first | decide | omega)) rfl D_all_words.mg D_all_words.fn.kp D_all_words.bd .nil pass0))
    (pss_cons (ps_if (pt_not (pt_val (pe_callQ G_l_alike qu (hr.mono (by first | decide | omega)) rfl D_l_alike.mg D_l_alike.fn.kp D_l_alike.bd pass0 (pa_cons (pv 3) (pa_cons (pe_call0 G_l_list (hr.mono (by first | decide | omega)) rfl D_l_list.mg D_l_list.fn.kp D_l_list.bd .nil pass0) pa_nil)))))
      (pss_one (ps_ret pe_bl))
      pss_nil)
    (pss_one (ps_expr (pe_bm PySem.F.plainAttrs_list PySem.F.slot_list_append PySem.F.type_list_append mt_append (pv 3) (pa_cons pe_non pa_nil)))))))
  (pss_cons (ps_for PassesOwn.never rfl (pi_range1 rfl bi.range (pa_cons pe_int pa_nil)) (pg_name (i := 4) sc_law.nd rfl (Or.inl rfl))
    (pss_cons (ps_setLc (i := 5) (own := [("_law_k", 6)]) rfl sc_law.nd rfl rfl (sw_true rfl rfl rfl (by decide +kernel)) (pi_range1 rfl bi.range (pa_cons (pe_call G_l_take (hr.mono (by first | decide | omega)) rfl D_l_take.mg D_l_take.fn.kp D_l_take.bd .nil pass0 (pa_cons (pv 1) (pa_cons pe_int pa_nil))) pa_nil)) (blkOk_by (N := ["_law_script", "_law_bag_here", "_law_again", "_law_found", "_law_turn", "_law_words", "_law_k", "_law_pairs", "_law_word", "_law_said", "_law_due", "_law_odd", "_law_thing"]) (sc := defScope s_law) (by decide +kernel)) (fun _ _ _ _ _ => (pg_name (i := 6) sc_law.nd rfl (Or.inl rfl))) (fun _ _ _ _ _ => pts_nil) (fun _ _ _ _ _ => (pe_call G_l_seven (hr.mono (by first | decide | omega)) rfl D_l_seven.mg D_l_seven.fn.kp D_l_seven.bd .nil pass0 (pa_cons (pv 1) pa_nil))))
    (pss_cons (ps_par (i := 7) (j := 8) rfl sc_law.nd rfl rfl (by decide) rfl rfl (pa_cons (pe_lc (own := [("_law_k", 6)]) rfl sc_law.nd (pi_range1 rfl bi.range (pa_cons (pe_call G_l_take (hr.mono (by first | decide | omega)) rfl D_l_take.mg D_l_take.fn.kp D_l_take.bd .nil pass0 (pa_cons (pv 1) (pa_cons pe_int pa_nil))) pa_nil)) (blkOk_by (N := ["_law_script", "_law_bag_here", "_law_again", "_law_found", "_law_turn", "_law_words", "_law_k", "_law_pairs", "_law_word", "_law_said", "_law_due", "_law_odd", "_law_thing"]) (sc := defScope s_law) (by decide +kernel)) (fun _ _ _ _ _ => (pg_name (i := 6) sc_law.nd rfl (Or.inl rfl))) (fun _ _ _ _ _ => pts_nil) (fun _ _ _ _ _ => (pe_tup (pa_cons (pe_call G_l_seven (hr.mono (by first | decide | omega)) rfl D_l_seven.mg D_l_seven.fn.kp D_l_seven.bd .nil pass0 (pa_cons (pv 1) pa_nil)) (pa_cons (pe_call G_l_seven (hr.mono (by first | decide | omega)) rfl D_l_seven.mg D_l_seven.fn.kp D_l_seven.bd .nil pass0 (pa_cons (pv 1) pa_nil)) pa_nil))))) (pa_cons (pe_call G_l_seven (hr.mono (by first | decide | omega)) rfl D_l_seven.mg D_l_seven.fn.kp D_l_seven.bd .nil pass0 (pa_cons (pv 1) pa_nil)) pa_nil)) (by rfl))
    (pss_cons (ps_set (i := 9) sc_law.nd rfl (Or.inl rfl) (pe_callB (call_repD qu hu2) (by rfl) bi.repr bt_repr (pa_cons (pe_lst (pa_cons (pv 5) (pa_cons (pv 7) pa_nil))) pa_nil)))
    (pss_cons (ps_set (i := 10) sc_law.nd rfl (Or.inl rfl) (pe_lst (pa_cons (pe_call G_l_as_word (hr.mono (by first | decide | omega)) rfl D_l_as_word.mg D_l_as_word.fn.kp D_l_as_word.bd .nil pass0 (pa_cons (pe_call G_l_all_heard (hr.mono (by first | decide | omega)) rfl D_l_all_heard.mg D_l_all_heard.fn.kp D_l_all_heard.bd .nil pass0 (pa_cons (pv 5) (pa_cons pe_str pa_nil))) pa_nil)) (pa_cons (pe_call G_l_as_word (hr.mono (by first | decide | omega)) rfl D_l_as_word.mg D_l_as_word.fn.kp D_l_as_word.bd .nil pass0 (pa_cons (pe_call G_l_all_heard (hr.mono (by first | decide | omega)) rfl D_l_all_heard.mg D_l_all_heard.fn.kp D_l_all_heard.bd .nil pass0 (pa_cons (pv 5) (pa_cons pe_str pa_nil))) pa_nil)) pa_nil))))
    (pss_cons (ps_set (i := 10) sc_law.nd rfl (Or.inl rfl) (pe_op op_cat (pv 10) (pe_lst (pa_cons (pe_call G_l_as_word (hr.mono (by first | decide | omega)) rfl D_l_as_word.mg D_l_as_word.fn.kp D_l_as_word.bd .nil pass0 (pa_cons (pe_call G_l_case_heard (hr.mono (by first | decide | omega)) rfl D_l_case_heard.mg D_l_case_heard.fn.kp D_l_case_heard.bd .nil pass0 (pa_cons (pv 7) (pa_cons (pv 8) pa_nil))) pa_nil)) (pa_cons (pe_call G_l_as_word (hr.mono (by first | decide | omega)) rfl D_l_as_word.mg D_l_as_word.fn.kp D_l_as_word.bd .nil pass0 (pa_cons (pe_call G_l_first_heard (hr.mono (by first | decide | omega)) rfl D_l_first_heard.mg D_l_first_heard.fn.kp D_l_first_heard.bd .nil pass0 (pa_cons (pv 5) pa_nil)) pa_nil)) pa_nil)))))
    (pss_cons (ps_for PassesOwn.never rfl (pi_range1 rfl bi.range (pa_cons pe_int pa_nil)) (pg_name (i := 2) sc_law.nd rfl (Or.inl rfl))
      (pss_one (ps_if (pt_not (pt_val (pe_callQ G_l_alike qu (hr.mono (by first | decide | omega)) rfl D_l_alike.mg D_l_alike.fn.kp D_l_alike.bd pass0 (pa_cons (pe_lst (pa_cons (pe_call G_of_all (hr.mono (by first | decide | omega)) rfl D_of_all.mg D_of_all.fn.kp D_of_all.bd .nil pass0 (pa_cons (pv 5) pa_nil)) (pa_cons (pe_call G_of_any (hr.mono (by first | decide | omega)) rfl D_of_any.mg D_of_any.fn.kp D_of_any.bd .nil pass0 (pa_cons (pv 5) pa_nil)) (pa_cons (pe_call G_of_case (hr.mono (by first | decide | omega)) rfl D_of_case.mg D_of_case.fn.kp D_of_case.bd .nil pass0 (pa_cons (pv 7) (pa_cons (pv 8) pa_nil))) (pa_cons (pe_call G_of_first (hr.mono (by first | decide | omega)) rfl D_of_first.mg D_of_first.fn.kp D_of_first.bd .nil pass0 (pa_cons (pv 5) pa_nil)) pa_nil))))) (pa_cons (pv 10) pa_nil)))))
        (pss_one (ps_ret pe_bl))
        pss_nil)))
    (pss_cons (ps_if (L2.PW.pt (pw_or (pt_cmpR op_ne (pe_callB (call_repD qu hu2) (by rfl) bi.repr bt_repr (pa_cons (pe_lst (pa_cons (pv 5) (pa_cons (pv 7) pa_nil))) pa_nil)) (pv 9) (nomark _)) (pw_or1 (pt_not (pt_val (pe_callQ G_l_single_right qu (hr.mono (by first | decide | omega)) rfl D_l_single_right.mg D_l_single_right.fn.kp D_l_single_right.bd pass0 (pa_cons (pv 1) (pa_cons (pv 8) pa_nil))))))))
      (pss_one (ps_ret pe_bl))
      pss_nil)
    (pss_cons (ps_set (i := 11) sc_law.nd rfl (Or.inl rfl) (pe_lst (pa_cons pe_non (pa_cons pe_str (pa_cons (pe_tup pa_nil) (pa_cons (pe_tup (pa_cons pe_str pa_nil)) (pa_cons (pe_lst (pa_cons pe_str (pa_cons pe_bl pa_nil))) (pa_cons (pe_tup (pa_cons pe_str (pa_cons pe_int pa_nil))) (pa_cons (pe_tup (pa_cons pe_str (pa_cons pe_non pa_nil))) (pa_cons (pe_tup (pa_cons pe_non (pa_cons pe_bl pa_nil))) (pa_cons (pe_tup (pa_cons pe_str (pa_cons pe_bl pa_nil))) pa_nil)))))))))))
    (pss_cons (ps_set (i := 11) sc_law.nd rfl (Or.inl rfl) (pe_op op_cat (pv 11) (pe_lst (pa_cons (pe_tup (pa_cons pe_str (pa_cons pe_bl pa_nil))) (pa_cons (pe_tup (pa_cons pe_str (pa_cons pe_bl pa_nil))) (pa_cons (pe_tup (pa_cons pe_str (pa_cons pe_bl pa_nil))) pa_nil))))))
    (pss_cons (ps_set (i := 11) sc_law.nd rfl (Or.inl rfl) (pe_op op_cat (pv 11) (pe_lst (pa_cons (pe_tup (pa_cons pe_str (pa_cons pe_bl pa_nil))) (pa_cons (pe_tup (pa_cons pe_bl (pa_cons pe_bl pa_nil))) (pa_cons (pe_tup (pa_cons pe_int (pa_cons pe_bl pa_nil))) (pa_cons (pe_tup (pa_cons (pe_lst (pa_cons pe_str pa_nil)) (pa_cons pe_bl pa_nil))) (pa_cons (pe_tup (pa_cons pe_str (pa_cons pe_bl (pa_cons pe_bl pa_nil)))) (pa_cons (pe_disp (pps_cons pe_str pe_bl pps_nil) rfl rfl (fun z => by cases z) (by decide)) pa_nil)))))))))
    (pss_one (ps_for PassesOwn.never rfl (pi_list (pe_op op_cat (pv 11) (pe_lst (pa_cons (pv 8) pa_nil)))) (pg_name (i := 12) sc_law.nd rfl (Or.inl rfl))
      (pss_one (ps_if (pt_not (pt_val (pe_callQ G_l_alike qu (hr.mono (by first | decide | omega)) rfl D_l_alike.mg D_l_alike.fn.kp D_l_alike.bd pass0 (pa_cons (pe_call G_is_word (hr.mono (by first | decide | omega)) rfl D_is_word.mg D_is_word.fn.kp D_is_word.bd .nil pass0 (pa_cons (pv 12) pa_nil)) (pa_cons (pe_callQ G_l_as_listed qu (hr.mono (by first | decide | omega)) rfl D_l_as_listed.mg D_l_as_listed.fn.kp D_l_as_listed.bd pass0 (pa_cons (pv 12) pa_nil)) pa_nil)))))
        (pss_one (ps_ret pe_bl))
        pss_nil)))))))))))))))
  (pss_one (ps_ret pe_bl))))), ?_⟩
    refine ⟨_, rfl, a, ns, rfl, ha, by omega, fun b H1 e1 hb => ?_⟩
    refine ⟨2, rfl, by decide, by decide, ?_⟩
    refine for_range (n := 2) (fun i σ H' => ∃ x2 x3 : Option V, σ = [some (.ref a), some (.ref b), x2, x3, none, none, none, none, none, none, none, none, none] ∧ Bag H' b) ?_ ?_ ?_
    · exact ⟨none, none, rfl, hb⟩
    · rintro i σ H2 hi ⟨x2, x3, rfl, hb2⟩
      refine ⟨rfl, fun l us H3 e3 nl hl hw => ?_⟩
      refine ⟨_, rfl, rfl, fun l2 us2 H4 e4 nl2 hl2 hw2 => ?_⟩
      obtain ⟨q1, q2, q3⟩ := list_ok words_short (by decide)
      refine ⟨.ref l, .ref l2, _, rfl, .lst (SqL.of (e4 _ _ hl)) ((wrds_dp hw).to e4), .lst (SqL.of hl2) (wrds_dp hw2), q1, q2, q3, _, rfl, if_f rfl ?_⟩
      have hl4 := e4 _ _ hl
      refine ⟨_, rfl, .inl ⟨rfl, _, SqL.of hl4⟩, l, us, .non, rfl, rfl, hl4, by rw [show us.length = allW.length from Paired.length hw]; exact small (by decide), ?_⟩
      exact ⟨_, _, rfl, hb2.to ((e3.trans e4).mut nl)⟩
    rintro σ H2 ⟨x2, x3, rfl, hb2⟩
    refine ⟨16, rfl, by decide, by decide, ?_⟩
    refine for_range (n := 16) (fun i σ H' => ∃ x2 x3 x4 x5 x6 x7 x8 x9 x10 x11 x12 : Option V, σ = [some (.ref a), some (.ref b), x2, x3, x4, x5, x6, x7, x8, x9, x10, x11, x12] ∧ Bag H' b) ?_ ?_ ?_
    · exact ⟨_, _, none, none, none, none, none, none, none, none, none, rfl, hb2⟩
    · rintro i σ H3 hi ⟨x2, x3, x4, x5, x6, x7, x8, x9, x10, x11, x12, rfl, hb3⟩
      -- words
      refine ⟨_, rfl, b, 5, rfl, hb3, by decide, by decide, fun u u0 u1 => ⟨u, rfl, by omega, by omega, fun D nD => ?_⟩⟩
      refine lc_range (lo := 0) (n := u.toNat) (fun j G => Ex H3 G ∧ ∃ (zs : List V) (ws : List Wrd), G D = some (.lst zs) ∧ WrdsAt K G zs ws ∧ ws.length = j ∧ ∀ x ∈ ws, x ∈ allW) ?_ ?_ ?_
      · exact ⟨Ex.new nD, [], [], upd_same, .nil, rfl, by simp⟩
      · rintro j G hj ⟨eG, zs, ws, hD, hw, lw, mw⟩
        refine ⟨rfl, _, rfl, b, rfl, hb3.to eG, fun v x G2 e2 hv hx => ?_⟩
        have hD2 := e2 _ _ hD
        have zl : zs.length = ws.length := Paired.length hw
        have fi : ExI G2 (upd G2 D (.lst (zs ++ [v]))) := ExI.put hD2 rfl
        refine ⟨zs, hD2, by rw [sizeLine_eq]; omega, (eG.trans e2).mut nD, zs ++ [v], ws ++ [x], upd_same, paired_app (wrds_toI hw ((ExI.of e2).trans fi)) (.cons (hv.toI fi) .nil), by rw [List.length_append, lw]; rfl, fun y hy => ?_⟩
        rcases List.mem_append.mp hy with h | h
        · exact mw y h
        · rw [List.mem_singleton] at h; rw [h]; exact hx
      rintro H4 ⟨e4, us, ws, hD, hw, lw, mw⟩
      -- pairs
      have hb4 := hb3.to e4
      refine ⟨_, rfl, b, 6, rfl, hb4, by decide, by decide, fun u' u0' u1' => ⟨u', rfl, by omega, by omega, fun D2 nD2 => ?_⟩⟩
      refine lc_range (lo := 0) (n := u'.toNat) (fun j G => Ex H4 G ∧ ∃ (zs : List V) (ps : List (Wrd × Wrd)), G D2 = some (.lst zs) ∧ Paired (WpAt K G) zs ps ∧ ps.length = j ∧ ∀ p ∈ ps, p.1 ∈ allW ∧ p.2 ∈ allW) ?_ ?_ ?_
      · exact ⟨Ex.new nD2, [], [], upd_same, .nil, rfl, by simp⟩
      · rintro j G hj ⟨eG, zs, ps, hD2, hp, lp, mp⟩
        refine ⟨rfl, _, rfl, b, rfl, hb4.to eG, fun v x G2 e2 hv hx => ?_⟩
        refine ⟨_, rfl, b, rfl, hb4.to (eG.trans e2), fun v' x' G3 e3 hv' hx' => ⟨sz2, fun T nT => ?_⟩⟩
        have X_G4 : Ex G3 (upd G3 T (.tup [v, v'])) := Ex.new nT
        have F_G4 : upd G3 T (.tup [v, v']) T = some (.tup [v, v']) := upd_same
        generalize upd G3 T (.tup [v, v']) = G4 at X_G4 F_G4 ⊢
        have x24 := e3.trans X_G4
        have hD4 := (e2.trans x24) _ _ hD2
        have zl : zs.length = ps.length := Paired.length hp
        have fi : ExI G4 (upd G4 D2 (.lst (zs ++ [.ref T]))) := ExI.put hD4 rfl
        have fa : ExI G (upd G4 D2 (.lst (zs ++ [.ref T]))) := (ExI.of (e2.trans x24)).trans fi
        refine ⟨zs, hD4, by rw [sizeLine_eq]; omega, (eG.trans (e2.trans x24)).mut nD2, zs ++ [.ref T], ps ++ [(x, x')], upd_same, paired_app (Paired.mapP hp fun _ _ z => wp_toI z fa) (.cons ⟨T, v, v', rfl, fi.sq (SqT.of F_G4), (hv.to x24).toI fi, (hv'.to X_G4).toI fi⟩ .nil), by rw [List.length_append, lp]; rfl, fun y hy => ?_⟩
        rcases List.mem_append.mp hy with h | h
        · exact mp y h
        · rw [List.mem_singleton] at h; rw [h]; exact ⟨hx, hx'⟩
      rintro H5 ⟨e5, qs, ps, hD2, hp, lp, mp⟩
      have e35 := e4.trans e5
      refine ⟨_, rfl, b, rfl, hb3.to e35, fun v x H6 e6 hx mx => ⟨_, _, rfl, ?_⟩⟩
      have hD6 := (e5.trans e6) _ _ hD
      have hw6 : WrdsAt K H6 us ws := wrds_toI hw (.of (e5.trans e6))
      have hE6 := e6 _ _ hD2
      have hp6 : Paired (WpAt K H6) qs ps := Paired.mapP hp fun _ _ z => z.to e6
      have e36 := e35.trans e6
      have lu : us.length = ws.length := Paired.length hw
      have lq : qs.length = ps.length := Paired.length hp
      have sw : ∀ y ∈ ws, Shrt y := fun y hy => words_short y (mw y hy)
      have sp : ∀ p ∈ ps, Shrt p.1 ∧ Shrt p.2 := fun p h => ⟨words_short _ (mp p h).1, words_short _ (mp p h).2⟩
      have l4 : ws.length ≤ 4 := by omega
      have l5 : ps.length ≤ 5 := by omega
      clear hD2 hp e6 e35 e4 e5 hD hw hb4
      -- how they read
      obtain ⟨k1, k2, k3, k4⟩ := both_ok sw sp (by omega) (by omega)
      have dd : ∀ G L, Ex H6 G → G L = some (.lst [.ref D, .ref D2]) → Dp K G (.ref L) (.list [.list (ws.map Wrd.data), .list (ps.map pairD)]) := fun G L e h =>
        .lst (SqL.of h) (.cons (.lst (SqL.of (e _ _ hD6)) ((wrds_dp hw6).to e)) (.cons (.lst (SqL.of (e _ _ hE6)) ((wps_dp hp6).to e)) .nil))
      refine ⟨_, rfl, _, rfl, sz2, fun L nL => ?_⟩
      have X_H7 : Ex H6 (upd H6 L (.lst [.ref D, .ref D2])) := Ex.new nL
      have F_H7 : upd H6 L (.lst [.ref D, .ref D2]) L = some (.lst [.ref D, .ref D2]) := upd_same
      generalize upd H6 L (.lst [.ref D, .ref D2]) = H7 at X_H7 F_H7 ⊢
      refine ⟨.ref L, _, rfl, dd _ _ X_H7 F_H7, k1, k2, k3, k4, ?_⟩
      -- what is due
      refine ⟨_, rfl, D, us, ws, "no", "yes", rfl, .inl ⟨rfl, rfl⟩, X_H7 _ _ hD6, wrds_toI hw6 (.of X_H7), l4, fun r1 p1 H8 e8 np1 hp1 m1 ln1 => ⟨p1, r1, rfl, hp1, by omega, fun w1 H9 e9 hw1 => ?_⟩⟩
      have x69 := (X_H7.trans e8).trans e9
      refine ⟨_, rfl, D, us, ws, "yes", "no", rfl, .inr ⟨rfl, rfl⟩, x69 _ _ hD6, wrds_toI hw6 (.of x69), l4, fun r2 p2 H10 e10 np2 hp2 m2 ln2 => ⟨p2, r2, rfl, hp2, by omega, fun w2 H11 e11 hw2 => ⟨sz2, fun U1 nU1 => ?_⟩⟩⟩
      have X_H12 : Ex H11 (upd H11 U1 (.lst [w1, w2])) := Ex.new nU1
      have F_H12 : upd H11 U1 (.lst [w1, w2]) U1 = some (.lst [w1, w2]) := upd_same
      generalize upd H11 U1 (.lst [w1, w2]) = H12 at X_H12 F_H12 ⊢
      have x912 := (e10.trans e11).trans X_H12
      have x612 := x69.trans x912
      refine ⟨_, rfl, _, rfl, _, rfl, D2, qs, ps, v, x, rfl, x612 _ _ hE6, Paired.mapP hp6 fun _ _ z => z.to x612, hx.to x612, by omega, by omega, fun r3 p3 H13 e13 np3 hp3 m3 ln3 => ⟨p3, r3, rfl, hp3, by (have := pw6 l5; omega), fun w3 H14 e14 hw3 => ?_⟩⟩
      have x614 := (x612.trans e13).trans e14
      refine ⟨_, rfl, D, us, ws, rfl, x614 _ _ hD6, wrds_toI hw6 (.of x614), by omega, by omega, fun r4 p4 H15 e15 np4 hp4 m4 ln4 => ⟨p4, r4, rfl, hp4, by (have := pw4 l4; omega), fun w4 H16 e16 hw4 => ⟨sz2, fun U2 nU2 => ?_⟩⟩⟩
      have X_H17 : Ex H16 (upd H16 U2 (.lst [w3, w4])) := Ex.new nU2
      have F_H17 : upd H16 U2 (.lst [w3, w4]) U2 = some (.lst [w3, w4]) := upd_same
      generalize upd H16 U2 (.lst [w3, w4]) = H17 at X_H17 F_H17 ⊢
      have x1216 := ((e13.trans e14).trans e15).trans e16
      refine ⟨U1, U2, _, _, rfl, rfl, (x1216.trans X_H17) _ _ F_H12, F_H17, by rw [sizeLine_eq]; show 4 ≤ 16777216; decide, fun U nU => ?_⟩
      rw [show [w1, w2] ++ [w3, w4] = [w1, w2, w3, w4] from rfl]
      have X_H18 : Ex H17 (upd H17 U (.lst [w1, w2, w3, w4])) := Ex.new nU
      have F_H18 : upd H17 U (.lst [w1, w2, w3, w4]) U = some (.lst [w1, w2, w3, w4]) := upd_same
      generalize upd H17 U (.lst [w1, w2, w3, w4]) = H18 at X_H18 F_H18 ⊢
      -- the words that are due
      have c1 : wordOf r1 = nodeW ranksAll ws := by
        rw [nodeW_all]
        exact word_hears m1 (node_hears de_all fun y hy => wok_all y (mw y hy)) (short_ne (nodeV_short (by decide +kernel) (by decide +kernel) ws _))
      have c2 : wordOf r2 = nodeW ranksAny ws := by
        rw [nodeW_any]
        exact word_hears m2 (node_hears de_any fun y hy => wok_any y (mw y hy)) (short_ne (nodeV_short (by decide +kernel) (by decide +kernel) ws _))
      have sx : Shrt x := words_short x mx
      have c3 : wordOf r3 = caseW ps x := by
        rw [caseW_eq]
        exact word_hears m3 (case_hears (fun p hp => ⟨words_fit _ (mp p hp).1, words_fit _ (mp p hp).2⟩) (words_fit x mx)) (short_ne (caseV_short sp sx))
      have c4 : wordOf r4 = firstW ws := by
        rw [firstW_eq]
        exact word_hears m4 (first_hears fun y hy => words_fit y (mw y hy)) (short_ne (firstV_short sw))
      rw [c1] at hw1
      rw [c2] at hw2
      rw [c3] at hw3
      rw [c4] at hw4
      have s1 : Shrt (nodeW ranksAll ws) := by rw [nodeW_all]; exact nodeV_short (by decide +kernel) (by decide +kernel) ws _
      have s2 : Shrt (nodeW ranksAny ws) := by rw [nodeW_any]; exact nodeV_short (by decide +kernel) (by decide +kernel) ws _
      have s3 : Shrt (caseW ps x) := by rw [caseW_eq]; exact caseV_short sp sx
      have s4 : Shrt (firstW ws) := by rw [firstW_eq]; exact firstV_short sw
      have x618 : Ex H6 H18 := (((x614.trans e15).trans e16).trans X_H17).trans X_H18
      have y1 : WrdAt K H18 w1 (nodeW ranksAll ws) := hw1.to (((x912.trans x1216).trans X_H17).trans X_H18)
      have y2 : WrdAt K H18 w2 (nodeW ranksAny ws) := hw2.to ((((X_H12.trans x1216)).trans X_H17).trans X_H18)
      have y3 : WrdAt K H18 w3 (caseW ps x) := hw3.to (((e15.trans e16).trans X_H17).trans X_H18)
      have y4 : WrdAt K H18 w4 (firstW ws) := hw4.to (X_H17.trans X_H18)
      clear c1 c2 c3 c4 hw1 hw2 hw3 hw4 m1 m2 m3 m4 hp1 hp2 hp3 hp4 x912 x1216 X_H17 X_H18 X_H12 F_H12 F_H17 x614 x612 x69 e8 e9 e10 e11 e13 e14 e15 e16 X_H7 F_H7
      refine ⟨2, rfl, by decide, by decide, ?_⟩
      refine for_range (n := 2) (fun j σ G => ∃ (x2 : Option V), σ = [some (.ref a), some (.ref b), x2, x3, some (.int (0 + (i : Nat))), some (.ref D), x6, some (.ref D2), some v, some (.str (PyData.list [.list (ws.map Wrd.data), .list (ps.map pairD)]).shown), some (.ref U), x11, x12] ∧ Ex H18 G) ?_ ?_ ?_
      · exact ⟨_, rfl, Ex.refl _⟩
      · rintro j σ G hj ⟨x2', rfl, eG⟩
        have e6G := x618.trans eG
        refine ⟨_, rfl, D, us, ws, rfl, e6G _ _ hD6, wrds_toI hw6 (.of e6G), by omega, fun z1 G1 g1 hz1 => ?_⟩
        have e61 := e6G.trans g1
        refine ⟨_, rfl, D, us, ws, rfl, e61 _ _ hD6, wrds_toI hw6 (.of e61), by omega, fun z2 G2 g2 hz2 => ?_⟩
        have e62 := e61.trans g2
        refine ⟨_, rfl, _, rfl, D2, qs, ps, v, x, rfl, e62 _ _ hE6, Paired.mapP hp6 fun _ _ z => z.to e62, by omega, hx.to e62, fun z3 G3 g3 hz3 => ?_⟩
        have e63 := e62.trans g3
        refine ⟨_, rfl, D, us, ws, rfl, e63 _ _ hD6, wrds_toI hw6 (.of e63), by omega, fun z4 G4 g4 hz4 => ⟨sz4, fun R nR => ?_⟩⟩
        have X_G5 : Ex G4 (upd G4 R (.lst [z1, z2, z3, z4])) := Ex.new nR
        have F_G5 : upd G4 R (.lst [z1, z2, z3, z4]) R = some (.lst [z1, z2, z3, z4]) := upd_same
        generalize upd G4 R (.lst [z1, z2, z3, z4]) = G5 at X_G5 F_G5 ⊢
        have h25 := ((g2.trans g3).trans g4).trans X_G5
        have hG5 := eG.trans (g1.trans h25)
        obtain ⟨q1, q2, q3⟩ := list_ok (ws := [nodeW ranksAll ws, nodeW ranksAny ws, caseW ps x, firstW ws]) (by
          intro y hy
          simp only [List.mem_cons, List.not_mem_nil, or_false] at hy
          rcases hy with rfl | rfl | rfl | rfl
          · exact s1
          · exact s2
          · exact s3
          · exact s4) (by show 4 ≤ 100; decide)
        refine ⟨_, rfl, .ref R, .ref U, _, rfl, .lst (SqL.of F_G5) (.cons (hz1.to h25).dp (.cons (hz2.to ((g3.trans g4).trans X_G5)).dp (.cons (hz3.to (g4.trans X_G5)).dp (.cons (hz4.to X_G5).dp .nil)))),
          .lst (SqL.of (hG5 _ _ F_H18)) (.cons (y1.to hG5).dp (.cons (y2.to hG5).dp (.cons (y3.to hG5).dp (.cons (y4.to hG5).dp .nil)))), q1, q2, q3, _, rfl, if_f rfl ⟨_, rfl, hG5⟩⟩
      rintro σ G ⟨x2', rfl, eG⟩
      clear y1 y2 y3 y4
      have x6G := x618.trans eG
      refine ⟨_, rfl, _, rfl, sz2, fun L2 nL2 => ?_⟩
      have X_G2 : Ex G (upd G L2 (.lst [.ref D, .ref D2])) := Ex.new nL2
      have F_G2 : upd G L2 (.lst [.ref D, .ref D2]) L2 = some (.lst [.ref D, .ref D2]) := upd_same
      generalize upd G L2 (.lst [.ref D, .ref D2]) = G2 at X_G2 F_G2 ⊢
      refine ⟨.ref L2, _, rfl, dd _ _ (x6G.trans X_G2) F_G2, k1, k2, k3, k4, _, rfl, rfl, _, rfl, if_f (by simp) ?_⟩
      have x6G2 := x6G.trans X_G2
      refine ⟨_, rfl, _, rfl, b, v, x, rfl, hb3.to (e36.trans x6G2), hx.to x6G2, mx, fun J0 ej => ⟨_, rfl, if_f rfl ?_⟩⟩
      have x6J := x6G2.trans ej
      refine ⟨Nat.zero_le _, fun t1 nt1 => ?_⟩
      have X_J1 : Ex J0 (upd J0 t1 (.tup [])) := Ex.new nt1
      have F_J1 : upd J0 t1 (.tup []) t1 = some (.tup []) := upd_same
      generalize upd J0 t1 (.tup []) = J1 at X_J1 F_J1 ⊢
      refine ⟨sz1, fun t2 nt2 => ?_⟩
      have X_J2 : Ex J1 (upd J1 t2 (.tup [.str "yes"])) := Ex.new nt2
      have F_J2 : upd J1 t2 (.tup [.str "yes"]) t2 = some (.tup [.str "yes"]) := upd_same
      generalize upd J1 t2 (.tup [.str "yes"]) = J2 at X_J2 F_J2 ⊢
      refine ⟨sz2, fun t3 nt3 => ?_⟩
      have X_J3 : Ex J2 (upd J2 t3 (.lst [.str "yes", .bl false])) := Ex.new nt3
      have F_J3 : upd J2 t3 (.lst [.str "yes", .bl false]) t3 = some (.lst [.str "yes", .bl false]) := upd_same
      generalize upd J2 t3 (.lst [.str "yes", .bl false]) = J3 at X_J3 F_J3 ⊢
      refine ⟨sz2, fun t4 nt4 => ?_⟩
      have X_J4 : Ex J3 (upd J3 t4 (.tup [.str "yes", .int 0])) := Ex.new nt4
      have F_J4 : upd J3 t4 (.tup [.str "yes", .int 0]) t4 = some (.tup [.str "yes", .int 0]) := upd_same
      generalize upd J3 t4 (.tup [.str "yes", .int 0]) = J4 at X_J4 F_J4 ⊢
      refine ⟨sz2, fun t5 nt5 => ?_⟩
      have X_J5 : Ex J4 (upd J4 t5 (.tup [.str "yes", .non])) := Ex.new nt5
      have F_J5 : upd J4 t5 (.tup [.str "yes", .non]) t5 = some (.tup [.str "yes", .non]) := upd_same
      generalize upd J4 t5 (.tup [.str "yes", .non]) = J5 at X_J5 F_J5 ⊢
      refine ⟨sz2, fun t6 nt6 => ?_⟩
      have X_J6 : Ex J5 (upd J5 t6 (.tup [.non, .bl false])) := Ex.new nt6
      have F_J6 : upd J5 t6 (.tup [.non, .bl false]) t6 = some (.tup [.non, .bl false]) := upd_same
      generalize upd J5 t6 (.tup [.non, .bl false]) = J6 at X_J6 F_J6 ⊢
      refine ⟨sz2, fun t7 nt7 => ?_⟩
      have X_J7 : Ex J6 (upd J6 t7 (.tup [.str "error", .bl true])) := Ex.new nt7
      have F_J7 : upd J6 t7 (.tup [.str "error", .bl true]) t7 = some (.tup [.str "error", .bl true]) := upd_same
      generalize upd J6 t7 (.tup [.str "error", .bl true]) = J7 at X_J7 F_J7 ⊢
      refine ⟨by rw [sizeLine_eq]; show 9 ≤ 16777216; decide, fun O1 nO1 => ?_⟩
      have X_J8 : Ex J7 (upd J7 O1 (.lst [.non, .str "yes", .ref t1, .ref t2, .ref t3, .ref t4, .ref t5, .ref t6, .ref t7])) := Ex.new nO1
      have F_J8 : upd J7 O1 (.lst [.non, .str "yes", .ref t1, .ref t2, .ref t3, .ref t4, .ref t5, .ref t6, .ref t7]) O1 = some (.lst [.non, .str "yes", .ref t1, .ref t2, .ref t3, .ref t4, .ref t5, .ref t6, .ref t7]) := upd_same
      generalize upd J7 O1 (.lst [.non, .str "yes", .ref t1, .ref t2, .ref t3, .ref t4, .ref t5, .ref t6, .ref t7]) = J8 at X_J8 F_J8 ⊢
      refine ⟨_, rfl, ?_⟩
      refine ⟨sz2, fun t8 nt8 => ?_⟩
      have X_J9 : Ex J8 (upd J8 t8 (.tup [.str "", .bl true])) := Ex.new nt8
      have F_J9 : upd J8 t8 (.tup [.str "", .bl true]) t8 = some (.tup [.str "", .bl true]) := upd_same
      generalize upd J8 t8 (.tup [.str "", .bl true]) = J9 at X_J9 F_J9 ⊢
      refine ⟨sz2, fun t9 nt9 => ?_⟩
      have X_J10 : Ex J9 (upd J9 t9 (.tup [.str "n", .bl true])) := Ex.new nt9
      have F_J10 : upd J9 t9 (.tup [.str "n", .bl true]) t9 = some (.tup [.str "n", .bl true]) := upd_same
      generalize upd J9 t9 (.tup [.str "n", .bl true]) = J10 at X_J10 F_J10 ⊢
      refine ⟨sz2, fun t10 nt10 => ?_⟩
      have X_J11 : Ex J10 (upd J10 t10 (.tup [.str "no unknown", .bl false])) := Ex.new nt10
      have F_J11 : upd J10 t10 (.tup [.str "no unknown", .bl false]) t10 = some (.tup [.str "no unknown", .bl false]) := upd_same
      generalize upd J10 t10 (.tup [.str "no unknown", .bl false]) = J11 at X_J11 F_J11 ⊢
      refine ⟨sz3, fun O2 nO2 => ?_⟩
      have X_J12 : Ex J11 (upd J11 O2 (.lst [.ref t8, .ref t9, .ref t10])) := Ex.new nO2
      have F_J12 : upd J11 O2 (.lst [.ref t8, .ref t9, .ref t10]) O2 = some (.lst [.ref t8, .ref t9, .ref t10]) := upd_same
      generalize upd J11 O2 (.lst [.ref t8, .ref t9, .ref t10]) = J12 at X_J12 F_J12 ⊢
      refine ⟨O1, O2, _, _, rfl, rfl, (((X_J9.trans X_J10).trans X_J11).trans X_J12) _ _ F_J8, F_J12, by rw [sizeLine_eq]; show 12 ≤ 16777216; decide, fun O3 nO3 => ?_⟩
      rw [show ([.non, .str "yes", .ref t1, .ref t2, .ref t3, .ref t4, .ref t5, .ref t6, .ref t7] : List V) ++ [.ref t8, .ref t9, .ref t10] = [.non, .str "yes", .ref t1, .ref t2, .ref t3, .ref t4, .ref t5, .ref t6, .ref t7, .ref t8, .ref t9, .ref t10] from rfl]
      have X_J13 : Ex J12 (upd J12 O3 (.lst [.non, .str "yes", .ref t1, .ref t2, .ref t3, .ref t4, .ref t5, .ref t6, .ref t7, .ref t8, .ref t9, .ref t10])) := Ex.new nO3
      have F_J13 : upd J12 O3 (.lst [.non, .str "yes", .ref t1, .ref t2, .ref t3, .ref t4, .ref t5, .ref t6, .ref t7, .ref t8, .ref t9, .ref t10]) O3 = some (.lst [.non, .str "yes", .ref t1, .ref t2, .ref t3, .ref t4, .ref t5, .ref t6, .ref t7, .ref t8, .ref t9, .ref t10]) := upd_same
      generalize upd J12 O3 (.lst [.non, .str "yes", .ref t1, .ref t2, .ref t3, .ref t4, .ref t5, .ref t6, .ref t7, .ref t8, .ref t9, .ref t10]) = J13 at X_J13 F_J13 ⊢
      refine ⟨_, rfl, ?_⟩
      refine ⟨sz2, fun t11 nt11 => ?_⟩
      have X_J14 : Ex J13 (upd J13 t11 (.tup [.str "Yes", .bl true])) := Ex.new nt11
      have F_J14 : upd J13 t11 (.tup [.str "Yes", .bl true]) t11 = some (.tup [.str "Yes", .bl true]) := upd_same
      generalize upd J13 t11 (.tup [.str "Yes", .bl true]) = J14 at X_J14 F_J14 ⊢
      refine ⟨sz2, fun t12 nt12 => ?_⟩
      have X_J15 : Ex J14 (upd J14 t12 (.tup [.bl true, .bl true])) := Ex.new nt12
      have F_J15 : upd J14 t12 (.tup [.bl true, .bl true]) t12 = some (.tup [.bl true, .bl true]) := upd_same
      generalize upd J14 t12 (.tup [.bl true, .bl true]) = J15 at X_J15 F_J15 ⊢
      refine ⟨sz2, fun t13 nt13 => ?_⟩
      have X_J16 : Ex J15 (upd J15 t13 (.tup [.int 0, .bl true])) := Ex.new nt13
      have F_J16 : upd J15 t13 (.tup [.int 0, .bl true]) t13 = some (.tup [.int 0, .bl true]) := upd_same
      generalize upd J15 t13 (.tup [.int 0, .bl true]) = J16 at X_J16 F_J16 ⊢
      refine ⟨sz1, fun t14 nt14 => ?_⟩
      have X_J17 : Ex J16 (upd J16 t14 (.lst [.str "yes"])) := Ex.new nt14
      have F_J17 : upd J16 t14 (.lst [.str "yes"]) t14 = some (.lst [.str "yes"]) := upd_same
      generalize upd J16 t14 (.lst [.str "yes"]) = J17 at X_J17 F_J17 ⊢
      refine ⟨sz2, fun t15 nt15 => ?_⟩
      have X_J18 : Ex J17 (upd J17 t15 (.tup [.ref t14, .bl true])) := Ex.new nt15
      have F_J18 : upd J17 t15 (.tup [.ref t14, .bl true]) t15 = some (.tup [.ref t14, .bl true]) := upd_same
      generalize upd J17 t15 (.tup [.ref t14, .bl true]) = J18 at X_J18 F_J18 ⊢
      refine ⟨sz3, fun t16 nt16 => ?_⟩
      have X_J19 : Ex J18 (upd J18 t16 (.tup [.str "yes", .bl true, .bl true])) := Ex.new nt16
      have F_J19 : upd J18 t16 (.tup [.str "yes", .bl true, .bl true]) t16 = some (.tup [.str "yes", .bl true, .bl true]) := upd_same
      generalize upd J18 t16 (.tup [.str "yes", .bl true, .bl true]) = J19 at X_J19 F_J19 ⊢
      refine fun dq ndq => ⟨upd_same, [(.inr "yes", .bl true)], rfl, by decide, ?_⟩
      have X_J20 : Ex J19 (upd (upd J19 dq (.dK [])) dq (.dK (mergeK [] [((.inr "yes" : Key), V.bl true)]))) := by rw [upd_upd]; exact Ex.new ndq
      have F_J20 : upd (upd J19 dq (.dK [])) dq (.dK (mergeK [] [((.inr "yes" : Key), V.bl true)])) dq = some (.dK [(.inr "yes", .bl true)]) := by rw [upd_same, merge_one]
      generalize upd (upd J19 dq (.dK [])) dq (.dK (mergeK [] [((.inr "yes" : Key), V.bl true)])) = J20 at X_J20 F_J20 ⊢
      refine ⟨by rw [sizeLine_eq]; show 6 ≤ 16777216; decide, fun O4 nO4 => ?_⟩
      have X_J21 : Ex J20 (upd J20 O4 (.lst [.ref t11, .ref t12, .ref t13, .ref t15, .ref t16, .ref dq])) := Ex.new nO4
      have F_J21 : upd J20 O4 (.lst [.ref t11, .ref t12, .ref t13, .ref t15, .ref t16, .ref dq]) O4 = some (.lst [.ref t11, .ref t12, .ref t13, .ref t15, .ref t16, .ref dq]) := upd_same
      generalize upd J20 O4 (.lst [.ref t11, .ref t12, .ref t13, .ref t15, .ref t16, .ref dq]) = J21 at X_J21 F_J21 ⊢
      refine ⟨O3, O4, _, _, rfl, rfl, (((((((X_J14.trans X_J15).trans X_J16).trans X_J17).trans X_J18).trans X_J19).trans X_J20).trans X_J21) _ _ F_J13, F_J21, by rw [sizeLine_eq]; show 18 ≤ 16777216; decide, fun O5 nO5 => ?_⟩
      rw [show ([.non, .str "yes", .ref t1, .ref t2, .ref t3, .ref t4, .ref t5, .ref t6, .ref t7, .ref t8, .ref t9, .ref t10] : List V) ++ [.ref t11, .ref t12, .ref t13, .ref t15, .ref t16, .ref dq] = [.non, .str "yes", .ref t1, .ref t2, .ref t3, .ref t4, .ref t5, .ref t6, .ref t7, .ref t8, .ref t9, .ref t10, .ref t11, .ref t12, .ref t13, .ref t15, .ref t16, .ref dq] from rfl]
      have X_J22 : Ex J21 (upd J21 O5 (.lst [.non, .str "yes", .ref t1, .ref t2, .ref t3, .ref t4, .ref t5, .ref t6, .ref t7, .ref t8, .ref t9, .ref t10, .ref t11, .ref t12, .ref t13, .ref t15, .ref t16, .ref dq])) := Ex.new nO5
      have F_J22 : upd J21 O5 (.lst [.non, .str "yes", .ref t1, .ref t2, .ref t3, .ref t4, .ref t5, .ref t6, .ref t7, .ref t8, .ref t9, .ref t10, .ref t11, .ref t12, .ref t13, .ref t15, .ref t16, .ref dq]) O5 = some (.lst [.non, .str "yes", .ref t1, .ref t2, .ref t3, .ref t4, .ref t5, .ref t6, .ref t7, .ref t8, .ref t9, .ref t10, .ref t11, .ref t12, .ref t13, .ref t15, .ref t16, .ref dq]) := upd_same
      generalize upd J21 O5 (.lst [.non, .str "yes", .ref t1, .ref t2, .ref t3, .ref t4, .ref t5, .ref t6, .ref t7, .ref t8, .ref t9, .ref t10, .ref t11, .ref t12, .ref t13, .ref t15, .ref t16, .ref dq]) = J22 at X_J22 F_J22 ⊢
      refine ⟨_, rfl, _, rfl, sz1, fun O6 nO6 => ?_⟩
      have X_J23 : Ex J22 (upd J22 O6 (.lst [v])) := Ex.new nO6
      have F_J23 : upd J22 O6 (.lst [v]) O6 = some (.lst [v]) := upd_same
      generalize upd J22 O6 (.lst [v]) = J23 at X_J23 F_J23 ⊢
      refine ⟨O5, O6, _, _, rfl, rfl, X_J23 _ _ F_J22, F_J23, by rw [sizeLine_eq]; show 19 ≤ 16777216; decide, fun O7 nO7 => ?_⟩
      rw [show ([.non, .str "yes", .ref t1, .ref t2, .ref t3, .ref t4, .ref t5, .ref t6, .ref t7, .ref t8, .ref t9, .ref t10, .ref t11, .ref t12, .ref t13, .ref t15, .ref t16, .ref dq] : List V) ++ [v] = [.non, .str "yes", .ref t1, .ref t2, .ref t3, .ref t4, .ref t5, .ref t6, .ref t7, .ref t8, .ref t9, .ref t10, .ref t11, .ref t12, .ref t13, .ref t15, .ref t16, .ref dq, v] from rfl]
      have X_J24 : Ex J23 (upd J23 O7 (.lst [.non, .str "yes", .ref t1, .ref t2, .ref t3, .ref t4, .ref t5, .ref t6, .ref t7, .ref t8, .ref t9, .ref t10, .ref t11, .ref t12, .ref t13, .ref t15, .ref t16, .ref dq, v])) := Ex.new nO7
      have F_J24 : upd J23 O7 (.lst [.non, .str "yes", .ref t1, .ref t2, .ref t3, .ref t4, .ref t5, .ref t6, .ref t7, .ref t8, .ref t9, .ref t10, .ref t11, .ref t12, .ref t13, .ref t15, .ref t16, .ref dq, v]) O7 = some (.lst [.non, .str "yes", .ref t1, .ref t2, .ref t3, .ref t4, .ref t5, .ref t6, .ref t7, .ref t8, .ref t9, .ref t10, .ref t11, .ref t12, .ref t13, .ref t15, .ref t16, .ref dq, v]) := upd_same
      generalize upd J23 O7 (.lst [.non, .str "yes", .ref t1, .ref t2, .ref t3, .ref t4, .ref t5, .ref t6, .ref t7, .ref t8, .ref t9, .ref t10, .ref t11, .ref t12, .ref t13, .ref t15, .ref t16, .ref dq, v]) = J24 at X_J24 F_J24 ⊢
      have good : ∀ y ∈ ([.non, .str "yes", .ref t1, .ref t2, .ref t3, .ref t4, .ref t5, .ref t6, .ref t7, .ref t8, .ref t9, .ref t10, .ref t11, .ref t12, .ref t13, .ref t15, .ref t16, .ref dq, v] : List V), ∃ d, Dq K J24 y d ∧ goodB d = true := by
        intro y hy
        simp only [List.mem_cons, List.not_mem_nil, or_false] at hy
        rcases hy with rfl | rfl | rfl | rfl | rfl | rfl | rfl | rfl | rfl | rfl | rfl | rfl | rfl | rfl | rfl | rfl | rfl | rfl | rfl
        · exact ⟨_, .non, by decide +kernel⟩
        · exact ⟨_, .str _, by decide +kernel⟩
        · exact ⟨_, (.tup (SqT.of (((((((((((((((((((((((X_J2.trans X_J3).trans X_J4).trans X_J5).trans X_J6).trans X_J7).trans X_J8).trans X_J9).trans X_J10).trans X_J11).trans X_J12).trans X_J13).trans X_J14).trans X_J15).trans X_J16).trans X_J17).trans X_J18).trans X_J19).trans X_J20).trans X_J21).trans X_J22).trans X_J23).trans X_J24) _ _ F_J1)) .nil), by decide +kernel⟩
        · exact ⟨_, (.tup (SqT.of ((((((((((((((((((((((X_J3.trans X_J4).trans X_J5).trans X_J6).trans X_J7).trans X_J8).trans X_J9).trans X_J10).trans X_J11).trans X_J12).trans X_J13).trans X_J14).trans X_J15).trans X_J16).trans X_J17).trans X_J18).trans X_J19).trans X_J20).trans X_J21).trans X_J22).trans X_J23).trans X_J24) _ _ F_J2)) (.cons (.str _) .nil)), by decide +kernel⟩
        · exact ⟨_, (.lst (SqL.of (((((((((((((((((((((X_J4.trans X_J5).trans X_J6).trans X_J7).trans X_J8).trans X_J9).trans X_J10).trans X_J11).trans X_J12).trans X_J13).trans X_J14).trans X_J15).trans X_J16).trans X_J17).trans X_J18).trans X_J19).trans X_J20).trans X_J21).trans X_J22).trans X_J23).trans X_J24) _ _ F_J3)) (.cons (.str _) (.cons (.bl _) .nil))), by decide +kernel⟩
        · exact ⟨_, (.tup (SqT.of ((((((((((((((((((((X_J5.trans X_J6).trans X_J7).trans X_J8).trans X_J9).trans X_J10).trans X_J11).trans X_J12).trans X_J13).trans X_J14).trans X_J15).trans X_J16).trans X_J17).trans X_J18).trans X_J19).trans X_J20).trans X_J21).trans X_J22).trans X_J23).trans X_J24) _ _ F_J4)) (.cons (.str _) (.cons (.int _) .nil))), by decide +kernel⟩
        · exact ⟨_, (.tup (SqT.of (((((((((((((((((((X_J6.trans X_J7).trans X_J8).trans X_J9).trans X_J10).trans X_J11).trans X_J12).trans X_J13).trans X_J14).trans X_J15).trans X_J16).trans X_J17).trans X_J18).trans X_J19).trans X_J20).trans X_J21).trans X_J22).trans X_J23).trans X_J24) _ _ F_J5)) (.cons (.str _) (.cons .non .nil))), by decide +kernel⟩
        · exact ⟨_, (.tup (SqT.of ((((((((((((((((((X_J7.trans X_J8).trans X_J9).trans X_J10).trans X_J11).trans X_J12).trans X_J13).trans X_J14).trans X_J15).trans X_J16).trans X_J17).trans X_J18).trans X_J19).trans X_J20).trans X_J21).trans X_J22).trans X_J23).trans X_J24) _ _ F_J6)) (.cons .non (.cons (.bl _) .nil))), by decide +kernel⟩
        · exact ⟨_, (.tup (SqT.of (((((((((((((((((X_J8.trans X_J9).trans X_J10).trans X_J11).trans X_J12).trans X_J13).trans X_J14).trans X_J15).trans X_J16).trans X_J17).trans X_J18).trans X_J19).trans X_J20).trans X_J21).trans X_J22).trans X_J23).trans X_J24) _ _ F_J7)) (.cons (.str _) (.cons (.bl _) .nil))), by decide +kernel⟩
        · exact ⟨_, (.tup (SqT.of (((((((((((((((X_J10.trans X_J11).trans X_J12).trans X_J13).trans X_J14).trans X_J15).trans X_J16).trans X_J17).trans X_J18).trans X_J19).trans X_J20).trans X_J21).trans X_J22).trans X_J23).trans X_J24) _ _ F_J9)) (.cons (.str _) (.cons (.bl _) .nil))), by decide +kernel⟩
        · exact ⟨_, (.tup (SqT.of ((((((((((((((X_J11.trans X_J12).trans X_J13).trans X_J14).trans X_J15).trans X_J16).trans X_J17).trans X_J18).trans X_J19).trans X_J20).trans X_J21).trans X_J22).trans X_J23).trans X_J24) _ _ F_J10)) (.cons (.str _) (.cons (.bl _) .nil))), by decide +kernel⟩
        · exact ⟨_, (.tup (SqT.of (((((((((((((X_J12.trans X_J13).trans X_J14).trans X_J15).trans X_J16).trans X_J17).trans X_J18).trans X_J19).trans X_J20).trans X_J21).trans X_J22).trans X_J23).trans X_J24) _ _ F_J11)) (.cons (.str _) (.cons (.bl _) .nil))), by decide +kernel⟩
        · exact ⟨_, (.tup (SqT.of ((((((((((X_J15.trans X_J16).trans X_J17).trans X_J18).trans X_J19).trans X_J20).trans X_J21).trans X_J22).trans X_J23).trans X_J24) _ _ F_J14)) (.cons (.str _) (.cons (.bl _) .nil))), by decide +kernel⟩
        · exact ⟨_, (.tup (SqT.of (((((((((X_J16.trans X_J17).trans X_J18).trans X_J19).trans X_J20).trans X_J21).trans X_J22).trans X_J23).trans X_J24) _ _ F_J15)) (.cons (.bl _) (.cons (.bl _) .nil))), by decide +kernel⟩
        · exact ⟨_, (.tup (SqT.of ((((((((X_J17.trans X_J18).trans X_J19).trans X_J20).trans X_J21).trans X_J22).trans X_J23).trans X_J24) _ _ F_J16)) (.cons (.int _) (.cons (.bl _) .nil))), by decide +kernel⟩
        · exact ⟨_, (.tup (SqT.of ((((((X_J19.trans X_J20).trans X_J21).trans X_J22).trans X_J23).trans X_J24) _ _ F_J18)) (.cons (.lst (SqL.of (((((((X_J18.trans X_J19).trans X_J20).trans X_J21).trans X_J22).trans X_J23).trans X_J24) _ _ F_J17)) (.cons (.str _) .nil)) (.cons (.bl _) .nil))), by decide +kernel⟩
        · exact ⟨_, (.tup (SqT.of (((((X_J20.trans X_J21).trans X_J22).trans X_J23).trans X_J24) _ _ F_J19)) (.cons (.str _) (.cons (.bl _) (.cons (.bl _) .nil)))), by decide +kernel⟩
        · exact ⟨_, .dct ((((X_J21.trans X_J22).trans X_J23).trans X_J24) _ _ F_J20) (.cons (.bl _) .nil), by decide +kernel⟩
        · exact ⟨_, (hx.to (x6J.trans (((((((((((((((((((((((X_J1.trans X_J2).trans X_J3).trans X_J4).trans X_J5).trans X_J6).trans X_J7).trans X_J8).trans X_J9).trans X_J10).trans X_J11).trans X_J12).trans X_J13).trans X_J14).trans X_J15).trans X_J16).trans X_J17).trans X_J18).trans X_J19).trans X_J20).trans X_J21).trans X_J22).trans X_J23).trans X_J24))).dp.dq, good_words x mx⟩
      generalize ([.non, .str "yes", .ref t1, .ref t2, .ref t3, .ref t4, .ref t5, .ref t6, .ref t7, .ref t8, .ref t9, .ref t10, .ref t11, .ref t12, .ref t13, .ref t15, .ref t16, .ref dq, v] : List V) = ys at F_J24 good ⊢
      refine ⟨O7, rfl, ⟨_, SqL.of F_J24⟩, ?_⟩
      refine for_list (xs := ys) (fun j σ G => ∃ (x12' : Option V), σ = [some (.ref a), some (.ref b), x2', x3, some (.int (0 + (i : Nat))), some (.ref D), x6, some (.ref D2), some v, some (.str (PyData.list [.list (ws.map Wrd.data), .list (ps.map pairD)]).shown), some (.ref U), some (.ref O5), x12'] ∧ Ex J24 G) ?_ (fun j σ G _ z => ?_) ?_ ?_
      · exact ⟨_, rfl, Ex.refl _⟩
      · obtain ⟨_, _, e⟩ := z
        exact SqL.of (e _ _ F_J24)
      · rintro j y σ G' hj ⟨x12', rfl, eG'⟩
        obtain ⟨d, hd, gd⟩ := good y (List.mem_of_getElem? hj)
        obtain ⟨g1, g2, g3, g4⟩ := good_of gd
        refine ⟨_, rfl, y, d, rfl, hd.to eG', fun G3 g3' => ?_⟩
        refine ⟨_, rfl, y, d, rfl, hd.to (eG'.trans g3'), g2, g3, g4, fun G4 g4' => ?_⟩
        rw [← g1]
        exact ⟨_, _, .bool (isWordD d), rfl, .bl _, .bl _, rfl, rfl, by cases isWordD d <;> decide, _, rfl, if_f rfl ⟨_, rfl, eG'.trans (g3'.trans g4')⟩⟩
      · rintro σ G' ⟨x12', rfl, eG'⟩
        exact ⟨_, _, _, _, _, _, _, _, _, _, _, rfl, hb3.to (((e36.trans x6J).trans (((((((((((((((((((((((X_J1.trans X_J2).trans X_J3).trans X_J4).trans X_J5).trans X_J6).trans X_J7).trans X_J8).trans X_J9).trans X_J10).trans X_J11).trans X_J12).trans X_J13).trans X_J14).trans X_J15).trans X_J16).trans X_J17).trans X_J18).trans X_J19).trans X_J20).trans X_J21).trans X_J22).trans X_J23).trans X_J24)).trans eG')⟩
    · rintro σ H3 ⟨x2, x3, x4, x5, x6, x7, x8, x9, x10, x11, x12, rfl, hb3⟩
      exact k _
end
end K40

set_option Elab.async false
set_option linter.all false
set_option maxRecDepth 100000
set_option maxHeartbeats 8000000
namespace K40
open PySem PySem.Spec PyProof.Rows L2 Evl Gx
theorem isdef_mk {K : PySem.W.Frag} {x qual : Str} {st : Stmt} {f : Addr} {oc : Value} {od : Option Addr} {kV doc pm : Value} {an : Option Addr} {cdv ct : Value} {osl : Array (Option Value)}
    (l : K.lookup f = some ⟨oc, od, .func (PySem.W.fnOf x qual (defArgs st) (defBody st) (defScope st) .none kV doc pm an cdv ct), osl⟩)
    (c : PySem.W.codeIn K cdv qual = true) (k : PySem.W.keepIn K (.ref f) = true) : IsDef K x qual st f := ⟨_, _, _, _, _, _, _, _, _, l, c, k⟩
theorem cls_mk {K : PySem.W.Frag} {C : Addr} {nm q : Str} {N : Addr} {bs bm : List Value} {sn : List Str} {sub : List Value} {ab : Bool} {col : Option Bool} {dd : Option Addr} {k0 k1 k2 k3 k5 : Option Value}
    (l : K.lookup C = some (excClassObj nm q C N bs bm true sn sub ab col dd k0 k1 k2 k3 k5 "ValueError.__new__")) (v : HandSPX.refsVE bm = true) :
    ∃ nm q N bs bm sn sub ab col dd k0 k1 k2 k3 k5, K.lookup C = some (excClassObj nm q C N bs bm true sn sub ab col dd k0 k1 k2 k3 k5 "ValueError.__new__") ∧ HandSPX.refsVE bm = true :=
  ⟨_, _, _, _, _, _, _, _, _, _, _, _, _, _, _, l, v⟩
/-- the error class's own clause takes it -/
theorem exm_own {K : PySem.W.Frag} {C : Addr} (h1 : PySem.W.subIn K (.ref C) (.type "BaseException") = some true) (h2 : PySem.W.isClsIn K C = true)
    (h3 : PySem.W.typeIn K (.ref C) = some (.type "type")) (h4 : PySem.W.subIn K (.ref C) (.ref C) = some true) : PySem.W.exmOne K (.ref C) (.ref C) = some true := by
  have g : (PySem.W.clsIn K C).isSome = true := h2
  have b : ((PySem.W.clsIn K C).isSome && PySem.W.typeIn K (.ref C) == some (.type "type")) = true := by rw [g, h3]; rfl
  have a : (PySem.W.subIn K (.ref C) (.type "BaseException") == some true) = true := by rw [h1]; rfl
  show (if (PySem.W.subIn K (.ref C) (.type "BaseException") == some true) = true then
    (if ((PySem.W.clsIn K C).isSome && PySem.W.typeIn K (.ref C) == some (.type "type")) = true then PySem.W.subIn K (.ref C) (.ref C) else none) else none) = some true
  rw [if_pos a, if_pos b]
  exact h4
theorem err_mk {K : PySem.W.Frag} {h : Heap} {mg : Str → Option Value} {x qual fl : Str} {ps : List Str} {st : Stmt} {C fI : Addr} (X : K.In h) (G : h.Ns mainGlobals mg)
    (aC : PySem.W.nsIn K mainGlobals x = some (some (.ref C)))
    (cC : ∃ nm q N bs bm sn sub ab col dd k0 k1 k2 k3 k5, K.lookup C = some (excClassObj nm q C N bs bm true sn sub ab col dd k0 k1 k2 k3 k5 "ValueError.__new__") ∧ HandSPX.refsVE bm = true)
    (sa : PySem.W.findIn K (.ref C) "__setattr__" = some (some (.builtin "object.__setattr__")))
    (ga : PySem.W.findIn K (.ref C) "__getattribute__" = some (some (.builtin "BaseException.__getattribute__")))
    (gg : PySem.W.findIn K (.ref C) "__getattr__" = some none) (no : PySem.W.findIn K (.ref C) fl = some none)
    (iC : PySem.W.findIn K (.ref C) "__init__" = some (some (.ref fI))) (tI : PySem.W.typeIn K (.ref fI) = some (.type "function"))
    (kC : PySem.W.keepIn K (.ref C) = true) (eC : PySem.W.subIn K (.ref C) (.type "BaseException") = some true) (tC : PySem.W.typeIn K (.ref C) = some (.type "type"))
    (hC : PySem.W.hasDictIn K C = true) (oC : PySem.W.isClsIn K C = true) (sC : PySem.W.subIn K (.ref C) (.ref C) = some true)
    (d : IsDef K "__init__" qual st fI)
    (hb : ∀ (kV doc pm : Value) (an : Option Addr) (cdv ct : Value) (us : List Value), us.length = ps.length →
      bindArgs (PySem.W.fnOf "__init__" qual (defArgs st) (defBody st) (defScope st) .none kV doc pm an cdv ct) ⟨us, []⟩ = pure (ps.zip us)) :
    ∃ fd, Err K mg x qual fl ps st C fI fd := by
  obtain ⟨fd, F⟩ := d.fn
  exact ⟨fd, ⟨cC, sa, eC, tC, kC⟩, PySem.W.mg_of X G aC, iC, tI, no, ⟨ga, gg, eC, hC⟩, exm_own eC oC tC sC, F, F.binds hb⟩
theorem conT_mk {K : PySem.W.Frag} {h : Heap} {mg : Str → Option Value} {x : Str} {a : Addr} {xs : List V} {dd : Option Addr} {its : Array Value} {n : Nat} {sl : Array (Option Value)}
    (X : K.In h) (G : h.Ns mainGlobals mg) (aC : PySem.W.nsIn K mainGlobals x = some (some (.ref a))) (l : K.lookup a = some ⟨.type "tuple", dd, .seq its n, sl⟩)
    (v : Vals xs its.toList) (sz : its.size ≤ sizeLine) : ConT K mg x a xs := ⟨PySem.W.mg_of X G aC, fun H => .inr ⟨_, its, n, l, rfl, rfl, sz, v⟩⟩
theorem conD_mk {K : PySem.W.Frag} {w : World} {h : Heap} {mg : Str → Option Value} {x : Str} {a : Addr} {xs : List (Str × Str)} {es : Array DictEntry} {n : Nat}
    (X : K.In h) (G : h.Ns mainGlobals mg) (aC : PySem.W.nsIn K mainGlobals x = some (some (.ref a))) (l : K.lookup a = some { cls := .type "dict", data := .dict es n })
    (q : PySem.W.KeysLit w.params es.toList) (v : ∀ p ∈ xs, ∃ e t, es.toList.find? (fun z => z.key.isStr p.1) = some e ∧ e.val = .str p.2 t) : ConD K w mg x a xs :=
  ⟨PySem.W.mg_of X G aC, fun p hp => by
    obtain ⟨e, t, h1, h2⟩ := v p hp
    refine ⟨es, n, .str p.2 t, l, q, ?_, t, rfl⟩
    unfold PySem.W.nsIn
    rw [l]
    simp only [h1, h2]⟩
theorem all_ok {P : Program} {w : World} {K : PySem.W.Frag} {h : Heap} {mg : Str → Option Value} {fa f_is_word f_all_words f_answers_of f_word_of f_of_node f_of_all f_of_any f_behind f_of_first f_of_not f_of_case f_plainly f_l_bag f_l_take f_l_alike f_l_mixed f_l_one f_l_orders f_l_seven f_l_heard_of f_l_node_heard f_l_all_heard f_l_case_heard f_l_first_heard f_l_as_word f_l_order_longer f_l_list f_l_single_right f_l_as_listed f_law a_VALUES a_RANKS_OF_ALL a_RANKS_OF_ANY a_OPPOSITES : Addr} (X : K.In h) (G : h.Ns mainGlobals mg) (hfa : mg "law" = some (.ref fa))
    (a_is_word : PySem.W.nsIn K mainGlobals "is_word" = some (some (.ref f_is_word))) (d_is_word : IsDef K "is_word" "is_word" s_is_word f_is_word)
    (a_all_words : PySem.W.nsIn K mainGlobals "all_words" = some (some (.ref f_all_words))) (d_all_words : IsDef K "all_words" "all_words" s_all_words f_all_words)
    (a_answers_of : PySem.W.nsIn K mainGlobals "answers_of" = some (some (.ref f_answers_of))) (d_answers_of : IsDef K "answers_of" "answers_of" s_answers_of f_answers_of)
    (a_word_of : PySem.W.nsIn K mainGlobals "word_of" = some (some (.ref f_word_of))) (d_word_of : IsDef K "word_of" "word_of" s_word_of f_word_of)
    (a_of_node : PySem.W.nsIn K mainGlobals "_of_node" = some (some (.ref f_of_node))) (d_of_node : IsDef K "_of_node" "_of_node" s_of_node f_of_node)
    (a_of_all : PySem.W.nsIn K mainGlobals "of_all" = some (some (.ref f_of_all))) (d_of_all : IsDef K "of_all" "of_all" s_of_all f_of_all)
    (a_of_any : PySem.W.nsIn K mainGlobals "of_any" = some (some (.ref f_of_any))) (d_of_any : IsDef K "of_any" "of_any" s_of_any f_of_any)
    (a_behind : PySem.W.nsIn K mainGlobals "_behind" = some (some (.ref f_behind))) (d_behind : IsDef K "_behind" "_behind" s_behind f_behind)
    (a_of_first : PySem.W.nsIn K mainGlobals "of_first" = some (some (.ref f_of_first))) (d_of_first : IsDef K "of_first" "of_first" s_of_first f_of_first)
    (a_of_not : PySem.W.nsIn K mainGlobals "of_not" = some (some (.ref f_of_not))) (d_of_not : IsDef K "of_not" "of_not" s_of_not f_of_not)
    (a_of_case : PySem.W.nsIn K mainGlobals "of_case" = some (some (.ref f_of_case))) (d_of_case : IsDef K "of_case" "of_case" s_of_case f_of_case)
    (a_plainly : PySem.W.nsIn K mainGlobals "plainly" = some (some (.ref f_plainly))) (d_plainly : IsDef K "plainly" "plainly" s_plainly f_plainly)
    (a_l_bag : PySem.W.nsIn K mainGlobals "_law_bag" = some (some (.ref f_l_bag))) (d_l_bag : IsDef K "_law_bag" "_law_bag" s_l_bag f_l_bag)
    (a_l_take : PySem.W.nsIn K mainGlobals "_law_take" = some (some (.ref f_l_take))) (d_l_take : IsDef K "_law_take" "_law_take" s_l_take f_l_take)
    (a_l_alike : PySem.W.nsIn K mainGlobals "_law_alike" = some (some (.ref f_l_alike))) (d_l_alike : IsDef K "_law_alike" "_law_alike" s_l_alike f_l_alike)
    (a_l_mixed : PySem.W.nsIn K mainGlobals "_law_mixed" = some (some (.ref f_l_mixed))) (d_l_mixed : IsDef K "_law_mixed" "_law_mixed" s_l_mixed f_l_mixed)
    (a_l_one : PySem.W.nsIn K mainGlobals "_law_one" = some (some (.ref f_l_one))) (d_l_one : IsDef K "_law_one" "_law_one" s_l_one f_l_one)
    (a_l_orders : PySem.W.nsIn K mainGlobals "_law_orders" = some (some (.ref f_l_orders))) (d_l_orders : IsDef K "_law_orders" "_law_orders" s_l_orders f_l_orders)
    (a_l_seven : PySem.W.nsIn K mainGlobals "_law_seven" = some (some (.ref f_l_seven))) (d_l_seven : IsDef K "_law_seven" "_law_seven" s_l_seven f_l_seven)
    (a_l_heard_of : PySem.W.nsIn K mainGlobals "_law_heard_of" = some (some (.ref f_l_heard_of))) (d_l_heard_of : IsDef K "_law_heard_of" "_law_heard_of" s_l_heard_of f_l_heard_of)
    (a_l_node_heard : PySem.W.nsIn K mainGlobals "_law_node_heard" = some (some (.ref f_l_node_heard))) (d_l_node_heard : IsDef K "_law_node_heard" "_law_node_heard" s_l_node_heard f_l_node_heard)
    (a_l_all_heard : PySem.W.nsIn K mainGlobals "_law_all_heard" = some (some (.ref f_l_all_heard))) (d_l_all_heard : IsDef K "_law_all_heard" "_law_all_heard" s_l_all_heard f_l_all_heard)
    (a_l_case_heard : PySem.W.nsIn K mainGlobals "_law_case_heard" = some (some (.ref f_l_case_heard))) (d_l_case_heard : IsDef K "_law_case_heard" "_law_case_heard" s_l_case_heard f_l_case_heard)
    (a_l_first_heard : PySem.W.nsIn K mainGlobals "_law_first_heard" = some (some (.ref f_l_first_heard))) (d_l_first_heard : IsDef K "_law_first_heard" "_law_first_heard" s_l_first_heard f_l_first_heard)
    (a_l_as_word : PySem.W.nsIn K mainGlobals "_law_as_word" = some (some (.ref f_l_as_word))) (d_l_as_word : IsDef K "_law_as_word" "_law_as_word" s_l_as_word f_l_as_word)
    (a_l_order_longer : PySem.W.nsIn K mainGlobals "_law_order_longer" = some (some (.ref f_l_order_longer))) (d_l_order_longer : IsDef K "_law_order_longer" "_law_order_longer" s_l_order_longer f_l_order_longer)
    (a_l_list : PySem.W.nsIn K mainGlobals "_law_list" = some (some (.ref f_l_list))) (d_l_list : IsDef K "_law_list" "_law_list" s_l_list f_l_list)
    (a_l_single_right : PySem.W.nsIn K mainGlobals "_law_single_right" = some (some (.ref f_l_single_right))) (d_l_single_right : IsDef K "_law_single_right" "_law_single_right" s_l_single_right f_l_single_right)
    (a_l_as_listed : PySem.W.nsIn K mainGlobals "_law_as_listed" = some (some (.ref f_l_as_listed))) (d_l_as_listed : IsDef K "_law_as_listed" "_law_as_listed" s_l_as_listed f_l_as_listed)
    (a_law : PySem.W.nsIn K mainGlobals "law" = some (some (.ref f_law))) (d_law : IsDef K "law" "law" s_law f_law)
    (b_len : PySem.W.nsIn K mainGlobals "len" = some none)
    (b_abs : PySem.W.nsIn K mainGlobals "abs" = some none)
    (b_max : PySem.W.nsIn K mainGlobals "max" = some none)
    (b_min : PySem.W.nsIn K mainGlobals "min" = some none)
    (b_repr : PySem.W.nsIn K mainGlobals "repr" = some none)
    (b_int : PySem.W.nsIn K mainGlobals "int" = some none)
    (b_tuple : PySem.W.nsIn K mainGlobals "tuple" = some none)
    (b_list : PySem.W.nsIn K mainGlobals "list" = some none)
    (b_dict : PySem.W.nsIn K mainGlobals "dict" = some none)
    (b_isinstance : PySem.W.nsIn K mainGlobals "isinstance" = some none)
    (b_sorted : PySem.W.nsIn K mainGlobals "sorted" = some none)
    (b_sum : PySem.W.nsIn K mainGlobals "sum" = some none)
    (b_all : PySem.W.nsIn K mainGlobals "all" = some none)
    (b_any : PySem.W.nsIn K mainGlobals "any" = some none)
    (b_range : PySem.W.nsIn K mainGlobals "range" = some none)
    (b_enumerate : PySem.W.nsIn K mainGlobals "enumerate" = some none)
    (b_zip : PySem.W.nsIn K mainGlobals "zip" = some none)
    (b_bool : PySem.W.nsIn K mainGlobals "bool" = some none)
    (b_str : PySem.W.nsIn K mainGlobals "str" = some none)
    (b_set : PySem.W.nsIn K mainGlobals "set" = some none)
    (C_VALUES : ConT K mg "VALUES" a_VALUES (vals3.map V.str))
    (C_RANKS_OF_ALL : ConT K mg "RANKS_OF_ALL" a_RANKS_OF_ALL (ranksAll.map wV))
    (C_RANKS_OF_ANY : ConT K mg "RANKS_OF_ANY" a_RANKS_OF_ANY (ranksAny.map wV))
    (C_OPPOSITES : ConD K w mg "OPPOSITES" a_OPPOSITES oppo) :
    ∃ fd : FuncData, (∀ (s : Shared) (u : Value), BindsTo s fd ⟨[u], []⟩ [("_law_script", u)]) ∧ ∀ base : Heap, K.In base → base.Ns mainGlobals mg → FnQ P w K mg base CX0 9 fa fd ["_law_script"] (spLaw K) := by
  have n {x : Str} (z : PySem.W.nsIn K mainGlobals x = some none) : mg x = none := PySem.W.mg_none_of X G z
  have bi : Bi mg := ⟨n b_len, n b_abs, n b_max, n b_min, n b_repr, n b_int, n b_tuple, n b_list, n b_dict, n b_isinstance, n b_sorted, n b_sum, n b_all, n b_any, n b_range, n b_enumerate, n b_zip, n b_bool, n b_str, n b_set⟩
  obtain ⟨fd_is_word, D_is_word⟩ := def_mk (ps := ["thing"]) X G a_is_word d_is_word fun _ _ _ _ _ _ us hl => match us, hl with | [_], _ => rfl
  obtain ⟨fd_all_words, D_all_words⟩ := def_mk (ps := []) X G a_all_words d_all_words fun _ _ _ _ _ _ us hl => match us, hl with | [], _ => rfl
  obtain ⟨fd_answers_of, D_answers_of⟩ := def_mk (ps := ["word"]) X G a_answers_of d_answers_of fun _ _ _ _ _ _ us hl => match us, hl with | [_], _ => rfl
  obtain ⟨fd_word_of, D_word_of⟩ := def_mk (ps := ["answers"]) X G a_word_of d_word_of fun _ _ _ _ _ _ us hl => match us, hl with | [_], _ => rfl
  obtain ⟨fd_of_node, D_of_node⟩ := def_mk (ps := ["words", "ranks"]) X G a_of_node d_of_node fun _ _ _ _ _ _ us hl => match us, hl with | [_, _], _ => rfl
  obtain ⟨fd_of_all, D_of_all⟩ := def_mk (ps := ["words"]) X G a_of_all d_of_all fun _ _ _ _ _ _ us hl => match us, hl with | [_], _ => rfl
  obtain ⟨fd_of_any, D_of_any⟩ := def_mk (ps := ["words"]) X G a_of_any d_of_any fun _ _ _ _ _ _ us hl => match us, hl with | [_], _ => rfl
  obtain ⟨fd_behind, D_behind⟩ := def_mk (ps := ["word", "other"]) X G a_behind d_behind fun _ _ _ _ _ _ us hl => match us, hl with | [_, _], _ => rfl
  obtain ⟨fd_of_first, D_of_first⟩ := def_mk (ps := ["words"]) X G a_of_first d_of_first fun _ _ _ _ _ _ us hl => match us, hl with | [_], _ => rfl
  obtain ⟨fd_of_not, D_of_not⟩ := def_mk (ps := ["word"]) X G a_of_not d_of_not fun _ _ _ _ _ _ us hl => match us, hl with | [_], _ => rfl
  obtain ⟨fd_of_case, D_of_case⟩ := def_mk (ps := ["pairs", "word"]) X G a_of_case d_of_case fun _ _ _ _ _ _ us hl => match us, hl with | [_, _], _ => rfl
  obtain ⟨fd_plainly, D_plainly⟩ := def_mk (ps := ["word"]) X G a_plainly d_plainly fun _ _ _ _ _ _ us hl => match us, hl with | [_], _ => rfl
  obtain ⟨fd_l_bag, D_l_bag⟩ := def_mk (ps := ["_law_script"]) X G a_l_bag d_l_bag fun _ _ _ _ _ _ us hl => match us, hl with | [_], _ => rfl
  obtain ⟨fd_l_take, D_l_take⟩ := def_mk (ps := ["_law_bag_here", "_law_many"]) X G a_l_take d_l_take fun _ _ _ _ _ _ us hl => match us, hl with | [_, _], _ => rfl
  obtain ⟨fd_l_alike, D_l_alike⟩ := def_mk (ps := ["_law_found", "_law_due"]) X G a_l_alike d_l_alike fun _ _ _ _ _ _ us hl => match us, hl with | [_, _], _ => rfl
  obtain ⟨fd_l_mixed, D_l_mixed⟩ := def_mk (ps := ["_law_bag_here", "_law_things"]) X G a_l_mixed d_l_mixed fun _ _ _ _ _ _ us hl => match us, hl with | [_, _], _ => rfl
  obtain ⟨fd_l_one, D_l_one⟩ := def_mk (ps := ["_law_bag_here", "_law_things"]) X G a_l_one d_l_one fun _ _ _ _ _ _ us hl => match us, hl with | [_, _], _ => rfl
  obtain ⟨fd_l_orders, D_l_orders⟩ := def_mk (ps := ["_law_many"]) X G a_l_orders d_l_orders fun _ _ _ _ _ _ us hl => match us, hl with | [_], _ => rfl
  obtain ⟨fd_l_seven, D_l_seven⟩ := def_mk (ps := ["_law_bag_here"]) X G a_l_seven d_l_seven fun _ _ _ _ _ _ us hl => match us, hl with | [_], _ => rfl
  obtain ⟨fd_l_heard_of, D_l_heard_of⟩ := def_mk (ps := ["_law_word"]) X G a_l_heard_of d_l_heard_of fun _ _ _ _ _ _ us hl => match us, hl with | [_], _ => rfl
  obtain ⟨fd_l_node_heard, D_l_node_heard⟩ := def_mk (ps := ["_law_words", "_law_order", "_law_deciding"]) X G a_l_node_heard d_l_node_heard fun _ _ _ _ _ _ us hl => match us, hl with | [_, _, _], _ => rfl
  obtain ⟨fd_l_all_heard, D_l_all_heard⟩ := def_mk (ps := ["_law_words", "_law_deciding"]) X G a_l_all_heard d_l_all_heard fun _ _ _ _ _ _ us hl => match us, hl with | [_, _], _ => rfl
  obtain ⟨fd_l_case_heard, D_l_case_heard⟩ := def_mk (ps := ["_law_pairs", "_law_word"]) X G a_l_case_heard d_l_case_heard fun _ _ _ _ _ _ us hl => match us, hl with | [_, _], _ => rfl
  obtain ⟨fd_l_first_heard, D_l_first_heard⟩ := def_mk (ps := ["_law_words"]) X G a_l_first_heard d_l_first_heard fun _ _ _ _ _ _ us hl => match us, hl with | [_], _ => rfl
  obtain ⟨fd_l_as_word, D_l_as_word⟩ := def_mk (ps := ["_law_answers"]) X G a_l_as_word d_l_as_word fun _ _ _ _ _ _ us hl => match us, hl with | [_], _ => rfl
  obtain ⟨fd_l_order_longer, D_l_order_longer⟩ := def_mk (ps := ["_law_orders_here", "_law_many"]) X G a_l_order_longer d_l_order_longer fun _ _ _ _ _ _ us hl => match us, hl with | [_, _], _ => rfl
  obtain ⟨fd_l_list, D_l_list⟩ := def_mk (ps := []) X G a_l_list d_l_list fun _ _ _ _ _ _ us hl => match us, hl with | [], _ => rfl
  obtain ⟨fd_l_single_right, D_l_single_right⟩ := def_mk (ps := ["_law_bag_here", "_law_word"]) X G a_l_single_right d_l_single_right fun _ _ _ _ _ _ us hl => match us, hl with | [_, _], _ => rfl
  obtain ⟨fd_l_as_listed, D_l_as_listed⟩ := def_mk (ps := ["_law_thing"]) X G a_l_as_listed d_l_as_listed fun _ _ _ _ _ _ us hl => match us, hl with | [_], _ => rfl
  obtain ⟨fd_law, D_law⟩ := def_mk (ps := ["_law_script"]) X G a_law d_law fun _ _ _ _ _ _ us hl => match us, hl with | [_], _ => rfl
  have e := hfa.symm.trans D_law.mg
  cases e
  refine ⟨fd_law, fun s u => ?_, fun base _ _ => ?_⟩
  · obtain ⟨_, _, _, _, _, _, _, _, _, rfl, _⟩ := D_law.fn.ex
    exact .of_eq rfl
  have Gb := bag_sealed (ok_bagI (P := P) (w := w) (base := base) D_l_bag bi)
  have Gt := take_sealed (ok_takeI (P := P) (w := w) (base := base) D_l_take bi)
  have Go := ok_one (P := P) (w := w) (base := base) D_l_one bi D_l_take Gt
  have Gse := ok_seven (P := P) (w := w) (base := base) D_l_seven bi D_l_one Go
  have Gho := ok_heard_of (P := P) (w := w) (base := base) D_l_heard_of bi
  have Gan := ok_answers_of (P := P) (w := w) (base := base) D_answers_of bi
  have Gwo := ok_word_of (P := P) (w := w) (base := base) D_word_of bi
  have Gbe := ok_behind (P := P) (w := w) (base := base) D_behind bi
  have Gon := ok_of_not (P := P) (w := w) (base := base) D_of_not bi C_OPPOSITES
  have Gpl := ok_plainly (P := P) (w := w) (base := base) D_plainly bi
  have Gnd := ok_of_node (P := P) (w := w) (base := base) D_of_node bi
  have Gfi := ok_of_first (P := P) (w := w) (base := base) D_of_first bi D_behind Gbe
  have Gal := ok_of_all (P := P) (w := w) (base := base) D_of_all bi C_RANKS_OF_ALL D_of_node Gnd
  have Gay := ok_of_any (P := P) (w := w) (base := base) D_of_any bi C_RANKS_OF_ANY D_of_node Gnd
  have Gaw := ok_all_words (P := P) (w := w) (base := base) D_all_words bi C_VALUES
  have Gca := ok_of_case (P := P) (w := w) (base := base) D_of_case bi D_behind Gbe
  have Glw := ok_as_word (P := P) (w := w) (base := base) D_l_as_word bi
  have Gll := ok_l_list (P := P) (w := w) (base := base) D_l_list bi
  have Glo := ok_longer (P := P) (w := w) (base := base) D_l_order_longer bi
  have Gor := ok_orders (P := P) (w := w) (base := base) D_l_orders bi D_l_order_longer Glo
  have Gno := ok_node (P := P) (w := w) (base := base) D_l_node_heard bi D_l_heard_of Gho
  have Gah := ok_all_heard (P := P) (w := w) (base := base) D_l_all_heard bi D_l_orders Gor D_l_node_heard (Gno 5)
  have Gch := ok_case (P := P) (w := w) (base := base) D_l_case_heard bi D_l_heard_of Gho 7
  have Gfh := ok_firstH (P := P) (w := w) (base := base) D_l_first_heard bi D_l_heard_of Gho 7
  have Giw := ok_is_word (P := P) (w := w) (base := base) D_is_word bi C_VALUES
  have Gli := ok_listed (P := P) (w := w) (base := base) D_l_as_listed bi D_l_list Gll
  have Gmi := ok_mixed (P := P) (w := w) (base := base) D_l_mixed bi D_l_take Gt
  have Gak := ok_alike (P := P) (w := w) (base := base) D_l_alike bi
  have Gsi := ok_single (P := P) (w := w) (base := base) D_l_single_right bi D_l_take Gt D_l_heard_of Gho D_l_mixed Gmi D_l_alike Gak D_of_not Gon D_answers_of Gan D_plainly Gpl D_word_of Gwo
  exact ok_law (P := P) (w := w) (base := base) D_law bi D_is_word Giw D_all_words Gaw D_of_all Gal D_of_any Gay D_of_case Gca D_of_first Gfi D_l_bag Gb D_l_take Gt D_l_alike Gak D_l_seven Gse D_l_all_heard Gah D_l_case_heard Gch D_l_first_heard Gfh D_l_as_word Glw D_l_list Gll D_l_single_right Gsi D_l_as_listed Gli
end K40
open PySem PySem.W PyProof.Rows
set_option maxRecDepth 100000 in
set_option maxHeartbeats 0 in
theorem PySem.Challenge.cw_refusedahead_k40_seven_words_holds : PySem.Challenge.rw_refusedahead_k40_seven_words.Holds := by
  w_on; o_law; k_head; (case hw => w_witness2)
  k_fill
  refine Gx.walkQ (l := PySem.Challenge.rw_refusedahead_k40_seven_words) (n := 63) (k := 9) (x := "_law_script") (CX := fun _ => L2.CX0) (sp := fun w => K40.spLaw (_ : PySem.W.Frag)) rfl (by decide) rfl ⟨rfl, by decide, by decide⟩
    (fun w h Y => PySem.W.kIn_of Y) ?F (fun _ _ a ns hl _ hS => ⟨a, ns, rfl, hS, hl, fun _ => rfl⟩) (fun _ _ _ _ _ z => z)
  case F =>
    intro w mg fa h KX G hmg
    refine' K40.all_ok KX G hmg ?a_is_word ?d_is_word ?a_all_words ?d_all_words ?a_answers_of ?d_answers_of ?a_word_of ?d_word_of ?a_of_node ?d_of_node ?a_of_all ?d_of_all ?a_of_any ?d_of_any ?a_behind ?d_behind ?a_of_first ?d_of_first ?a_of_not ?d_of_not ?a_of_case ?d_of_case ?a_plainly ?d_plainly ?a_l_bag ?d_l_bag ?a_l_take ?d_l_take ?a_l_alike ?d_l_alike ?a_l_mixed ?d_l_mixed ?a_l_one ?d_l_one ?a_l_orders ?d_l_orders ?a_l_seven ?d_l_seven ?a_l_heard_of ?d_l_heard_of ?a_l_node_heard ?d_l_node_heard ?a_l_all_heard ?d_l_all_heard ?a_l_case_heard ?d_l_case_heard ?a_l_first_heard ?d_l_first_heard ?a_l_as_word ?d_l_as_word ?a_l_order_longer ?d_l_order_longer ?a_l_list ?d_l_list ?a_l_single_right ?d_l_single_right ?a_l_as_listed ?d_l_as_listed ?a_law ?d_law ?b_len ?b_abs ?b_max ?b_min ?b_repr ?b_int ?b_tuple ?b_list ?b_dict ?b_isinstance ?b_sorted ?b_sum ?b_all ?b_any ?b_range ?b_enumerate ?b_zip ?b_bool ?b_str ?b_set ?C_VALUES ?C_RANKS_OF_ALL ?C_RANKS_OF_ANY ?C_OPPOSITES
    (case a_is_word => k_is)
    (case d_is_word => refine' K40.isdef_mk ?l ?c ?k; (case l => k_is); (case c => k_is); (case k => k_is))
    (case a_all_words => k_is)
    (case d_all_words => refine' K40.isdef_mk ?l ?c ?k; (case l => k_is); (case c => k_is); (case k => k_is))
    (case a_answers_of => k_is)
    (case d_answers_of => refine' K40.isdef_mk ?l ?c ?k; (case l => k_is); (case c => k_is); (case k => k_is))
    (case a_word_of => k_is)
    (case d_word_of => refine' K40.isdef_mk ?l ?c ?k; (case l => k_is); (case c => k_is); (case k => k_is))
    (case a_of_node => k_is)
    (case d_of_node => refine' K40.isdef_mk ?l ?c ?k; (case l => k_is); (case c => k_is); (case k => k_is))
    (case a_of_all => k_is)
    (case d_of_all => refine' K40.isdef_mk ?l ?c ?k; (case l => k_is); (case c => k_is); (case k => k_is))
    (case a_of_any => k_is)
    (case d_of_any => refine' K40.isdef_mk ?l ?c ?k; (case l => k_is); (case c => k_is); (case k => k_is))
    (case a_behind => k_is)
    (case d_behind => refine' K40.isdef_mk ?l ?c ?k; (case l => k_is); (case c => k_is); (case k => k_is))
    (case a_of_first => k_is)
    (case d_of_first => refine' K40.isdef_mk ?l ?c ?k; (case l => k_is); (case c => k_is); (case k => k_is))
    (case a_of_not => k_is)
    (case d_of_not => refine' K40.isdef_mk ?l ?c ?k; (case l => k_is); (case c => k_is); (case k => k_is))
    (case a_of_case => k_is)
    (case d_of_case => refine' K40.isdef_mk ?l ?c ?k; (case l => k_is); (case c => k_is); (case k => k_is))
    (case a_plainly => k_is)
    (case d_plainly => refine' K40.isdef_mk ?l ?c ?k; (case l => k_is); (case c => k_is); (case k => k_is))
    (case a_l_bag => k_is)
    (case d_l_bag => refine' K40.isdef_mk ?l ?c ?k; (case l => k_is); (case c => k_is); (case k => k_is))
    (case a_l_take => k_is)
    (case d_l_take => refine' K40.isdef_mk ?l ?c ?k; (case l => k_is); (case c => k_is); (case k => k_is))
    (case a_l_alike => k_is)
    (case d_l_alike => refine' K40.isdef_mk ?l ?c ?k; (case l => k_is); (case c => k_is); (case k => k_is))
    (case a_l_mixed => k_is)
    (case d_l_mixed => refine' K40.isdef_mk ?l ?c ?k; (case l => k_is); (case c => k_is); (case k => k_is))
    (case a_l_one => k_is)
    (case d_l_one => refine' K40.isdef_mk ?l ?c ?k; (case l => k_is); (case c => k_is); (case k => k_is))
    (case a_l_orders => k_is)
    (case d_l_orders => refine' K40.isdef_mk ?l ?c ?k; (case l => k_is); (case c => k_is); (case k => k_is))
    (case a_l_seven => k_is)
    (case d_l_seven => refine' K40.isdef_mk ?l ?c ?k; (case l => k_is); (case c => k_is); (case k => k_is))
    (case a_l_heard_of => k_is)
    (case d_l_heard_of => refine' K40.isdef_mk ?l ?c ?k; (case l => k_is); (case c => k_is); (case k => k_is))
    (case a_l_node_heard => k_is)
    (case d_l_node_heard => refine' K40.isdef_mk ?l ?c ?k; (case l => k_is); (case c => k_is); (case k => k_is))
    (case a_l_all_heard => k_is)
    (case d_l_all_heard => refine' K40.isdef_mk ?l ?c ?k; (case l => k_is); (case c => k_is); (case k => k_is))
    (case a_l_case_heard => k_is)
    (case d_l_case_heard => refine' K40.isdef_mk ?l ?c ?k; (case l => k_is); (case c => k_is); (case k => k_is))
    (case a_l_first_heard => k_is)
    (case d_l_first_heard => refine' K40.isdef_mk ?l ?c ?k; (case l => k_is); (case c => k_is); (case k => k_is))
    (case a_l_as_word => k_is)
    (case d_l_as_word => refine' K40.isdef_mk ?l ?c ?k; (case l => k_is); (case c => k_is); (case k => k_is))
    (case a_l_order_longer => k_is)
    (case d_l_order_longer => refine' K40.isdef_mk ?l ?c ?k; (case l => k_is); (case c => k_is); (case k => k_is))
    (case a_l_list => k_is)
    (case d_l_list => refine' K40.isdef_mk ?l ?c ?k; (case l => k_is); (case c => k_is); (case k => k_is))
    (case a_l_single_right => k_is)
    (case d_l_single_right => refine' K40.isdef_mk ?l ?c ?k; (case l => k_is); (case c => k_is); (case k => k_is))
    (case a_l_as_listed => k_is)
    (case d_l_as_listed => refine' K40.isdef_mk ?l ?c ?k; (case l => k_is); (case c => k_is); (case k => k_is))
    (case a_law => k_is)
    (case d_law => refine' K40.isdef_mk ?l ?c ?k; (case l => k_is); (case c => k_is); (case k => k_is))
    (case b_len => k_is)
    (case b_abs => k_is)
    (case b_max => k_is)
    (case b_min => k_is)
    (case b_repr => k_is)
    (case b_int => k_is)
    (case b_tuple => k_is)
    (case b_list => k_is)
    (case b_dict => k_is)
    (case b_isinstance => k_is)
    (case b_sorted => k_is)
    (case b_sum => k_is)
    (case b_all => k_is)
    (case b_any => k_is)
    (case b_range => k_is)
    (case b_enumerate => k_is)
    (case b_zip => k_is)
    (case b_bool => k_is)
    (case b_str => k_is)
    (case b_set => k_is)
    (case C_VALUES => refine' K40.conT_mk KX G ?aC ?l ?v ?sz; (case aC => k_is); (case l => k_is); (case v => exact .cons ⟨_, rfl⟩ (.cons ⟨_, rfl⟩ (.cons ⟨_, rfl⟩ (.nil)))); (case sz => decide))
    (case C_RANKS_OF_ALL => refine' K40.conT_mk KX G ?aC ?l ?v ?sz; (case aC => k_is); (case l => k_is); (case v => exact .cons ⟨_, rfl⟩ (.cons rfl (.cons ⟨_, rfl⟩ (.cons ⟨_, rfl⟩ (.nil))))); (case sz => decide))
    (case C_RANKS_OF_ANY => refine' K40.conT_mk KX G ?aC ?l ?v ?sz; (case aC => k_is); (case l => k_is); (case v => exact .cons ⟨_, rfl⟩ (.cons rfl (.cons ⟨_, rfl⟩ (.cons ⟨_, rfl⟩ (.nil))))); (case sz => decide))
    (case C_OPPOSITES => refine' K40.conD_mk KX G ?za ?zl ?zq ?zv; (case za => k_is); (case zl => k_is); (case zq => exact ⟨⟨_, _, rfl, rfl⟩, ⟨⟨_, _, rfl, rfl⟩, ⟨⟨_, _, rfl, rfl⟩, ⟨⟨_, _, rfl, rfl⟩, trivial⟩⟩⟩⟩); (case zv => (intro p hp; simp only [K40.oppo, List.mem_cons, List.not_mem_nil, or_false] at hp; rcases hp with rfl | rfl | rfl | rfl <;> exact ⟨_, _, rfl, rfl⟩)))

