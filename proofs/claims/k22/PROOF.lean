import PyProof.Rows.All
import Wide.All
import OpenK.AllK
import Wide.FinOn
import PyProof.ReprRoads
import HandS.ForMost
import HandS.ForExc
import HandS.Evl
import HandS.Wide
import HandS.Conv
import HandS.More
import HandS.WideBits
import HandS.ExcInit
import HandS.ExcField
import HandS.IsInst
import KE.KDictPairs
import KE.GoesMore
import HandS.TupMul
import HandS.TupAny
import HandS.Defaults
import KE.KDictZip
import KE.KTurns
import HandS.SlotsOwn
import HandS.Property
import PyProof.InstNe
import OpenK.KMeth
import KE.KOpsOwn
import HandS.SortKw
import KE.SortKeyHeap
import KE.DataMinKey
import HandS.ExcIs
import HandS.TryOnly
import HandS.Zip
import PyProof.AutoSeq1
import HandS.TupSets
import HandS.Set
import HandS.SetFor
import KE.KeyNested
import KE.KDictKeyed
import KE.SortData
import KE.LtData
import KE.LtSeq
import HandS.SetTxt0
import HandS.SetBool
import PyProof.FitsInt
import PySem.Challenge.RW_refusedahead_k22_parts_and_addresses
set_option Elab.async false
set_option linter.all false
set_option maxRecDepth 100000
set_option maxHeartbeats 2000000
/-! Calls made while no repr is under way (needed for repr); repr and == of data; wide division. -/
namespace Gx
open PySem PySem.Spec PyProof.Rows L2
abbrev Quiet (A : Around) : Prop := A.guards = some []
structure FnQ (P : Program) (w : World) (K : PySem.W.Frag) (mg : Str → Option Value)
    (base : Heap) (CX : CXT) (k : Nat) (f : Addr) (fd : FuncData) (ps : List Str) (sp : Sp) : Prop where
  argc : ∀ vs H Q E, sp vs H Q E → vs.length = ps.length
  goes : ∀ (A : Around) (outer : List Env) (s : Shared) (H : Hp) (args : Args) (us : List Value)
    (vs : List V) (Q : VK) (E : XK), Room k A → Quiet A → Env0 P w K mg base A outer s H →
    BindsTo s fd args (ps.zip us) → Vals vs us → sp vs H Q E →
    codeAny (model P w) A (.call (.ref f) args) (CR CX outer P w H s Q E) s
section
variable {P : Program} {w : World} {K : PySem.W.Frag} {mg : Str → Option Value} {base : Heap} {CX : CXT}
/-- a def whose promise holds at any call holds it at a quiet one -/
theorem FnQ.of {k : Nat} {f : Addr} {fd : FuncData} {ps : List Str} {sp : Sp}
    (G : FnOk P w K mg base CX k f fd ps sp) : FnQ P w K mg base CX k f fd ps sp :=
  ⟨G.len, fun A o s H ar us vs Q E r _ => G.run A o s H ar us vs Q E r⟩
theorem FnQ.mono {j k : Nat} {f : Addr} {fd : FuncData} {ps : List Str} {sp : Sp}
    (G : FnQ P w K mg base CX j f fd ps sp) (h : j ≤ k) : FnQ P w K mg base CX k f fd ps sp :=
  ⟨G.argc, fun A o s H ar us vs Q E r => G.goes A o s H ar us vs Q E (r.mono h)⟩
/-- a def's body, walked at quiet calls alone -/
theorem fnq_of {x qual : Str} {st : Stmt} {f : Addr} {fd : FuncData} {N ps : List Str} {k : Nat} {sp : Sp}
    (F : Fun K x qual st f fd) (S : FnScope N ps (defScope st))
    (len : ∀ vs H Q E, sp vs H Q E → vs.length = ps.length)
    (walk : ∀ (cdv : Value) (A : Around) (outer : List Env) (s : Shared) (H : Hp) (vs : List V) (Q : VK) (E : XK),
      Room k (A.deeper (envOfC qual (defScope st) s.heap.objs.size f cdv)) → Quiet A → sp vs H Q E →
      ∃ t, PSs (cxOf CX P w K mg base N qual (defScope st) f cdv A outer s H E) (defBody st) t ∧
        t { nx := fun _ H' => Q .non H', rt := Q } (start N vs) H) :
    FnQ P w K mg base CX (k + 1) f fd ps sp := by
  obtain ⟨oc, od, kV, doc, pm, an, cdv, ct, osl, rfl, lk, hcd⟩ := F.ex
  refine ⟨len, fun A o s H ar us vs Q E rm qu e0 bd rv hs => ?_⟩
  have argl := len _ _ _ _ hs
  have inK : K.In s.heap := e0.mod.kin.keeps fun b ob z => (e0.bs b ob z).1
  have nolim : s.heap.NoLimit := e0.mod.nolimit.keeps fun b ob z => (e0.bs b ob z).1
  refine codeAny_call_function rm.depth (inK _ _ lk) rfl S.co S.gen rfl
    (PySem.W.codeRec_of inK hcd) (bd _ _ _ _ ?_)
  refine wpAny_newFunctionEnv_cells S.kind (fun y hy => ?_) fun en hen s1 ic => ?_
  · obtain ⟨nm, vl⟩ := y
    rcases S.par nm (List.of_mem_zip hy).1 with loc | cel
    · exact .inl loc
    · exact .inr ⟨cel, PySem.W.cellsFrom_some _ _ _ (.inl cel)⟩
  · subst hen
    refine ⟨nolim.keeps ic.toInCall.keep, codeAny_func ?_⟩
    obtain ⟨t, pt, ht⟩ := walk cdv A o s H vs Q E (rm.deeper _) qu hs
    have I := inv_start (CX := CX) (E := E) S rm.hd e0 argl rv ic
    refine wpAny_mono (pt.run [] s1 (start N vs) H _ I ht) (fun fl s' hq => ?_) fun _ _ hq => hq
    cases fl with
    | brk => obtain ⟨_, _, _, no⟩ := hq; exact no.elim
    | cont => obtain ⟨_, _, _, no⟩ := hq; exact no.elim
    | next => obtain ⟨σ, H', J, q⟩ := hq; exact ⟨.non, H', J.os, J.bare, J.base, J.hok, rfl, q⟩
    | ret u => obtain ⟨v, σ, H', J, r, q⟩ := hq; exact ⟨v, H', J.os, J.bare, J.base, J.hok, r, q⟩
end
section
variable {X : Cx} {CX : CXT} {k : Nat} {f : Addr} {fd : FuncData} {ps : List Str} {sp : Sp} {E : XK}
  {x : Str} {p pos : Pos} {e : Expr} {es : List Expr} {t : TA}
/-- f(..) at a quiet place -/
theorem pe_callQ (G : FnQ X.prog X.w X.K X.mg X.base CX k f fd ps sp) (qu : Quiet X.A) (rm : Room k X.A)
    (hg : Gl X x) (hm : X.mg x = some (.ref f)) (hk : PySem.W.keepIn X.K (.ref f) = true)
    (bd : Binds X.K fd ps []) (pass : Passes CX X E) (ha : PA X (e :: es) t)
    (hdb : (x == ("__debug__" : Str)) = false := by decide)
    (he : starEach (e :: es) X.env = (false, eval e X.env) :: starEach es X.env := by rfl)
    (hpl : (backTo pos (starEach es X.env)).any (·.1) = false := by rfl) :
    PE X (.Call (.Name x p) (e :: es) [] pos) (tCall sp [] E t) := by
  constructor
  intro pins s σ H Q I h
  refine wpAny_Call_Name_kw (ld_glob I hg hm ?_ hdb)
  refine PySem.W.callWith_K (h₀ := X.base) I.ok.mod.kin hk (thn (ha.run pos pins s σ H _ I h) ?_) he hpl
  rintro us s1 ⟨vs, H1, I1, rv, q⟩
  refine ⟨I1.kIn, wpAny_call (codeAny_mono (G.goes X.A X.stack s1 H1 ⟨us, []⟩ us vs Q E rm qu I1.env0 ?_ rv ?_) ?_)⟩
  · have b := bd s1 us I1.kIn (by rw [List.append_nil, ← rv.length, ← List.append_nil vs]; exact G.argc _ _ _ _ q)
    rwa [List.append_nil] at b
  · rwa [List.append_nil] at q
  · intro r s' hq
    match r, hq with
    | .error z, hq => exact pass pins σ H1 s1 z s' I1 hq
    | .ok (.ret u), hq => exact I1.after hq
end
end Gx

set_option Elab.async false
set_option linter.all false
set_option maxRecDepth 100000
set_option maxHeartbeats 2000000
namespace Gx
open PySem PySem.Spec PyProof.Rows L2
/-- the law's call from outside: nothing is tracked but the script, where that is no object of the module -/
theorem law_goes {P : Program} {w : World} {K : PySem.W.Frag} {mg mb : Str → Option Value} {CX : CXT} {k : Nat}
    {fa a : Addr} {fd : FuncData} {x : Str} {sp : Sp} {z : Shared} {vs : List Value} {ns : List Int}
    (inK : K.In z.heap) (gl : z.heap.Ns mainGlobals mg) (bl : z.heap.Ns builtinsNs mb)
    (bb : ∀ x : Str, x ≠ "__name__" → mb x = bootBuiltins x) (lim : z.heap.NoLimit) (gs : z.gens = #[])
    (ha : z.heap.get? a = some { cls := .type "list", data := .seq vs.toArray }) (hi : IntsAre vs ns)
    (hl : ns.length ≤ sizeLine) (rm : Room k callerA)
    (G : ∀ base : Heap, K.In base → base.Ns mainGlobals mg → FnQ P w K mg base CX k fa fd [x] sp)
    (bd : ∀ (s : Shared) (u : Value), BindsTo s fd ⟨[u], []⟩ [(x, u)])
    (hsp : ∀ H : Hp, Only H → SqL K H a (ns.map V.int) → sp [.ref a] H (fun v _ => v = .bl true) fun _ _ _ => False)
    (no : ∀ H e s', CX [] H z (fun _ _ _ => False) e s' → False) :
    codeAny (model P w) callerA (.call (.ref fa) ⟨[.ref a], []⟩)
      (fun r s' => r = .ok (.ret (.bool true)) ∧ OldK z.heap s'.heap ∧ s'.os = z.os ∧ AllBare s'.gens) z := by
  have rv := vals_ints hi
  have go : ∀ H : Hp, Only H → SqL K H a (ns.map V.int) → HOk P w H z.heap →
      (∀ b u, H b = some u → b = a ∧ K.lookup a = none) →
      codeAny (model P w) callerA (.call (.ref fa) ⟨[.ref a], []⟩)
        (fun r s' => r = .ok (.ret (.bool true)) ∧ OldK z.heap s'.heap ∧ s'.os = z.os ∧ AllBare s'.gens) z := by
    intro H on sq ok at_
    -- a namespace is no list: it is not tracked
    have free : ∀ (b : Addr) (o : Obj), z.heap.get? b = some o → (∀ u n, o.data ≠ .seq u n) → H b = none := by
      intro b o e d
      rcases hb : H b with _ | u
      · rfl
      · obtain ⟨rfl, _⟩ := at_ b u hb
        rw [ha] at e
        cases e
        exact absurd rfl (d _ _)
    have ns_ : ∀ (b : Addr) (m : Str → Option Value), z.heap.Ns b m → (hidT z.heap H).Ns b m := by
      rintro b m ⟨o, es, ep, e, d, r⟩
      exact ⟨o, es, ep, hidT_get e (free b o e fun u n q => by rw [d] at q; cases q), d, r⟩
    have kin : K.In (hidT z.heap H) := by
      intro b o e
      refine hidT_get (inK b o e) ?_
      rcases hb : H b with _ | u
      · rfl
      · obtain ⟨rfl, q⟩ := at_ b u hb
        rw [q] at e
        cases e
    obtain ⟨mc, l1, l2⟩ := lim
    have md : Mod K mg (hidT z.heap H) := ⟨kin, ns_ _ _ gl, ⟨mb, ns_ _ _ bl, bb⟩, ⟨mc, ns_ _ _ l1, l2⟩⟩
    have e0 : Env0 P w K mg (hidT z.heap H) callerA [] z H :=
      ⟨rfl, md, fun _ _ => of_hidT, Nat.le_of_eq (hidT_size _ _), trivial, (fun b (hb : b ∈ ([] : List Addr)) => (List.not_mem_nil hb).elim), ok, .of_eq gs⟩
    refine codeAny_mono ((G _ kin (ns_ _ _ gl)).goes callerA [] z H ⟨[.ref a], []⟩ [.ref a] [.ref a] _ _
      rm rfl e0 (bd z (.ref a)) (.cons rfl .nil) (hsp H on sq)) ?_
    intro r s' h
    match r, h with
    | .error e, h => exact (no H e s' h).elim
    | .ok (.ret u), h =>
      obtain ⟨v, H', os, bare, un, ok', r', q⟩ := h
      subst q
      obtain rfl : u = Value.bool true := r'
      refine ⟨rfl, OldK.of_keep fun b o e => ?_, os, bare⟩
      rcases hb : H b with _ | u
      · exact un.keep b o e hb (fun q => by cases q) (fun q => by cases q)
      · rcases on b with q | ⟨ob, xs, q⟩
        · rw [hb] at q; cases q
        · obtain ⟨e1, _⟩ := ok b _ q
          obtain ⟨e2, _⟩ := ok' b _ (un.frzs b ob _ q)
          rw [e] at e1
          cases e1
          exact e2
  rcases hk : K.lookup a with _ | o
  · let H : Hp := fun b => if b = a then some (.frz { cls := .type "list", data := .seq vs.toArray } (.lst (ns.map V.int))) else none
    have Ha : H a = some (.frz { cls := .type "list", data := .seq vs.toArray } (.lst (ns.map V.int))) := if_pos rfl
    have Hn : ∀ b, b ≠ a → H b = none := fun b hb => if_neg hb
    refine go H (fun b => ?_) (.inl (.inr ⟨_, Ha⟩)) (fun b u e => ?_) (fun b u e => ?_)
    · by_cases hb : b = a
      · subst hb; exact .inr ⟨_, _, Ha⟩
      · exact .inl (Hn b hb)
    · by_cases hb : b = a
      · subst hb
        rw [Ha] at e
        cases e
        exact ⟨ha, by rw [List.length_map]; exact hl, vs, _, rv, ha⟩
      · rw [Hn b hb] at e; cases e
    · by_cases hb : b = a
      · exact ⟨hb, hk⟩
      · rw [Hn b hb] at e; cases e
  · have e := inK a o hk
    rw [ha] at e
    cases e
    refine go (fun _ => none) (fun _ => .inl rfl)
      (.inr ⟨_, vs.toArray, _, hk, rfl, rfl, rfl, by rw [List.size_toArray, hi.length]; exact hl, by simpa using rv⟩)
      (fun b u e => by cases e) (fun b u e => by cases e)
theorem walkQ {l : PySem.W.OpenLaw} {n k : Nat} {q : Program} {loose : List Str}
    {XP : (Str → Option Value) → Heap → Prop} {YP : World → Heap → Prop} {d : DefRec}
    {K : Params → PySem.W.Frag} {CX : World → CXT} {sp : World → Sp} {x : Str}
    (hn : l.most = some n) (hn2 : n ≤ sizeLine) (hdf : d.params.defaults = []) (rm : Room k callerA)
    (hY : ∀ (w : World) (h : Heap), YP w h → (K w.params).In h)
    (F : ∀ (w : World) (mg : Str → Option Value) (fa : Addr) (h : Heap), (K w.params).In h →
      h.Ns mainGlobals mg → mg d.name = some (.ref fa) →
      ∃ fd : FuncData, (∀ (s : Shared) (u : Value), BindsTo s fd ⟨[u], []⟩ [(x, u)]) ∧
        ∀ base : Heap, (K w.params).In base → base.Ns mainGlobals mg →
          FnQ l.prog w (K w.params) mg base (CX w) k fa fd [x] (sp w))
    (hsp : ∀ (w : World) (H : Hp) (a : Addr) (ns : List Int), ns.length ≤ n → Only H →
      SqL (K w.params) H a (ns.map V.int) → sp w [.ref a] H (fun v _ => v = .bl true) fun _ _ _ => False)
    (hCX : ∀ (w : World) (H : Hp) (s : Shared) (e : Value) (s' : Shared), CX w [] H s (fun _ _ _ => False) e s' → False) :
    PySem.W.WalkO q loose XP YP l.row.toRowW d [] (fun f vs => PySem.call f vs) := by
  refine Att.attach_call hn hdf ?_
  intro w s₀ z mg mb fa o pm cd doc a vs ns G Y ho hd hcd hmg hobj hints hlen hg
  obtain ⟨fd, hb, hF⟩ := F w mg fa _ (hY w _ Y) G.T.g hmg
  exact law_goes (hY w _ Y) G.T.g G.T.b G.T.builtins G.T.nolimit hg hobj hints (Nat.le_trans hlen hn2) rm hF hb
    (fun H hO hS => hsp w H a ns hlen hO hS) fun H e s' => hCX w H z e s'
end Gx

set_option Elab.async false
set_option linter.all false
set_option maxRecDepth 100000
set_option maxHeartbeats 2000000
namespace Gx
open PySem PySem.Spec PyProof.Rows L2
/-- what a first clause 'except x as n' that takes every exception of the body wishes of it -/
def wFst (K : PySem.W.Frag) (c : Value) (i : Nat) (ts : Addr → Value → Option Addr → TS) (D : Ends) : WX :=
  fun cls d σ H => PySem.W.exmOne K cls c = some true ∧ ∀ a, H a = none →
    ts a cls d ⟨fun σ' H' => D.nx (σ'.set i none) H', D.rt, fun σ' H' => D.bk (σ'.set i none) H',
      fun σ' H' => D.ct (σ'.set i none) H'⟩ (σ.set i (some (.ref a))) H
section
variable {X : Cx} {x n : Str} {c : Value} {i : Nat} {body suite : List Stmt} {b₀ : Stmt} {np pos pos' : Pos}
  {tb : WX → TS} {ts : Addr → Value → Option Addr → TS} {more : List ExceptHandler}
/-- try: body / except x as n: suite / further clauses, which are never looked at -/
theorem ps_try_fst (hs : X.stack = X.env :: X.outer) (hf : X.env.frame = some X.env.locals) (hN : X.N.Nodup)
    (hi : X.N[i]? = some n) (hln : X.env.kindOf n = some .local) (hc : Names X x c)
    (hb : ∀ (W : WX) (pn : List (Addr × Obj)) (xe : Value → Shared → Prop), L2.Takes (X.tr pn xe) W →
      PassesOwn (model X.prog X.w) X.A X.env xe → PSs (X.tr pn xe) body (tb W))
    (hsu : ∀ (a : Addr) (oe : Obj) (cls : Value) (d : Option Addr) (pn : List (Addr × Obj)), Zc cls d oe →
      (∃ vs, oe.data = .fields vs) → PSs (X.suite a ((a, oe) :: pn)) (b₀ :: suite) (ts a cls d)) :
    PS X (.Try body (.ExceptHandler (some (.Name x np)) (some n) (b₀ :: suite) pos' :: more) [] [] pos)
      (fun D σ H => tb (wFst X.K c i ts D) D σ H) := by
  constructor
  intro pins s σ H D I h
  have ok := I.ok
  have frs_ : X.A.frames = some (X.env :: X.outer) := by rw [ok.frames, hs]
  refine wpAny_Try_except ?_
  refine wpAny_mono ((hb (wFst X.K c i ts D) (X.pn ++ pins) _ ?tk PassesOwn.looking).run [] s σ H D (I.toTry _) h) ?_
    fun e s1 he => he
  case tk =>
    rintro u z ⟨a, B, sI, ps, σ1, H1, cls, d, rfl, J', nb, up, sky, na, os, ag, hm, hy⟩
    have J : Inv X pins σ1 H1 sI := J'.ofTry ok
    rw [show (X.tr (X.pn ++ pins) _).stack = X.env :: X.outer from hs] at sky
    show wpAny (model X.prog X.w) X.A (noteFrame (.ref a) X.env) _ _ _
    refine Sky.land Zc.steady frs_ hf sky fun h3 fl up3 => ?_
    have J3 : Inv X pins σ1 H1 { z with heap := h3 } := J.landed nb fl.1 (up.trans up3) os ag
    obtain ⟨oe, vs, he, hz, hd⟩ := fl.there
    -- an exception is no frame
    have nfr : a ∉ frs (X.env :: X.outer) := by
      intro hin
      obtain ⟨_, o', e', hnf⟩ := fl.2.2.1.mem hin
      rw [he] at e'
      cases e'
      exact hnf _ hd
    have nL : a ≠ X.env.locals := fun q => nfr (List.mem_filterMap.mpr ⟨X.env, List.mem_cons_self, by rw [hf, q]⟩)
    have nF : a ∉ X.fs := fun hin => by
      obtain ⟨e, q1, q2⟩ := List.mem_filterMap.mp hin
      exact nfr (List.mem_filterMap.mpr ⟨e, List.mem_cons_of_mem _ q1, q2⟩)
    have S3 := J3.suite he hd na nL nF
    refine wpAny_handleBy_cons (codeAny_handlers_test ?_) (by intro q; cases q)
    have lt : PySem.W.Looks (model X.prog X.w) h3 (typeOf (.ref a)) cls :=
      fun A Q E s k q => wpAny_typeOf_ref (k _ _ he) (by rw [hz.1]; exact q)
    have lm := PySem.W.exm_one (M := model X.prog X.w) J3.kIn lt hm
    have nm : ∀ {Q : Value → Shared → Prop} {E : Value → Shared → Prop}, Q c { z with heap := h3 } →
        wpAny (model X.prog X.w) (X.A.mark (some (.ref a))) (eval (.Name x np) X.env) Q E { z with heap := h3 } := by
      intro Q E q
      rcases hc with ⟨g1, g2, g3 | ⟨g3, g4, g5⟩⟩
      · exact ld_glob (X := X.suite a ((a, oe) :: (X.pn ++ pins))) S3 g1 g3 q g2
      · exact ld_blt (X := X.suite a ((a, oe) :: (X.pn ++ pins))) S3 g1 g3 g4 q g5 g2
    refine nm (lm.here (codeAny_handlers_suite_as ?_))
    refine HandSPX.lands_againZ fl fun h4 fl4 up4 => ?_
    have J4 : Inv X pins σ1 H1 { z with heap := h4 } := J.landed nb fl4.1 ((up.trans up3).trans up4) os ag
    obtain ⟨oe4, vs4, he4, hz4, hd4⟩ := fl4.there
    have S4 := J4.suite he4 hd4 na nL nF
    refine store_ok (X := X.suite a ((a, oe4) :: (X.pn ++ pins))) (v := .ref a) S4 hN hi (.inl hln) rfl ?_ (.inr hln)
    intro s5 S5
    refine wpAny_mono ((hsu a oe4 cls d (X.pn ++ pins) hz4 ⟨_, hd4⟩).run [] s5 _ H1 _ S5 (hy a na)) ?_ fun _ _ q => q.elim
    intro f s6 hsp
    have fin : ∀ {σ6 : L2.St} {H6 : Hp} {Q : Shared → Prop}, Inv (X.suite a ((a, oe4) :: (X.pn ++ pins))) [] σ6 H6 s6 →
        (∀ s7, Inv X pins (σ6.set i none) H6 s7 → Q s7) →
        wpAny (model X.prog X.w) X.A (do bindName X.env n .none; unbindBehindTheSuite X.env n pos')
          (fun _ s7 => Q s7) X.xe s6 := fun S6 q => gone_ok (S6.unsuite ok) hN hi hln q
    match f, hsp with
    | .next, ⟨σ6, H6, S6, q⟩ => exact fin S6 fun s7 J7 => ⟨_, _, J7, q⟩
    | .brk, ⟨σ6, H6, S6, q⟩ => exact fin S6 fun s7 J7 => ⟨_, _, J7, q⟩
    | .cont, ⟨σ6, H6, S6, q⟩ => exact fin S6 fun s7 J7 => ⟨_, _, J7, q⟩
    | .ret u, ⟨v, σ6, H6, S6, r, q⟩ => exact fin S6 fun s7 J7 => ⟨_, _, _, J7, r, q⟩
  · intro f s1 hsp
    match f, hsp with
    | .next, ⟨σ', H', J', q⟩ => exact wpAny_execs_nil ⟨σ', H', J'.ofTry ok, q⟩
    | .brk, ⟨σ', H', J', q⟩ => exact ⟨σ', H', J'.ofTry ok, q⟩
    | .cont, ⟨σ', H', J', q⟩ => exact ⟨σ', H', J'.ofTry ok, q⟩
    | .ret u, ⟨v, σ', H', J', r, q⟩ => exact ⟨v, σ', H', J'.ofTry ok, r, q⟩
end
end Gx

set_option Elab.async false
set_option linter.all false
set_option maxRecDepth 100000
set_option maxHeartbeats 2000000
namespace Gx
open PySem PySem.Spec PyProof.Rows L2 Evl
section
variable {K : PySem.W.Frag} {H H' : Hp}
mutual
theorem dp_ex (e : Ex H H') : ∀ (d : PyData) (v : V), Dp K H v d → Dp K H' v d
  | .none, _, h => by cases h; exact .non
  | .bool b, _, h => by cases h; exact .bl b
  | .int i, _, h => by cases h; exact .int i
  | .str x, _, h => by cases h; exact .str x
  | .list ds, _, h => by
    cases h with
    | lst hs ha => exact .lst (ex_l e hs) (dpAll_ex e ds _ ha)
  | .tuple ds, _, h => by
    cases h with
    | tup hs ha => exact .tup (ex_t e hs) (dpAll_ex e ds _ ha)
  | .dict _, _, h => by cases h
theorem dpAll_ex (e : Ex H H') : ∀ (ds : List PyData) (vs : List V), DpAll K H vs ds → DpAll K H' vs ds
  | [], _, h => by cases h; exact .nil
  | d :: ds, _, h => by
    cases h with
    | cons h1 h2 => exact .cons (dp_ex e d _ h1) (dpAll_ex e ds _ h2)
end
theorem _root_.L2.Dp.to {v : V} {d : PyData} (h : Dp K H v d) (e : Ex H H') : Dp K H' v d := dp_ex e d v h
theorem _root_.L2.DpAll.to {vs : List V} {ds : List PyData} (h : DpAll K H vs ds) (e : Ex H H') : DpAll K H' vs ds := dpAll_ex e ds vs h
theorem _root_.L2.Dp.tup_inv {v : V} {ds : List PyData} (h : Dp K H v (.tuple ds)) : ∃ a xs, v = .ref a ∧ SqT K H a xs ∧ DpAll K H xs ds := by
  cases h with
  | tup hs ha => exact ⟨_, _, rfl, hs, ha⟩
theorem _root_.L2.Dp.lst_inv {v : V} {ds : List PyData} (h : Dp K H v (.list ds)) : ∃ a xs, v = .ref a ∧ SqL K H a xs ∧ DpAll K H xs ds := by
  cases h with
  | lst hs ha => exact ⟨_, _, rfl, hs, ha⟩
theorem _root_.L2.DpAll.len {vs : List V} {ds : List PyData} (h : DpAll K H vs ds) : vs.length = ds.length := by
  induction ds generalizing vs with
  | nil => cases h; rfl
  | cons d ds ih => cases h with | cons h1 h2 => simp [ih h2]
theorem _root_.L2.DpAll.get {vs : List V} {ds : List PyData} (h : DpAll K H vs ds) {i : Nat} {v : V} (e : vs[i]? = some v) : ∃ d, ds[i]? = some d ∧ Dp K H v d := by
  induction ds generalizing vs i with
  | nil => cases h; simp at e
  | cons d ds ih =>
    cases h with
    | cons h1 h2 =>
      cases i with
      | zero => simp at e; subst e; exact ⟨d, by simp, h1⟩
      | succ i => obtain ⟨d', q1, q2⟩ := ih h2 (i := i) (by simpa using e); exact ⟨d', by simpa using q1, q2⟩
theorem _root_.L2.DpAll.get' {vs : List V} {ds : List PyData} (h : DpAll K H vs ds) {i : Nat} {d : PyData} (e : ds[i]? = some d) : ∃ v, vs[i]? = some v ∧ Dp K H v d := by
  have hl := h.len
  have hi : i < ds.length := (List.getElem?_eq_some_iff.mp e).1
  have hv : vs[i]? = some (vs[i]'(by omega)) := List.getElem?_eq_getElem (by omega)
  obtain ⟨d', q1, q2⟩ := h.get hv
  rw [e] at q1; cases q1
  exact ⟨_, hv, q2⟩
theorem _root_.L2.DpAll.two {vs : List V} {a b : PyData} (h : DpAll K H vs [a, b]) : ∃ x y, vs = [x, y] ∧ Dp K H x a ∧ Dp K H y b := by
  cases h with
  | cons h1 h2 => cases h2 with
    | cons h2 h3 => cases h3; exact ⟨_, _, rfl, h1, h2⟩
theorem _root_.L2.DpAll.app {vs ws : List V} {ds es : List PyData} (h : DpAll K H vs ds) (h' : DpAll K H ws es) : DpAll K H (vs ++ ws) (ds ++ es) := by
  induction ds generalizing vs with
  | nil => cases h; exact h'
  | cons d ds ih => cases h with | cons h1 h2 => exact .cons h1 (ih h2)
theorem _root_.L2.DpAll.one {v : V} {d : PyData} (h : Dp K H v d) : DpAll K H [v] [d] := .cons h .nil
theorem _root_.L2.DpAll.take {vs : List V} {ds : List PyData} (n : Nat) (h : DpAll K H vs ds) : DpAll K H (vs.take n) (ds.take n) := by
  induction ds generalizing vs n with
  | nil => cases h; simp; exact .nil
  | cons d ds ih =>
    cases h with
    | cons h1 h2 =>
      cases n with
      | zero => exact .nil
      | succ n => exact .cons h1 (ih n h2)
theorem dpAll_ints : ∀ ns : List Int, DpAll K H (ns.map V.int) (ns.map PyData.int)
  | [] => .nil
  | n :: ns => .cons (.int n) (dpAll_ints ns)
theorem dpAll_ints_inv : ∀ {ns : List Int} {vs : List V}, DpAll K H vs (ns.map PyData.int) → vs = ns.map V.int
  | [], _, h => by cases h; rfl
  | n :: ns, _, h => by
    cases h with
    | cons h1 h2 => cases h1; rw [dpAll_ints_inv h2]; rfl
end
/-- how many signs repr may take -/
def wide : PyData → Nat
  | .none => 4
  | .bool _ => 5
  | .int _ => 1921
  | .str x => (reprText x).length
  | .list xs => wideAll xs + 2
  | .tuple xs => wideAll xs + 3
  | .dict _ => 0
where wideAll : List PyData → Nat
  | [] => 0
  | x :: xs => wide x + 2 + wideAll xs
theorem listText_wide (ts : List Str) : (listText ts).length ≤ piled ts + 2 := by
  unfold listText
  rw [strLen_append]
  have e1 : ((("]" : String) : Str)).length = 1 := rfl
  have e2 : ((("[" : String) : Str)).length = 1 := rfl
  have : ∀ (ts : List Str) (k : Nat) (acc : Str), (textFrom k acc ts).length ≤ acc.length + piled ts := by
    intro ts
    induction ts with
    | nil => intro k acc; simp [textFrom, piled]
    | cons t ts ih =>
      intro k acc
      unfold textFrom
      refine Nat.le_trans (ih _ _) ?_
      rw [piled_cons]
      have e3 : (((", " : String) : Str)).length = 2 := rfl
      have e4 : ((("" : String) : Str)).length = 0 := rfl
      split <;> (simp only [strLen_append]; omega)
  have h := this ts 0 (("[" : String) : Str)
  omega
theorem tupText_wide (ts : List Str) : (tupleText ts).length ≤ piled ts + 3 := by
  have e3 : (((if ts.length == 1 then ",)" else ")" : String) : Str)).length ≤ 2 := by split <;> decide +kernel
  have e1 : ((("(" : String) : Str)).length = 1 := rfl
  unfold tupleText
  rw [strLen_append, strLen_append, e1]
  by_cases h : ts = []
  · subst h
    have : (Str.join ", " ([] : List Str)).length = 0 := rfl
    omega
  · have := join_length_add ts h
    omega
mutual
theorem shown_wide : ∀ d : PyData, d.showable = true → d.hasDict = false → d.shown.length ≤ wide d
  | .none, _, _ => by simp only [PyData.shown, wide]; decide
  | .bool b, _, _ => by cases b <;> (simp only [PyData.shown, wide]; decide)
  | .int i, h, _ => by
    simp only [PyData.shown, wide]
    exact PyProof.Rows.int_text_len_1921 (of_decide_eq_true (by simpa only [PyData.showable] using h))
  | .str x, _, _ => by simp only [PyData.shown, wide]; exact Nat.le_refl _
  | .list xs, h, h' => by
    simp only [PyData.shown, wide]
    have q := shown_wideAll xs (by simpa only [PyData.showable] using h) (by simpa only [PyData.hasDict] using h')
    exact Nat.le_trans (listText_wide _) (by omega)
  | .tuple xs, h, h' => by
    simp only [PyData.shown, wide]
    have q := shown_wideAll xs (by simpa only [PyData.showable] using h) (by simpa only [PyData.hasDict] using h')
    exact Nat.le_trans (tupText_wide _) (by omega)
  | .dict _, _, h' => by simp [PyData.hasDict] at h'
theorem shown_wideAll : ∀ ds : List PyData, PyData.showableAll ds = true → PyData.hasDictAll ds = false → piled (PyData.shownAll ds) ≤ wide.wideAll ds
  | [], _, _ => by simp [PyData.shownAll, piled, wide.wideAll]
  | d :: ds, h, h' => by
    simp only [PyData.showableAll, Bool.and_eq_true] at h
    simp only [PyData.hasDictAll, Bool.or_eq_false_iff] at h'
    have q1 := shown_wide d h.1 h'.1
    have q2 := shown_wideAll ds h.2 h'.2
    simp only [PyData.shownAll, piled_cons, wide.wideAll]
    omega
end
section
variable {X : Cx}
def rRep (K : PySem.W.Frag) : List V → Hp → VK → Prop := fun xs H Q =>
  ∃ v d, xs = [v] ∧ Dp K H v d ∧ d.showable = true ∧ d.hasDict = false ∧ d.depth ≤ 100 ∧ wide d ≤ 10000000 ∧ Q (.str d.shown) H
theorem big_sz : (10000000 : Nat) ≤ sizeLine := by rw [sizeLine_eq]; decide
theorem call_repD (qu : Quiet X.A) (hu : X.A.units + 200 < cLine) : CallR X (.builtin "repr") (rRep X.K) := by
  intro pins s σ H xs us Q I rv h
  obtain ⟨v, d, rfl, hd, h1, h2, h3, h4, q⟩ := h
  obtain ⟨u, rfl, ru⟩ := vals1 rv
  obtain ⟨as, rd⟩ := Dp.reads I d v u hd ru
  have sz : d.shown.length ≤ sizeLine := Nat.le_trans (shown_wide d h1 h2) (Nat.le_trans h4 big_sz)
  have fin : ∀ h' t tk, (∀ b o, s.heap.get? b = some o → h'.get? b = some o) → EP X pins σ Q (.str d.shown t) { s with heap := h', toks := tk } :=
    fun h' t tk k => ⟨.str _, H, I.kept k, ⟨_, rfl⟩, q⟩
  cases hd with
  | non =>
    obtain rfl : u = Value.none := ru
    exact PySem.P.repr_of_none (fin s.heap _ _ fun _ _ e => e)
  | bl b =>
    obtain rfl : u = Value.bool b := ru
    refine PySem.P.repr_of_bool ?_
    have z := fin s.heap s.toks (s.toks + 1) fun _ _ e => e
    simp only [PyData.shown] at z
    cases b <;> exact z
  | int i =>
    obtain ⟨t, rfl⟩ := ru
    refine PySem.P.repr_of_int (of_decide_eq_true (by simpa only [PyData.showable] using h1)) ?_
    exact fin s.heap _ _ fun _ _ e => e
  | str x =>
    obtain ⟨t, rfl⟩ := ru
    exact PySem.P.repr_of_str (fin s.heap _ _ fun _ _ e => e) sz
  | lst hs ha =>
    obtain rfl : u = Value.ref _ := ru
    exact repr_of_reads' rd h1 (PyData.noDict_hsm h2) qu (by omega) (fun _ _ e => e) (fun h' t tk k => fin h' t tk k) sz
  | tup hs ha =>
    obtain rfl : u = Value.ref _ := ru
    exact repr_of_reads' rd h1 (PyData.noDict_hsm h2) qu (by omega) (fun _ _ e => e) (fun h' t tk k => fin h' t tk k) sz
/-- // by any divisor but 0, of fewer than 9000 bits -/
def CDivZ (_ j : Int) : Prop := j ≠ 0 ∧ j.natAbs.log2 < 9000
theorem op_fdivZ : OpR X (binaryOp .FloorDiv) (rI CDivZ fun i j => .int (i.fdiv j)) := opI fun i j _ _ _ _ _ hc q =>
  floordiv_int hc.1 q (.inl (PyProof.noPylong_of_log2 hc.2))
end
end Gx

set_option Elab.async false
set_option linter.all false
set_option maxRecDepth 100000
set_option maxHeartbeats 2000000
namespace Gx
open PySem PySem.Spec PyProof.Rows L2 Evl
/-! A list of the law's own that calls change, told by what stays true of it: the abstract heap stays as it is. -/
def plainO : HO → Bool
  | .tup _ => false
  | .frz _ _ => false
  | .tbl _ => false
  | .own _ => false
  | _ => true
section
variable {P : Program} {w : World} {H H1 : Hp} {h h' : Heap} {b : Addr} {u u1 u2 : HO} {fs ex : List Addr}
theorem hok_swap (ok : HOk P w H h) (hb : H b = some u) (hp : plainO u = true) (ob : ObjOk P w (upd H b u1) h b u1) :
    HOk P w (upd H b u1) h := by
  intro a o e
  by_cases hab : a = b
  · subst hab
    rw [upd_same] at e
    cases e
    exact ob
  · rw [upd_ne hab] at e
    refine (ok a o e).stay (fun _ _ _ q => q) (fun c q => ?_) (fun c xs q => ?_)
    · rw [upd_ne (fun z => by rw [z, hb] at q; cases q; cases hp)]; exact q
    · rw [upd_ne (fun z => by rw [z, hb] at q; cases q; cases hp)]; exact q
theorem un_seal (hb : H b = some u) (un : Un fs ex (upd H b u1) (upd H b u2) h h') : Un fs ex H H h h' := by
  have nb : ∀ c, H c = none → c ≠ b := fun c n z => by rw [z, hb] at n; cases n
  refine ⟨fun c o q n hc hx => ?_, fun c o q n hc hx => ?_, fun _ _ _ n _ => n, fun c o q hx => un.there c o q hx,
    fun _ _ q => q, fun _ _ _ q => q, fun c ps q => ⟨#[], by rw [q]; simp⟩⟩
  · exact un.keep c o q (by rw [upd_ne (nb c n)]; exact n) hc hx
  · exact un.slot c o q (by rw [upd_ne (nb c n)]; exact n) hc hx
theorem un_new (hb : H1 b = some u) (hp : plainO u = true) (un : Un fs ex H H1 h h') : Un fs ex H (upd H1 b u1) h h' := by
  refine ⟨un.keep, un.slot, fun c o q n hx => ?_, un.there, fun c xs q => ?_, fun c o v q => ?_, fun c ps q => ?_⟩
  · have z := un.free c o q n hx
    rw [upd_ne (fun e => by rw [e, hb] at z; cases z)]; exact z
  · have z := un.tups c xs q
    rw [upd_ne (fun e => by rw [e, hb] at z; cases z; cases hp)]; exact z
  · have z := un.frzs c o v q
    rw [upd_ne (fun e => by rw [e, hb] at z; cases z; cases hp)]; exact z
  · obtain ⟨more, z⟩ := un.tbls c ps q
    exact ⟨more, by rw [upd_ne (fun e => by rw [e, hb] at z; cases z; cases hp)]; exact z⟩
end
theorem upd_self {H : Hp} {b : Addr} {u : HO} (h : H b = some u) : upd H b u = H := by
  funext c
  by_cases e : c = b
  · subst e; rw [upd_same, h]
  · rw [upd_ne e]
/-! ### the bag -/
def BagAt (b l : Addr) (h : Heap) : Prop := ∃ (p q r : Int) (t1 t2 t3 : Tok) (n : Nat),
  h.get? b = some { cls := .type "list", data := .seq #[.int p t1, .int q t2, .int r t3, .ref l] n } ∧
    0 ≤ p ∧ 0 ≤ q ∧ q < 2147483647 ∧ 0 ≤ r
def BagO (b l : Addr) : HO := .ext (BagAt b l)
def bagL (p q r : Int) (l : Addr) : List V := [.int p, .int q, .int r, .ref l]
structure Bag (H : Hp) (b : Addr) : Prop where
  ex : ∃ (l : Addr) (cs : List Int), H b = some (BagO b l) ∧ H l = some (.lst (cs.map V.int)) ∧ ∀ c ∈ cs, 0 ≤ c
theorem Bag.to {H H' : Hp} {b : Addr} (g : Bag H b) (e : Ex H H') : Bag H' b := by
  obtain ⟨l, cs, h1, h2, h3⟩ := g.ex
  exact ⟨l, cs, e _ _ h1, e _ _ h2, h3⟩
theorem bag_objOk {P : Program} {w : World} {H : Hp} {h : Heap} {b l : Addr} (x : BagAt b l h) : ObjOk P w H h b (BagO b l) := by
  refine ⟨x, ?_, fun h1 h2 y k => ?_⟩
  · obtain ⟨p, q, r, t1, t2, t3, n, e, _⟩ := x
    exact ⟨_, e⟩
  · obtain ⟨p, q, r, t1, t2, t3, n, e, z⟩ := y
    exact ⟨p, q, r, t1, t2, t3, n, k _ e, z⟩
theorem bag_open {P : Program} {w : World} {H : Hp} {h : Heap} {b l : Addr} (ok : HOk P w H h) (hb : H b = some (BagO b l)) :
    ∃ p q r : Int, (0 ≤ p ∧ 0 ≤ q ∧ q < 2147483647 ∧ 0 ≤ r) ∧ HOk P w (upd H b (.lst (bagL p q r l))) h := by
  obtain ⟨⟨p, q, r, t1, t2, t3, n, e, z⟩, _⟩ := ok b _ hb
  refine ⟨p, q, r, z, hok_swap ok hb rfl ⟨by show 4 ≤ sizeLine; decide, [.int p t1, .int q t2, .int r t3, .ref l], n, ?_, e⟩⟩
  exact .cons ⟨_, rfl⟩ (.cons ⟨_, rfl⟩ (.cons ⟨_, rfl⟩ (.cons rfl .nil)))
theorem bag_close {P : Program} {w : World} {H : Hp} {h : Heap} {b l : Addr} {p q r : Int} (ok : HOk P w H h)
    (hb : H b = some (.lst (bagL p q r l))) (z : 0 ≤ p ∧ 0 ≤ q ∧ q < 2147483647 ∧ 0 ≤ r) : BagAt b l h := by
  obtain ⟨_, its, n, rv, e⟩ := ok b _ hb
  unfold bagL at rv
  cases rv with
  | cons r1 rv => cases rv with
    | cons r2 rv => cases rv with
      | cons r3 rv => cases rv with
        | cons r4 rv =>
          cases rv
          obtain ⟨t1, rfl⟩ := r1
          obtain ⟨t2, rfl⟩ := r2
          obtain ⟨t3, rfl⟩ := r3
          obtain rfl := r4
          exact ⟨p, q, r, t1, t2, t3, n, e, z⟩
/-- what _law_take promises: some number below many, and nothing that is told has changed -/
def spTake : Sp := fun vs H Q _ => ∃ (b : Addr) (many : Int), vs = [.ref b, .int many] ∧ Bag H b ∧ 0 < many ∧ many < 1073741824 ∧
  ∀ x : Int, 0 ≤ x → x < many → Q (.int x) H
/-- .. and what its body does to the list -/
def spTakeI : Sp := fun vs H Q _ => ∃ (b l : Addr) (many p q r : Int) (cs : List Int), vs = [.ref b, .int many] ∧
  H b = some (.lst (bagL p q r l)) ∧ H l = some (.lst (cs.map V.int)) ∧ b ≠ l ∧ (∀ c ∈ cs, 0 ≤ c) ∧
  (0 ≤ p ∧ 0 ≤ q ∧ q < 2147483647 ∧ 0 ≤ r) ∧ 0 < many ∧ many < 1073741824 ∧
  ∀ x p' q' r' : Int, 0 ≤ x → x < many → (0 ≤ p' ∧ 0 ≤ q' ∧ q' < 2147483647 ∧ 0 ≤ r') →
    Q (.int x) (upd H b (.lst (bagL p' q' r' l)))
def spBag (K : PySem.W.Frag) : Sp := fun vs H Q _ => ∃ (a : Addr) (ns : List Int), vs = [.ref a] ∧ SqL K H a (ns.map V.int) ∧ ns.length ≤ 1000 ∧
  ∀ b H', Ex H H' → Bag H' b → Q (.ref b) H'
def spBagI (K : PySem.W.Frag) : Sp := fun vs H Q _ => ∃ (a : Addr) (ns : List Int), vs = [.ref a] ∧ SqL K H a (ns.map V.int) ∧ ns.length ≤ 1000 ∧
  ∀ (b l : Addr) (cs : List Int) (H' : Hp), Ex H H' → H b = none → H' b = some (.lst (bagL 0 1234567891 0 l)) →
    H' l = some (.lst (cs.map V.int)) → (∀ c ∈ cs, 0 ≤ c) → Q (.ref b) H'
section
variable {P : Program} {w : World} {K : PySem.W.Frag} {mg : Str → Option Value} {base : Heap} {k : Nat} {f : Addr} {fd : FuncData}
theorem take_sealed (F : FnOk P w K mg base CX0 k f fd ["_law_bag_here", "_law_many"] spTakeI) :
    FnOk P w K mg base CX0 k f fd ["_law_bag_here", "_law_many"] spTake := by
  refine ⟨fun vs H Q E h => ?_, fun A outer s H args us vs Q E rm e0 bd rv h => ?_⟩
  · obtain ⟨b, many, rfl, _⟩ := h; rfl
  · obtain ⟨b, many, rfl, ⟨l, cs, hb, hl, hc⟩, m0, m1, kq⟩ := h
    obtain ⟨p, q, r, z, ok1⟩ := bag_open e0.hok hb
    have nbl : b ≠ l := fun e => by rw [e, hl] at hb; cases hb
    have e1 : Env0 P w K mg base A outer s (upd H b (.lst (bagL p q r l))) := by
      refine ⟨e0.frames, e0.mod, fun c o q => ?_, e0.bsz, e0.funs, fun c hc => ?_, ok1, e0.bare⟩
      · obtain ⟨x1, x2⟩ := e0.bs c o q
        exact ⟨x1, by rw [upd_ne (fun e => by rw [e, hb] at x2; cases x2)]; exact x2⟩
      · have x2 := e0.frf c hc
        rw [upd_ne (fun e => by rw [e, hb] at x2; cases x2)]; exact x2
    refine codeAny_mono (F.run A outer s _ args us [.ref b, .int many]
      (fun v H' => ∃ (x p' q' r' : Int), v = .int x ∧ 0 ≤ x ∧ x < many ∧ (0 ≤ p' ∧ 0 ≤ q' ∧ q' < 2147483647 ∧ 0 ≤ r') ∧ H' = upd (upd H b (.lst (bagL p q r l))) b (.lst (bagL p' q' r' l)))
      E rm e1 bd rv ⟨b, l, many, p, q, r, cs, rfl, upd_same, by rw [upd_ne nbl.symm]; exact hl, nbl, hc, z, m0, m1,
        fun x p' q' r' h0 h1 zz => ⟨x, p', q', r', rfl, h0, h1, zz, rfl⟩⟩) ?_
    intro r s' hq
    match r, hq with
    | .ok (.ret u), ⟨v, H', os, bare, un, ok', rv', x, p', q', r', ev, h0, h1, zz, eH⟩ =>
      subst eH
      rw [upd_upd] at un ok'
      have at_ := bag_close ok' upd_same zz
      have ok2 := hok_swap (u1 := BagO b l) ok' upd_same rfl (bag_objOk at_)
      rw [upd_upd, upd_self hb] at ok2
      exact ⟨v, H, os, bare, un_seal hb un, ok2, rv', by rw [ev]; exact kq x h0 h1⟩
theorem bag_sealed (F : FnOk P w K mg base CX0 k f fd ["_law_script"] (spBagI K)) : FnOk P w K mg base CX0 k f fd ["_law_script"] (spBag K) := by
  refine ⟨fun vs H Q E h => ?_, fun A outer s H args us vs Q E rm e0 bd rv h => ?_⟩
  · obtain ⟨a, ns, rfl, _⟩ := h; rfl
  · obtain ⟨a, ns, rfl, hs, hl, kq⟩ := h
    refine codeAny_mono (F.run A outer s H args us [.ref a]
      (fun v H' => ∃ (b l : Addr) (cs : List Int), v = .ref b ∧ Ex H H' ∧ H b = none ∧ H' b = some (.lst (bagL 0 1234567891 0 l)) ∧
        H' l = some (.lst (cs.map V.int)) ∧ (∀ c ∈ cs, 0 ≤ c))
      E rm e0 bd rv ⟨a, ns, rfl, hs, hl, fun b l cs H' x1 x2 x3 x4 x5 => ⟨b, l, cs, rfl, x1, x2, x3, x4, x5⟩⟩) ?_
    intro r s' hq
    match r, hq with
    | .ok (.ret u), ⟨v, H', os, bare, un, ok', rv', b, l, cs, ev, ex, nb, hb, hl', hc⟩ =>
      have at_ := bag_close ok' hb ⟨by decide, by decide, by decide, by decide⟩
      have ok2 := hok_swap (u1 := BagO b l) ok' hb rfl (bag_objOk at_)
      have nbl : l ≠ b := fun e => by rw [e, hb] at hl'; injection hl' with e1; injection e1 with e2; cases cs with
        | nil => cases e2
        | cons c cs => cases cs with
          | nil => cases e2
          | cons c2 cs => cases cs with
            | nil => cases e2
            | cons c3 cs => cases cs with
              | nil => cases e2
              | cons c4 cs => cases e2
      refine ⟨v, _, os, bare, un_new hb rfl un, ok2, rv', ?_⟩
      subst ev
      refine kq b _ (ex.mut nb) ⟨l, cs, upd_same, by rw [upd_ne nbl]; exact hl', hc⟩
end
end Gx

set_option Elab.async false
set_option linter.all false
set_option maxRecDepth 100000
set_option maxHeartbeats 2000000
namespace Gx
open PySem PySem.Spec PyProof.Rows L2 Evl
/-- the built-in names that the text uses are still the built-in ones -/
structure Bi (mg : Str → Option Value) : Prop where
  len : mg "len" = none
  abs : mg "abs" = none
  max : mg "max" = none
  min : mg "min" = none
  repr : mg "repr" = none
  int : mg "int" = none
  tuple : mg "tuple" = none
  list : mg "list" = none
  dict : mg "dict" = none
  isinstance : mg "isinstance" = none
  sorted : mg "sorted" = none
  sum : mg "sum" = none
  all : mg "all" = none
  any : mg "any" = none
  range : mg "range" = none
  enumerate : mg "enumerate" = none
  zip : mg "zip" = none
  bool : mg "bool" = none
  str : mg "str" = none
  set : mg "set" = none
theorem bt_len : bootBuiltins "len" = some (.builtin "len") := by decide +kernel
theorem bt_abs : bootBuiltins "abs" = some (.builtin "abs") := by decide +kernel
theorem bt_max : bootBuiltins "max" = some (.builtin "max") := by decide +kernel
theorem bt_min : bootBuiltins "min" = some (.builtin "min") := by decide +kernel
theorem bt_repr : bootBuiltins "repr" = some (.builtin "repr") := by decide +kernel
theorem bt_int : bootBuiltins "int" = some (.type "int") := by decide +kernel
theorem bt_tuple : bootBuiltins "tuple" = some (.type "tuple") := by decide +kernel
theorem bt_list : bootBuiltins "list" = some (.type "list") := by decide +kernel
theorem bt_dict : bootBuiltins "dict" = some (.type "dict") := by decide +kernel
theorem bt_isinstance : bootBuiltins "isinstance" = some (.builtin "isinstance") := by decide +kernel
theorem bt_sorted : bootBuiltins "sorted" = some (.builtin "sorted") := by decide +kernel
theorem bt_sum : bootBuiltins "sum" = some (.builtin "sum") := by decide +kernel
theorem bt_all : bootBuiltins "all" = some (.builtin "all") := by decide +kernel
theorem bt_bool : bootBuiltins "bool" = some (.type "bool") := by decide +kernel
theorem bt_str : bootBuiltins "str" = some (.type "str") := by decide +kernel
theorem bt_set : bootBuiltins "set" = some (.type "set") := by decide +kernel
theorem bt_any : bootBuiltins "any" = some (.builtin "any") := by decide +kernel
/-- a def of the top as the head leaves it -/
structure Def (K : PySem.W.Frag) (mg : Str → Option Value) (x : Str) (st : Stmt) (f : Addr) (fd : FuncData) (ps : List Str) : Prop where
  fn : Fun K x x st f fd
  mg : mg x = some (.ref f)
  bd : Binds K fd ps []
/-- .. by what the head tells of it -/
def IsDef (K : PySem.W.Frag) (x qual : Str) (st : Stmt) (f : Addr) : Prop :=
  ∃ (oc : Value) (od : Option Addr) (kV doc pm : Value) (an : Option Addr) (cdv ct : Value) (osl : Array (Option Value)),
    K.lookup f = some ⟨oc, od, .func (PySem.W.fnOf x qual (defArgs st) (defBody st) (defScope st) .none kV doc pm an cdv ct), osl⟩ ∧
      PySem.W.codeIn K cdv qual = true ∧ PySem.W.keepIn K (.ref f) = true
theorem IsDef.fn {K : PySem.W.Frag} {x qual : Str} {st : Stmt} {f : Addr} (d : IsDef K x qual st f) : ∃ fd, Fun K x qual st f fd := by
  obtain ⟨oc, od, kV, doc, pm, an, cdv, ct, osl, l, c, k⟩ := d
  exact ⟨_, fun_mk l c k⟩
theorem def_mk {K : PySem.W.Frag} {h : Heap} {mg : Str → Option Value} {x : Str} {st : Stmt} {f : Addr} {ps : List Str}
    (X : K.In h) (G : h.Ns mainGlobals mg) (a : PySem.W.nsIn K mainGlobals x = some (some (.ref f))) (d : IsDef K x x st f)
    (hb : ∀ (kV doc pm : Value) (an : Option Addr) (cdv ct : Value) (us : List Value), us.length = ps.length →
      bindArgs (PySem.W.fnOf x x (defArgs st) (defBody st) (defScope st) .none kV doc pm an cdv ct) ⟨us, []⟩ = pure (ps.zip us)) :
    ∃ fd, Def K mg x st f fd ps := by
  obtain ⟨fd, F⟩ := d.fn
  exact ⟨fd, F, PySem.W.mg_of X G a, F.binds hb⟩
/-- a quiet def from which no exception leaves -/
theorem fnq_ok {P : Program} {w : World} {K : PySem.W.Frag} {mg : Str → Option Value} {base : Heap}
    {x qual : Str} {st : Stmt} {f : Addr} {fd : FuncData} {N ps : List Str} {k : Nat} {sp : Sp}
    (F : Fun K x qual st f fd) (S : FnScope N ps (defScope st))
    (len : ∀ vs H Q E, sp vs H Q E → vs.length = ps.length)
    (walk : ∀ (cdv : Value) (A : Around) (outer : List Env) (s : Shared) (H : Hp) (vs : List V) (Q : VK) (E : XK),
      Room k (A.deeper (envOfC qual (defScope st) s.heap.objs.size f cdv)) →
      Quiet (A.deeper (envOfC qual (defScope st) s.heap.objs.size f cdv)) → sp vs H Q E →
      ∃ t, PSs (cxOf CX0 P w K mg base N qual (defScope st) f cdv A outer s H E).nox (defBody st) t ∧
        t { nx := fun _ H' => Q .non H', rt := Q } (start N vs) H) :
    FnQ P w K mg base CX0 (k + 1) f fd ps sp :=
  fnq_of F S len fun cdv A outer s H vs Q E rm qu h =>
    let ⟨t, a, b⟩ := walk cdv A outer s H vs Q E rm qu h
    ⟨t, a.nox, b⟩
section
variable {X : Cx}
def rGetL (K : PySem.W.Frag) : V → V → Hp → VK → Prop := fun o i H Q => ∃ p xs k v, o = .ref p ∧ i = .int k ∧ SqL K H p xs ∧
  0 ≤ k ∧ k < 1000000 ∧ xs[k.toNat]? = some v ∧ Q v H
theorem get_list : PGet X (rGetL X.K) := by
  intro pins s σ H o i ov iv Q I ro ri h
  obtain ⟨p, xs, k, v, rfl, rfl, hs, h0, h1, hx, q⟩ := h
  obtain rfl : ov = Value.ref p := ro
  obtain ⟨t, rfl⟩ := ri
  obtain ⟨its, r, pl, hz⟩ := I.list hs
  obtain ⟨u, hu, ru⟩ := r.get hx
  exact wpAny_getItem_list pl.isList h0 (by omega) (by simpa using hu) ⟨v, H, I, ru, q⟩
end
theorem ex_upd {H H' : Hp} {p : Addr} {o : HO} (e : Ex H H') (n : H' p = none) : Ex H (upd H' p o) := e.trans (Ex.new n)
/-- a test read out -/
theorem if_d {c A B : Prop} [Decidable c] (h1 : c → A) (h2 : ¬ c → B) : if decide c = true then A else B := by
  by_cases h : c
  · rw [if_pos (decide_eq_true h)]; exact h1 h
  · rw [if_neg (by rw [decide_eq_false h]; exact Bool.false_ne_true)]; exact h2 h
theorem if_nd {c A B : Prop} [Decidable c] (h1 : ¬ c → A) (h2 : c → B) : if (!decide c) = true then A else B := by
  by_cases h : c
  · rw [decide_eq_true h]; exact iteF (h2 h)
  · rw [decide_eq_false h]; exact iteT (h1 h)
theorem V_int_eq {a b : Int} : (V.int a = V.int b) = (a = b) := propext ⟨fun h => V.int.inj h, fun h => by rw [h]⟩
theorem atI_of {α : Type} {xs : List α} {i : Int} {v : α} (h0 : 0 ≤ i) (h : xs[i.toNat]? = some v) : atI xs i = some v := by
  have hl := (List.getElem?_eq_some_iff.mp h).1
  unfold atI ixN
  rw [if_pos h0, if_pos (by omega)]
  exact h
theorem get_of {α : Type} {xs : List α} {i : Int} (h0 : 0 ≤ i) (h1 : i < xs.length) : ∃ v, xs[i.toNat]? = some v ∧ v ∈ xs := by
  have hl : i.toNat < xs.length := by omega
  exact ⟨xs[i.toNat], List.getElem?_eq_getElem hl, List.getElem_mem hl⟩
end Gx

set_option Elab.async false
set_option linter.all false
set_option maxRecDepth 100000
set_option maxHeartbeats 2000000
namespace Gx
open PySem PySem.Spec PyProof.Rows L2 Evl
/-- a tuple of which the very object is known: it has no dict of its own -/
def ExT (H : Hp) (a : Addr) (xs : List V) : Prop := ∃ o : Obj, H a = some (.frz o (.tup xs)) ∧ o.dict = none
theorem ExT.sq {K : PySem.W.Frag} {H : Hp} {a : Addr} {xs : List V} (x : ExT H a xs) : SqT K H a xs := by
  obtain ⟨o, h, _⟩ := x
  exact .inl (.inr ⟨o, h⟩)
theorem ExT.to {H H' : Hp} {a : Addr} {xs : List V} (x : ExT H a xs) (e : Ex H H') : ExT H' a xs := by
  obtain ⟨o, h, d⟩ := x
  exact ⟨o, e _ _ h, d⟩
section
variable {X : Cx}
/-- tuple(xs) of a list, the new object known -/
def rTupX (K : PySem.W.Frag) : List V → Hp → VK → Prop := fun xs H Q => ∃ (p : Addr) (ys : List V), xs = [.ref p] ∧ SqL K H p ys ∧
  ∀ l H', H l = none → Ex H H' → ExT H' l ys → Q (.ref l) H'
theorem call_tupX : CallR X (.type "tuple") (rTupX X.K) := by
  intro pins s σ H xs us Q I rv h
  obtain ⟨p, ys, rfl, hq, q⟩ := h
  obtain ⟨u, rfl, ru⟩ := vals1 rv
  obtain rfl : u = Value.ref p := ru
  obtain ⟨its, r', pl, hz⟩ := I.list hq
  have hlen := r'.length
  refine call_tuple_list pl.isList (fun h' kp => ?_) (by simp only [List.size_toArray] <;> omega)
  have I1 : Inv X pins σ H { s with heap := h' } := I.kept (t' := s.toks) kp
  have hn : H h'.objs.size = none := I1.hok.fresh (Nat.le_refl _)
  have I2 := I1.laid (t' := s.toks) (a := h'.objs.size) (o := .frz { cls := .type "tuple", data := .seq its.toArray } (.tup ys))
    (h' := h'.push { cls := .type "tuple", data := .seq its.toArray }) (fun b o e => Heap.get?_push_of_some _ e) (Nat.le_refl _)
    ⟨Heap.get?_push_size _ rfl, hz, its, r', IsTup.new _ _⟩
  exact ⟨.ref h'.objs.size, _, I2, rfl, q _ _ hn (Ex.new hn) ⟨_, upd_same, rfl⟩⟩
/-- dict(t) of a tuple of pairs whose keys are ints or texts -/
def rDictT (K : PySem.W.Frag) : List V → Hp → VK → Prop := fun xs H Q => ∃ (a : Addr) (ps : List Addr) (kvs : List (Key × V)), xs = [.ref a] ∧
  ExT H a (ps.map V.ref) ∧ Paired (fun p kv => SqT K H p [kV kv.1, kv.2]) ps kvs ∧ ∀ p, H p = none → Q (.ref p) (upd H p (.dK (mergeK [] kvs)))
theorem call_dictT (hcalm : X.calm = true) : CallR X (.type "dict") (rDictT X.K) := by
  intro pins s σ H xs us Q I rv h
  obtain ⟨a, ps, kvs, rfl, ⟨o, ho, hd⟩, hp, q⟩ := h
  obtain ⟨u, rfl, ru⟩ := vals1 rv
  obtain rfl : u = Value.ref a := ru
  obtain ⟨he, hz, its, r', ⟨o', e', hc, n, hdat⟩⟩ := I.hok a _ ho
  rw [he] at e'
  cases e'
  have ei := refs_at r'
  subst ei
  rw [List.length_map] at hz
  obtain ⟨prs, rel, hl, hpr⟩ := pairs_of I hp
  -- the keys as they stand in the heap
  have key : ∀ j : Nat, j < prs.length → ∃ kv : Value × Value, ∃ b, ps[j]? = some b ∧ IsTup s.heap b #[kv.1, kv.2] ∧
      ∃ q, prs[j]? = some q ∧ q.2 = kv.2 ∧ keyIs q.1 kv.1 = true := by
    intro j hj
    obtain ⟨b, u, e1, e2, e3⟩ := hpr j _ (List.getElem?_eq_getElem hj)
    exact ⟨(u, prs[j].2), b, e1, e2, _, List.getElem?_eq_getElem hj, rfl, e3⟩
  let ws : List (Value × Value) := List.ofFn fun j : Fin prs.length => (key j.1 j.2).choose
  have hws : ws.length = prs.length := List.length_ofFn
  have wsAt : ∀ j (hj : j < prs.length), ws[j]? = some (key j hj).choose := by
    intro j hj
    rw [List.getElem?_eq_getElem (by rw [hws]; exact hj)]
    exact congrArg some (List.getElem_ofFn (by rw [hws]; exact hj))
  refine PySem.call_dict_pairs (kvs := prs) (knd := mixKind X.prog X.w)
    (PySem.PairArg.tuple a (ps.map Value.ref).toArray (fun j => ps.getD j 0) ws) (I.ok.hd hcalm) ⟨⟨o, n, he, hc, hd, hdat⟩, ?_, ?_⟩ ⟨hws.symm, ?_⟩ ?_ ?_
  · rw [hws, hl]; simp
  · intro j k v hj
    have hjl : j < prs.length := by rw [← hws]; exact (List.getElem?_eq_some_iff.mp hj).1
    rw [wsAt j hjl] at hj
    obtain ⟨b, e1, e2, _⟩ := (key j hjl).choose_spec
    have e0 := Option.some.inj hj
    rw [e0] at e2
    refine ⟨?_, .inl ?_⟩
    · simp [e1]
    · have e3 : ps.getD j 0 = b := by simp [e1]
      show s.heap.IsTuple (ps.getD j 0) #[k, v]
      rw [e3]
      exact e2
  · intro i k v hr
    have hr' : ws[i]? = some (k, v) := hr
    have hil : i < prs.length := by rw [← hws]; exact (List.getElem?_eq_some_iff.mp hr').1
    rw [wsAt i hil] at hr'
    have e0 := Option.some.inj hr'
    obtain ⟨b, e1, e2, z, e3, e4, e5⟩ := (key i hil).choose_spec
    rw [e0] at e4 e5
    obtain ⟨z1, z2⟩ := z
    simp only at e4 e5
    subst e4
    exact ⟨z1, e3, e5⟩
  · rw [hws, hl]; exact hz
  · intro h' tk hd' k'
    have hm : (s.heap.objs.size == sysModules) = false := beq_eq_false_iff_ne.mpr (Nat.ne_of_gt I.big)
    have hlen : (mergeK [] kvs).length ≤ sizeLine := by
      refine Nat.le_trans (length_mergeK kvs []) ?_
      rw [List.length_nil, Nat.zero_add, rel.length, hl]
      exact hz
    have kk : ∀ b o, s.heap.get? b = some o → h'.get? b = some o := fun b o e => k' b o (by simp) e
    have I2 := I.laid (t' := tk) (a := s.heap.objs.size) (o := .dK (mergeK [] kvs)) kk (Nat.le_refl _) ⟨hlen, hm, merged [] prs, KV.merge rel .nil, hd'⟩
    exact ⟨.ref s.heap.objs.size, _, I2, rfl, q _ (I.hok.fresh (Nat.le_refl _))⟩
end
/-- a dict of pairs with different keys, looked up -/
theorem valV_merge : ∀ (kvs acc : List (Key × V)) (k : Key), (∀ kv ∈ kvs, valV acc kv.1 = none) → (kvs.map (·.1)).Nodup →
    valV (mergeK acc kvs) k = match valV kvs k with | some v => some v | none => valV acc k
  | [], acc, k, _, _ => rfl
  | kv :: r, acc, k, h, nd => by
    rw [List.map_cons, List.nodup_cons] at nd
    have e : mergeK acc (kv :: r) = mergeK (putK acc kv.1 kv.2) r := rfl
    rw [e, valV_merge r (putK acc kv.1 kv.2) k (fun z hz => ?_) nd.2]
    · rw [valV_put]
      by_cases hk : kv.1 = k
      · rw [valV_pos hk, if_pos hk.symm]
        have : valV r k = none := by
          cases q : valV r k with
          | none => rfl
          | some v => exact absurd (by rw [hk]; exact valV_in q) nd.1
        rw [this]
      · rw [valV_neg hk, if_neg (fun e => hk e.symm)]
    · rw [valV_put, if_neg (fun e => nd.1 (by rw [← e]; exact List.mem_map_of_mem hz))]
      exact h z (List.mem_cons_of_mem _ hz)
end Gx

set_option Elab.async false
set_option linter.all false
set_option maxRecDepth 100000
set_option maxHeartbeats 2000000
namespace PySem
open AutoSeq1 (wpAny_loadPart')
/-- enumerate(t) of a tuple -/
theorem gx_enum_new (l : Addr) (items : Array Value) (n : Nat) (dct : Option Addr) (sl : Array (Option Value)) :
    Meets (Builtin.«enumerate.__new__» ⟨[.type "enumerate", .ref l], []⟩) (fun _ R s =>
      s.heap.get? l = some { cls := .type "tuple", dict := dct, data := .seq items n, slots := sl } ∧
      R (.ok (.ret (.ref (s.heap.push { cls := .type "tuple_iterator", data := .fields #[.ref l, .int 0 0] }).objs.size)))
        { s with heap := (s.heap.push { cls := .type "tuple_iterator", data := .fields #[.ref l, .int 0 0] }).push { cls := .type "enumerate", data := .fields #[.none, .bool false, .ref s.heap.objs.size, rawInt 0, .none, .none] } }) := by
  refine .of_wp fun prog w A R s h => ?_
  obtain ⟨hp, g, d, tk, os⟩ := s
  obtain ⟨hl, h⟩ := h
  have sb := sub_enumerate
  have tT : Heap.IsTuple (Shared.heap ⟨hp, g, d, tk, os⟩) l items := ⟨_, hl, rfl, n, rfl⟩
  wp_walk using wpAny_loadPart' hl
  refine wpAny_stack_any fun st => wpAny_pure ?_
  split
  · rename_i c _ _ _ _ _
    cases (c == Value.type "enumerate") <;>
      (wp_walk using wpAny_loadPart' hl, wpAny_pyIter_tuple tT; exact ⟨_, rfl, h⟩)
  · wp_walk using wpAny_loadPart' hl, wpAny_pyIter_tuple tT
    exact ⟨_, rfl, h⟩
section
variable {prog : Program} {w : World} {A : Around} {E : Value → Shared → Prop} {s : Shared}
theorem gx_call_enum {l : Addr} {items : Array Value} {Q : Value → Shared → Prop} (hL : s.heap.IsTuple l items)
    (h : ∀ h', IsEnum h' (s.heap.objs.size + 1) s.heap.objs.size 0 .none → h'.IsTupleIter s.heap.objs.size l 0 →
      (∀ b o, s.heap.get? b = some o → h'.get? b = some o) → Q (.ref (s.heap.objs.size + 1)) { s with heap := h' }) :
    wpAny (model prog w) A (call (.type "enumerate") [.ref l]) Q E s := by
  obtain ⟨⟨c, dct, dt, sl⟩, hl, hc, n, hd⟩ := hL
  obtain rfl : c = .type "tuple" := hc
  obtain rfl : dt = .seq items n := hd
  refine callType_new F.called_enumerate (by decide) (F.typeCall_enumerate_1 _) (F.newCall_enumerate_1 _)
    (fun obj => F.args_object_init_2 obj _) F.entry_enumerate_new (gx_enum_new l items n dct sl) ⟨hl, ?_⟩
  have sz : (s.heap.push { cls := .type "tuple_iterator", data := .fields #[.ref l, .int 0 0] }).objs.size = s.heap.objs.size + 1 := Heap.size_push ..
  have at1 := Heap.get?_push_size (s.heap.push { cls := .type "tuple_iterator", data := .fields #[.ref l, .int 0 0] })
    (o := { cls := .type "enumerate", data := .fields #[.none, .bool false, .ref s.heap.objs.size, rawInt 0, .none, .none] }) rfl
  show _ ∧ _
  rw [sz] at at1 ⊢
  refine ⟨⟨_, at1, rfl⟩, h _ at1 ⟨_, Heap.get?_push_of_some _ (Heap.get?_push_size _ rfl), rfl, rfl⟩ ?_⟩
  exact fun b o x => Heap.get?_push_of_some _ (Heap.get?_push_of_some _ x)
end
end PySem
namespace Gx
open PySem PySem.Spec PyProof.Rows L2 Evl
/-- the tuple at a, each item in a new pair with its number -/
def Iet (K : PySem.W.Frag) (a : Addr) : It where
  go := fun i H => ∃ (xs : List V) (x : V), SqT K H a xs ∧ xs[i]? = some x
  yld := fun i H v H' => ∃ T x, v = .ref T ∧ H T = none ∧ H' = upd H T (.tup [.int (i : Nat), x]) ∧ ∀ xs, SqT K H a xs → xs[i]? = some x
  stop := fun i H => ∃ xs : List V, SqT K H a xs ∧ xs.length ≤ i
theorem turn_enumT {P : Program} {w : World} {K : PySem.W.Frag} {elts : List Expr} {kk : Nat} {tpos : Pos} (a e it : Addr) (nt : a ≠ it) :
    Turn P w K (.Tuple elts kk tpos) (Iet K a) [e, it] e
      (fun i h => (∃ old, IsEnum h e it ((i : Nat) : Int) old) ∧ h.IsTupleIter it a i ∧ e ≠ it ∧ e ≠ a) := by
  refine ⟨by simp, fun i h st b hb => ?_, fun i h h' st k => ?_, ?_, ?_, fun A i s Q E st h => ?_⟩
  · obtain ⟨⟨old, he⟩, ⟨o, ho, hc, hd⟩, _⟩ := st
    rcases List.mem_cons.mp hb with z | z
    · subst z; exact ⟨_, he, fun v q => nomatch q⟩
    · rw [List.mem_singleton] at z; subst z; exact ⟨o, ho, fun v q => by rw [hd] at q; cases q⟩
  · obtain ⟨⟨old, he⟩, hi, hne⟩ := st
    exact ⟨⟨old, k e (by simp) _ he⟩, hi.at fun o q => k it (by simp) o q, hne⟩
  · intro X hP hw hK hc i pins s σ H E I hf st hg
    subst hP hw hK
    obtain ⟨⟨old, he⟩, hit, hne, hea⟩ := st
    obtain ⟨xs, x, hq, hx⟩ := hg
    obtain ⟨its, rv, tp, hz⟩ := I.tuple hq
    obtain ⟨u, hu, ru⟩ := rv.get hx
    have el : e < s.heap.objs.size := Heap.lt_size he
    have il : it < s.heap.objs.size := by obtain ⟨_, q, _⟩ := hit; exact Heap.lt_size q
    have D := Draws.tuple (prog := X.prog) (w := X.w) (A := X.A.in1) (I.ok.hd hc) it a nt its.toArray
    refine wpAny_pyNext_enum_itemD D he ⟨hit, tp⟩ (by have := (List.getElem?_eq_some_iff.mp hu).1; simpa using this) hne (by simp [hne, hea]) ?_
    intro y h' tk hy ho st' hT hsz hk
    have yu : y = u := by
      have hy' : its.toArray[i]? = some y := hy
      rw [List.getElem?_toArray, hu] at hy'
      exact (Option.some.inj hy').symm
    subst yu
    refine ⟨_, rfl, wpAny_letOwnedTupleGo_enum (s := { s with heap := h', toks := tk + 1 }) ho fun h'' he' sb => ?_⟩
    have hT2 := (sb.2 _ (Nat.ne_of_gt el)).trans hT
    have ob : ObjOk X.prog X.w (upd H s.heap.objs.size (.tup [.int (i : Nat), x])) h'' s.heap.objs.size (.tup [.int (i : Nat), x]) :=
      ⟨by show 2 ≤ sizeLine; decide, [.int i tk, y], .cons ⟨_, rfl⟩ (.cons ru .nil), ⟨_, hT2, rfl, _, rfl⟩⟩
    have I1 := I.turnedNew (ch := [e, it]) (t' := tk + 1) (fun b ob hb q => (sb.2 b (fun z => hb (by simp [z]))).trans
      (hk b ob (fun z => hb (by simp [z])) (fun z => hb (by simp [z])) q)) hf (Nat.le_refl _) ob
    refine ⟨.ref s.heap.objs.size, _, I1, rfl, ⟨_, x, rfl, I.hok.fresh (Nat.le_refl _), rfl, fun ys hy => by rw [I.tuple_inj hy hq]; exact hx⟩,
      ⟨⟨y, ?_⟩, st'.1.at fun o q => (sb.2 it (Ne.symm hne)).trans q, hne, hea⟩, fun b hb => ?_⟩
    · have e1 : ((i + 1 : Nat) : Int) = (i : Int) + 1 := by omega
      rw [e1]; exact he'
    · have bl : b < s.heap.objs.size := by
        rcases List.mem_cons.mp hb with z | z
        · subst z; exact el
        · rw [List.mem_singleton] at z; subst z; exact il
      rw [upd_ne (Nat.ne_of_lt bl)]
      exact (hf b hb).1
  · intro X hP hw hK hc i pins s σ H E I hf st hg
    subst hP hw hK
    obtain ⟨⟨old, he⟩, hit, hne, hea⟩ := st
    obtain ⟨xs, hq, hx⟩ := hg
    obtain ⟨its, rv, tp, hz⟩ := I.tuple hq
    obtain ⟨f0, f1, f2, f3, f4, f5⟩ := hf it (by simp)
    have ll := rv.length
    unfold pyNext
    have hT : s.TypeIs (.ref e) "enumerate" := ⟨_, he, rfl⟩
    refine wpAny_bind (wpAny_attempt (wpAny_callSpecial?_slot (name := Str.ofString "__next__") hT F.slot_enumerate_next
      (wpAny_call_entry F.slot_enumerate_next hT F.entry_enumerate_next ?_ (F.args_enumerate_next_1 _))))
    show wpAny _ _ (field (.ref e) 2 >>= _) _ _ _
    refine wpAny_bind (wpAny_field he rfl (x := .ref it) rfl ?_)
    refine wpAny_bind (wpAny_nextOf_tuple_end (I.ok.hd hc) hit tp (by simp; omega) fun h' x he' hx' => ?_)
    obtain ⟨o, ho, hcc⟩ := hx'
    refine wpAny_bind (wpAny_isInstance (T := "StopIteration") (b := true) ⟨o, ho, hcc⟩ isSubtype_stop ?_)
    exact wpAny_pure ⟨rfl, I.turned (t' := s.toks) (fun b o hb q => he' b o hb q) f0 f1 f3 f4 f5⟩
  · obtain ⟨⟨_, he⟩, _⟩ := st
    exact wpAny_pyIter_enum he h
def iEnumT (K : PySem.W.Frag) (ta : TA) : TI := fun σ H R => ta σ H fun vs H1 => ∃ a xs, vs = [.ref a] ∧ SqT K H1 a xs ∧ R (Iet K a) H1
theorem pi_enumT {X : Cx} {e : Expr} {ta : TA} {p pos tpos : Pos} {elts : List Expr} {kk : Nat} (hg : Gl X "enumerate")
    (hm : X.mg "enumerate" = none) (ha : PA X [e] ta) (hs : starEach [e] X.env = [(false, eval e X.env)] := by rfl) :
    PI X (.Tuple elts kk tpos) (.Call (.Name "enumerate" p) [e] [] pos) (iEnumT X.K ta) := by
  constructor
  intro pins s σ H R I h
  refine Call_ (ld_blt I hg hm boot_enumerate (PyProof.Rows.callWith_type1 (thn (ha.run pos pins s σ H _ I h) ?_) hs rfl))
  rintro us s1 ⟨vs, H1, I1, rv, a, xs, rfl, hq, q⟩
  obtain ⟨u, rfl, ru⟩ := vals1 rv
  obtain rfl : u = Value.ref a := ru
  obtain ⟨its, rv', tp, hz⟩ := I1.tuple hq
  have al : a < s1.heap.objs.size := tp.lt
  refine gx_call_enum tp fun h' he hit hk => wpAny_pyIter_enum he ?_
  have I2 : Inv X pins σ H1 { s1 with heap := h' } := I1.kept (t' := s1.toks) hk
  refine ⟨s1.heap.objs.size + 1, [s1.heap.objs.size + 1, s1.heap.objs.size], _, _, H1, rfl, I2,
    turn_enumT a (s1.heap.objs.size + 1) s1.heap.objs.size (Nat.ne_of_lt al),
    ⟨⟨.none, he⟩, hit, Nat.succ_ne_self _, Nat.ne_of_gt (Nat.lt_succ_of_lt al)⟩, fun b hb => ?_, q⟩
  have hle : s1.heap.objs.size ≤ b := by
    rcases List.mem_cons.mp hb with z | z
    · subst z; exact Nat.le_succ _
    · rw [List.mem_singleton] at z; subst z; exact Nat.le_refl _
  exact I1.fpOk hle (I1.hok.fresh hle)
theorem for_enumT {K : PySem.W.Frag} {a : Addr} {xs : List V} {g : TG} {tb : TS} {D : Ends} {σ : L2.St} {H : Hp} (Pv : Nat → L2.St → Hp → Prop)
    (h0 : Pv 0 σ H) (hl : ∀ i σ H, i ≤ xs.length → Pv i σ H → SqT K H a xs)
    (hs : ∀ i x T σ H, xs[i]? = some x → Pv i σ H → H T = none →
      g (.ref T) σ (upd H T (.tup [.int (i : Nat), x])) fun σ2 H2 => tb { D with nx := Pv (i + 1), ct := Pv (i + 1), bk := D.nx } σ2 H2)
    (hd : ∀ σ H, Pv xs.length σ H → D.nx σ H) :
    ∃ W : Nat → Nat → L2.St → Hp → Prop, (∃ m, W 0 m σ H) ∧ ∀ i m σ H, W i m σ H →
      ((Iet K a).stop i H ∧ D.nx σ H) ∨ ((Iet K a).go i H ∧ ∃ N : L2.St → Hp → Prop, (∀ σ' H', N σ' H' → ∃ m', m' < m ∧ W (i + 1) m' σ' H') ∧
        ∀ x H', (Iet K a).yld i H x H' → g x σ H' fun σ2 H2 => tb { D with nx := N, ct := N, bk := D.nx } σ2 H2) := by
  refine ⟨fun i m σ H => m = xs.length - i ∧ i ≤ xs.length ∧ Pv i σ H, ⟨xs.length, by simp, Nat.zero_le _, h0⟩, ?_⟩
  rintro i m σ H ⟨rfl, hi, p⟩
  have q := hl i σ H hi p
  by_cases hlt : i < xs.length
  · refine .inr ⟨⟨xs, xs[i], q, List.getElem?_eq_getElem hlt⟩, Pv (i + 1), fun σ' H' p' => ⟨_, by omega, rfl, hlt, p'⟩, ?_⟩
    rintro v H' ⟨T, x, rfl, nT, rfl, hx⟩
    exact hs i x T σ H (hx xs q) p nT
  · have e : i = xs.length := by omega
    subst e
    exact .inl ⟨⟨xs, q, Nat.le_refl _⟩, hd σ H p⟩
end Gx

set_option Elab.async false
set_option linter.all false
set_option maxRecDepth 100000
set_option maxHeartbeats 2000000
namespace Gx
open PySem PySem.Spec PyProof.Rows L2 Evl
/-! Steps: what they are, what they lead a number to, how they lie in the heap. -/
inductive Stp where
  | plus (k : Int) | times (k : Int) | into (k : Int) | over (k : Int) | found (ps : List (Int × Int))
abbrev Near (k : Int) : Prop := -1000000000000 ≤ k ∧ k ≤ 1000000000000
def Stp.ok : Stp → Prop
  | .plus k => Near k
  | .times k => Near k ∧ k ≠ 0
  | .into k => 0 < k ∧ k ≤ 1000000000000
  | .over k => Near k
  | .found ps => (ps.map (·.1)).Nodup ∧ (∀ p ∈ ps, Near p.1 ∧ Near p.2) ∧ ps.length ≤ 8
def look (ps : List (Int × Int)) (n : Int) : Option Int := (ps.find? fun p => decide (p.1 = n)).map (·.2)
def lead : Stp → Int → Option Int
  | .plus k, n => some (n + k)
  | .times k, n => some (n * k)
  | .into k, n => some (n.fdiv k)
  | .over k, n => if n = 0 then none else some (k.fdiv n)
  | .found ps, n => look ps n
def leadAll : List Stp → Int → Option Int
  | [], n => some n
  | s :: r, n => match lead s n with
    | some m => leadAll r m
    | none => none
/-- the number at which steps err -/
def erredAt : List Stp → Int → Option Int
  | [], _ => none
  | s :: r, n => match lead s n with
    | some m => erredAt r m
    | none => some n
theorem leadAll_none {ss : List Stp} : ∀ {n : Int}, leadAll ss n = none → ∃ m, erredAt ss n = some m := by
  induction ss with
  | nil => intro n h; cases h
  | cons s r ih =>
    intro n h
    unfold leadAll at h
    unfold erredAt
    cases e : lead s n with
    | none => exact ⟨n, rfl⟩
    | some m => rw [e] at h; exact ih h
theorem leadAll_some {ss : List Stp} : ∀ {n m : Int}, leadAll ss n = some m → erredAt ss n = none := by
  induction ss with
  | nil => intro n m h; rfl
  | cons s r ih =>
    intro n m h
    unfold leadAll at h
    unfold erredAt
    cases e : lead s n with
    | none => rw [e] at h; cases h
    | some m => rw [e] at h; exact ih h
/-! ### how great the numbers grow -/
theorem fdiv_abs {a b : Int} (hb : b ≠ 0) : (a.fdiv b).natAbs ≤ a.natAbs := by
  have h1 := Int.mul_fdiv_add_fmod a b
  by_cases pb : 0 < b
  · rw [Int.fdiv_eq_ediv_of_nonneg a (by omega)]
    by_cases pa : 0 ≤ a
    · have := Int.ediv_le_self b pa
      have := Int.ediv_nonneg pa (by omega : 0 ≤ b)
      omega
    · have q1 : a ≤ a / b := by
        have := Int.mul_ediv_self_le (x := a) (k := b) (by omega)
        have q2 := Int.lt_mul_ediv_self_add (x := a) pb
        by_cases z : a / b ≤ a - 1
        · have : b * (a / b) ≤ b * (a - 1) := Int.mul_le_mul_of_nonneg_left z (by omega)
          have e : b * (a - 1) = b * a - b := by rw [Int.mul_sub, Int.mul_one]
          have : b * a ≤ 1 * a := Int.mul_le_mul_of_nonpos_right (by omega) (by omega)
          omega
        · omega
      have q3 : a / b < 0 := Int.ediv_neg_of_neg_of_pos (by omega) pb
      omega
  · have e : a.fdiv b = (-a).fdiv (-b) := (Int.neg_fdiv_neg a b).symm
    rw [e, Int.fdiv_eq_ediv_of_nonneg (-a) (by omega)]
    by_cases pa : 0 ≤ -a
    · have := Int.ediv_le_self (-b) pa
      have := Int.ediv_nonneg pa (by omega : 0 ≤ -b)
      omega
    · have pb' : 0 < -b := by omega
      have q1 : -a ≤ -a / -b := by
        have q2 := Int.lt_mul_ediv_self_add (x := -a) pb'
        by_cases z : -a / -b ≤ -a - 1
        · have : -b * (-a / -b) ≤ -b * (-a - 1) := Int.mul_le_mul_of_nonneg_left z (by omega)
          have e : -b * (-a - 1) = -b * -a - -b := by rw [Int.mul_sub, Int.mul_one]
          have : -b * -a ≤ 1 * -a := Int.mul_le_mul_of_nonpos_right (by omega) (by omega)
          omega
        · omega
      have q3 : -a / -b < 0 := Int.ediv_neg_of_neg_of_pos (by omega) pb'
      omega
theorem near_abs {k : Int} (h : Near k) : k.natAbs < 1099511627776 := by
  obtain ⟨h1, h2⟩ := h
  omega
theorem look_mem {ps : List (Int × Int)} {n m : Int} (h : look ps n = some m) : (n, m) ∈ ps := by
  unfold look at h
  obtain ⟨p, h1, h2⟩ := Option.map_eq_some_iff.mp h
  have := List.mem_of_find?_eq_some h1
  have e := List.find?_some h1
  simp at e
  obtain ⟨a, b⟩ := p
  simp only at e h2
  subst e h2
  exact this
theorem mul_big (a c B : Nat) (h1 : a < B) (h2 : c < 1099511627776) : a * c < B * 2199023255552 :=
  Nat.lt_of_lt_of_le (Nat.mul_lt_mul'' h1 h2) (Nat.mul_le_mul_left B (by decide))
theorem lead_big {s : Stp} {n m : Int} {b : Nat} (hs : s.ok) (hn : n.natAbs < 2 ^ b) (h : lead s n = some m) : m.natAbs < 2 ^ (b + 41) := by
  have p1 : (2 : Nat) ^ (b + 41) = 2 ^ b * 2 ^ 41 := Nat.pow_add 2 b 41
  have p2 : (2 : Nat) ^ 41 = 2199023255552 := by decide
  have p4 : 1 ≤ (2 : Nat) ^ b := Nat.one_le_two_pow
  generalize hB : (2 : Nat) ^ b = B at *
  rw [p1, p2]
  cases s with
  | plus k =>
    have q := near_abs hs
    have h : some (n + k) = some m := h
    injection h with h
    omega
  | times k =>
    have q := near_abs hs.1
    have h : some (n * k) = some m := h
    injection h with h
    rw [← h, Int.natAbs_mul]
    exact mul_big _ _ _ hn q
  | into k =>
    have h : some (n.fdiv k) = some m := h
    injection h with h
    have q : k ≠ 0 := by have := hs.1; omega
    have := fdiv_abs (a := n) q
    omega
  | over k =>
    have h : (if n = 0 then none else some (k.fdiv n)) = some m := h
    by_cases h0 : n = 0
    · rw [if_pos h0] at h; cases h
    · rw [if_neg h0] at h
      injection h with h
      have := fdiv_abs (a := k) h0
      have := near_abs hs
      omega
  | found ps =>
    have := look_mem h
    have := near_abs (hs.2.1 _ this).2
    simp only at this
    omega
/-! ### what never changes stands -/
def imm : HO → Bool
  | .tup _ => true
  | .frz _ _ => true
  | _ => false
def ExI (H H' : Hp) : Prop := ∀ a o, H a = some o → imm o = true → H' a = some o
theorem ExI.of {H H' : Hp} (e : Ex H H') : ExI H H' := fun a o h _ => e a o h
theorem ExI.trans {H H1 H2 : Hp} (a : ExI H H1) (b : ExI H1 H2) : ExI H H2 := fun c o h i => b c o (a c o h i) i
theorem ExI.put {H : Hp} {l : Addr} {u u' : HO} (h : H l = some u) (n : imm u = false) : ExI H (upd H l u') := fun a o q i => by
  rw [upd_ne (fun e => by subst e; rw [h] at q; cases q; rw [n] at i; cases i)]
  exact q
theorem ExI.sq {K : PySem.W.Frag} {H H' : Hp} {a : Addr} {xs : List V} (e : ExI H H') (h : SqT K H a xs) : SqT K H' a xs := by
  rcases h with (h | ⟨o, h⟩) | h
  · exact .inl (.inl (e _ _ h rfl))
  · exact .inl (.inr ⟨o, e _ _ h rfl⟩)
  · exact .inr h
/-! ### how they lie -/
def PairAt (K : PySem.W.Frag) (H : Hp) (p : Addr) (kv : Int × Int) : Prop := SqT K H p [.int kv.1, .int kv.2]
def StpAt (K : PySem.W.Frag) (H : Hp) (v : V) : Stp → Prop
  | .plus k => ∃ a, v = .ref a ∧ SqT K H a [.str "plus", .int k]
  | .times k => ∃ a, v = .ref a ∧ SqT K H a [.str "times", .int k]
  | .into k => ∃ a, v = .ref a ∧ SqT K H a [.str "into", .int k]
  | .over k => ∃ a, v = .ref a ∧ SqT K H a [.str "over", .int k]
  | .found ps => ∃ a c as, v = .ref a ∧ SqT K H a [.str "found", .ref c] ∧ ExT H c (as.map V.ref) ∧ Paired (PairAt K H) as ps
def pairD (kv : Int × Int) : PyData := .tuple [.int kv.1, .int kv.2]
def Stp.data : Stp → PyData
  | .plus k => .tuple [.str "plus", .int k]
  | .times k => .tuple [.str "times", .int k]
  | .into k => .tuple [.str "into", .int k]
  | .over k => .tuple [.str "over", .int k]
  | .found ps => .tuple [.str "found", .tuple (ps.map pairD)]
section
variable {K : PySem.W.Frag} {H H' : Hp}
theorem paired_to {as : List Addr} {ps : List (Int × Int)} (e : Ex H H') (h : Paired (PairAt K H) as ps) : Paired (PairAt K H') as ps :=
  L2.Paired.mapP h fun _ _ q => ex_t e q
theorem StpAt.to {v : V} {s : Stp} (h : StpAt K H v s) (e : Ex H H') : StpAt K H' v s := by
  cases s with
  | found ps =>
    obtain ⟨a, c, as, h1, h2, h3, h4⟩ := h
    exact ⟨a, c, as, h1, ex_t e h2, h3.to e, paired_to e h4⟩
  | _ => obtain ⟨a, h1, h2⟩ := h; exact ⟨a, h1, ex_t e h2⟩
theorem pairs_dp : ∀ {as : List Addr} {ps : List (Int × Int)}, Paired (PairAt K H) as ps → DpAll K H (as.map V.ref) (ps.map pairD)
  | _, _, .nil => .nil
  | _, _, .cons h t => .cons (.tup h (.cons (.int _) (.cons (.int _) .nil))) (pairs_dp t)
theorem StpAt.dp {v : V} {s : Stp} (h : StpAt K H v s) : Dp K H v s.data := by
  cases s with
  | found ps =>
    obtain ⟨a, c, as, rfl, h2, h3, h4⟩ := h
    exact .tup h2 (.cons (.str _) (.cons (.tup h3.sq (pairs_dp h4)) .nil))
  | _ => obtain ⟨a, rfl, h2⟩ := h; exact .tup h2 (.cons (.str _) (.cons (.int _) .nil))
theorem StpAt.toI {v : V} {s : Stp} (h : StpAt K H v s) (e : ExI H H') : StpAt K H' v s := by
  cases s with
  | found ps =>
    obtain ⟨a, c, as, h1, h2, ⟨o, h3, h5⟩, h4⟩ := h
    exact ⟨a, c, as, h1, e.sq h2, ⟨o, e _ _ h3 rfl, h5⟩, L2.Paired.mapP h4 fun _ _ q => e.sq q⟩
  | _ => obtain ⟨a, h1, h2⟩ := h; exact ⟨a, h1, e.sq h2⟩
abbrev StpsAt (K : PySem.W.Frag) (H : Hp) (vs : List V) (ss : List Stp) : Prop := Paired (StpAt K H) vs ss
theorem stps_to {vs : List V} {ss : List Stp} (h : StpsAt K H vs ss) (e : Ex H H') : StpsAt K H' vs ss := L2.Paired.mapP h fun _ _ q => q.to e
theorem stps_toI {vs : List V} {ss : List Stp} (h : StpsAt K H vs ss) (e : ExI H H') : StpsAt K H' vs ss := L2.Paired.mapP h fun _ _ q => q.toI e
theorem stps_dp : ∀ {vs : List V} {ss : List Stp}, StpsAt K H vs ss → DpAll K H vs (ss.map Stp.data)
  | _, _, .nil => .nil
  | _, _, .cons h t => .cons h.dp (stps_dp t)
theorem paired_get {α β : Type} {F : α → β → Prop} : ∀ {xs : List α} {ys : List β}, Paired F xs ys → ∀ {i : Nat} {x : α}, xs[i]? = some x → ∃ y, ys[i]? = some y ∧ F x y
  | _, _, .nil, i, x, e => by simp at e
  | _, _, .cons h t, 0, x, e => by simp at e; subst e; exact ⟨_, by simp, h⟩
  | _, _, .cons h t, i + 1, x, e => by
    obtain ⟨y, q1, q2⟩ := paired_get t (i := i) (by simpa using e)
    exact ⟨y, by simpa using q1, q2⟩
theorem paired_app {α β : Type} {F : α → β → Prop} : ∀ {xs xs' : List α} {ys ys' : List β}, Paired F xs ys → Paired F xs' ys' → Paired F (xs ++ xs') (ys ++ ys')
  | _, _, _, _, .nil, q => q
  | _, _, _, _, .cons h t, q => .cons h (paired_app t q)
theorem paired_take {α β : Type} {F : α → β → Prop} : ∀ (n : Nat) {xs : List α} {ys : List β}, Paired F xs ys → Paired F (xs.take n) (ys.take n)
  | 0, _, _, _ => .nil
  | _ + 1, _, _, .nil => .nil
  | n + 1, _, _, .cons h t => .cons h (paired_take n t)
theorem shaped_pairs : ∀ ps : List (Int × Int), PyData.canLayAll0 (ps.map pairD) = true ∧ PyData.depthAll (ps.map pairD) ≤ 1
  | [] => ⟨rfl, by decide⟩
  | p :: r => by
    obtain ⟨h1, h2⟩ := shaped_pairs r
    refine ⟨?_, ?_⟩
    · simp [PyData.canLayAll0, pairD, PyData.canLay0, h1]
    · simp only [List.map_cons, PyData.depthAll, pairD, PyData.depth] at h2 ⊢
      omega
end
end Gx

set_option Elab.async false
set_option linter.all false
set_option maxRecDepth 100000
set_option maxHeartbeats 2000000
namespace Gx
open PySem PySem.Spec PyProof.Rows L2 Evl
/-! What the helpers of the laws promise. -/
def spOne (K : PySem.W.Frag) : Sp := fun vs H Q _ => ∃ (b l : Addr) (xs : List V), vs = [.ref b, .ref l] ∧ Bag H b ∧ SqL K H l xs ∧
  0 < xs.length ∧ xs.length < 100000 ∧ ∀ x ∈ xs, Q x H
def spNumber : Sp := fun vs H Q _ => ∃ b : Addr, vs = [.ref b] ∧ Bag H b ∧ ∀ x : Int, Near x → ∀ H', Ex H H' → Q (.int x) H'
def spStep (K : PySem.W.Frag) : Sp := fun vs H Q _ => ∃ b : Addr, vs = [.ref b] ∧ Bag H b ∧
  ∀ v s H', Ex H H' → Stp.ok s → StpAt K H' v s → Q v H'
def spSteps (K : PySem.W.Frag) : Sp := fun vs H Q _ => ∃ b : Addr, vs = [.ref b, .int 4] ∧ Bag H b ∧
  ∀ a ws ss H', Ex H H' → ss.length ≤ 4 → (∀ s ∈ ss, Stp.ok s) → ExT H' a ws → StpsAt K H' ws ss → Q (.ref a) H'
theorem if_t {c : Bool} {A B : Prop} (hc : c = true) (h : A) : if c = true then A else B := by rw [if_pos hc]; exact h
theorem if_f {c : Bool} {A B : Prop} (hc : c = false) (h : B) : if c = true then A else B := by
  rw [hc, if_neg Bool.false_ne_true]; exact h
theorem cut_take (xs : List V) (n : Nat) : cutV xs none (some (n : Int)) = xs.take n := by
  unfold cutV
  rw [show HT.sIx xs.length 0 none = 0 from rfl, List.drop_zero, Nat.sub_zero]
  have e : HT.sIx xs.length xs.length (some (n : Int)) = min n xs.length := by
    show (if (n : Int) < 0 then ((n : Int) + xs.length).toNat else min (n : Int).toNat xs.length) = min n xs.length
    rw [if_neg (by omega), Int.toNat_natCast]
  rw [e]
  by_cases q : n ≤ xs.length
  · rw [Nat.min_eq_left q]
  · rw [Nat.min_eq_right (by omega), List.take_length, List.take_of_length_le (by omega)]
theorem sz1 : (1 : Nat) ≤ sizeLine := by decide
theorem sz2 : (2 : Nat) ≤ sizeLine := by decide
theorem sz3 : (3 : Nat) ≤ sizeLine := by decide
theorem sz4 : (4 : Nat) ≤ sizeLine := by decide
theorem sz5 : (5 : Nat) ≤ sizeLine := by decide
theorem small {n : Nat} (h : n ≤ 100000) : n < sizeLine := Nat.lt_of_le_of_lt h (by decide)
theorem p10_12 : (10 : Int) ^ (12 : Int).toNat = 1000000000000 := by decide
theorem p10_11 : (10 : Int) ^ (11 : Int).toNat = 100000000000 := by decide
/-- an item of a short written list -/
theorem item2 {a b : V} {i : Int} (h0 : 0 ≤ i) (h1 : i < 2) : atI [a, b] i = some a ∧ i = 0 ∨ atI [a, b] i = some b ∧ i = 1 := by
  rcases (by omega : i = 0 ∨ i = 1) with rfl | rfl
  · exact .inl ⟨rfl, rfl⟩
  · exact .inr ⟨rfl, rfl⟩
theorem item_in {xs : List V} {i : Int} (h0 : 0 ≤ i) (h1 : i < xs.length) : ∃ v, atI xs i = some v ∧ v ∈ xs := by
  obtain ⟨v, e, m⟩ := get_of h0 h1
  exact ⟨v, atI_of h0 e, m⟩
theorem cp10_12 : CPow 10 12 := ⟨by decide, by decide, by decide⟩
theorem cp10_11 : CPow 10 11 := ⟨by decide, by decide, by decide⟩
end Gx

set_option Elab.async false
set_option linter.all false
set_option maxRecDepth 100000
set_option maxHeartbeats 2000000
namespace Gx
open PySem PySem.Spec PyProof.Rows L2 Evl
/-! An error class of the package with one field: raised, caught, its field read. -/
/-- what the head tells of the class x at C, whose __init__ (the def st, at fI) stores the field fl -/
structure Err (K : PySem.W.Frag) (mg : Str → Option Value) (x qual fl : Str) (ps : List Str) (st : Stmt) (C fI : Addr) (fd : FuncData) : Prop where
  T : OexC K C
  gC : mg x = some (.ref C)
  iC : PySem.W.findIn K (.ref C) "__init__" = some (some (.ref fI))
  tI : PySem.W.typeIn K (.ref fI) = some (.type "function")
  no : PySem.W.findIn K (.ref C) fl = some none
  xf : XfC K C
  te : PySem.W.exmOne K (.ref C) (.ref C) = some true
  fn : Fun K "__init__" qual st fI fd
  bd : Binds K fd ps []
/-- __init__: the field is stored -/
def spInit (C : Addr) (fl : Str) : Sp := fun vs H Q _ => ∃ (a : Addr) (v : V), vs = [.ref a, v] ∧ H a = some (exo a C none) ∧
  ∀ dx, H dx = none → dx ≠ a → Q .non (upd (upd H dx (exd dx [(fl, v)])) a (exo a C (some dx)))
/-- .. and what a raise of it comes to -/
theorem raise_read {C : Addr} {fl : Str} {ta : TA} {σ : L2.St} {H : Hp} {W : XK} {v : V} {H1 : Hp}
    (ha : ∀ Q : List V → Hp → Prop, Q [v] H1 → ta σ H Q)
    (k : ∀ d H', Ex H1 H' → H' d = some (.xd [(fl, v)]) → W (.ref C) (some d) H') :
    tMkO C (spInit C fl) [] ta σ H W := by
  refine ha _ ⟨by show 1 ≤ 1000; decide, fun a na => ⟨a, v, rfl, upd_same, fun dx nd nda => ⟨rfl, dx, [(fl, v)], upd_same, ?_, ?_, ?_⟩⟩⟩
  · rw [upd_ne nda]; exact upd_same
  · rw [upd_ne nda] at nd; exact nd
  · have nd' : H1 dx = none := by rw [upd_ne nda] at nd; exact nd
    refine k dx _ (fun c o e => ?_) upd_same
    have c1 : c ≠ dx := ne_of_none e nd'
    have c2 : c ≠ a := ne_of_none e na
    rw [upd_ne c1, del_ne c2, upd_ne c2, upd_ne c1, upd_ne c2]
    exact e
/-- the field of the caught error -/
theorem field_read {C a d : Addr} {fl : Str} {v : V} {te : TE} {σ : L2.St} {H : Hp} {Q : VK}
    (ht : ∀ Q : VK, Q (.ref a) H → te σ H Q) (hd : H d = some (.xd [(fl, v)])) (q : Q v H) : tXf a (.ref C) (some d) C fl te σ H Q :=
  ht _ ⟨rfl, rfl, d, _, v, rfl, hd, by simp [List.lookup], q⟩
/-- a tuple's item where the context is another than the written part's -/
theorem ix_tupK {X : Cx} {K : PySem.W.Frag} (h : X.K = K) : IxR X (rIxT K) := by rw [← h]; exact ix_tup
end Gx

set_option Elab.async false
set_option linter.all false
set_option maxRecDepth 100000
set_option maxHeartbeats 2000000
namespace Gx
open PySem PySem.Spec PyProof.Rows L2 Evl
/-! A list times a number. -/
def rRepL (K : PySem.W.Frag) : R2 := fun x y H Q => ∃ (l : Addr) (k : Int) (xs : List V), x = .ref l ∧ y = .int k ∧ SqL K H l xs ∧
  0 ≤ k ∧ k ≤ 100000 ∧ xs.length ≤ 100 ∧ ∀ p, H p = none → Q (.ref p) (upd H p (.lst (List.replicate k.toNat xs).flatten))
theorem flat_rep (its : List Value) (m : Nat) :
    List.foldl (fun x1 x2 => x1 ++ x2) #[] (List.replicate m its.toArray) = (List.replicate m its).flatten.toArray := by
  have go : ∀ (m : Nat) (acc : List Value), List.foldl (fun x1 x2 => x1 ++ x2) acc.toArray (List.replicate m its.toArray) = (acc ++ (List.replicate m its).flatten).toArray := by
    intro m
    induction m with
    | zero => intro acc; simp
    | succ m ih =>
      intro acc
      rw [List.replicate_succ, List.foldl_cons, List.append_toArray, ih, List.replicate_succ, List.flatten_cons, List.append_assoc]
  simpa using go m []
section
variable {X : Cx}
theorem op_repL : OpR X (binaryOp .Mult) (rRepL X.K) := by
  intro pins s σ H x y v u Q I rx ry h
  obtain ⟨l, k, xs, rfl, rfl, hs, k0, kb, hx, q⟩ := h
  obtain rfl : v = Value.ref l := rx
  obtain ⟨t, rfl⟩ := ry
  obtain ⟨its, r', ⟨o, n, ho, hc, hd, hdat⟩, hz⟩ := I.list hs
  have hl := r'.length
  obtain ⟨oc, od, odat, osl⟩ := o
  simp only at hc hd hdat
  subst hc hd hdat
  have ty : s.TypeIs (.ref l) "list" := ⟨_, ho, rfl⟩
  have kn : its.length * k.toNat ≤ 10000000 := Nat.le_trans (Nat.mul_le_mul (show its.length ≤ 100 by omega) (show k.toNat ≤ 100000 by omega)) (by decide)
  refine wpAny_binaryOp_repeat_ref (T := "list") (U := "int") (by decide) ty (fun s' => typeIs_int s' k t) noFill_list_mul F.fills_int_mul F.slot_int_rmul repeat_list F.slot_int_index.lookup ?_
  refine call_meets F.slot_int_rmul (typeIs_int s k t) F.entry_int_rmul (F.args_int_rmul_2 _ _) (lm_int_rmul_list_any k t l its.toArray n none osl) ⟨ho, rfl, ty, ?_⟩
  have bad : Builtin.List.listTooLong (its.toArray.size * k.toNat) = false := by
    refine decide_eq_false ?_
    rw [List.size_toArray, sizeLine_eq]
    omega
  refine call_meets F.slot_list_mul ty F.entry_list_mul (F.args_list_mul_2 _ _) (lm_list_mul_any l its.toArray n none osl k t ?_ ?_ (by rw [bad]; exact Bool.false_ne_true)) ⟨ho, ?_⟩
  · have e : Builtin.List.listFitsIndex k = true := by
      unfold Builtin.List.listFitsIndex
      rw [Bool.and_eq_true]
      exact ⟨decide_eq_true (by omega), decide_eq_true (by omega)⟩
    rw [e]; decide
  · rw [List.size_toArray]; omega
  · have e : List.foldl (fun x1 x2 => x1 ++ x2) #[] (List.replicate (if its.toArray.isEmpty = true then 0 else k.toNat) its.toArray) = (List.replicate k.toNat its).flatten.toArray := by
      cases its with
      | nil => simp
      | cons a r => rw [if_neg (by simp)]; exact flat_rep _ _
    rw [e]
    have ln : (List.replicate k.toNat xs).flatten.length ≤ sizeLine := by
      rw [lm_len_rep_flat, hl, sizeLine_eq, Nat.mul_comm]
      omega
    have hn : H s.heap.objs.size = none := I.hok.fresh (Nat.le_refl _)
    have I2 := I.laid (t' := s.toks) (a := s.heap.objs.size) (o := .lst (List.replicate k.toNat xs).flatten)
      (h' := s.heap.push { cls := .type "list", data := .seq (List.replicate k.toNat its).flatten.toArray }) (fun b o e => Heap.get?_push_of_some _ e) (Nat.le_refl _)
      ⟨?_, ?_⟩
    · exact ⟨.ref s.heap.objs.size, _, I2, rfl, q _ hn⟩
    · exact ln
    · exact ⟨_, _, r'.rep k.toNat, Heap.get?_push_size _ rfl⟩
/-- a list's item where the context is another than the written part's -/
theorem ix_listK {K : PySem.W.Frag} (h : X.K = K) : IxR X (rIxL K) := by rw [← h]; exact ix_list
end
theorem takeS {α : Type} {l : List α} {j : Nat} {x : α} (h : l[j]? = some x) : l.take (j + 1) = l.take j ++ [x] := by
  rw [List.take_add_one, h]
  rfl
end Gx

set_option Elab.async false
set_option linter.all false
set_option maxRecDepth 100000
set_option maxHeartbeats 4000000
namespace Gx
open PySem PySem.Spec PyProof.Rows L2 Evl
/-! Conditions: what they are, how they lie in the heap. -/
inductive Leaf where
  | always (w : Str) | empty (n : Str) | number (n : Str) | asks (n : Str) (ss : List Stp) (sg : Str) (k : Int)
inductive Cnd where
  | leaf (l : Leaf)
  | not (c : Cnd)
  | node (k : Str) (cs : List Cnd)
  | case (ws ts : List Cnd) (e : Cnd)
def Leaf.data : Leaf → PyData
  | .always w => .tuple [.str "always", .str w]
  | .empty n => .tuple [.str "empty", .str n]
  | .number n => .tuple [.str "number", .str n]
  | .asks n ss sg k => .tuple [.str "asks", .str n, .tuple (ss.map Stp.data), .str sg, .int k]
def pairL : List PyData → List PyData → List PyData
  | a :: as, b :: bs => .tuple [a, b] :: pairL as bs
  | _, _ => []
mutual
def Cnd.data : Cnd → PyData
  | .leaf l => l.data
  | .not c => .tuple [.str "not", c.data]
  | .node k cs => .tuple [.str k, .tuple (Cnd.dataL cs)]
  | .case ws ts e => .tuple [.str "case", .tuple (pairL (Cnd.dataL ws) (Cnd.dataL ts)), e.data]
def Cnd.dataL : List Cnd → List PyData
  | [] => []
  | c :: cs => c.data :: Cnd.dataL cs
end
def sgns : List Str := ["<", "<=", "<>", "=", ">", ">="]
def words : List Str := ["error", "no", "unknown", "yes"]
def kinds : List Str := ["all", "any", "first"]
def Leaf.ok (ns : List Str) : Leaf → Prop
  | .always w => w ∈ words
  | .empty n => n ∈ ns
  | .number n => n ∈ ns
  | .asks n ss sg k => n ∈ ns ∧ (∀ s ∈ ss, Stp.ok s) ∧ ss.length ≤ 4 ∧ sg ∈ sgns ∧ Near k
mutual
def Cnd.ok (ns : List Str) : Cnd → Prop
  | .leaf l => l.ok ns
  | .not c => c.ok ns
  | .node k cs => k ∈ kinds ∧ Cnd.okL ns cs
  | .case ws ts e => ws.length = ts.length ∧ Cnd.okL ns ws ∧ Cnd.okL ns ts ∧ e.ok ns
def Cnd.okL (ns : List Str) : List Cnd → Prop
  | [] => True
  | c :: cs => c.ok ns ∧ Cnd.okL ns cs
end
mutual
def Cnd.depth : Cnd → Nat
  | .leaf _ => 0
  | .not c => c.depth + 1
  | .node _ cs => Cnd.depthL cs + 1
  | .case ws ts e => max (max (Cnd.depthL ws) (Cnd.depthL ts)) e.depth + 1
def Cnd.depthL : List Cnd → Nat
  | [] => 0
  | c :: cs => max c.depth (Cnd.depthL cs)
end
mutual
def Cnd.weight : Cnd → Nat
  | .leaf _ => 200000
  | .not c => c.weight + 40
  | .node _ cs => Cnd.weightL cs + 40
  | .case ws ts e => Cnd.weightL ws + Cnd.weightL ts + e.weight + 40
def Cnd.weightL : List Cnd → Nat
  | [] => 0
  | c :: cs => c.weight + Cnd.weightL cs + 20
end
theorem Cnd.okL_iff {ns : List Str} : ∀ {cs : List Cnd}, Cnd.okL ns cs ↔ ∀ c ∈ cs, c.ok ns
  | [] => by simp [Cnd.okL]
  | c :: cs => by
    rw [Cnd.okL, Cnd.okL_iff (cs := cs)]
    simp
theorem Cnd.depthL_le {n : Nat} : ∀ {cs : List Cnd}, Cnd.depthL cs ≤ n ↔ ∀ c ∈ cs, c.depth ≤ n
  | [] => by simp [Cnd.depthL]
  | c :: cs => by
    rw [Cnd.depthL, Nat.max_le, Cnd.depthL_le (cs := cs)]
    simp
theorem Cnd.dataL_map : ∀ cs : List Cnd, Cnd.dataL cs = cs.map Cnd.data
  | [] => rfl
  | c :: cs => by rw [Cnd.dataL, Cnd.dataL_map cs]; rfl
/-! ### in the heap -/
def Zip3 (K : PySem.W.Frag) (H : Hp) : List Addr → List V → List V → Prop
  | [], [], [] => True
  | q :: qs, x :: xs, y :: ys => SqT K H q [x, y] ∧ Zip3 K H qs xs ys
  | _, _, _ => False
def LeafAt (K : PySem.W.Frag) (H : Hp) (v : V) : Leaf → Prop
  | .always w => ∃ a, v = .ref a ∧ SqT K H a [.str "always", .str w]
  | .empty n => ∃ a, v = .ref a ∧ SqT K H a [.str "empty", .str n]
  | .number n => ∃ a, v = .ref a ∧ SqT K H a [.str "number", .str n]
  | .asks n ss sg k => ∃ a b ws, v = .ref a ∧ SqT K H a [.str "asks", .str n, .ref b, .str sg, .int k] ∧ SqT K H b ws ∧ StpsAt K H ws ss
mutual
def CndAt (K : PySem.W.Frag) (H : Hp) : V → Cnd → Prop
  | v, .leaf l => LeafAt K H v l
  | v, .not c => ∃ a x, v = .ref a ∧ SqT K H a [.str "not", x] ∧ CndAt K H x c
  | v, .node k cs => ∃ a b xs, v = .ref a ∧ SqT K H a [.str k, .ref b] ∧ SqT K H b xs ∧ CndsAt K H xs cs
  | v, .case ws ts e => ∃ a b qs xs ys y, v = .ref a ∧ SqT K H a [.str "case", .ref b, y] ∧ SqT K H b (qs.map V.ref) ∧ Zip3 K H qs xs ys ∧
      CndsAt K H xs ws ∧ CndsAt K H ys ts ∧ CndAt K H y e
def CndsAt (K : PySem.W.Frag) (H : Hp) : List V → List Cnd → Prop
  | xs, [] => xs = []
  | xs, c :: cs => ∃ x r, xs = x :: r ∧ CndAt K H x c ∧ CndsAt K H r cs
end
section
variable {K : PySem.W.Frag} {H H' : Hp}
theorem zip3_toI (e : ExI H H') : ∀ {qs : List Addr} {xs ys : List V}, Zip3 K H qs xs ys → Zip3 K H' qs xs ys
  | [], [], [], h => trivial
  | _ :: _, _ :: _, _ :: _, h => ⟨e.sq h.1, zip3_toI e h.2⟩
  | [], _ :: _, _, h => h.elim
  | [], [], _ :: _, h => h.elim
  | _ :: _, [], _, h => h.elim
  | _ :: _, _ :: _, [], h => h.elim
theorem leafAt_toI {v : V} {l : Leaf} (e : ExI H H') (h : LeafAt K H v l) : LeafAt K H' v l := by
  cases l with
  | asks n ss sg k =>
    obtain ⟨a, b, ws, h1, h2, h3, h4⟩ := h
    exact ⟨a, b, ws, h1, e.sq h2, e.sq h3, stps_toI h4 e⟩
  | _ => obtain ⟨a, h1, h2⟩ := h; exact ⟨a, h1, e.sq h2⟩
mutual
theorem cndAt_toI (e : ExI H H') : ∀ (c : Cnd) (v : V), CndAt K H v c → CndAt K H' v c
  | .leaf l, v, h => leafAt_toI e h
  | .not c, v, ⟨a, x, h1, h2, h3⟩ => ⟨a, x, h1, e.sq h2, cndAt_toI e c x h3⟩
  | .node k cs, v, ⟨a, b, xs, h1, h2, h3, h4⟩ => ⟨a, b, xs, h1, e.sq h2, e.sq h3, cndsAt_toI e cs xs h4⟩
  | .case ws ts el, v, ⟨a, b, qs, xs, ys, y, h1, h2, h3, h4, h5, h6, h7⟩ =>
    ⟨a, b, qs, xs, ys, y, h1, e.sq h2, e.sq h3, zip3_toI e h4, cndsAt_toI e ws xs h5, cndsAt_toI e ts ys h6, cndAt_toI e el y h7⟩
theorem cndsAt_toI (e : ExI H H') : ∀ (cs : List Cnd) (xs : List V), CndsAt K H xs cs → CndsAt K H' xs cs
  | [], xs, h => h
  | c :: cs, xs, ⟨x, r, h1, h2, h3⟩ => ⟨x, r, h1, cndAt_toI e c x h2, cndsAt_toI e cs r h3⟩
end
theorem CndAt.to {v : V} {c : Cnd} (h : CndAt K H v c) (e : Ex H H') : CndAt K H' v c := cndAt_toI (ExI.of e) c v h
theorem CndsAt.to {vs : List V} {cs : List Cnd} (h : CndsAt K H vs cs) (e : Ex H H') : CndsAt K H' vs cs := cndsAt_toI (ExI.of e) cs vs h
theorem zip3_dp : ∀ {qs : List Addr} {xs ys : List V} {as bs : List PyData}, Zip3 K H qs xs ys → DpAll K H xs as → DpAll K H ys bs → DpAll K H (qs.map V.ref) (pairL as bs)
  | [], [], [], _, _, _, .nil, .nil => .nil
  | q :: qs, x :: xs, y :: ys, _, _, h, .cons h1 h2, .cons h3 h4 => .cons (.tup h.1 (.cons h1 (.cons h3 .nil))) (zip3_dp h.2 h2 h4)
  | [], _ :: _, _, _, _, h, _, _ => h.elim
  | [], [], _ :: _, _, _, h, _, _ => h.elim
  | _ :: _, [], _, _, _, h, _, _ => h.elim
  | _ :: _, _ :: _, [], _, _, h, _, _ => h.elim
theorem leafAt_dp {v : V} {l : Leaf} (h : LeafAt K H v l) : Dp K H v l.data := by
  cases l with
  | asks n ss sg k =>
    obtain ⟨a, b, ws, rfl, h2, h3, h4⟩ := h
    exact .tup h2 (.cons (.str _) (.cons (.str _) (.cons (.tup h3 (stps_dp h4)) (.cons (.str _) (.cons (.int _) .nil)))))
  | _ => obtain ⟨a, rfl, h2⟩ := h; exact .tup h2 (.cons (.str _) (.cons (.str _) .nil))
mutual
theorem cndAt_dp : ∀ (c : Cnd) (v : V), CndAt K H v c → Dp K H v c.data
  | .leaf l, v, h => leafAt_dp h
  | .not c, v, ⟨a, x, h1, h2, h3⟩ => by subst h1; exact .tup h2 (.cons (.str _) (.cons (cndAt_dp c x h3) .nil))
  | .node k cs, v, ⟨a, b, xs, h1, h2, h3, h4⟩ => by subst h1; exact .tup h2 (.cons (.str _) (.cons (.tup h3 (cndsAt_dp cs xs h4)) .nil))
  | .case ws ts el, v, ⟨a, b, qs, xs, ys, y, h1, h2, h3, h4, h5, h6, h7⟩ => by
    subst h1
    exact .tup h2 (.cons (.str _) (.cons (.tup h3 (zip3_dp h4 (cndsAt_dp ws xs h5) (cndsAt_dp ts ys h6))) (.cons (cndAt_dp el y h7) .nil)))
theorem cndsAt_dp : ∀ (cs : List Cnd) (xs : List V), CndsAt K H xs cs → DpAll K H xs (Cnd.dataL cs)
  | [], xs, h => by subst h; exact .nil
  | c :: cs, xs, ⟨x, r, h1, h2, h3⟩ => by subst h1; exact .cons (cndAt_dp c x h2) (cndsAt_dp cs r h3)
end
theorem CndAt.dp {v : V} {c : Cnd} (h : CndAt K H v c) : Dp K H v c.data := cndAt_dp c v h
theorem cnds_len : ∀ {cs : List Cnd} {xs : List V}, CndsAt K H xs cs → xs.length = cs.length
  | [], xs, h => by subst h; rfl
  | c :: cs, xs, ⟨x, r, h1, h2, h3⟩ => by subst h1; simp [cnds_len h3]
theorem cnds_get : ∀ {cs : List Cnd} {xs : List V} {i : Nat} {x : V}, CndsAt K H xs cs → xs[i]? = some x → ∃ c, cs[i]? = some c ∧ CndAt K H x c
  | [], xs, i, x, h, e => by subst h; simp at e
  | c :: cs, xs, i, x, ⟨y, r, h1, h2, h3⟩, e => by
    subst h1
    cases i with
    | zero => simp at e; subst e; exact ⟨c, by simp, h2⟩
    | succ i =>
      obtain ⟨d, q1, q2⟩ := cnds_get (i := i) h3 (by simpa using e)
      exact ⟨d, by simpa using q1, q2⟩
theorem cnds_app : ∀ {cs ds : List Cnd} {xs ys : List V}, CndsAt K H xs cs → CndsAt K H ys ds → CndsAt K H (xs ++ ys) (cs ++ ds)
  | [], ds, xs, ys, h, h' => by subst h; exact h'
  | c :: cs, ds, xs, ys, ⟨y, r, h1, h2, h3⟩, h' => by subst h1; exact ⟨y, r ++ ys, rfl, h2, cnds_app h3 h'⟩
theorem cnds_one {x : V} {c : Cnd} (h : CndAt K H x c) : CndsAt K H [x] [c] := ⟨x, [], rfl, h, rfl⟩
theorem zip3_len : ∀ {qs : List Addr} {xs ys : List V}, Zip3 K H qs xs ys → qs.length = xs.length ∧ xs.length = ys.length
  | [], [], [], _ => ⟨rfl, rfl⟩
  | _ :: qs, _ :: xs, _ :: ys, h => by obtain ⟨a, b⟩ := zip3_len h.2; simp [a, b]
  | [], _ :: _, _, h => h.elim
  | [], [], _ :: _, h => h.elim
  | _ :: _, [], _, h => h.elim
  | _ :: _, _ :: _, [], h => h.elim
theorem zip3_get : ∀ {qs : List Addr} {xs ys : List V} {i : Nat} {q : V}, Zip3 K H qs xs ys → (qs.map V.ref)[i]? = some q →
    ∃ p x y, q = .ref p ∧ xs[i]? = some x ∧ ys[i]? = some y ∧ SqT K H p [x, y]
  | [], [], [], i, q, h, e => by simp at e
  | q' :: qs, x' :: xs, y' :: ys, i, q, h, e => by
    cases i with
    | zero => simp at e; subst e; exact ⟨q', x', y', rfl, by simp, by simp, h.1⟩
    | succ i =>
      obtain ⟨p, x, y, e1, e2, e3, e4⟩ := zip3_get (i := i) h.2 (by simpa using e)
      exact ⟨p, x, y, e1, by simpa using e2, by simpa using e3, e4⟩
  | [], _ :: _, _, _, _, h, _ => h.elim
  | [], [], _ :: _, _, _, h, _ => h.elim
  | _ :: _, [], _, _, _, h, _ => h.elim
  | _ :: _, _ :: _, [], _, _, h, _ => h.elim
end
end Gx

set_option Elab.async false
set_option linter.all false
set_option maxRecDepth 100000
set_option maxHeartbeats 4000000
namespace Gx
open PySem PySem.Spec PyProof.Rows L2 Evl
/-! Conditions can be laid, shown, and are not too long to be shown. -/
/-- what data must keep so that it can be compared and shown -/
structure Fit (d : PyData) (n m : Nat) : Prop where
  lay : PyData.canLay0 d = true
  deep : d.depth ≤ n
  show_ : d.showable = true
  wide : wide d ≤ m
structure FitL (ds : List PyData) (n m : Nat) : Prop where
  lay : PyData.canLayAll0 ds = true
  deep : PyData.depthAll ds ≤ n
  show_ : PyData.showableAll ds = true
  wide : wide.wideAll ds ≤ m
theorem Fit.mono {d : PyData} {n m n' m' : Nat} (h : Fit d n m) (a : n ≤ n') (b : m ≤ m') : Fit d n' m' := ⟨h.lay, Nat.le_trans h.deep a, h.show_, Nat.le_trans h.wide b⟩
theorem FitL.mono {d : List PyData} {n m n' m' : Nat} (h : FitL d n m) (a : n ≤ n') (b : m ≤ m') : FitL d n' m' := ⟨h.lay, Nat.le_trans h.deep a, h.show_, Nat.le_trans h.wide b⟩
theorem fit_nil (n : Nat) : FitL [] n 0 := ⟨rfl, Nat.zero_le _, rfl, Nat.le_refl _⟩
theorem fit_cons {d : PyData} {ds : List PyData} {n m k : Nat} (h : Fit d n m) (t : FitL ds n k) : FitL (d :: ds) n (m + 2 + k) := by
  refine ⟨?_, ?_, ?_, ?_⟩
  · simp [PyData.canLayAll0, h.lay, t.lay]
  · simp only [PyData.depthAll]; have := h.deep; have := t.deep; omega
  · simp [PyData.showableAll, h.show_, t.show_]
  · simp only [wide.wideAll]; have := h.wide; have := t.wide; omega
theorem fit_tup {ds : List PyData} {n m : Nat} (t : FitL ds n m) : Fit (.tuple ds) (n + 1) (m + 3) := by
  refine ⟨?_, ?_, ?_, ?_⟩
  · simp [PyData.canLay0, t.lay]
  · simp only [PyData.depth]; have := t.deep; omega
  · simp [PyData.showable, t.show_]
  · simp only [Gx.wide]; have := t.wide; omega
theorem fit_lst {ds : List PyData} {n m : Nat} (t : FitL ds n m) : Fit (.list ds) (n + 1) (m + 2) := by
  refine ⟨?_, ?_, ?_, ?_⟩
  · simp [PyData.canLay0, t.lay]
  · simp only [PyData.depth]; have := t.deep; omega
  · simp [PyData.showable, t.show_]
  · simp only [Gx.wide]; have := t.wide; omega
theorem fit_int {i : Int} (h : Near i) : Fit (.int i) 0 1921 := by
  refine ⟨by simp [PyData.canLay0], by simp [PyData.depth], ?_, by simp [Gx.wide]⟩
  simp only [PyData.showable]
  have b := near_abs h
  refine decide_eq_true ?_
  by_cases h0 : i.natAbs = 0
  · rw [h0]; decide
  · have := (Nat.log2_lt h0 (k := 40)).mpr (by rw [show (2 : Nat) ^ 40 = 1099511627776 by decide]; exact b)
    omega
structure Nm (n : Str) : Prop where
  ok : PyData.strOk n = true
  short : (reprText n).length ≤ 100
theorem fit_str {x : Str} (h : Nm x) : Fit (.str x) 0 100 := ⟨by simp [PyData.canLay0, h.ok], by simp [PyData.depth], by simp [PyData.showable], by simp only [Gx.wide]; exact h.short⟩
theorem nm_plus : Nm "plus" := ⟨by decide +kernel, by decide +kernel⟩
theorem nm_times : Nm "times" := ⟨by decide +kernel, by decide +kernel⟩
theorem nm_into : Nm "into" := ⟨by decide +kernel, by decide +kernel⟩
theorem nm_over : Nm "over" := ⟨by decide +kernel, by decide +kernel⟩
theorem nm_found : Nm "found" := ⟨by decide +kernel, by decide +kernel⟩
theorem nm_always : Nm "always" := ⟨by decide +kernel, by decide +kernel⟩
theorem nm_empty : Nm "empty" := ⟨by decide +kernel, by decide +kernel⟩
theorem nm_number : Nm "number" := ⟨by decide +kernel, by decide +kernel⟩
theorem nm_asks : Nm "asks" := ⟨by decide +kernel, by decide +kernel⟩
theorem nm_not : Nm "not" := ⟨by decide +kernel, by decide +kernel⟩
theorem nm_case : Nm "case" := ⟨by decide +kernel, by decide +kernel⟩
theorem nm_sign {x : Str} (h : x ∈ sgns) : Nm x := by
  have : ∀ x ∈ sgns, PyData.strOk x = true ∧ (reprText x).length ≤ 100 := by decide +kernel
  exact ⟨(this x h).1, (this x h).2⟩
theorem nm_word {x : Str} (h : x ∈ words) : Nm x := by
  have : ∀ x ∈ words, PyData.strOk x = true ∧ (reprText x).length ≤ 100 := by decide +kernel
  exact ⟨(this x h).1, (this x h).2⟩
theorem nm_kind {x : Str} (h : x ∈ kinds) : Nm x := by
  have : ∀ x ∈ kinds, PyData.strOk x = true ∧ (reprText x).length ≤ 100 := by decide +kernel
  exact ⟨(this x h).1, (this x h).2⟩
theorem fit_pair {x y : PyData} {n m k : Nat} (h : Fit x n m) (h' : Fit y n k) : Fit (.tuple [x, y]) (n + 1) (m + k + 7) :=
  (fit_tup (fit_cons h (fit_cons h' (fit_nil n)))).mono (Nat.le_refl _) (by omega)
theorem fit_pairs : ∀ {ps : List (Int × Int)}, (∀ p ∈ ps, Near p.1 ∧ Near p.2) → FitL (ps.map pairD) 1 (3860 * ps.length)
  | [], _ => fit_nil 1
  | p :: ps, h => by
    have h1 := h p List.mem_cons_self
    have t := fit_pairs (ps := ps) fun q hq => h q (List.mem_cons_of_mem _ hq)
    rw [List.map_cons, List.length_cons]
    exact (fit_cons (fit_pair (fit_int h1.1) (fit_int h1.2)) t).mono (Nat.le_refl _) (by omega)
theorem fit_step {s : Stp} (h : s.ok) : Fit s.data 3 31100 := by
  cases s with
  | found ps =>
    obtain ⟨_, h2, h3⟩ := h
    have t := fit_tup (fit_pairs h2)
    exact (fit_pair (fit_str nm_found |>.mono (Nat.zero_le 2) (Nat.le_refl _)) t).mono (Nat.le_refl _) (by omega)
  | plus k => exact (fit_pair (fit_str nm_plus) (fit_int h)).mono (by omega) (by omega)
  | times k => exact (fit_pair (fit_str nm_times) (fit_int h.1)).mono (by omega) (by omega)
  | into k => exact (fit_pair (fit_str nm_into) (fit_int ⟨by have := h.1; omega, h.2⟩)).mono (by omega) (by omega)
  | over k => exact (fit_pair (fit_str nm_over) (fit_int h)).mono (by omega) (by omega)
theorem fit_steps : ∀ {ss : List Stp}, (∀ s ∈ ss, Stp.ok s) → FitL (ss.map Stp.data) 3 (31102 * ss.length)
  | [], _ => fit_nil 3
  | s :: ss, h => by
    have t := fit_steps (ss := ss) fun q hq => h q (List.mem_cons_of_mem _ hq)
    rw [List.map_cons, List.length_cons]
    exact (fit_cons (fit_step (h s List.mem_cons_self)) t).mono (Nat.le_refl _) (by omega)
theorem fit_leaf {ns : List Str} (hn : ∀ n ∈ ns, Nm n) {l : Leaf} (h : l.ok ns) : Fit l.data 6 200000 := by
  cases l with
  | always w => exact (fit_pair (fit_str nm_always) (fit_str (nm_word h))).mono (by omega) (by omega)
  | empty n => exact (fit_pair (fit_str nm_empty) (fit_str (hn n h))).mono (by omega) (by omega)
  | number n => exact (fit_pair (fit_str nm_number) (fit_str (hn n h))).mono (by omega) (by omega)
  | asks n ss sg k =>
    obtain ⟨h1, h2, h3, h4, h5⟩ := h
    have z : 0 ≤ 4 := Nat.zero_le 4
    have t := fit_tup (fit_steps h2)
    exact (fit_tup (fit_cons ((fit_str nm_asks).mono z (Nat.le_refl _)) (fit_cons ((fit_str (hn n h1)).mono z (Nat.le_refl _)) (fit_cons t
      (fit_cons ((fit_str (nm_sign h4)).mono z (Nat.le_refl _)) (fit_cons ((fit_int h5).mono z (Nat.le_refl _)) (fit_nil 4))))))).mono (by omega) (by omega)
theorem fit_pairL : ∀ {as bs : List PyData} {n m k : Nat}, FitL as n m → FitL bs n k → as.length = bs.length → FitL (pairL as bs) (n + 1) (m + k + 20 * as.length)
  | [], [], n, m, k, _, _, _ => (fit_nil _).mono (Nat.le_refl _) (Nat.zero_le _)
  | a :: as, b :: bs, n, m, k, h, h', hl => by
    have s1 := h.lay
    have s2 := h'.lay
    have d1 := h.deep
    have d2 := h'.deep
    have w1 := h.wide
    have w2 := h'.wide
    have v1 := h.show_
    have v2 := h'.show_
    simp only [PyData.canLayAll0, Bool.and_eq_true] at s1 s2
    simp only [PyData.depthAll, Nat.max_le] at d1 d2
    simp only [wide.wideAll] at w1 w2
    simp only [PyData.showableAll, Bool.and_eq_true] at v1 v2
    have t := fit_pairL (as := as) (bs := bs) ⟨s1.2, d1.2, v1.2, Nat.le_refl _⟩ ⟨s2.2, d2.2, v2.2, Nat.le_refl _⟩ (by simpa using hl)
    have p := fit_pair (⟨s1.1, d1.1, v1.1, Nat.le_refl _⟩ : Fit a n _) (⟨s2.1, d2.1, v2.1, Nat.le_refl _⟩ : Fit b n _)
    rw [pairL, List.length_cons]
    exact (fit_cons p t).mono (Nat.le_refl _) (by omega)
  | [], _ :: _, _, _, _, _, _, hl => by simp at hl
  | _ :: _, [], _, _, _, _, _, hl => by simp at hl
theorem weightL_len : ∀ cs : List Cnd, 20 * cs.length ≤ Cnd.weightL cs
  | [] => by simp [Cnd.weightL]
  | c :: cs => by have := weightL_len cs; rw [Cnd.weightL, List.length_cons]; omega
mutual
theorem fit_cnd {ns : List Str} (hn : ∀ n ∈ ns, Nm n) : ∀ (c : Cnd), c.ok ns → Fit c.data (3 * c.depth + 6) (c.weight)
  | .leaf l, h => by rw [Cnd.data, Cnd.weight]; exact (fit_leaf hn h).mono (by omega) (Nat.le_refl _)
  | .not c, h => by
    rw [Cnd.data, Cnd.weight, Cnd.depth]
    have t := fit_cnd hn c (by rw [Cnd.ok] at h; exact h)
    have e := fit_tup (fit_cons ((fit_str nm_not).mono (Nat.zero_le _) (Nat.le_refl _)) (fit_cons t (fit_nil _)))
    have e1 : wide (.str "not") ≤ 6 := by decide +kernel
    refine ⟨e.lay, Nat.le_trans e.deep (by omega), e.show_, ?_⟩
    simp only [Gx.wide, wide.wideAll] at e1 ⊢
    have := t.wide
    omega
  | .node k cs, h => by
    rw [Cnd.data, Cnd.weight, Cnd.depth]
    rw [Cnd.ok] at h
    have t := fit_cnds hn cs h.2
    have e := fit_tup (fit_cons ((fit_str (nm_kind h.1)).mono (Nat.zero_le _) (Nat.le_refl _)) (fit_cons (fit_tup t) (fit_nil _)))
    have e1 : wide (.str k) ≤ 7 := by
      have : ∀ k ∈ kinds, wide (.str k) ≤ 7 := by decide +kernel
      exact this k h.1
    refine ⟨e.lay, Nat.le_trans e.deep (by omega), e.show_, ?_⟩
    simp only [Gx.wide, wide.wideAll] at e1 ⊢
    have := t.wide
    omega
  | .case ws ts el, h => by
    rw [Cnd.data, Cnd.weight, Cnd.depth]
    rw [Cnd.ok] at h
    obtain ⟨h1, h2, h3, h4⟩ := h
    have t1 := fit_cnds hn ws h2
    have t2 := fit_cnds hn ts h3
    have t3 := fit_cnd hn el h4
    generalize hD : max (max (Cnd.depthL ws) (Cnd.depthL ts)) el.depth = D
    have q1 : Cnd.depthL ws ≤ D := by omega
    have q2 : Cnd.depthL ts ≤ D := by omega
    have q3 : el.depth ≤ D := by omega
    have l1 : (Cnd.dataL ws).length = ws.length := by rw [Cnd.dataL_map, List.length_map]
    have l2 : (Cnd.dataL ts).length = ts.length := by rw [Cnd.dataL_map, List.length_map]
    have p := fit_pairL (t1.mono (n' := 3 * D + 6) (by omega) (Nat.le_refl _)) (t2.mono (n' := 3 * D + 6) (by omega) (Nat.le_refl _)) (by rw [l1, l2, h1])
    have e := fit_tup (fit_cons ((fit_str nm_case).mono (Nat.zero_le _) (Nat.le_refl _)) (fit_cons (fit_tup p) (fit_cons (t3.mono (n' := 3 * D + 6 + 1 + 1) (by omega) (Nat.le_refl _)) (fit_nil _))))
    have e1 : wide (.str "case") ≤ 6 := by decide +kernel
    refine ⟨e.lay, Nat.le_trans e.deep (by omega), e.show_, ?_⟩
    have p1 := p.wide
    rw [l1] at p1
    have g3 := t3.wide
    have g4 := weightL_len ws
    have g5 := weightL_len ts
    simp only [Gx.wide, wide.wideAll] at e1 ⊢
    omega
theorem fit_cnds {ns : List Str} (hn : ∀ n ∈ ns, Nm n) : ∀ (cs : List Cnd), Cnd.okL ns cs → FitL (Cnd.dataL cs) (3 * Cnd.depthL cs + 6) (Cnd.weightL cs - 18 * cs.length)
  | [], _ => by rw [Cnd.dataL, Cnd.weightL]; exact (fit_nil _)
  | c :: cs, h => by
    rw [Cnd.okL] at h
    rw [Cnd.dataL, Cnd.depthL, Cnd.weightL]
    have t1 := fit_cnd hn c h.1
    have t2 := fit_cnds hn cs h.2
    exact (fit_cons (t1.mono (n' := 3 * max c.depth (Cnd.depthL cs) + 6) (by omega) (Nat.le_refl _)) (t2.mono (by omega) (Nat.le_refl _))).mono (Nat.le_refl _) (by have := weightL_len cs; rw [List.length_cons]; omega)
end
end Gx

set_option Elab.async false
set_option linter.all false
set_option maxRecDepth 100000
set_option maxHeartbeats 4000000
namespace Gx
open PySem PySem.Spec PyProof.Rows L2 Evl
/-! A list by pairs, as cases take it. -/
def ev {α : Type} : Nat → List α → List α
  | m + 1, a :: _ :: r => a :: ev m r
  | _, _ => []
def od {α : Type} : Nat → List α → List α
  | m + 1, _ :: b :: r => b :: od m r
  | _, _ => []
section
variable {K : PySem.W.Frag} {H : Hp}
theorem zip_ev : ∀ {m : Nat} {qs : List Addr} {xs : List V}, qs.length = m → 2 * m ≤ xs.length →
    (∀ i, i < m → ∃ q x y, qs[i]? = some q ∧ xs[2 * i]? = some x ∧ xs[2 * i + 1]? = some y ∧ SqT K H q [x, y]) → Zip3 K H qs (ev m xs) (od m xs)
  | 0, [], xs, _, _, _ => trivial
  | 0, _ :: _, _, h, _, _ => by simp at h
  | m + 1, [], _, h, _, _ => by simp at h
  | m + 1, q :: qs, [], _, h, _ => by simp at h
  | m + 1, q :: qs, [_], _, h, _ => by simp at h; omega
  | m + 1, q :: qs, a :: b :: r, h, h', f => by
    refine ⟨?_, zip_ev (m := m) (by simpa using h) (by simp at h'; omega) fun i hi => ?_⟩
    · obtain ⟨q', x, y, e1, e2, e3, e4⟩ := f 0 (Nat.zero_lt_succ _)
      simp at e1 e2 e3
      subst e1 e2 e3
      exact e4
    · obtain ⟨q', x, y, e1, e2, e3, e4⟩ := f (i + 1) (Nat.succ_lt_succ hi)
      refine ⟨q', x, y, by simpa using e1, ?_, ?_, e4⟩
      · rw [show 2 * (i + 1) = 2 * i + 1 + 1 by omega] at e2; simpa using e2
      · rw [show 2 * (i + 1) + 1 = 2 * i + 1 + 1 + 1 by omega] at e3; simpa using e3
theorem cnds_ev : ∀ {m : Nat} {xs : List V} {cs : List Cnd}, CndsAt K H xs cs → 2 * m ≤ cs.length → CndsAt K H (ev m xs) (ev m cs) ∧ CndsAt K H (od m xs) (od m cs)
  | 0, xs, cs, _, _ => by
    have e1 : ∀ {α : Type} (l : List α), ev 0 l = [] := fun l => by cases l <;> rfl
    have e2 : ∀ {α : Type} (l : List α), od 0 l = [] := fun l => by cases l <;> rfl
    rw [e1, e1, e2, e2]
    exact ⟨rfl, rfl⟩
  | m + 1, xs, [], _, h => by simp at h
  | m + 1, xs, [_], _, h => by simp at h; omega
  | m + 1, xs, c :: d :: cs, ⟨x, _, e1, h1, y, r, e2, h2, h3⟩, h => by
    subst e1 e2
    obtain ⟨q1, q2⟩ := cnds_ev (m := m) h3 (by simp at h; omega)
    exact ⟨⟨x, _, rfl, h1, q1⟩, ⟨y, _, rfl, h2, q2⟩⟩
end
theorem len_ev : ∀ {α : Type} {m : Nat} {l : List α}, 2 * m ≤ l.length → (ev m l).length = m ∧ (od m l).length = m
  | _, 0, l, _ => by cases l <;> exact ⟨rfl, rfl⟩
  | _, m + 1, [], h => by simp at h
  | _, m + 1, [_], h => by simp at h; omega
  | _, m + 1, a :: b :: r, h => by
    obtain ⟨q1, q2⟩ := len_ev (m := m) (l := r) (by simp at h; omega)
    simp [ev, od, q1, q2]
theorem mem_ev : ∀ {α : Type} {m : Nat} {l : List α} {x : α}, x ∈ ev m l ∨ x ∈ od m l → x ∈ l
  | _, 0, l, x, h => by cases l <;> simp [ev, od] at h
  | _, m + 1, [], x, h => by simp [ev, od] at h
  | _, m + 1, [_], x, h => by simp [ev, od] at h
  | _, m + 1, a :: b :: r, x, h => by
    simp only [ev, od, List.mem_cons] at h ⊢
    rcases h with (h | h) | (h | h)
    · exact .inl h
    · exact .inr (.inr (mem_ev (m := m) (.inl h)))
    · exact .inr (.inl h)
    · exact .inr (.inr (mem_ev (m := m) (.inr h)))
theorem okL_ev {ns : List Str} {cs : List Cnd} {m : Nat} (h : Cnd.okL ns cs) : Cnd.okL ns (ev m cs) ∧ Cnd.okL ns (od m cs) :=
  ⟨Cnd.okL_iff.mpr fun c hc => Cnd.okL_iff.mp h c (mem_ev (.inl hc)), Cnd.okL_iff.mpr fun c hc => Cnd.okL_iff.mp h c (mem_ev (.inr hc))⟩
theorem depthL_ev {n : Nat} {cs : List Cnd} {m : Nat} (h : Cnd.depthL cs ≤ n) : Cnd.depthL (ev m cs) ≤ n ∧ Cnd.depthL (od m cs) ≤ n :=
  ⟨Cnd.depthL_le.mpr fun c hc => Cnd.depthL_le.mp h c (mem_ev (.inl hc)), Cnd.depthL_le.mpr fun c hc => Cnd.depthL_le.mp h c (mem_ev (.inr hc))⟩
theorem weight_mem : ∀ {cs : List Cnd} {c : Cnd}, c ∈ cs → c.weight + 20 ≤ Cnd.weightL cs
  | a :: cs, c, h => by
    rw [Cnd.weightL]
    rcases List.mem_cons.mp h with rfl | h
    · omega
    · have := weight_mem h; omega
theorem weight_ev : ∀ {m : Nat} {cs : List Cnd} {c : Cnd} {i : Nat}, cs[i]? = some c → 2 * m ≤ i → Cnd.weightL (ev m cs) + Cnd.weightL (od m cs) + c.weight + 20 ≤ Cnd.weightL cs
  | 0, cs, c, i, h, _ => by
    have e1 : ∀ {α : Type} (l : List α), ev 0 l = [] := fun l => by cases l <;> rfl
    have e2 : ∀ {α : Type} (l : List α), od 0 l = [] := fun l => by cases l <;> rfl
    rw [e1, e2]
    have := weight_mem (List.mem_of_getElem? h)
    simp only [Cnd.weightL]
    omega
  | m + 1, [], c, i, h, _ => by simp at h
  | m + 1, [_], c, i, h, hi => by
    have := (List.getElem?_eq_some_iff.mp h).1
    simp at this
    omega
  | m + 1, a :: b :: r, c, i, h, hi => by
    obtain ⟨i, rfl⟩ : ∃ i', i = i' + 2 := ⟨i - 2, by omega⟩
    have := weight_ev (m := m) (cs := r) (c := c) (i := i) (by simpa using h) (by omega)
    simp only [ev, od, Cnd.weightL]
    omega
theorem atI_last {α : Type} {xs : List α} {n : Nat} (h : xs.length = n + 1) : atI xs (-1) = xs[n]? := by
  unfold atI ixN
  rw [if_neg (by decide), if_pos (by omega)]
  show xs[(-1 + (xs.length : Int)).toNat]? = _
  rw [show (-1 + (xs.length : Int)).toNat = n by omega]
end Gx

set_option Elab.async false
set_option linter.all false
set_option maxRecDepth 100000
set_option maxHeartbeats 4000000
namespace K22
open PySem PySem.Spec PyProof.Rows L2 Evl Gx
def topS (i : Nat) : Stmt := PySem.Challenge.pw_refusedahead_k22_parts_and_addresses.main.body.getD i (.Pass ⟨0, 0, 0, 0⟩)
abbrev s_l_bag : Stmt := topS 19
theorem sc_l_bag : FnScope ["_law_script", "_law_cell"] ["_law_script"] (defScope s_l_bag) := ⟨rfl, rfl, rfl, by decide +kernel, rfl, by decide +kernel, by decide +kernel⟩
abbrev s_l_take : Stmt := topS 20
theorem sc_l_take : FnScope ["_law_bag_here", "_law_many", "_law_cell", "_law_mixed", "_law_drawn", "_law_begin", "_law_second"] ["_law_bag_here", "_law_many"] (defScope s_l_take) := ⟨rfl, rfl, rfl, by decide +kernel, rfl, by decide +kernel, by decide +kernel⟩
section
variable {P : Program} {w : World} {K : PySem.W.Frag} {mg : Str → Option Value} {base : Heap}
theorem ok_bagI {f : Addr} {fd : FuncData} (D : Def K mg "_law_bag" s_l_bag f fd ["_law_script"]) (bi : Bi mg) :
    FnOk P w K mg base CX0 1 f fd ["_law_script"] (spBagI K) := by
  refine D.fn.ok sc_l_bag (fun vs H Q E h => ?_) (fun cdv A outer s H vs Q E hr h => ?_)
  · obtain ⟨a, ns, rfl, _⟩ := h
    rfl
  · obtain ⟨a, ns, rfl, hs, hl, k⟩ := h
    refine ⟨_, (pss_one (ps_ret (pe_lst (pa_cons pe_int (pa_cons pe_int (pa_cons pe_int (pa_cons (pe_lc (own := [("_law_cell", 1)]) rfl sc_l_bag.nd (pi_list (pe_slice sl_list (pv 0) po_none (po_some pe_int))) (blkOk_by (N := ["_law_script", "_law_cell"]) (sc := defScope s_l_bag) (by decide +kernel)) (fun _ _ _ _ _ => (pg_name (i := 1) sc_l_bag.nd rfl (Or.inl rfl))) (fun _ _ _ _ _ => pts_nil) (fun _ _ _ _ _ => (pe_callB call_abs (by rfl) bi.abs bt_abs (pa_cons (pv 1) pa_nil)))) pa_nil))))))), ?_⟩
    refine ⟨_, rfl, 63, rfl, a, ns.map V.int, rfl, hs, fun c hcn => ?_⟩
    have cut : cutV (ns.map V.int) none (some 63) = (ns.take 63).map V.int := by
      unfold cutV
      rw [show HT.sIx (ns.map V.int).length 0 none = 0 from rfl, List.drop_zero, Nat.sub_zero]
      have e : HT.sIx (ns.map V.int).length (ns.map V.int).length (some 63) = min 63 (ns.map V.int).length := rfl
      rw [e, List.map_take]
      by_cases q : 63 ≤ (ns.map V.int).length
      · rw [Nat.min_eq_left q]
      · rw [Nat.min_eq_right (by omega), List.take_length, List.take_of_length_le (by omega)]
    rw [cut]
    refine ⟨c, rfl, ⟨_, SqL.of upd_same⟩, fun d hd => ?_⟩
    refine lc_list (xs := (ns.take 63).map V.int) (fun i H' => H' c = some (.lst ((ns.take 63).map V.int)) ∧ Ex H H' ∧ H d = none ∧ d ≠ c ∧
      ∃ cs : List Int, H' d = some (.lst (cs.map V.int)) ∧ cs.length = i ∧ ∀ x ∈ cs, 0 ≤ x) ?_ (fun i H' _ p => SqL.of p.1) ?_ ?_
    · have ncd : d ≠ c := fun e => by subst e; rw [upd_same] at hd; cases hd
      have hd0 : H d = none := by rw [upd_ne ncd] at hd; exact hd
      refine ⟨by rw [upd_ne ncd.symm]; exact upd_same, ?_, hd0, ncd, [], upd_same, rfl, by simp⟩
      exact (Ex.new hcn).trans (Ex.new hd)
    · rintro i x H' hi ⟨p1, p2, p3, p4, cs, p5, p6, p7⟩
      obtain ⟨z, rfl⟩ : ∃ z, x = V.int z := by
        rw [List.getElem?_map] at hi
        obtain ⟨z, _, e⟩ := Option.map_eq_some_iff.mp hi
        exact ⟨z, e.symm⟩
      have hil : i < 63 := by
        have := (List.getElem?_eq_some_iff.mp hi).1
        rw [List.length_map, List.length_take] at this
        omega
      refine ⟨rfl, _, rfl, z, rfl, cs.map V.int, p5, by rw [List.length_map]; exact small1000 (by omega), ?_⟩
      refine ⟨by rw [upd_ne p4.symm]; exact p1, p2.mut p3, p3, p4, cs ++ [if z < 0 then -z else z], ?_, by simp [p6], ?_⟩
      · rw [upd_same, List.map_append]; rfl
      · intro y hy
        rcases List.mem_append.mp hy with q | q
        · exact p7 y q
        · rw [List.mem_singleton] at q; subst q; split <;> omega
    · rintro H' ⟨p1, p2, p3, p4, cs, p5, p6, p7⟩
      refine ⟨by show 4 ≤ sizeLine; decide, fun p hp => ?_⟩
      have ndp : d ≠ p := fun e => by subst e; rw [p5] at hp; cases hp
      exact k p d cs _ (ex_upd p2 hp) (fresh_back p2 hp) upd_same (by rw [upd_ne ndp]; exact p5) p7
theorem ok_takeI {f : Addr} {fd : FuncData} (D : Def K mg "_law_take" s_l_take f fd ["_law_bag_here", "_law_many"]) (bi : Bi mg) :
    FnOk P w K mg base CX0 1 f fd ["_law_bag_here", "_law_many"] spTakeI := by
  refine D.fn.ok sc_l_take (fun vs H Q E h => ?_) (fun cdv A outer s H vs Q E hr h => ?_)
  · obtain ⟨b, l, many, p, q, r, cs, rfl, _⟩ := h
    rfl
  · obtain ⟨b, l, many, p, q, r, cs, rfl, hb, hl, nbl, hc, z, m0, m1, k⟩ := h
    refine ⟨_, (Evl.pss_cut (ps_if (pt_cmpR op_eq (pe_ix ix_list (pv 0) pe_int (fun _ _ => rfl)) pe_int (nomark _))
    (pss_cons (ps_set (i := 2) sc_l_take.nd rfl (Or.inl rfl) pe_int)
    (Evl.pss_cut (ps_if (pt_cmpR op_lt (pe_ix ix_list (pv 0) pe_int (fun _ _ => rfl)) (pe_callB call_len_seq (by rfl) bi.len bt_len (pa_cons (pe_ix ix_list (pv 0) pe_int (fun _ _ => rfl)) pa_nil)) (nomark _))
      (pss_one (ps_set (i := 2) sc_l_take.nd rfl (Or.inl rfl) (pe_ix ix_list (pe_ix ix_list (pv 0) pe_int (fun _ _ => rfl)) (pe_ix ix_list (pv 0) pe_int (fun _ _ => rfl)) (fun _ _ => rfl))))
      pss_nil)
    (pss_cons (ps_augS (pv 0) pe_int get_list pe_int ip_add set_list)
    (Evl.pss_cut (ps_if (pt_cmpR op_ge (pv 2) (pe_op op_pow pe_int pe_int) (nomark _))
      (pss_one (ps_asg (pv 2) (pg_sub (pv 0) pe_int set_list)))
      pss_nil)
    (pss_cons (ps_set (i := 3) sc_l_take.nd rfl (Or.inl rfl) (pe_op op_add (pe_op op_add (pe_op op_mul (pe_ix ix_list (pv 0) pe_int (fun _ _ => rfl)) pe_int) (pe_op op_mod (pe_callTy call_int1 (by rfl) bi.int bt_int (pa_cons (pv 2) pa_nil)) pe_int)) (pe_op op_mul pe_int (pe_ix ix_list (pv 0) pe_int (fun _ _ => rfl)))))
    (pss_one (ps_asg (pe_op op_mod (pe_callTy call_int1 (by rfl) bi.int bt_int (pa_cons (pv 3) pa_nil)) pe_int) (pg_sub (pv 0) pe_int set_list))))))))
    pss_nil)
  (pss_cons (ps_if (pt_cmpR op_gt (pe_ix ix_list (pv 0) pe_int (fun _ _ => rfl)) pe_int (nomark _))
    (pss_cons (ps_set (i := 4) sc_l_take.nd rfl (Or.inl rfl) (pe_op op_mod (pe_callTy call_int1 (by rfl) bi.int bt_int (pa_cons (pe_ix ix_list (pv 0) pe_int (fun _ _ => rfl)) pa_nil)) (pv 1)))
    (pss_cons (ps_asg (pe_op op_fdiv (pe_ix ix_list (pv 0) pe_int (fun _ _ => rfl)) (pv 1)) (pg_sub (pv 0) pe_int set_list))
    (pss_one (ps_ret (pv 4)))))
    pss_nil)
  (pss_cons (ps_set (i := 5) sc_l_take.nd rfl (Or.inl rfl) (pe_op op_mod (pe_callTy call_int1 (by rfl) bi.int bt_int (pa_cons (pe_op op_mul (pe_op op_add (pe_ix ix_list (pv 0) pe_int (fun _ _ => rfl)) pe_int) pe_int) pa_nil)) pe_int))
  (pss_cons (ps_set (i := 6) sc_l_take.nd rfl (Or.inl rfl) (pe_op op_mod (pe_callTy call_int1 (by rfl) bi.int bt_int (pa_cons (pe_op op_mul (pe_op op_mod (pe_callTy call_int1 (by rfl) bi.int bt_int (pa_cons (pe_op op_mul (pv 5) (pv 5)) pa_nil)) pe_int) pe_int) pa_nil)) pe_int))
  (pss_one (ps_ret (pe_op op_mod (pe_callTy call_int1 (by rfl) bi.int bt_int (pa_cons (pe_op op_fdiv (pv 6) pe_int) pa_nil)) (pv 1)))))))), ?_⟩
    -- between the statements: the list holds some four
    refine ⟨fun σ H' => ∃ (p' q' r' : Int) (x5 x6 x7 x8 x9 : Option V), σ = [some (.ref b), some (.int many), x5, x6, x7, x8, x9] ∧
      (0 ≤ p' ∧ 0 ≤ q' ∧ q' < 2147483647 ∧ 0 ≤ r') ∧ H' = upd H b (.lst (bagL p' q' r' l)), ?_, ?_⟩
    · -- if _law_bag_here[0] == 0
      refine ⟨_, rfl, b, bagL p q r l, 0, .int p, rfl, rfl, SqL.of hb, rfl, rfl, _, rfl, ?_⟩
      refine if_d (fun _ => ?_) (fun _ => ⟨p, q, r, none, none, none, none, none, rfl, z, (upd_self hb).symm⟩)
      refine ⟨fun σ H' => ∃ c : Int, σ = [some (.ref b), some (.int many), some (.int c), none, none, none, none] ∧ 0 ≤ c ∧ H' = H, ?_, ?_⟩
      · refine ⟨_, rfl, b, bagL p q r l, 2, .int r, rfl, rfl, SqL.of hb, rfl, _, rfl, b, bagL p q r l, 3, .ref l, rfl, rfl, SqL.of hb, rfl,
          l, cs.map V.int, rfl, .inl (SqL.of hl), r, (cs.map V.int).length, rfl, rfl, _, rfl, ?_⟩
        refine if_d (fun hlt => ?_) (fun _ => ⟨0, rfl, by omega, rfl⟩)
        rw [List.length_map] at hlt
        obtain ⟨v, hv, hm⟩ := get_of (xs := cs) (i := r) z.2.2.2 hlt
        refine ⟨_, rfl, b, bagL p q r l, 3, .ref l, rfl, rfl, SqL.of hb, rfl, _, rfl, b, bagL p q r l, 2, .int r, rfl, rfl, SqL.of hb, rfl,
          l, cs.map V.int, r, .int v, rfl, rfl, SqL.of hl, atI_of z.2.2.2 (by rw [List.getElem?_map, hv]; rfl), v, rfl, hc v hm, rfl⟩
      · rintro σ H' ⟨c, rfl, hc0, eH⟩
        have eH := eH.symm; subst eH
        -- _law_bag_here[2] += 1
        refine ⟨_, rfl, b, bagL p q r l, 2, .int r, rfl, rfl, SqL.of hb, by decide, by decide, rfl, r, 1, rfl, rfl, b, bagL p q r l, 2, 2, rfl, rfl, hb, rfl, ?_⟩
        refine ⟨fun σ H' => ∃ p' : Int, σ = [some (.ref b), some (.int many), some (.int c), none, none, none, none] ∧ 0 ≤ p' ∧
          H' = upd H b (.lst (bagL p' q (r + 1) l)), ?_, ?_⟩
        · refine ⟨_, rfl, 10, 18, rfl, rfl, ⟨by decide, by decide, by decide⟩, c, _, rfl, rfl, _, rfl, ?_⟩
          refine if_d (fun _ => ?_) (fun _ => ⟨p, rfl, z.1, rfl⟩)
          refine ⟨_, rfl, _, rfl, b, bagL p q (r + 1) l, 0, 0, rfl, rfl, upd_same, rfl, c, rfl, hc0, ?_⟩
          rw [upd_upd]; rfl
        · rintro σ H' ⟨p', rfl, hp', rfl⟩
          refine ⟨_, rfl, b, bagL p' q (r + 1) l, 1, .int q, rfl, rfl, SqL.of upd_same, rfl, q, 48271, rfl, rfl, .inr ⟨by decide, by decide⟩, ?_⟩
          refine ⟨_, rfl, .inl ⟨c, rfl, c, 2147483647, rfl, rfl, (by show (0 : Int) < 2147483647; decide), q * 48271, c % 2147483647, rfl, rfl, ?_⟩⟩
          refine ⟨_, rfl, b, bagL p' q (r + 1) l, 2, .int (r + 1), rfl, rfl, SqL.of upd_same, rfl, 7919, r + 1, rfl, rfl, .inl ⟨by decide, by decide⟩, _, _, rfl, rfl, ?_⟩
          refine ⟨_, rfl, .inl ⟨_, rfl, _, 2147483647, rfl, rfl, (by show (0 : Int) < 2147483647; decide), ?_⟩⟩
          refine ⟨_, rfl, b, bagL p' q (r + 1) l, 1, 1, rfl, rfl, upd_same, rfl, ?_⟩
          refine ⟨p', (q * 48271 + c % 2147483647 + 7919 * (r + 1)) % 2147483647, r + 1, _, _, _, _, _, rfl, ⟨hp', Int.emod_nonneg _ (by decide), Int.emod_lt_of_pos _ (by decide), by omega⟩, ?_⟩
          rw [upd_upd]; rfl
    · rintro σ H' ⟨p', q', r', x5, x6, x7, x8, x9, rfl, z', eH⟩
      subst eH
      refine ⟨_, rfl, b, bagL p' q' r' l, 0, .int p', rfl, rfl, SqL.of upd_same, rfl, p', 0, rfl, rfl, _, rfl, ?_⟩
      refine if_d (fun hp => ?_) (fun _ => ?_)
      · -- a number is left of a great one
        refine ⟨_, rfl, b, bagL p' q' r' l, 0, .int p', rfl, rfl, SqL.of upd_same, rfl, .inl ⟨p', rfl, _, rfl, p', many, rfl, rfl, m0, ?_⟩⟩
        refine ⟨_, rfl, b, bagL p' q' r' l, 0, .int p', rfl, rfl, SqL.of upd_same, rfl, _, rfl, p', many, rfl, rfl, ⟨m0, m1⟩, ?_⟩
        refine ⟨_, rfl, b, bagL p' q' r' l, 0, 0, rfl, rfl, upd_same, rfl, ?_⟩
        refine ⟨_, rfl, ?_⟩
        rw [upd_upd]
        exact k (p' % many) (p' / many) q' r' (Int.emod_nonneg _ (by omega)) (Int.emod_lt_of_pos _ m0) ⟨Int.ediv_nonneg z'.1 (by omega), z'.2⟩
      · refine ⟨_, rfl, b, bagL p' q' r' l, 1, .int q', rfl, rfl, SqL.of upd_same, rfl, q', 1, rfl, rfl, _, 39373, rfl, rfl, .inr ⟨by decide, by decide⟩, ?_⟩
        refine .inl ⟨_, rfl, _, 1000000007, rfl, rfl, (by show (0 : Int) < 1000000007; decide), ?_⟩
        have g1 : 0 ≤ (q' + 1) * 39373 % 1000000007 := Int.emod_nonneg _ (by decide)
        have g2 : (q' + 1) * 39373 % 1000000007 < 1000000007 := Int.emod_lt_of_pos _ (by decide)
        refine ⟨_, rfl, _, rfl, _, _, rfl, rfl, .inl ⟨by omega, by omega⟩, ?_⟩
        refine .inl ⟨_, rfl, _, 998244353, rfl, rfl, (by show (0 : Int) < 998244353; decide), _, 30011, rfl, rfl, .inr ⟨by decide, by decide⟩, ?_⟩
        refine .inl ⟨_, rfl, _, 998244353, rfl, rfl, (by show (0 : Int) < 998244353; decide), ?_⟩
        refine ⟨_, rfl, _, 7, rfl, rfl, ⟨by decide, by decide⟩, ?_⟩
        refine .inl ⟨_, rfl, _, rfl, _, many, rfl, rfl, m0, ?_⟩
        exact k _ p' q' r' (Int.emod_nonneg _ (by omega)) (Int.emod_lt_of_pos _ m0) z'
end
end K22

set_option Elab.async false
set_option linter.all false
set_option maxRecDepth 100000
set_option maxHeartbeats 4000000
namespace K22
open PySem PySem.Spec PyProof.Rows L2 Evl Gx
abbrev s_l_one : Stmt := topS 22
theorem sc_l_one : FnScope ["_law_bag_here", "_law_things"] ["_law_bag_here", "_law_things"] (defScope s_l_one) := ⟨rfl, rfl, rfl, by decide +kernel, rfl, by decide +kernel, by decide +kernel⟩
abbrev s_l_number : Stmt := topS 23
theorem sc_l_number : FnScope ["_law_bag_here", "_law_way"] ["_law_bag_here"] (defScope s_l_number) := ⟨rfl, rfl, rfl, by decide +kernel, rfl, by decide +kernel, by decide +kernel⟩
section
variable {P : Program} {w : World} {K : PySem.W.Frag} {mg : Str → Option Value} {base : Heap}
variable {f_l_take f_l_one : Addr} {fd_l_take fd_l_one : FuncData}
theorem ok_one {f : Addr} {fd : FuncData} (D : Def K mg "_law_one" s_l_one f fd ["_law_bag_here", "_law_things"]) (bi : Bi mg)
    (D_l_take : Def K mg "_law_take" s_l_take f_l_take fd_l_take ["_law_bag_here", "_law_many"])
    (G_l_take : FnOk P w K mg base CX0 1 f_l_take fd_l_take ["_law_bag_here", "_law_many"] spTake) :
    FnOk P w K mg base CX0 2 f fd ["_law_bag_here", "_law_things"] (spOne K) := by
  refine D.fn.ok sc_l_one (fun vs H Q E h => ?_) (fun cdv A outer s H vs Q E hr h => ?_)
  · obtain ⟨b, l, xs, rfl, _⟩ := h
    rfl
  · obtain ⟨b, l, xs, rfl, hb, hl, h0, h1, k⟩ := h
    refine ⟨_, (pss_one (ps_ret (pe_ix ix_list (pv 1) (pe_call G_l_take (hr.mono (by first | decide | omega)) rfl D_l_take.mg D_l_take.fn.kp D_l_take.bd .nil pass0 (pa_cons (pv 0) (pa_cons (pe_callB call_len_seq (by rfl) bi.len bt_len (pa_cons (pv 1) pa_nil)) pa_nil))) (fun _ _ => rfl)))), ?_⟩
    refine ⟨_, rfl, _, rfl, _, rfl, l, xs, rfl, .inl hl, b, xs.length, rfl, hb, by omega, by omega, fun i i0 i1 => ?_⟩
    obtain ⟨v, e, m⟩ := item_in i0 i1
    exact ⟨l, xs, i, v, rfl, rfl, hl, e, k v m⟩
theorem ok_number {f : Addr} {fd : FuncData} (D : Def K mg "_law_number" s_l_number f fd ["_law_bag_here"]) (bi : Bi mg)
    (D_l_take : Def K mg "_law_take" s_l_take f_l_take fd_l_take ["_law_bag_here", "_law_many"])
    (G_l_take : FnOk P w K mg base CX0 1 f_l_take fd_l_take ["_law_bag_here", "_law_many"] spTake) :
    FnOk P w K mg base CX0 2 f fd ["_law_bag_here"] spNumber := by
  refine D.fn.ok sc_l_number (fun vs H Q E h => ?_) (fun cdv A outer s H vs Q E hr h => ?_)
  · obtain ⟨b, rfl, _⟩ := h
    rfl
  · obtain ⟨b, rfl, hb, k⟩ := h
    refine ⟨_, (pss_cons (ps_set (i := 1) sc_l_number.nd rfl (Or.inl rfl) (pe_call G_l_take (hr.mono (by first | decide | omega)) rfl D_l_take.mg D_l_take.fn.kp D_l_take.bd .nil pass0 (pa_cons (pv 0) (pa_cons pe_int pa_nil))))
  (pss_cons (ps_if (pt_cmpR op_gt (pv 1) pe_int (nomark _))
    (pss_one (ps_ret (pe_op op_sub (pe_call G_l_take (hr.mono (by first | decide | omega)) rfl D_l_take.mg D_l_take.fn.kp D_l_take.bd .nil pass0 (pa_cons (pv 0) (pa_cons pe_int pa_nil))) pe_int)))
    pss_nil)
  (pss_one (ps_ret (pe_op op_mul (pe_ix ix_list (pe_lst (pa_cons (pe_op op_sub (pe_op op_pow pe_int pe_int) (pe_call G_l_take (hr.mono (by first | decide | omega)) rfl D_l_take.mg D_l_take.fn.kp D_l_take.bd .nil pass0 (pa_cons (pv 0) (pa_cons pe_int pa_nil)))) (pa_cons (pe_call G_l_take (hr.mono (by first | decide | omega)) rfl D_l_take.mg D_l_take.fn.kp D_l_take.bd .nil pass0 (pa_cons (pv 0) (pa_cons pe_int pa_nil))) pa_nil))) (pv 1) (fun _ _ => rfl)) (pe_ix ix_list (pe_lst (pa_cons pe_int (pa_cons (pe_un un_neg pe_int) pa_nil))) (pe_call G_l_take (hr.mono (by first | decide | omega)) rfl D_l_take.mg D_l_take.fn.kp D_l_take.bd .nil pass0 (pa_cons (pv 0) (pa_cons pe_int pa_nil))) (fun _ _ => rfl))))))), ?_⟩
    refine ⟨_, rfl, b, 12, rfl, hb, by decide, by decide, fun way w0 w1 => ?_⟩
    refine ⟨_, rfl, way, 1, rfl, rfl, _, rfl, ?_⟩
    refine if_d (fun hw => ?_) (fun hw => ?_)
    · refine ⟨_, rfl, b, 13, rfl, hb, by decide, by decide, fun x x0 x1 => ⟨x, 6, rfl, rfl, ?_⟩⟩
      exact k (x - 6) ⟨by omega, by omega⟩ H (Ex.refl H)
    · refine ⟨10, 12, rfl, rfl, cp10_12, _, rfl, b, 3, rfl, hb, by decide, by decide, fun x x0 x1 => ⟨_, _, rfl, rfl, ?_⟩⟩
      refine ⟨_, rfl, b, 2000, rfl, hb, by decide, by decide, fun y y0 y1 => ⟨sz2, fun p hp => ?_⟩⟩
      have hb1 : Bag (upd H p (.lst [.int (10 ^ (12 : Int).toNat - x), .int y])) b := hb.to (Ex.new hp)
      have e1 : ∃ z : Int, atI [V.int (10 ^ (12 : Int).toNat - x), V.int y] way = some (.int z) ∧ Near z := by
        rw [p10_12]
        rcases (by omega : way = 0 ∨ way = 1) with rfl | rfl
        · exact ⟨_, rfl, by omega, by omega⟩
        · exact ⟨_, rfl, by omega, by omega⟩
      obtain ⟨z, ez, nz⟩ := e1
      refine ⟨_, rfl, p, _, way, .int z, rfl, rfl, SqL.of upd_same, ez, 1, rfl, sz2, fun q hq => ?_⟩
      refine ⟨_, rfl, b, 2, rfl, hb1.to (Ex.new hq), by decide, by decide, fun g g0 g1 => ?_⟩
      have ex := (Ex.new (o := .lst [.int (10 ^ (12 : Int).toNat - x), .int y]) hp).trans (Ex.new (o := .lst [.int 1, .int (-1)]) hq)
      rcases (by omega : g = 0 ∨ g = 1) with rfl | rfl
      · refine ⟨q, _, 0, .int 1, rfl, rfl, SqL.of upd_same, rfl, z, 1, rfl, rfl, .inr ⟨by decide, by decide⟩, ?_⟩
        exact k (z * 1) ⟨by omega, by omega⟩ _ ex
      · refine ⟨q, _, 1, .int (-1), rfl, rfl, SqL.of upd_same, rfl, z, -1, rfl, rfl, .inr ⟨by decide, by decide⟩, ?_⟩
        exact k (z * -1) ⟨by omega, by omega⟩ _ ex
end
end K22

set_option Elab.async false
set_option linter.all false
set_option maxRecDepth 100000
set_option maxHeartbeats 4000000
namespace K22
open PySem PySem.Spec PyProof.Rows L2 Evl Gx
abbrev s_l_step : Stmt := topS 24
theorem sc_l_step : FnScope ["_law_bag_here", "_law_word", "_law_by", "_law_keys", "_law_key", "_law_number_here"] ["_law_bag_here"] (defScope s_l_step) := ⟨rfl, rfl, rfl, by decide +kernel, rfl, by decide +kernel, by decide +kernel⟩
theorem tk6 {ks : List Int} (n : Nat) : cutV (ks.map V.int) none (some (6 : Int)) = (ks.take 6).map V.int := by
  have e := cut_take (ks.map V.int) 6
  rw [show ((6 : Nat) : Int) = (6 : Int) from rfl] at e
  rw [e, List.map_take]
section
variable {P : Program} {w : World} {K : PySem.W.Frag} {mg : Str → Option Value} {base : Heap}
variable {f_l_take f_l_one f_l_number : Addr} {fd_l_take fd_l_one fd_l_number : FuncData}
theorem ok_step {f : Addr} {fd : FuncData} (D : Def K mg "_law_step" s_l_step f fd ["_law_bag_here"]) (bi : Bi mg)
    (D_l_take : Def K mg "_law_take" s_l_take f_l_take fd_l_take ["_law_bag_here", "_law_many"])
    (G_l_take : FnOk P w K mg base CX0 1 f_l_take fd_l_take ["_law_bag_here", "_law_many"] spTake)
    (D_l_one : Def K mg "_law_one" s_l_one f_l_one fd_l_one ["_law_bag_here", "_law_things"])
    (G_l_one : FnOk P w K mg base CX0 2 f_l_one fd_l_one ["_law_bag_here", "_law_things"] (spOne K))
    (D_l_number : Def K mg "_law_number" s_l_number f_l_number fd_l_number ["_law_bag_here"])
    (G_l_number : FnOk P w K mg base CX0 2 f_l_number fd_l_number ["_law_bag_here"] spNumber) :
    FnOk P w K mg base CX0 3 f fd ["_law_bag_here"] (spStep K) := by
  refine D.fn.ok sc_l_step (fun vs H Q E h => ?_) (fun cdv A outer s H vs Q E hr h => ?_)
  · obtain ⟨b, rfl, _⟩ := h
    rfl
  · obtain ⟨b, rfl, hb, k⟩ := h
    refine ⟨_, (pss_cons (ps_set (i := 1) sc_l_step.nd rfl (Or.inl rfl) (pe_call G_l_one (hr.mono (by first | decide | omega)) rfl D_l_one.mg D_l_one.fn.kp D_l_one.bd .nil pass0 (pa_cons (pv 0) (pa_cons (pe_lst (pa_cons pe_str (pa_cons pe_str (pa_cons pe_str (pa_cons pe_str (pa_cons pe_str pa_nil)))))) pa_nil))))
  (pss_cons (ps_if (pt_cmpR op_eq (pv 1) pe_str (nomark _))
    (pss_cons (ps_set (i := 2) sc_l_step.nd rfl (Or.inr rfl) (pe_ix ix_list (pe_lst (pa_cons pe_int (pa_cons pe_int (pa_cons pe_int (pa_cons (pe_op op_add (pe_op op_pow pe_int pe_int) pe_int) pa_nil))))) (pe_call G_l_take (hr.mono (by first | decide | omega)) rfl D_l_take.mg D_l_take.fn.kp D_l_take.bd .nil pass0 (pa_cons (pv 0) (pa_cons pe_int pa_nil))) (fun _ _ => rfl)))
    (pss_cons (ps_set (i := 3) sc_l_step.nd rfl (Or.inl rfl) (pe_slice sl_list (pe_lc (own := [("_law_key", 4)]) rfl sc_l_step.nd (pi_range2 rfl bi.range (pa_cons (pe_un un_neg pe_int) (pa_cons pe_int pa_nil))) (blkOk_by (N := ["_law_bag_here", "_law_word", "_law_by", "_law_keys", "_law_key", "_law_number_here"]) (sc := defScope s_l_step) (by decide +kernel)) (fun _ _ _ _ _ => (pg_name (i := 4) sc_l_step.nd rfl (Or.inl rfl))) (fun _ _ _ _ _ => (pts_one (pt_cmpR op_eq (pe_call G_l_take (hr.mono (by first | decide | omega)) rfl D_l_take.mg D_l_take.fn.kp D_l_take.bd .nil pass0 (pa_cons (pv 0) (pa_cons pe_int pa_nil))) pe_int (nomark _)))) (fun _ _ _ _ _ => (pe_op op_mul (pv 4) (pv 2)))) po_none (po_some pe_int)))
    (pss_one (ps_ret (pe_tup (pa_cons pe_str (pa_cons (pe_callTy call_tupX (by rfl) bi.tuple bt_tuple (pa_cons (pe_lc (own := [("_law_key", 4)]) rfl sc_l_step.nd (pi_list (pv 3)) (blkOk_by (N := ["_law_bag_here", "_law_word", "_law_by", "_law_keys", "_law_key", "_law_number_here"]) (sc := defScope s_l_step) (by decide +kernel)) (fun _ _ _ _ _ => (pg_name (i := 4) sc_l_step.nd rfl (Or.inl rfl))) (fun _ _ _ _ _ => pts_nil) (fun _ _ _ _ _ => (pe_tup (pa_cons (pv 4) (pa_cons (pe_call G_l_number (hr.mono (by first | decide | omega)) rfl D_l_number.mg D_l_number.fn.kp D_l_number.bd .nil pass0 (pa_cons (pv 0) pa_nil)) pa_nil))))) pa_nil)) pa_nil)))))))
    pss_nil)
  (pss_cons (ps_set (i := 5) sc_l_step.nd rfl (Or.inl rfl) (pe_call G_l_number (hr.mono (by first | decide | omega)) rfl D_l_number.mg D_l_number.fn.kp D_l_number.bd .nil pass0 (pa_cons (pv 0) pa_nil)))
  (pss_cons (ps_if (pt_cmpR op_eq (pv 1) pe_str (nomark _))
    (pss_one (ps_ret (pe_tup (pa_cons pe_str (pa_cons (pe_callB (call_max2 rfl) (by rfl) bi.max bt_max (pa_cons pe_int (pa_cons (pe_callB call_abs (by rfl) bi.abs bt_abs (pa_cons (pv 5) pa_nil)) pa_nil))) pa_nil)))))
    pss_nil)
  (pss_one (ps_ret (pe_tup (pa_cons (pv 1) (pa_cons (pe_ifExp (L2.PW.pt (pw_or (pt_cmpR op_ne (pv 5) pe_int (nomark _)) (pw_or1 (pt_cmpR op_ne (pv 1) pe_str (nomark _))))) (pv 5) pe_int) pa_nil))))))))), ?_⟩
    refine ⟨_, rfl, sz5, fun p hp => ?_⟩
    have hb1 := hb.to (Ex.new (o := .lst [.str "plus", .str "times", .str "into", .str "over", .str "found"]) hp)
    have x1 := Ex.new (o := .lst [.str "plus", .str "times", .str "into", .str "over", .str "found"]) hp
    refine ⟨b, p, _, rfl, hb1, SqL.of upd_same, by show (0 : Nat) < 5; decide, by show (5 : Nat) < 100000; decide, fun x hx => ?_⟩
    generalize upd H p (.lst [.str "plus", .str "times", .str "into", .str "over", .str "found"]) = H1 at hb1 x1 ⊢
    refine ⟨_, rfl, ?_⟩
    have hx5 : x = .str "plus" ∨ x = .str "times" ∨ x = .str "into" ∨ x = .str "over" ∨ x = .str "found" := by
      simpa using hx
    by_cases hf : x = .str "found"
    · subst hf
      refine ⟨rfl, _, rfl, if_t (by decide +kernel) ?_⟩
      -- _law_by
      refine ⟨10, 11, rfl, rfl, cp10_11, _, 7, rfl, rfl, sz4, fun q hq => ?_⟩
      have hb2 := hb1.to (Ex.new (o := .lst [.int 1, .int 1, .int 1, .int (10 ^ (11 : Int).toNat + 7)]) hq)
      have x2 := x1.trans (Ex.new (o := .lst [.int 1, .int 1, .int 1, .int (10 ^ (11 : Int).toNat + 7)]) hq)
      refine ⟨_, rfl, b, 4, rfl, hb2, by decide, by decide, fun i i0 i1 => ?_⟩
      have eby : ∃ y : Int, atI [V.int 1, .int 1, .int 1, .int (10 ^ (11 : Int).toNat + 7)] i = some (.int y) ∧ 0 < y ∧ y ≤ 100000000007 := by
        rw [p10_11]
        rcases (by omega : i = 0 ∨ i = 1 ∨ i = 2 ∨ i = 3) with rfl | rfl | rfl | rfl
        · exact ⟨1, rfl, by omega, by omega⟩
        · exact ⟨1, rfl, by omega, by omega⟩
        · exact ⟨1, rfl, by omega, by omega⟩
        · exact ⟨_, rfl, by omega, by omega⟩
      obtain ⟨y, ey, y0, y1⟩ := eby
      refine ⟨q, _, i, .int y, rfl, rfl, SqL.of upd_same, ey, ?_⟩
      generalize upd H1 q (.lst [.int 1, .int 1, .int 1, .int (10 ^ (11 : Int).toNat + 7)]) = H2 at hb2 x2 ⊢
      -- _law_keys
      refine ⟨_, rfl, -3, 4, rfl, ⟨by decide, by decide, by decide, by decide⟩, fun d hd => ?_⟩
      refine lc_range (lo := -3) (n := 7) (fun j H' => Ex H2 H' ∧ ∃ ks : List Int, H' d = some (.lst (ks.map V.int)) ∧ ks.length ≤ j ∧
        ks.Pairwise (· < ·) ∧ ∀ k ∈ ks, -3 * y ≤ k ∧ k < (-3 + (j : Int)) * y ∧ k ≤ 3 * y) ?_ ?_ ?_
      · exact ⟨Ex.new hd, [], upd_same, Nat.le_refl _, .nil, by simp⟩
      · rintro j H' hj ⟨e1, ks, p1, p2, p3, p4⟩
        refine ⟨rfl, _, rfl, b, 2, rfl, hb2.to e1, by decide, by decide, fun z z0 z1 => ⟨rfl, _, rfl, ?_⟩⟩
        have step : (-3 + ((j + 1 : Nat) : Int)) * y = (-3 + (j : Int)) * y + y := by
          rw [show (-3 + ((j + 1 : Nat) : Int)) = (-3 + (j : Int)) + 1 by omega, Int.add_mul, Int.one_mul]
        refine if_d (fun _ => ?_) (fun _ => ?_)
        · refine ⟨_, rfl, _, rfl, -3 + (j : Int), y, rfl, rfl, .inl ⟨by omega, by omega⟩, ks.map V.int, p1, by rw [List.length_map]; exact small (by omega), ?_⟩
          have lo : -3 * y ≤ (-3 + (j : Int)) * y := Int.mul_le_mul_of_nonneg_right (by omega) (by omega)
          have hi : (-3 + (j : Int)) * y ≤ 3 * y := Int.mul_le_mul_of_nonneg_right (by omega) (by omega)
          refine ⟨e1.mut hd, ks ++ [(-3 + (j : Int)) * y], ?_, by simp; omega, ?_, ?_⟩
          · rw [upd_same, List.map_append]; rfl
          · rw [List.pairwise_append]
            refine ⟨p3, List.pairwise_singleton _ _, fun u hu v hv => ?_⟩
            rw [List.mem_singleton] at hv
            subst hv
            exact (p4 u hu).2.1
          · intro u hu
            rcases List.mem_append.mp hu with g | g
            · have := p4 u g
              omega
            · rw [List.mem_singleton] at g
              subst g
              omega
        · exact ⟨e1, ks, p1, by omega, p3, fun u hu => by have := p4 u hu; omega⟩
      · rintro H3 ⟨e1, ks, p1, p2, p3, p4⟩
        refine ⟨6, rfl, d, ks.map V.int, rfl, SqL.of p1, fun r hrr => ?_⟩
        rw [tk6 6]
        have nn : ∀ k ∈ ks.take 6, Near k := fun u hu => by
          have := p4 u (List.mem_of_mem_take hu)
          constructor <;> omega
        have pw : (ks.take 6).Pairwise (· < ·) := p3.sublist (List.take_sublist _ _)
        have ln : (ks.take 6).length ≤ 6 := by rw [List.length_take]; omega
        generalize ks.take 6 = ms at nn pw ln ⊢
        have e2 : Ex H2 (upd H3 r (.lst (ms.map V.int))) := e1.trans (Ex.new hrr)
        have hr4 : upd H3 r (.lst (ms.map V.int)) r = some (.lst (ms.map V.int)) := upd_same
        generalize upd H3 r (.lst (ms.map V.int)) = H4 at e2 hr4 ⊢
        -- return ('found', tuple([..]))
        refine ⟨_, rfl, r, rfl, ⟨_, SqL.of hr4⟩, fun d2 hd2 => ?_⟩
        refine lc_list (xs := ms.map V.int) (fun j H' => Ex H4 H' ∧ ∃ (as : List Addr) (ps : List (Int × Int)), H' d2 = some (.lst (as.map V.ref)) ∧
          Paired (PairAt K H') as ps ∧ ps.map (·.1) = ms.take j ∧ ∀ pr ∈ ps, Near pr.2) ?_ (fun j H' _ q => SqL.of (q.1 r _ hr4)) ?_ ?_
        · exact ⟨Ex.new hd2, [], [], upd_same, .nil, rfl, by simp⟩
        · rintro j v H' hj ⟨g1, as, ps, g2, g3, g4, g5⟩
          obtain ⟨u, hu, rfl⟩ : ∃ u, ms[j]? = some u ∧ v = V.int u := by
            rw [List.getElem?_map] at hj
            obtain ⟨u, h1, h2⟩ := Option.map_eq_some_iff.mp hj
            exact ⟨u, h1, h2.symm⟩
          have hjl := (List.getElem?_eq_some_iff.mp hu).1
          have asl : as.length = j := by
            have l1 : as.length = ps.length := Paired.length g3
            have l2 := congrArg List.length g4
            rw [List.length_map, List.length_take] at l2
            omega
          refine ⟨rfl, _, rfl, _, rfl, b, rfl, hb2.to (e2.trans g1), fun m hm H5 e5 => ⟨sz2, fun t ht => ?_⟩⟩
          have n2 : H' d2 ≠ none := by rw [g2]; simp
          have td : t ≠ d2 := fun e => by subst e; rw [e5 _ _ g2] at ht; cases ht
          refine ⟨as.map V.ref, by rw [upd_ne td.symm]; exact e5 _ _ g2, by rw [List.length_map]; exact small (by omega), ?_⟩
          have e6 : Ex H4 (upd (upd H5 t (.tup [.int u, .int m])) d2 (.lst (as.map V.ref ++ [.ref t]))) := Ex.mut ((g1.trans e5).trans (Ex.new ht)) hd2
          refine ⟨e6, as ++ [t], ps ++ [(u, m)], by rw [upd_same, List.map_append]; rfl, ?_, ?_, ?_⟩
          · refine paired_app (L2.Paired.mapP g3 fun a pr q => ?_) (.cons ?_ .nil)
            · -- an elder pair stands
              rcases q with (q | ⟨o, q⟩) | q
              · refine .inl (.inl ?_)
                have nad : a ≠ d2 := fun e => by subst e; rw [g2] at q; cases q
                rw [upd_ne nad]
                exact (e5.trans (Ex.new ht)) _ _ q
              · refine .inl (.inr ⟨o, ?_⟩)
                have nad : a ≠ d2 := fun e => by subst e; rw [g2] at q; cases q
                rw [upd_ne nad]
                exact (e5.trans (Ex.new ht)) _ _ q
              · exact .inr q
            · refine .inl (.inl ?_)
              rw [upd_ne td]
              exact upd_same
          · rw [List.map_append, g4]
            show ms.take j ++ [u] = _
            rw [List.take_add_one, hu]; rfl
          · intro pr hpr
            rcases List.mem_append.mp hpr with g | g
            · exact g5 pr g
            · rw [List.mem_singleton] at g; subst g; exact hm
        · rintro H5 ⟨g1, as, ps, g2, g3, g4, g5⟩
          rw [List.length_map, List.take_length] at g4
          refine ⟨d2, as.map V.ref, rfl, SqL.of g2, fun c H6 hc e6 hcx => ⟨sz2, fun t ht => ?_⟩⟩
          have e7 : Ex H (upd H6 t (.tup [.str "found", .ref c])) := (((x2.trans e2).trans g1).trans e6).trans (Ex.new ht)
          refine k _ (.found ps) _ e7 ⟨?_, ?_, ?_⟩ ⟨t, c, as, rfl, SqT.of upd_same, hcx.to (Ex.new ht), paired_to (e6.trans (Ex.new ht)) g3⟩
          · rw [g4]
            exact pw.imp (fun h => by omega)
          · intro pr hpr
            refine ⟨nn pr.1 ?_, g5 pr hpr⟩
            rw [← g4]
            exact List.mem_map_of_mem hpr
          · have := congrArg List.length g4
            rw [List.length_map] at this
            omega
    · -- the other words
      rcases hx5 with e | e | e | e | e
      · subst e
        refine ⟨rfl, _, rfl, if_f (by decide +kernel) ?_⟩
        refine ⟨_, rfl, b, rfl, hb1, fun n hn H2 e2 => ?_⟩
        refine ⟨_, rfl, rfl, _, rfl, if_f (by decide +kernel) ?_⟩
        refine ⟨_, rfl, _, rfl, rfl, _, rfl, ?_⟩
        refine if_nd (fun _ => ?_) (fun _ => ⟨_, rfl, rfl, _, rfl, ?_⟩)
        · refine ⟨_, rfl, sz2, fun t ht => ?_⟩
          exact k _ (.plus n) _ ((x1.trans e2).trans (Ex.new ht)) hn ⟨t, rfl, SqT.of upd_same⟩
        · refine if_t (by decide +kernel) ⟨_, rfl, sz2, fun t ht => ?_⟩
          exact k _ (.plus n) _ ((x1.trans e2).trans (Ex.new ht)) hn ⟨t, rfl, SqT.of upd_same⟩
      · subst e
        refine ⟨rfl, _, rfl, if_f (by decide +kernel) ?_⟩
        refine ⟨_, rfl, b, rfl, hb1, fun n hn H2 e2 => ?_⟩
        refine ⟨_, rfl, rfl, _, rfl, if_f (by decide +kernel) ?_⟩
        refine ⟨_, rfl, _, rfl, rfl, _, rfl, ?_⟩
        refine if_nd (fun h0 => ?_) (fun _ => ⟨_, rfl, rfl, _, rfl, ?_⟩)
        · refine ⟨_, rfl, sz2, fun t ht => ?_⟩
          exact k _ (.times n) _ ((x1.trans e2).trans (Ex.new ht)) ⟨hn, fun e => h0 (by rw [e])⟩ ⟨t, rfl, SqT.of upd_same⟩
        · refine if_f (by decide +kernel) ⟨sz2, fun t ht => ?_⟩
          exact k _ (.times 2) _ ((x1.trans e2).trans (Ex.new ht)) ⟨⟨by decide, by decide⟩, by decide⟩ ⟨t, rfl, SqT.of upd_same⟩
      · subst e
        refine ⟨rfl, _, rfl, if_f (by decide +kernel) ?_⟩
        refine ⟨_, rfl, b, rfl, hb1, fun n hn H2 e2 => ?_⟩
        refine ⟨_, rfl, rfl, _, rfl, if_t (by decide +kernel) ?_⟩
        refine ⟨_, rfl, n, rfl, 1, _, rfl, sz2, fun t ht => ?_⟩
        refine k _ (.into (if (if n < 0 then -n else n) > 1 then (if n < 0 then -n else n) else 1)) _ ((x1.trans e2).trans (Ex.new ht)) ?_ ⟨t, rfl, SqT.of upd_same⟩
        have h1 := hn.1
        have h2 := hn.2
        constructor
        · split <;> (try split) <;> omega
        · split <;> (try split) <;> omega
      · subst e
        refine ⟨rfl, _, rfl, if_f (by decide +kernel) ?_⟩
        refine ⟨_, rfl, b, rfl, hb1, fun n hn H2 e2 => ?_⟩
        refine ⟨_, rfl, rfl, _, rfl, if_f (by decide +kernel) ?_⟩
        refine ⟨_, rfl, _, rfl, rfl, _, rfl, ?_⟩
        refine if_nd (fun _ => ?_) (fun _ => ⟨_, rfl, rfl, _, rfl, ?_⟩)
        · refine ⟨_, rfl, sz2, fun t ht => ?_⟩
          exact k _ (.over n) _ ((x1.trans e2).trans (Ex.new ht)) hn ⟨t, rfl, SqT.of upd_same⟩
        · refine if_t (by decide +kernel) ⟨_, rfl, sz2, fun t ht => ?_⟩
          exact k _ (.over n) _ ((x1.trans e2).trans (Ex.new ht)) hn ⟨t, rfl, SqT.of upd_same⟩
      · exact absurd e hf
end
end K22

set_option Elab.async false
set_option linter.all false
set_option maxRecDepth 100000
set_option maxHeartbeats 4000000
namespace Gx
open PySem PySem.Spec PyProof.Rows L2 Evl
/-! What conditions answer at a row, leaf by leaf, and what they answer when turned about. -/
def exch (w : Str) : Str := if w = "yes" then "no" else if w = "no" then "yes" else w
def agreesB (m : Int) (sg : Str) (k : Int) : Bool :=
  if m < k then decide (sg ∈ (["<", "<=", "<>"] : List Str)) else if m > k then decide (sg ∈ (["<>", ">", ">="] : List Str)) else decide (sg ∈ (["<=", "=", ">="] : List Str))
def numV : V → Str
  | .non => "unknown"
  | .int _ => "yes"
  | _ => "no"
def askV (ss : List Stp) (sg : Str) (k : Int) : V → Str
  | .non => "unknown"
  | .int i => match leadAll ss i with
    | some m => if agreesB m sg k = true then "yes" else "no"
    | none => "error"
  | _ => "error"
def leafAns (R : Str → V) : Leaf → Str
  | .always w => w
  | .empty n => if R n = .non then "yes" else "no"
  | .number n => numV (R n)
  | .asks n ss sg k => askV ss sg k (R n)
theorem askV_some {ss : List Stp} {sg : Str} {k i m : Int} (h : leadAll ss i = some m) : askV ss sg k (.int i) = (if agreesB m sg k = true then ("yes" : Str) else "no") := by
  show (match leadAll ss i with | some m => if agreesB m sg k = true then ("yes" : Str) else "no" | none => "error") = _
  rw [h]
theorem askV_none {ss : List Stp} {sg : Str} {k i : Int} (h : leadAll ss i = none) : askV ss sg k (.int i) = "error" := by
  show (match leadAll ss i with | some m => if agreesB m sg k = true then ("yes" : Str) else "no" | none => "error") = _
  rw [h]
abbrev Res := Str × List PyData
def allOf (dec : Str) : Str → List Res → Res
  | found, [] => (found, [])
  | found, r :: rs => if r.1 = "error" ∨ r.1 = dec then r else
      ((allOf dec (if r.1 = "unknown" then r.1 else found) rs).1, r.2 ++ (allOf dec (if r.1 = "unknown" then r.1 else found) rs).2)
def firstOf : List Res → Res
  | [] => ("unknown", [])
  | r :: rs => if r.1 = "unknown" then ((firstOf rs).1, r.2 ++ (firstOf rs).2) else r
def caseOf : List Res → List Res → Res → Res
  | r :: rs, t :: ts, e => if r.1 = "error" then r else if r.1 = "yes" then (t.1, r.2 ++ t.2) else ((caseOf rs ts e).1, r.2 ++ (caseOf rs ts e).2)
  | _, _, e => e
def nodeOf (k : Str) (rs : List Res) : Res := if k = "first" then firstOf rs else if k = "all" then allOf "no" "yes" rs else allOf "yes" "no" rs
def entry (adr : List Int) (w : Str) : PyData := .tuple [.tuple (adr.map PyData.int), .str w]
mutual
def run (R : Str → V) : List Int → Cnd → Res
  | adr, .leaf l => (leafAns R l, [entry adr (leafAns R l)])
  | adr, .not c => (exch (run R (adr ++ [0]) c).1, (run R (adr ++ [0]) c).2)
  | adr, .node k cs => nodeOf k (runL R adr 0 1 cs)
  | adr, .case ws ts e => caseOf (runL R adr 0 2 ws) (runL R adr 1 2 ts) (run R (adr ++ [2 * (ws.length : Int)]) e)
def runL (R : Str → V) : List Int → Int → Int → List Cnd → List Res
  | _, _, _, [] => []
  | adr, i, st, c :: cs => run R (adr ++ [i]) c :: runL R adr (i + st) st cs
end
def turnK (k : Str) : Str := if k = "first" then "first" else if k = "all" then "any" else "all"
def Leaf.turn : Leaf → Cnd
  | .always w => .leaf (.always (exch w))
  | l => .not (.leaf l)
mutual
def Cnd.turn : Cnd → Cnd
  | .leaf l => l.turn
  | .not c => c
  | .node k cs => .node (turnK k) (Cnd.turnL cs)
  | .case ws ts e => .case ws (Cnd.turnL ts) e.turn
def Cnd.turnL : List Cnd → List Cnd
  | [] => []
  | c :: cs => c.turn :: Cnd.turnL cs
end
theorem Cnd.turnL_map : ∀ cs : List Cnd, Cnd.turnL cs = cs.map Cnd.turn
  | [] => rfl
  | c :: cs => by rw [Cnd.turnL, Cnd.turnL_map cs]; rfl
/-! ### answers by another naming -/
structure Ren (f : Str → Str) : Prop where
  inj : ∀ x y, f x = f y → x = y
  err : f "error" = "error"
  unk : f "unknown" = "unknown"
structure Sim (f : Str → Str) (r r' : Res) : Prop where
  ans : r'.1 = f r.1
  len : r'.2.length = r.2.length
theorem exch_exch (w : Str) : exch (exch w) = w := by
  unfold exch
  by_cases h1 : w = "yes"
  · subst h1; decide +kernel
  · by_cases h2 : w = "no"
    · subst h2; decide +kernel
    · rw [if_neg h1, if_neg h2, if_neg h1, if_neg h2]
theorem ren_exch : Ren exch := ⟨fun x y h => by have := congrArg exch h; rwa [exch_exch, exch_exch] at this, by decide +kernel, by decide +kernel⟩
theorem ren_id : Ren id := ⟨fun _ _ h => h, rfl, rfl⟩
theorem Ren.iff {f : Str → Str} (F : Ren f) {x y : Str} : f x = f y ↔ x = y := ⟨F.inj x y, fun h => by rw [h]⟩
theorem Ren.erri {f : Str → Str} (F : Ren f) {x : Str} : f x = "error" ↔ x = "error" := by rw [← F.iff (x := x), F.err]
theorem Ren.unki {f : Str → Str} (F : Ren f) {x : Str} : f x = "unknown" ↔ x = "unknown" := by rw [← F.iff (x := x), F.unk]
inductive Sims (f : Str → Str) : List Res → List Res → Prop
  | nil : Sims f [] []
  | cons {r r' : Res} {rs rs' : List Res} : Sim f r r' → Sims f rs rs' → Sims f (r :: rs) (r' :: rs')
theorem allOf_sim {f : Str → Str} (F : Ren f) {dec : Str} {rs rs' : List Res} (h : Sims f rs rs') : ∀ found, Sim f (allOf dec found rs) (allOf (f dec) (f found) rs') := by
  induction h with
  | nil => intro found; exact ⟨rfl, rfl⟩
  | @cons r r' rs rs' h1 h2 ih =>
    intro found
    unfold allOf
    rw [h1.ans]
    by_cases c : r.1 = "error" ∨ r.1 = dec
    · rw [if_pos c, if_pos (c.imp F.erri.mpr F.iff.mpr)]
      exact ⟨h1.ans, h1.len⟩
    · rw [if_neg c, if_neg (show ¬ (f r.1 = "error" ∨ f r.1 = f dec) from fun e => c (e.imp F.erri.mp F.iff.mp))]
      have e : (if f r.1 = "unknown" then f r.1 else f found) = f (if r.1 = "unknown" then r.1 else found) := by
        by_cases u : r.1 = "unknown"
        · rw [if_pos u, if_pos (F.unki.mpr u)]
        · rw [if_neg u, if_neg (fun z => u (F.unki.mp z))]
      rw [e]
      have := ih (if r.1 = "unknown" then r.1 else found)
      exact ⟨this.ans, by simp only [List.length_append, h1.len, this.len]⟩
theorem firstOf_sim {f : Str → Str} (F : Ren f) {rs rs' : List Res} (h : Sims f rs rs') : Sim f (firstOf rs) (firstOf rs') := by
  induction h with
  | nil => exact ⟨F.unk.symm, rfl⟩
  | @cons r r' rs rs' h1 h2 ih =>
    unfold firstOf
    rw [h1.ans]
    by_cases c : r.1 = "unknown"
    · rw [if_pos c, if_pos (F.unki.mpr c)]
      exact ⟨ih.ans, by simp only [List.length_append, h1.len, ih.len]⟩
    · rw [if_neg c, if_neg (fun z => c (F.unki.mp z))]
      exact ⟨h1.ans, h1.len⟩
theorem caseOf_sim {f : Str → Str} {rs rs' : List Res} (h : Sims id rs rs') : ∀ {ts ts' : List Res} {e e' : Res}, Sims f ts ts' → Sim f e e' → (f "error" = "error") →
    Sim f (caseOf rs ts e) (caseOf rs' ts' e') := by
  induction h with
  | nil => intro ts ts' e e' _ he _; unfold caseOf; exact he
  | @cons r r' rs rs' h1 h2 ih =>
    intro ts ts' e e' ht he fe
    cases ht with
    | nil => exact he
    | @cons t t' ts ts' t1 t2 =>
      unfold caseOf
      have a : r'.1 = r.1 := h1.ans
      rw [a]
      by_cases c : r.1 = "error"
      · rw [if_pos c, if_pos c]; exact ⟨by rw [a, c, fe], h1.len⟩
      · rw [if_neg c, if_neg c]
        by_cases y : r.1 = "yes"
        · rw [if_pos y, if_pos y]; exact ⟨t1.ans, by simp only [List.length_append, h1.len, t1.len]⟩
        · rw [if_neg y, if_neg y]
          have := ih t2 he fe
          exact ⟨this.ans, by simp only [List.length_append, h1.len, this.len]⟩
mutual
theorem run_adr (R : Str → V) : ∀ (c : Cnd) (a a' : List Int), Sim id (run R a c) (run R a' c)
  | .leaf l, a, a' => by simp only [run]; exact ⟨rfl, rfl⟩
  | .not c, a, a' => by
    have := run_adr R c (a ++ [0]) (a' ++ [0])
    simp only [run]
    exact ⟨by show exch _ = exch _; rw [this.ans]; rfl, this.len⟩
  | .node k cs, a, a' => by
    have := runL_adr R cs a a' 0 0 1 1
    simp only [run]
    unfold nodeOf
    by_cases h1 : k = "first"
    · rw [if_pos h1, if_pos h1]; exact firstOf_sim ren_id this
    · rw [if_neg h1, if_neg h1]
      by_cases h2 : k = "all"
      · rw [if_pos h2, if_pos h2]; exact allOf_sim ren_id this _
      · rw [if_neg h2, if_neg h2]; exact allOf_sim ren_id this _
  | .case ws ts e, a, a' => by
    simp only [run]
    exact caseOf_sim (runL_adr R ws a a' 0 0 2 2) (runL_adr R ts a a' 1 1 2 2) (run_adr R e _ _) rfl
theorem runL_adr (R : Str → V) : ∀ (cs : List Cnd) (a a' : List Int) (i i' st st' : Int), Sims id (runL R a i st cs) (runL R a' i' st' cs)
  | [], _, _, _, _, _, _ => by simp only [runL]; exact .nil
  | c :: cs, a, a', i, i', st, st' => by simp only [runL]; exact .cons (run_adr R c _ _) (runL_adr R cs a a' _ _ _ _)
end
theorem leaf_turn (R : Str → V) (l : Leaf) (a : List Int) : Sim exch (run R a (.leaf l)) (run R a l.turn) := by
  cases l <;> (simp only [Leaf.turn, run, leafAns]; exact ⟨rfl, rfl⟩)
mutual
theorem run_turn (R : Str → V) : ∀ (c : Cnd) (a : List Int), Sim exch (run R a c) (run R a c.turn)
  | .leaf l, a => by rw [Cnd.turn]; exact leaf_turn R l a
  | .not c, a => by
    have := run_adr R c (a ++ [0]) a
    rw [Cnd.turn]
    have e : run R a (.not c) = (exch (run R (a ++ [0]) c).1, (run R (a ++ [0]) c).2) := by simp only [run]
    rw [e]
    exact ⟨by show (run R a c).1 = exch (exch _); rw [exch_exch, this.ans]; rfl, this.len⟩
  | .node k cs, a => by
    have := runL_turn R cs a 0 1
    rw [Cnd.turn]
    simp only [run]
    unfold nodeOf turnK
    by_cases h1 : k = "first"
    · rw [if_pos h1, if_pos h1, if_pos rfl]; exact firstOf_sim ren_exch this
    · rw [if_neg h1, if_neg h1]
      by_cases h2 : k = "all"
      · rw [if_pos h2, if_pos h2, if_neg (by decide +kernel), if_neg (by decide +kernel)]
        exact allOf_sim (dec := "no") ren_exch this "yes"
      · rw [if_neg h2, if_neg h2, if_neg (by decide +kernel), if_pos rfl]
        exact allOf_sim (dec := "yes") ren_exch this "no"
  | .case ws ts e, a => by
    rw [Cnd.turn]
    simp only [run]
    exact caseOf_sim (runL_adr R ws a a 0 0 2 2) (runL_turn R ts a 1 2) (run_turn R e _) (by decide +kernel)
theorem runL_turn (R : Str → V) : ∀ (cs : List Cnd) (a : List Int) (i st : Int), Sims exch (runL R a i st cs) (runL R a i st (Cnd.turnL cs))
  | [], _, _, _ => by rw [Cnd.turnL]; simp only [runL]; exact .nil
  | c :: cs, a, i, st => by rw [Cnd.turnL]; simp only [runL]; exact .cons (run_turn R c _) (runL_turn R cs a _ _)
end
theorem len_turnL (cs : List Cnd) : (Cnd.turnL cs).length = cs.length := by rw [Cnd.turnL_map, List.length_map]
/-! ### what is turned is a condition, little greater -/
theorem word_exch {w : Str} (h : w ∈ words) : exch w ∈ words := by
  have : ∀ w ∈ words, exch w ∈ words := by decide +kernel
  exact this w h
theorem kind_turn {k : Str} (h : k ∈ kinds) : turnK k ∈ kinds := by
  have : ∀ k ∈ kinds, turnK k ∈ kinds := by decide +kernel
  exact this k h
mutual
theorem ok_turn {ns : List Str} : ∀ (c : Cnd), c.ok ns → c.turn.ok ns
  | .leaf l, h => by
    rw [Cnd.turn]
    cases l with
    | always w => exact word_exch h
    | _ => exact h
  | .not c, h => by rw [Cnd.turn]; rw [Cnd.ok] at h; exact h
  | .node k cs, h => by rw [Cnd.turn, Cnd.ok]; rw [Cnd.ok] at h; exact ⟨kind_turn h.1, okL_turn cs h.2⟩
  | .case ws ts e, h => by rw [Cnd.turn, Cnd.ok]; rw [Cnd.ok] at h; exact ⟨by rw [len_turnL]; exact h.1, h.2.1, okL_turn ts h.2.2.1, ok_turn e h.2.2.2⟩
theorem okL_turn {ns : List Str} : ∀ (cs : List Cnd), Cnd.okL ns cs → Cnd.okL ns (Cnd.turnL cs)
  | [], h => by rw [Cnd.turnL]; exact h
  | c :: cs, h => by rw [Cnd.turnL, Cnd.okL]; rw [Cnd.okL] at h; exact ⟨ok_turn c h.1, okL_turn cs h.2⟩
end
mutual
theorem depth_turn : ∀ (c : Cnd), c.turn.depth ≤ c.depth + 1
  | .leaf l => by rw [Cnd.turn]; cases l <;> simp [Leaf.turn, Cnd.depth]
  | .not c => by rw [Cnd.turn, Cnd.depth]; omega
  | .node k cs => by rw [Cnd.turn, Cnd.depth, Cnd.depth]; have := depthL_turn cs; omega
  | .case ws ts e => by rw [Cnd.turn, Cnd.depth, Cnd.depth]; have := depthL_turn ts; have := depth_turn e; omega
theorem depthL_turn : ∀ (cs : List Cnd), Cnd.depthL (Cnd.turnL cs) ≤ Cnd.depthL cs + 1
  | [] => by rw [Cnd.turnL, Cnd.depthL]; omega
  | c :: cs => by rw [Cnd.turnL, Cnd.depthL, Cnd.depthL]; have := depth_turn c; have := depthL_turn cs; omega
end
mutual
theorem weight_turn : ∀ (c : Cnd), 5000 * c.turn.weight ≤ 5001 * c.weight
  | .leaf l => by rw [Cnd.turn]; cases l <;> simp [Leaf.turn, Cnd.weight]
  | .not c => by rw [Cnd.turn, Cnd.weight]; omega
  | .node k cs => by rw [Cnd.turn, Cnd.weight, Cnd.weight]; have := weightL_turn cs; omega
  | .case ws ts e => by rw [Cnd.turn, Cnd.weight, Cnd.weight]; have := weightL_turn ts; have := weight_turn e; omega
theorem weightL_turn : ∀ (cs : List Cnd), 5000 * Cnd.weightL (Cnd.turnL cs) ≤ 5001 * Cnd.weightL cs
  | [] => by rw [Cnd.turnL, Cnd.weightL]; omega
  | c :: cs => by rw [Cnd.turnL, Cnd.weightL, Cnd.weightL]; have := weight_turn c; have := weightL_turn cs; omega
end
end Gx

/-! the parts of a condition, and where they stand -/
set_option Elab.async false
set_option linter.all false
set_option maxRecDepth 100000
set_option maxHeartbeats 4000000
namespace Gx
open PySem PySem.Spec PyProof.Rows L2 Evl
/-- a constant tuple of the module -/
structure ConT (K : PySem.W.Frag) (mg : Str → Option Value) (x : Str) (a : Addr) (xs : List V) : Prop where
  mg : mg x = some (.ref a)
  at_ : ∀ H : Hp, SqT K H a xs
def inter {α : Type} : List α → List α → List α
  | w :: ws, t :: ts => w :: t :: inter ws ts
  | _, _ => []
theorem inter_len {α : Type} : ∀ {ws ts : List α}, ws.length = ts.length → (inter ws ts).length = 2 * ws.length
  | [], [], _ => rfl
  | w :: ws, t :: ts, h => by
    have := inter_len (ws := ws) (ts := ts) (by simpa using h)
    show (inter ws ts).length + 1 + 1 = 2 * (ws.length + 1)
    omega
  | [], _ :: _, h => by cases h
  | _ :: _, [], h => by cases h
theorem inter_app {α : Type} {a b : α} : ∀ {ws ts : List α}, ws.length = ts.length → inter (ws ++ [a]) (ts ++ [b]) = inter ws ts ++ [a, b]
  | [], [], _ => rfl
  | w :: ws, t :: ts, h => by
    show w :: t :: inter (ws ++ [a]) (ts ++ [b]) = w :: t :: (inter ws ts ++ [a, b])
    rw [inter_app (by simpa using h)]
  | [], _ :: _, h => by cases h
  | _ :: _, [], h => by cases h
theorem inter_mem {α : Type} {x : α} : ∀ {ws ts : List α}, x ∈ inter ws ts → x ∈ ws ∨ x ∈ ts
  | [], _, h => by cases h
  | _ :: _, [], h => by cases h
  | w :: ws, t :: ts, h => by
    rcases List.mem_cons.mp h with rfl | h
    · exact .inl (.head _)
    rcases List.mem_cons.mp h with rfl | h
    · exact .inr (.head _)
    exact (inter_mem h).elim (fun z => .inl (.tail _ z)) fun z => .inr (.tail _ z)
def Leaf.kind : Leaf → Str
  | .always _ => "always"
  | .empty _ => "empty"
  | .number _ => "number"
  | .asks _ _ _ _ => "asks"
def Cnd.kind : Cnd → Str
  | .leaf l => l.kind
  | .not _ => "not"
  | .node k _ => k
  | .case _ _ _ => "case"
def Cnd.parts : Cnd → List Cnd
  | .leaf _ => []
  | .not c => [c]
  | .node _ cs => cs
  | .case ws ts e => inter ws ts ++ [e]
section
variable {K : PySem.W.Frag} {H : Hp}
theorem cnds_inter : ∀ {xs ys : List V} {ws ts : List Cnd}, ws.length = ts.length → CndsAt K H xs ws → CndsAt K H ys ts → CndsAt K H (inter xs ys) (inter ws ts)
  | xs, ys, [], [], _, h1, h2 => by
    simp only [CndsAt] at h1
    subst h1
    show CndsAt K H [] []
    simp only [CndsAt]
  | xs, ys, w :: ws, t :: ts, h, h1, h2 => by
    simp only [CndsAt] at h1 h2
    obtain ⟨x, r, rfl, h3, h4⟩ := h1
    obtain ⟨y, q, rfl, h5, h6⟩ := h2
    show CndsAt K H (x :: y :: inter r q) (w :: t :: inter ws ts)
    simp only [CndsAt]
    exact ⟨x, _, rfl, h3, y, _, rfl, h5, cnds_inter (by simpa using h) h4 h6⟩
  | _, _, [], _ :: _, h, _, _ => by cases h
  | _, _, _ :: _, [], h, _, _ => by cases h
/-- the kind stands first -/
theorem cnd_kind {v : V} : ∀ {c : Cnd}, CndAt K H v c → ∃ (a : Addr) (xs : List V), v = .ref a ∧ SqT K H a xs ∧ atI xs 0 = some (.str c.kind)
  | .leaf l, h => by
    simp only [CndAt] at h
    cases l with
    | always w => obtain ⟨a, rfl, h1⟩ := h; exact ⟨a, _, rfl, h1, rfl⟩
    | empty w => obtain ⟨a, rfl, h1⟩ := h; exact ⟨a, _, rfl, h1, rfl⟩
    | number w => obtain ⟨a, rfl, h1⟩ := h; exact ⟨a, _, rfl, h1, rfl⟩
    | asks n ss sg k => obtain ⟨a, b, ws, rfl, h1, _⟩ := h; exact ⟨a, _, rfl, h1, rfl⟩
  | .not c, h => by
    simp only [CndAt] at h
    obtain ⟨a, x, rfl, h1, _⟩ := h; exact ⟨a, _, rfl, h1, rfl⟩
  | .node k cs, h => by
    simp only [CndAt] at h
    obtain ⟨a, b, xs, rfl, h1, _⟩ := h; exact ⟨a, _, rfl, h1, rfl⟩
  | .case ws ts e, h => by
    simp only [CndAt] at h
    obtain ⟨a, b, qs, xs, ys, y, rfl, h1, _⟩ := h; exact ⟨a, _, rfl, h1, rfl⟩
end
theorem Cnd.parts_ok {ns : List Str} {c : Cnd} (h : c.ok ns) : ∀ p ∈ c.parts, p.ok ns := by
  cases c with
  | leaf l => intro p hp; cases hp
  | not c =>
    intro p hp
    simp only [Cnd.ok] at h
    rw [List.mem_singleton.mp hp]; exact h
  | node k cs =>
    simp only [Cnd.ok] at h
    exact Cnd.okL_iff.mp h.2
  | case ws ts e =>
    simp only [Cnd.ok] at h
    obtain ⟨_, h1, h2, h3⟩ := h
    intro p hp
    rcases List.mem_append.mp hp with z | z
    · exact (inter_mem z).elim (Cnd.okL_iff.mp h1 p) (Cnd.okL_iff.mp h2 p)
    · rw [List.mem_singleton.mp z]; exact h3
theorem Cnd.parts_depth {c p : Cnd} (hp : p ∈ c.parts) : p.depth < c.depth := by
  cases c with
  | leaf l => cases hp
  | not c => rw [List.mem_singleton.mp hp]; simp only [Cnd.depth]; omega
  | node k cs =>
    have := (Cnd.depthL_le (n := Cnd.depthL cs)).mp (Nat.le_refl _) p hp
    simp only [Cnd.depth]; omega
  | case ws ts e =>
    simp only [Cnd.depth]
    rcases List.mem_append.mp hp with z | z
    · rcases inter_mem z with z | z
      · have := (Cnd.depthL_le (n := Cnd.depthL ws)).mp (Nat.le_refl _) p z
        omega
      · have := (Cnd.depthL_le (n := Cnd.depthL ts)).mp (Nat.le_refl _) p z
        omega
    · rw [List.mem_singleton.mp z]; omega
theorem Cnd.weightL_len : ∀ cs : List Cnd, 20 * cs.length ≤ Cnd.weightL cs
  | [] => by simp [Cnd.weightL]
  | c :: cs => by
    have := Cnd.weightL_len cs
    simp only [Cnd.weightL, List.length_cons]
    omega
theorem Cnd.parts_len {ns : List Str} {c : Cnd} (h : c.ok ns) : 10 * c.parts.length ≤ c.weight := by
  cases c with
  | leaf l => simp [Cnd.parts]
  | not c => simp only [Cnd.parts, Cnd.weight, List.length_singleton]; omega
  | node k cs =>
    have := Cnd.weightL_len cs
    simp only [Cnd.parts, Cnd.weight]; omega
  | case ws ts e =>
    simp only [Cnd.ok] at h
    have h1 := Cnd.weightL_len ws
    have h2 := Cnd.weightL_len ts
    have h3 := inter_len h.1
    simp only [Cnd.parts, Cnd.weight, List.length_append, List.length_singleton]
    omega
theorem Cnd.weight_pos : ∀ c : Cnd, 40 ≤ c.weight
  | .leaf _ => by simp only [Cnd.weight]; omega
  | .not c => by simp only [Cnd.weight]; omega
  | .node _ cs => by simp only [Cnd.weight]; omega
  | .case ws ts e => by simp only [Cnd.weight]; omega
theorem Cnd.weightL_60 : ∀ cs : List Cnd, 60 * cs.length ≤ Cnd.weightL cs
  | [] => by simp [Cnd.weightL]
  | c :: cs => by
    have := Cnd.weightL_60 cs
    have := c.weight_pos
    simp only [Cnd.weightL, List.length_cons]
    omega
theorem Cnd.parts_60 {ns : List Str} {c : Cnd} (h : c.ok ns) : 60 * c.parts.length ≤ c.weight := by
  cases c with
  | leaf l => simp [Cnd.parts]
  | not c =>
    have := c.weight_pos
    simp only [Cnd.parts, Cnd.weight, List.length_singleton]; omega
  | node k cs =>
    have := Cnd.weightL_60 cs
    simp only [Cnd.parts, Cnd.weight]; omega
  | case ws ts e =>
    simp only [Cnd.ok] at h
    have h1 := Cnd.weightL_60 ws
    have h2 := Cnd.weightL_60 ts
    have h3 := inter_len h.1
    have := e.weight_pos
    simp only [Cnd.parts, Cnd.weight, List.length_append, List.length_singleton]
    omega
def whenB (ws : Nat) (i : Nat) : Bool := decide (i % 2 = 0) && decide (i < 2 * ws)
/-- which parts stand plainly -/
def Cnd.plains (c : Cnd) (p : Bool) : List Bool := match c with
  | .case ws _ _ => (List.range (2 * ws.length + 1)).map fun i => p || whenB ws.length i
  | c => List.replicate c.parts.length (p && decide (c.kind ∈ (["all", "any"] : List Str)))
end Gx

set_option Elab.async false
set_option linter.all false
set_option maxRecDepth 100000
set_option maxHeartbeats 4000000
namespace Gx
open PySem PySem.Spec PyProof.Rows L2 Evl
/-! Asking with a list that grows: what stands, what the list holds. -/
/-- all stands but what lies at one address -/
def ExB (tr : Addr) (H H' : Hp) : Prop := ∀ a o, a ≠ tr → H a = some o → H' a = some o
theorem ExB.of {tr : Addr} {H H' : Hp} (e : Ex H H') : ExB tr H H' := fun a o _ h => e a o h
theorem ExB.trans {tr : Addr} {H H1 H2 : Hp} (a : ExB tr H H1) (b : ExB tr H1 H2) : ExB tr H H2 := fun c o n h => b c o n (a c o n h)
theorem ExB.toI {tr : Addr} {H H' : Hp} {ts : List V} (h : H tr = some (.lst ts)) (e : ExB tr H H') : ExI H H' := fun a o q i => by
  refine e a o (fun z => ?_) q
  subst z
  rw [h] at q
  cases q
  cases i
theorem ExB.put {tr : Addr} {H : Hp} {o : HO} : ExB tr H (upd H tr o) := fun a u n h => by rw [upd_ne n]; exact h
/-- what the list holds: addresses with what was said there -/
def Ents (K : PySem.W.Frag) (H : Hp) : List V → List PyData → Prop
  | [], [] => True
  | v :: vs, d :: ds => (∃ (e ad : Addr) (adr : List Int) (w : Str), v = .ref e ∧ d = entry adr w ∧ SqT K H e [.ref ad, .str w] ∧ SqT K H ad (adr.map V.int)) ∧ Ents K H vs ds
  | _, _ => False
section
variable {K : PySem.W.Frag} {H H' : Hp}
theorem ents_toI (e : ExI H H') : ∀ {vs : List V} {ds : List PyData}, Ents K H vs ds → Ents K H' vs ds
  | [], [], _ => trivial
  | _ :: _, _ :: _, ⟨⟨a, ad, adr, w, h1, h2, h3, h4⟩, t⟩ => ⟨⟨a, ad, adr, w, h1, h2, e.sq h3, e.sq h4⟩, ents_toI e t⟩
  | [], _ :: _, h => h.elim
  | _ :: _, [], h => h.elim
theorem ents_app : ∀ {vs ws : List V} {ds es : List PyData}, Ents K H vs ds → Ents K H ws es → Ents K H (vs ++ ws) (ds ++ es)
  | [], ws, [], es, _, h => h
  | _ :: _, ws, _ :: _, es, ⟨a, t⟩, h => ⟨a, ents_app t h⟩
  | [], _, _ :: _, _, h, _ => h.elim
  | _ :: _, _, [], _, h, _ => h.elim
theorem ents_len : ∀ {vs : List V} {ds : List PyData}, Ents K H vs ds → vs.length = ds.length
  | [], [], _ => rfl
  | _ :: _, _ :: _, ⟨_, t⟩ => by simp [ents_len t]
  | [], _ :: _, h => h.elim
  | _ :: _, [], h => h.elim
end
/-! ### runs, part by part -/
theorem runL_get (R : Str → V) : ∀ (cs : List Cnd) (adr : List Int) (i st : Int) (j : Nat) (c : Cnd), cs[j]? = some c → (runL R adr i st cs)[j]? = some (run R (adr ++ [i + j * st]) c)
  | [], _, _, _, _, _, h => by simp at h
  | a :: cs, adr, i, st, 0, c, h => by
    simp at h; subst h
    simp [runL]
  | a :: cs, adr, i, st, j + 1, c, h => by
    rw [runL, List.getElem?_cons_succ, runL_get R cs adr (i + st) st j c (by simpa using h)]
    rw [show i + st + (j : Int) * st = i + ((j + 1 : Nat) : Int) * st by rw [Int.natCast_add, Int.add_mul]; omega]
theorem runL_len (R : Str → V) : ∀ (cs : List Cnd) (adr : List Int) (i st : Int), (runL R adr i st cs).length = cs.length
  | [], _, _, _ => by simp [runL]
  | a :: cs, adr, i, st => by simp [runL, runL_len R cs]
theorem allOf_step {dec found : Str} {r : Res} {rs : List Res} {i : Nat} (h : rs[i]? = some r) :
    allOf dec found (rs.drop i) = if r.1 = "error" ∨ r.1 = dec then r else
      ((allOf dec (if r.1 = "unknown" then r.1 else found) (rs.drop (i + 1))).1, r.2 ++ (allOf dec (if r.1 = "unknown" then r.1 else found) (rs.drop (i + 1))).2) := by
  have e : rs.drop i = r :: rs.drop (i + 1) := by
    obtain ⟨h1, h2⟩ := List.getElem?_eq_some_iff.mp h
    rw [← h2]; exact List.drop_eq_getElem_cons h1
  rw [e, allOf]
theorem firstOf_step {r : Res} {rs : List Res} {i : Nat} (h : rs[i]? = some r) :
    firstOf (rs.drop i) = if r.1 = "unknown" then ((firstOf (rs.drop (i + 1))).1, r.2 ++ (firstOf (rs.drop (i + 1))).2) else r := by
  have e : rs.drop i = r :: rs.drop (i + 1) := by
    obtain ⟨h1, h2⟩ := List.getElem?_eq_some_iff.mp h
    rw [← h2]; exact List.drop_eq_getElem_cons h1
  rw [e, firstOf]
theorem caseOf_step {r t e : Res} {rs ts : List Res} {i : Nat} (h : rs[i]? = some r) (h' : ts[i]? = some t) :
    caseOf (rs.drop i) (ts.drop i) e = if r.1 = "error" then r else if r.1 = "yes" then (t.1, r.2 ++ t.2) else
      ((caseOf (rs.drop (i + 1)) (ts.drop (i + 1)) e).1, r.2 ++ (caseOf (rs.drop (i + 1)) (ts.drop (i + 1)) e).2) := by
  have e1 : rs.drop i = r :: rs.drop (i + 1) := by
    obtain ⟨h1, h2⟩ := List.getElem?_eq_some_iff.mp h
    rw [← h2]; exact List.drop_eq_getElem_cons h1
  have e2 : ts.drop i = t :: ts.drop (i + 1) := by
    obtain ⟨h1, h2⟩ := List.getElem?_eq_some_iff.mp h'
    rw [← h2]; exact List.drop_eq_getElem_cons h1
  rw [e1, e2, caseOf]
/-! ### what is answered is one of four words -/
theorem word_ite {c : Prop} [Decidable c] {a b : Str} (h : a ∈ words) (h' : b ∈ words) : (if c then a else b) ∈ words := by split <;> assumption
theorem w_yes : ("yes" : Str) ∈ words := by decide +kernel
theorem w_no : ("no" : Str) ∈ words := by decide +kernel
theorem w_unk : ("unknown" : Str) ∈ words := by decide +kernel
theorem w_err : ("error" : Str) ∈ words := by decide +kernel
theorem numV_word (x : V) : numV x ∈ words := by
  unfold numV
  split
  · exact w_unk
  · exact w_yes
  · exact w_no
theorem askV_word (ss : List Stp) (sg : Str) (k : Int) (x : V) : askV ss sg k x ∈ words := by
  cases x with
  | non => exact w_unk
  | int i =>
    cases e : leadAll ss i with
    | some m => rw [askV_some e]; exact word_ite w_yes w_no
    | none => rw [askV_none e]; exact w_err
  | _ => exact w_err
theorem leaf_word {R : Str → V} {ns : List Str} {l : Leaf} (h : l.ok ns) : leafAns R l ∈ words := by
  cases l with
  | always w => exact h
  | empty n => exact word_ite w_yes w_no
  | number n => exact numV_word _
  | asks n ss sg k => exact askV_word _ _ _ _
theorem allOf_word {dec : Str} : ∀ {rs : List Res} {found : Str}, (∀ r ∈ rs, r.1 ∈ words) → found ∈ words → (allOf dec found rs).1 ∈ words
  | [], _, _, h => h
  | r :: rs, found, h, h' => by
    have h1 := h r List.mem_cons_self
    have ih := allOf_word (dec := dec) (rs := rs) (found := if r.1 = "unknown" then r.1 else found) (fun z hz => h z (List.mem_cons_of_mem _ hz)) (word_ite h1 h')
    unfold allOf
    by_cases c : r.1 = "error" ∨ r.1 = dec
    · rw [if_pos c]; exact h1
    · rw [if_neg c]; exact ih
theorem firstOf_word : ∀ {rs : List Res}, (∀ r ∈ rs, r.1 ∈ words) → (firstOf rs).1 ∈ words
  | [], _ => w_unk
  | r :: rs, h => by
    have h1 := h r List.mem_cons_self
    have ih := firstOf_word (rs := rs) fun z hz => h z (List.mem_cons_of_mem _ hz)
    unfold firstOf
    by_cases c : r.1 = "unknown"
    · rw [if_pos c]; exact ih
    · rw [if_neg c]; exact h1
theorem caseOf_word : ∀ {rs ts : List Res} {e : Res}, (∀ r ∈ rs, r.1 ∈ words) → (∀ r ∈ ts, r.1 ∈ words) → e.1 ∈ words → (caseOf rs ts e).1 ∈ words
  | [], _, e, _, _, h => by unfold caseOf; exact h
  | _ :: _, [], e, _, _, h => by unfold caseOf; exact h
  | r :: rs, t :: ts, e, h, h', he => by
    have h1 := h r List.mem_cons_self
    have h2 := h' t List.mem_cons_self
    have ih := caseOf_word (rs := rs) (ts := ts) (e := e) (fun z hz => h z (List.mem_cons_of_mem _ hz)) (fun z hz => h' z (List.mem_cons_of_mem _ hz)) he
    unfold caseOf
    by_cases c : r.1 = "error"
    · rw [if_pos c]; exact h1
    · rw [if_neg c]
      by_cases y : r.1 = "yes"
      · rw [if_pos y]; exact h2
      · rw [if_neg y]; exact ih
mutual
theorem run_word {R : Str → V} {ns : List Str} : ∀ (c : Cnd) (a : List Int), c.ok ns → (run R a c).1 ∈ words
  | .leaf l, a, h => by simp only [run]; exact leaf_word h
  | .not c, a, h => by
    rw [Cnd.ok] at h
    simp only [run]
    exact word_exch (run_word c _ h)
  | .node k cs, a, h => by
    rw [Cnd.ok] at h
    simp only [run]
    have := runL_word (R := R) cs a 0 1 h.2
    unfold nodeOf
    split
    · exact firstOf_word this
    · split
      · exact allOf_word this w_yes
      · exact allOf_word this w_no
  | .case ws ts e, a, h => by
    rw [Cnd.ok] at h
    simp only [run]
    exact caseOf_word (runL_word ws a 0 2 h.2.1) (runL_word ts a 1 2 h.2.2.1) (run_word e _ h.2.2.2)
theorem runL_word {R : Str → V} {ns : List Str} : ∀ (cs : List Cnd) (a : List Int) (i st : Int), Cnd.okL ns cs → ∀ r ∈ runL R a i st cs, r.1 ∈ words
  | [], a, i, st, _, r, h => by simp [runL] at h
  | c :: cs, a, i, st, h, r, hr => by
    rw [Cnd.okL] at h
    rw [runL] at hr
    rcases List.mem_cons.mp hr with rfl | hr
    · exact run_word c _ h.1
    · exact runL_word cs a _ _ h.2 r hr
end
/-! ### how many are asked -/
def lenL (rs : List Res) : Nat := (rs.map fun r => r.2.length).sum
theorem allOf_len {dec : Str} : ∀ {rs : List Res} {found : Str}, (allOf dec found rs).2.length ≤ lenL rs
  | [], _ => Nat.le_refl _
  | r :: rs, found => by
    have ih := allOf_len (dec := dec) (rs := rs) (found := if r.1 = "unknown" then r.1 else found)
    unfold allOf
    unfold lenL at ih ⊢
    rw [List.map_cons, List.sum_cons]
    by_cases c : r.1 = "error" ∨ r.1 = dec
    · rw [if_pos c]; omega
    · rw [if_neg c, List.length_append]; omega
theorem firstOf_len : ∀ {rs : List Res}, (firstOf rs).2.length ≤ lenL rs
  | [] => Nat.le_refl _
  | r :: rs => by
    have ih := firstOf_len (rs := rs)
    unfold firstOf
    unfold lenL at ih ⊢
    rw [List.map_cons, List.sum_cons]
    by_cases c : r.1 = "unknown"
    · rw [if_pos c, List.length_append]; omega
    · rw [if_neg c]; omega
theorem caseOf_len : ∀ {rs ts : List Res} {e : Res}, (caseOf rs ts e).2.length ≤ lenL rs + lenL ts + e.2.length
  | [], ts, e => by unfold caseOf; omega
  | _ :: _, [], e => by unfold caseOf; omega
  | r :: rs, t :: ts, e => by
    have ih := caseOf_len (rs := rs) (ts := ts) (e := e)
    unfold caseOf
    unfold lenL at ih ⊢
    rw [List.map_cons, List.sum_cons, List.map_cons, List.sum_cons]
    by_cases c : r.1 = "error"
    · rw [if_pos c]; omega
    · rw [if_neg c]
      by_cases y : r.1 = "yes"
      · rw [if_pos y, List.length_append]; omega
      · rw [if_neg y, List.length_append]; omega
mutual
theorem run_len (R : Str → V) : ∀ (c : Cnd) (a : List Int), (run R a c).2.length ≤ c.weight
  | .leaf l, a => by simp only [run, Cnd.weight]; show 1 ≤ 200000; decide
  | .not c, a => by
    have := run_len R c (a ++ [0])
    simp only [run, Cnd.weight]
    omega
  | .node k cs, a => by
    have := runL_lenL R cs a 0 1
    simp only [run, Cnd.weight]
    unfold nodeOf
    split
    · have := firstOf_len (rs := runL R a 0 1 cs); omega
    · split
      · have := allOf_len (dec := "no") (rs := runL R a 0 1 cs) (found := "yes"); omega
      · have := allOf_len (dec := "yes") (rs := runL R a 0 1 cs) (found := "no"); omega
  | .case ws ts e, a => by
    have h1 := runL_lenL R ws a 0 2
    have h2 := runL_lenL R ts a 1 2
    have h3 := run_len R e (a ++ [2 * (ws.length : Int)])
    have := caseOf_len (rs := runL R a 0 2 ws) (ts := runL R a 1 2 ts) (e := run R (a ++ [2 * (ws.length : Int)]) e)
    simp only [run, Cnd.weight]
    omega
theorem runL_lenL (R : Str → V) : ∀ (cs : List Cnd) (a : List Int) (i st : Int), lenL (runL R a i st cs) ≤ Cnd.weightL cs
  | [], a, i, st => by simp only [runL, Cnd.weightL]; exact Nat.le_refl _
  | c :: cs, a, i, st => by
    have h1 := run_len R c (a ++ [i])
    have h2 := runL_lenL R cs a (i + st) st
    rw [runL, Cnd.weightL]
    unfold lenL at h2 ⊢
    rw [List.map_cons, List.sum_cons]
    omega
end
theorem weightL_snoc : ∀ (cs : List Cnd) (c : Cnd), Cnd.weightL (cs ++ [c]) = Cnd.weightL cs + c.weight + 20
  | [], c => by simp [Cnd.weightL]
  | a :: cs, c => by simp only [List.cons_append, Cnd.weightL, weightL_snoc cs c]; omega
theorem weightL_take : ∀ (cs : List Cnd) (i : Nat), Cnd.weightL (cs.take i) ≤ Cnd.weightL cs
  | [], i => by simp
  | c :: cs, 0 => by simp [Cnd.weightL]
  | c :: cs, i + 1 => by simp only [List.take_succ_cons, Cnd.weightL]; have := weightL_take cs i; omega
theorem weightL_step {cs : List Cnd} {i : Nat} {c : Cnd} (h : cs[i]? = some c) : Cnd.weightL (cs.take (i + 1)) = Cnd.weightL (cs.take i) + c.weight + 20 ∧
    Cnd.weightL (cs.take i) + c.weight + 20 ≤ Cnd.weightL cs := by
  have e : Cnd.weightL (cs.take (i + 1)) = Cnd.weightL (cs.take i) + c.weight + 20 := by rw [takeS h, weightL_snoc]
  exact ⟨e, by rw [← e]; exact weightL_take _ _⟩
/-- an address, one step longer -/
theorem cat_adr {K : PySem.W.Frag} {H : Hp} {ad t : Addr} {adr : List Int} {i : Int} {Q : VK} (h1 : SqT K H ad (adr.map V.int)) (h2 : SqT K H t [.int i])
    (sz : adr.length ≤ 100000) (k : ∀ p H', Ex H H' → SqT K H' p ((adr ++ [i]).map V.int) → Q (.ref p) H') : rCatA K (.ref ad) (.ref t) H Q := by
  refine ⟨ad, t, _, _, rfl, rfl, h1, h2, ?_, fun h => ?_, fun _ h => (by cases h), fun _ _ p np => ?_⟩
  · rw [List.length_map]
    exact Nat.le_trans (show adr.length + 1 ≤ 100001 by omega) (by decide)
  · have : adr = [] := List.map_eq_nil_iff.mp h
    subst this
    exact k t H (Ex.refl H) h2
  · refine k p _ (Ex.new np) ?_
    rw [List.map_append]
    exact SqT.of upd_same
theorem inV2 (x a b : Str) : inV (.str x) [.str a, .str b] = true ↔ x = a ∨ x = b := by
  have e : inV (.str x) [.str a, .str b] = (a == x || b == x) := by simp [inV, eqV]
  rw [e, Bool.or_eq_true, beq_iff_eq, beq_iff_eq]
  exact ⟨fun h => h.imp Eq.symm Eq.symm, fun h => h.imp Eq.symm Eq.symm⟩
end Gx

set_option Elab.async false
set_option linter.all false
set_option maxRecDepth 100000
set_option maxHeartbeats 4000000
/-! What a condition answers by a plan: orders, every part asked or not, unknown taken for no or not. -/
namespace Gx
open PySem PySem.Spec PyProof.Rows L2 Evl
structure Md where
  ev : Bool
  lo : Bool
  ord : List Int → Option (List Nat)
def Md0 : Md := ⟨false, false, fun _ => none⟩
def Md.order (M : Md) (adr : List Int) (n : Nat) : List Nat := (M.ord adr).getD (List.range n)
def low (M : Md) (pl : Bool) (r : Res) : Res := (if (M.lo && pl && decide (r.1 = "unknown")) = true then "no" else r.1, r.2)
def decOf (k : Str) : Str := if k = "all" then "no" else "yes"
def endOf (dec : Str) (f : List Str) : Str := if dec ∈ f then dec else if ("unknown" : Str) ∈ f then "unknown" else exch dec
def goNode (dec : Str) (ev : Bool) : List Str → List Res → Res
  | f, [] => (endOf dec f, [])
  | f, r :: rs => if r.1 = "error" ∨ (r.1 = dec ∧ ev = false) then r else ((goNode dec ev (f ++ [r.1]) rs).1, r.2 ++ (goNode dec ev (f ++ [r.1]) rs).2)
def pick (rs : List Res) (o : List Nat) : List Res := o.filterMap fun i => rs[i]?
def nodeG (M : Md) (k : Str) (rs rs' : List Res) (o : List Nat) : Res := if k = "first" then firstOf rs' else goNode (decOf k) M.ev [] (pick rs o)
mutual
def rung (M : Md) (R : Str → V) : List Int → Bool → Cnd → Res
  | adr, pl, .leaf l => low M pl (leafAns R l, [entry adr (leafAns R l)])
  | adr, pl, .not c => low M pl (exch (rung M R (adr ++ [0]) false c).1, (rung M R (adr ++ [0]) false c).2)
  | adr, pl, .node k cs => low M pl (nodeG M k (rungL M R adr 0 1 pl cs) (rungL M R adr 0 1 false cs) (M.order adr cs.length))
  | adr, pl, .case ws ts e => low M pl (caseOf (rungL M R adr 0 2 true ws) (rungL M R adr 1 2 pl ts) (rung M R (adr ++ [2 * (ws.length : Int)]) pl e))
def rungL (M : Md) (R : Str → V) : List Int → Int → Int → Bool → List Cnd → List Res
  | _, _, _, _, [] => []
  | adr, i, st, pl, c :: cs => rung M R (adr ++ [i]) pl c :: rungL M R adr (i + st) st pl cs
end
theorem low0 (pl : Bool) (r : Res) : low Md0 pl r = r := by
  unfold low Md0
  rfl
theorem pick_range (rs : List Res) : pick rs (List.range rs.length) = rs := by
  unfold pick
  induction rs with
  | nil => rfl
  | cons r rs ih =>
    rw [List.length_cons, List.range_succ_eq_map, List.filterMap_cons, List.getElem?_cons_zero, List.filterMap_map]
    show r :: List.filterMap (fun i => (r :: rs)[i + 1]?) (List.range rs.length) = r :: rs
    simp only [List.getElem?_cons_succ]
    rw [ih]
theorem goNode_all {dec : Str} (hd : dec ≠ "unknown") : ∀ (rs : List Res) (f : List Str), dec ∉ f →
    goNode dec false f rs = allOf dec (if ("unknown" : Str) ∈ f then "unknown" else exch dec) rs
  | [], f, h => by
    unfold goNode allOf endOf
    rw [if_neg h]
  | r :: rs, f, h => by
    unfold goNode allOf
    by_cases e : r.1 = "error" ∨ r.1 = dec
    · rw [if_pos (e.imp id fun z => ⟨z, rfl⟩), if_pos e]
    · have e' : ¬ (r.1 = "error" ∨ (r.1 = dec ∧ false = false)) := fun z => e (z.imp id fun q => q.1)
      have h' : dec ∉ f ++ [r.1] := by
        rw [List.mem_append, List.mem_singleton]
        exact fun z => z.elim h fun q => e (.inr q.symm)
      rw [if_neg e', if_neg e, goNode_all hd rs _ h']
      have : (if ("unknown" : Str) ∈ f ++ [r.1] then ("unknown" : Str) else exch dec) = (if r.1 = "unknown" then r.1 else if ("unknown" : Str) ∈ f then "unknown" else exch dec) := by
        by_cases u : r.1 = "unknown"
        · rw [if_pos u, if_pos (by rw [u]; simp), u]
        · rw [if_neg u]
          by_cases v : ("unknown" : Str) ∈ f
          · rw [if_pos v, if_pos (List.mem_append_left _ v)]
          · rw [if_neg v, if_neg]
            rw [List.mem_append, List.mem_singleton]
            exact fun z => z.elim v fun q => u q.symm
      rw [this]
theorem ex_no : exch "no" = "yes" := by decide +kernel
theorem ex_yes : exch "yes" = "no" := by decide +kernel
theorem no_unk : ("no" : Str) ≠ "unknown" := by decide +kernel
theorem yes_unk : ("yes" : Str) ≠ "unknown" := by decide +kernel
theorem yes_all : ¬ ("yes" : Str) = "all" := by decide +kernel
mutual
theorem rung_plain (R : Str → V) : ∀ (c : Cnd) (adr : List Int) (pl : Bool), rung Md0 R adr pl c = run R adr c
  | .leaf l, adr, pl => by rw [rung, run, low0]
  | .not c, adr, pl => by rw [rung, run, low0, rung_plain R c]
  | .node k cs, adr, pl => by
    rw [rung, run, low0, rungL_plain R cs, rungL_plain R cs]
    unfold nodeG nodeOf
    have e : Md0.order adr cs.length = List.range (runL R adr 0 1 cs).length := by rw [runL_len]; rfl
    rw [e, pick_range]
    by_cases h : k = "first"
    · rw [if_pos h, if_pos h]
    · rw [if_neg h, if_neg h]
      unfold decOf
      by_cases h2 : k = "all"
      · rw [if_pos h2, if_pos h2]
        show goNode "no" false [] _ = _
        rw [goNode_all no_unk _ _ List.not_mem_nil, if_neg List.not_mem_nil, ex_no]
      · rw [if_neg h2, if_neg h2]
        show goNode "yes" false [] _ = _
        rw [goNode_all yes_unk _ _ List.not_mem_nil, if_neg List.not_mem_nil, ex_yes]
  | .case ws ts e, adr, pl => by rw [rung, run, low0, rungL_plain R ws, rungL_plain R ts, rung_plain R e]
theorem rungL_plain (R : Str → V) : ∀ (cs : List Cnd) (adr : List Int) (i st : Int) (pl : Bool), rungL Md0 R adr i st pl cs = runL R adr i st cs
  | [], _, _, _, _ => by rw [rungL, runL]
  | c :: cs, adr, i, st, pl => by rw [rungL, runL, rung_plain R c, rungL_plain R cs]
end
theorem rungL_get (M : Md) (R : Str → V) : ∀ (cs : List Cnd) (adr : List Int) (i st : Int) (pl : Bool) (j : Nat) (c : Cnd), cs[j]? = some c →
    (rungL M R adr i st pl cs)[j]? = some (rung M R (adr ++ [i + j * st]) pl c)
  | [], _, _, _, _, _, _, h => by simp at h
  | a :: cs, adr, i, st, pl, 0, c, h => by
    simp at h; subst h
    simp [rungL]
  | a :: cs, adr, i, st, pl, j + 1, c, h => by
    rw [rungL, List.getElem?_cons_succ, rungL_get M R cs adr (i + st) st pl j c (by simpa using h)]
    rw [show i + st + (j : Int) * st = i + ((j + 1 : Nat) : Int) * st by rw [Int.natCast_add, Int.add_mul]; omega]
theorem rungL_len (M : Md) (R : Str → V) : ∀ (cs : List Cnd) (adr : List Int) (i st : Int) (pl : Bool), (rungL M R adr i st pl cs).length = cs.length
  | [], _, _, _, _ => by simp [rungL]
  | a :: cs, adr, i, st, pl => by simp [rungL, rungL_len M R cs]
/-- the orders of a plan are of parts that there are -/
def OrdAt (M : Md) (adr : List Int) (n : Nat) : Prop := ∀ o, M.ord adr = some o → (∀ i ∈ o, i < n) ∧ o.Nodup
mutual
def OrdOk (M : Md) : List Int → Cnd → Prop
  | _, .leaf _ => True
  | adr, .not c => OrdOk M (adr ++ [0]) c
  | adr, .node _ cs => OrdAt M adr cs.length ∧ OrdOkL M adr 0 1 cs
  | adr, .case ws ts e => OrdOkL M adr 0 2 ws ∧ OrdOkL M adr 1 2 ts ∧ OrdOk M (adr ++ [2 * (ws.length : Int)]) e
def OrdOkL (M : Md) : List Int → Int → Int → List Cnd → Prop
  | _, _, _, [] => True
  | adr, i, st, c :: cs => OrdOk M (adr ++ [i]) c ∧ OrdOkL M adr (i + st) st cs
end
theorem ordL_get {M : Md} : ∀ {cs : List Cnd} {adr : List Int} {i st : Int} {j : Nat} {c : Cnd}, OrdOkL M adr i st cs → cs[j]? = some c → OrdOk M (adr ++ [i + j * st]) c
  | [], _, _, _, _, _, _, h => by simp at h
  | a :: cs, adr, i, st, 0, c, ⟨h1, _⟩, h => by
    simp at h; subst h
    simpa using h1
  | a :: cs, adr, i, st, j + 1, c, ⟨_, h2⟩, h => by
    have := ordL_get h2 (j := j) (by simpa using h)
    rwa [show i + st + (j : Int) * st = i + ((j + 1 : Nat) : Int) * st by rw [Int.natCast_add, Int.add_mul]; omega] at this
mutual
theorem ord0 : ∀ (c : Cnd) (adr : List Int), OrdOk Md0 adr c
  | .leaf _, _ => by rw [OrdOk]; trivial
  | .not c, adr => by rw [OrdOk]; exact ord0 c _
  | .node _ cs, adr => by rw [OrdOk]; exact ⟨fun o h => (nomatch h), ordL0 cs _ _ _⟩
  | .case ws ts e, adr => by rw [OrdOk]; exact ⟨ordL0 ws _ _ _, ordL0 ts _ _ _, ord0 e _⟩
theorem ordL0 : ∀ (cs : List Cnd) (adr : List Int) (i st : Int), OrdOkL Md0 adr i st cs
  | [], _, _, _ => by rw [OrdOkL]; trivial
  | c :: cs, adr, i, st => by rw [OrdOkL]; exact ⟨ord0 c _, ordL0 cs _ _ _⟩
end
theorem goNode_step {dec : Str} {ev : Bool} {f : List Str} {r : Res} {rs : List Res} {i : Nat} (h : rs[i]? = some r) :
    goNode dec ev f (rs.drop i) = if r.1 = "error" ∨ (r.1 = dec ∧ ev = false) then r else
      ((goNode dec ev (f ++ [r.1]) (rs.drop (i + 1))).1, r.2 ++ (goNode dec ev (f ++ [r.1]) (rs.drop (i + 1))).2) := by
  have e : rs.drop i = r :: rs.drop (i + 1) := by
    obtain ⟨h1, h2⟩ := List.getElem?_eq_some_iff.mp h
    rw [← h2]; exact List.drop_eq_getElem_cons h1
  rw [e, goNode]
theorem pick_all : ∀ {o : List Nat} {rs : List Res}, (∀ i ∈ o, i < rs.length) → (pick rs o).length = o.length ∧ ∀ (j i : Nat), o[j]? = some i → (pick rs o)[j]? = rs[i]?
  | [], rs, _ => ⟨rfl, fun j i h => by simp at h⟩
  | a :: o, rs, h => by
    have ha : a < rs.length := h a List.mem_cons_self
    have e : rs[a]? = some rs[a] := List.getElem?_eq_getElem ha
    obtain ⟨l, g⟩ := pick_all (o := o) (rs := rs) fun i hi => h i (List.mem_cons_of_mem _ hi)
    have p : pick rs (a :: o) = rs[a] :: pick rs o := by
      unfold pick
      rw [List.filterMap_cons, e]
    rw [p]
    refine ⟨by rw [List.length_cons, List.length_cons, l], fun j i hj => ?_⟩
    cases j with
    | zero => simp at hj; subst hj; rw [e]; rfl
    | succ j => rw [List.getElem?_cons_succ]; exact g j i (by simpa using hj)
/-! ### words and lengths -/
theorem low_word {M : Md} {pl : Bool} {r : Res} (h : r.1 ∈ words) : (low M pl r).1 ∈ words := by
  unfold low
  exact word_ite w_no h
theorem goNode_word {dec : Str} {ev : Bool} (hd : dec ∈ words) : ∀ {rs : List Res} {f : List Str}, (∀ r ∈ rs, r.1 ∈ words) → (goNode dec ev f rs).1 ∈ words
  | [], f, _ => by
    unfold goNode endOf
    exact word_ite hd (word_ite w_unk (word_exch hd))
  | r :: rs, f, h => by
    unfold goNode
    split
    · exact h r List.mem_cons_self
    · exact goNode_word hd fun q hq => h q (List.mem_cons_of_mem _ hq)
theorem mem_pick {rs : List Res} {o : List Nat} {r : Res} (h : r ∈ pick rs o) : r ∈ rs := by
  unfold pick at h
  obtain ⟨i, _, e⟩ := List.mem_filterMap.mp h
  exact List.mem_of_getElem? e
theorem dec_word (k : Str) : decOf k ∈ words := word_ite w_no w_yes
mutual
theorem rung_word {M : Md} {R : Str → V} {ns : List Str} : ∀ (c : Cnd) (a : List Int) (pl : Bool), c.ok ns → (rung M R a pl c).1 ∈ words
  | .leaf l, a, pl, h => by
    rw [rung]
    exact low_word (leaf_word (by rw [Cnd.ok] at h; exact h))
  | .not c, a, pl, h => by
    rw [rung]
    exact low_word (word_exch (rung_word c _ _ (by rw [Cnd.ok] at h; exact h)))
  | .node k cs, a, pl, h => by
    rw [Cnd.ok] at h
    rw [rung]
    refine low_word ?_
    unfold nodeG
    split
    · exact firstOf_word (rungL_word cs _ _ _ _ h.2)
    · exact goNode_word (dec_word k) fun r hr => rungL_word cs _ _ _ _ h.2 r (mem_pick hr)
  | .case ws ts e, a, pl, h => by
    rw [Cnd.ok] at h
    rw [rung]
    exact low_word (caseOf_word (rungL_word ws _ _ _ _ h.2.1) (rungL_word ts _ _ _ _ h.2.2.1) (rung_word e _ _ h.2.2.2))
theorem rungL_word {M : Md} {R : Str → V} {ns : List Str} : ∀ (cs : List Cnd) (a : List Int) (i st : Int) (pl : Bool), Cnd.okL ns cs → ∀ r ∈ rungL M R a i st pl cs, r.1 ∈ words
  | [], _, _, _, _, _, r, hr => by rw [rungL] at hr; cases hr
  | c :: cs, a, i, st, pl, h, r, hr => by
    rw [Cnd.okL] at h
    rw [rungL] at hr
    rcases List.mem_cons.mp hr with rfl | hr
    · exact rung_word c _ _ h.1
    · exact rungL_word cs _ _ _ _ h.2 r hr
end
/-- an address, one step longer: a tuple of its own -/
theorem cat_tup {K : PySem.W.Frag} {H : Hp} {ad t : Addr} {adr : List Int} {i : Int} {Q : VK} (h1 : H ad = some (.tup (adr.map V.int))) (h2 : H t = some (.tup [.int i]))
    (sz : adr.length ≤ 100000) (k : ∀ p H', Ex H H' → H' p = some (.tup ((adr ++ [i]).map V.int)) → Q (.ref p) H') : rCatA K (.ref ad) (.ref t) H Q := by
  refine ⟨ad, t, _, _, rfl, rfl, SqT.of h1, SqT.of h2, ?_, fun h => ?_, fun _ h => (by cases h), fun _ _ p np => ?_⟩
  · rw [List.length_map]
    exact Nat.le_trans (show adr.length + 1 ≤ 100001 by omega) (by decide)
  · have : adr = [] := List.map_eq_nil_iff.mp h
    subst this
    exact k t H (Ex.refl H) h2
  · refine k p _ (Ex.new np) ?_
    rw [List.map_append]
    exact upd_same
end Gx

set_option Elab.async false
set_option linter.all false
set_option maxRecDepth 100000
set_option maxHeartbeats 4000000
/-! Comprehensions of two clauses, over lists and tuples. -/
namespace Gx
open PySem PySem.Spec PyProof.Rows L2 Evl
/-- the second clause's loop, from which Nx is reached -/
abbrev Inner (g1 : TG) (tt1 : TT) (te : TE) (vs1 : List Nat) (D : Addr) (σ2 : L2.St) (Nx : Hp → Prop) (J1 : It) (H4 : Hp) : Prop :=
  ∃ W1 : Nat → Nat → Hp → Prop, (∃ m, W1 0 m H4) ∧ ∀ j k H, W1 j k H →
    (J1.stop j H ∧ Nx H) ∨ (J1.go j H ∧ ∃ Nx1 : Hp → Prop, (∀ H', Nx1 H' → ∃ k', k' < k ∧ W1 (j + 1) k' H') ∧ ∀ x H', J1.yld j H x H' → g1 x (wipe σ2 vs1) H' fun σ3 H5 => wipe σ3 vs1 = wipe σ2 vs1 ∧ tt1 σ3 H5 fun b H6 =>
      if b = true then te σ3 H6 fun y H7 => ∃ acc, H7 D = some (.lst acc) ∧ acc.length < sizeLine ∧ Nx1 (upd H7 D (.lst (acc ++ [y]))) else Nx1 H6)
section
variable {K : PySem.W.Frag} {a D : Addr} {xs : List V} {g1 : TG} {tt1 : TT} {te : TE} {vs1 : List Nat} {σ2 : L2.St} {Nx : Hp → Prop} {H4 : Hp}
theorem inner_tup (Pw : Nat → Hp → Prop) (h0 : Pw 0 H4) (hl : ∀ j H, j ≤ xs.length → Pw j H → SqT K H a xs)
    (hs : ∀ j x H, xs[j]? = some x → Pw j H → g1 x (wipe σ2 vs1) H fun σ3 H5 => wipe σ3 vs1 = wipe σ2 vs1 ∧ tt1 σ3 H5 fun b H6 =>
      if b = true then te σ3 H6 fun y H7 => ∃ acc, H7 D = some (.lst acc) ∧ acc.length < sizeLine ∧ Pw (j + 1) (upd H7 D (.lst (acc ++ [y]))) else Pw (j + 1) H6)
    (hd : ∀ H, Pw xs.length H → Nx H) : Inner g1 tt1 te vs1 D σ2 Nx (Itt K a) H4 := by
  refine ⟨fun j k H => k = xs.length - j ∧ j ≤ xs.length ∧ Pw j H, ⟨_, rfl, Nat.zero_le _, h0⟩, ?_⟩
  rintro j k H ⟨ek, hj, p⟩
  have q := hl j H hj p
  rcases Nat.lt_or_ge j xs.length with hlt | hge
  · refine .inr ⟨⟨xs, _, q, List.getElem?_eq_getElem hlt⟩, Pw (j + 1), fun H' p' => ⟨_, by rw [ek]; exact Nat.sub_lt_sub_left hlt (Nat.lt_succ_self j), rfl, hlt, p'⟩, fun x H' y => ?_⟩
    have e := y.1
    have y := y.2 xs q
    rw [e]
    exact hs j x _ y p
  · have e : j = xs.length := Nat.le_antisymm hj hge
    subst e
    exact .inl ⟨⟨xs, q, Nat.le_refl _⟩, hd H p⟩
theorem inner_list (Pw : Nat → Hp → Prop) (h0 : Pw 0 H4) (hl : ∀ j H, j ≤ xs.length → Pw j H → SqL K H a xs)
    (hs : ∀ j x H, xs[j]? = some x → Pw j H → g1 x (wipe σ2 vs1) H fun σ3 H5 => wipe σ3 vs1 = wipe σ2 vs1 ∧ tt1 σ3 H5 fun b H6 =>
      if b = true then te σ3 H6 fun y H7 => ∃ acc, H7 D = some (.lst acc) ∧ acc.length < sizeLine ∧ Pw (j + 1) (upd H7 D (.lst (acc ++ [y]))) else Pw (j + 1) H6)
    (hd : ∀ H, Pw xs.length H → Nx H) : Inner g1 tt1 te vs1 D σ2 Nx (Itl K a) H4 := by
  refine ⟨fun j k H => k = xs.length - j ∧ j ≤ xs.length ∧ Pw j H, ⟨_, rfl, Nat.zero_le _, h0⟩, ?_⟩
  rintro j k H ⟨ek, hj, p⟩
  have q := hl j H hj p
  rcases Nat.lt_or_ge j xs.length with hlt | hge
  · refine .inr ⟨⟨xs, _, q, List.getElem?_eq_getElem hlt⟩, Pw (j + 1), fun H' p' => ⟨_, by rw [ek]; exact Nat.sub_lt_sub_left hlt (Nat.lt_succ_self j), rfl, hlt, p'⟩, fun x H' y => ?_⟩
    have e := y.1
    have y := y.2 xs q
    rw [e]
    exact hs j x _ y p
  · have e : j = xs.length := Nat.le_antisymm hj hge
    subst e
    exact .inl ⟨⟨xs, q, Nat.le_refl _⟩, hd H p⟩
end
section
variable {K : PySem.W.Frag} {a D : Addr} {xs : List V} {g g1 : TG} {tt tt1 : TT} {wi1 : TI} {te : TE} {vs vs1 : List Nat} {σ : L2.St} {H1 : Hp} {Qd : Hp → Prop}
/-- what the first clause's turn comes to -/
abbrev Turn2 (g : TG) (tt : TT) (wi1 : TI) (g1 : TG) (tt1 : TT) (te : TE) (vs vs1 : List Nat) (σ : L2.St) (D : Addr) (Nx : Hp → Prop) (x : V) (H : Hp) : Prop :=
  g x (wipe σ vs) H fun σ2 H2 => wipe σ2 vs = wipe σ vs ∧ tt σ2 H2 fun b H3 => if b = true then wi1 σ2 H3 (Inner g1 tt1 te vs1 D σ2 Nx) else Nx H3
theorem lc2_list (Pv : Nat → Hp → Prop) (h0 : Pv 0 (upd H1 D (.lst []))) (hl : ∀ i H, i ≤ xs.length → Pv i H → SqL K H a xs)
    (hs : ∀ i x H, xs[i]? = some x → Pv i H → Turn2 g tt wi1 g1 tt1 te vs vs1 σ D (Pv (i + 1)) x H) (hd : ∀ H, Pv xs.length H → Qd H) :
    ∃ W : Nat → Nat → Hp → Prop, (∃ m, W 0 m (upd H1 D (.lst []))) ∧ ∀ i m H, W i m H →
      ((Itl K a).stop i H ∧ Qd H) ∨ ((Itl K a).go i H ∧ ∃ Nx : Hp → Prop, (∀ H', Nx H' → ∃ m', m' < m ∧ W (i + 1) m' H') ∧ ∀ x H', (Itl K a).yld i H x H' → Turn2 g tt wi1 g1 tt1 te vs vs1 σ D Nx x H') := by
  refine ⟨fun i m H => m = xs.length - i ∧ i ≤ xs.length ∧ Pv i H, ⟨_, rfl, Nat.zero_le _, h0⟩, ?_⟩
  rintro i m H ⟨em, hi, p⟩
  have q := hl i H hi p
  rcases Nat.lt_or_ge i xs.length with hlt | hge
  · refine .inr ⟨⟨xs, _, q, List.getElem?_eq_getElem hlt⟩, Pv (i + 1), fun H' p' => ⟨_, by rw [em]; exact Nat.sub_lt_sub_left hlt (Nat.lt_succ_self i), rfl, hlt, p'⟩, fun x H' y => ?_⟩
    have e := y.1
    have y := y.2 xs q
    rw [e]
    exact hs i x _ y p
  · have e : i = xs.length := Nat.le_antisymm hi hge
    subst e
    exact .inl ⟨⟨xs, q, Nat.le_refl _⟩, hd H p⟩
theorem lc2_tup (Pv : Nat → Hp → Prop) (h0 : Pv 0 (upd H1 D (.lst []))) (hl : ∀ i H, i ≤ xs.length → Pv i H → SqT K H a xs)
    (hs : ∀ i x H, xs[i]? = some x → Pv i H → Turn2 g tt wi1 g1 tt1 te vs vs1 σ D (Pv (i + 1)) x H) (hd : ∀ H, Pv xs.length H → Qd H) :
    ∃ W : Nat → Nat → Hp → Prop, (∃ m, W 0 m (upd H1 D (.lst []))) ∧ ∀ i m H, W i m H →
      ((Itt K a).stop i H ∧ Qd H) ∨ ((Itt K a).go i H ∧ ∃ Nx : Hp → Prop, (∀ H', Nx H' → ∃ m', m' < m ∧ W (i + 1) m' H') ∧ ∀ x H', (Itt K a).yld i H x H' → Turn2 g tt wi1 g1 tt1 te vs vs1 σ D Nx x H') := by
  refine ⟨fun i m H => m = xs.length - i ∧ i ≤ xs.length ∧ Pv i H, ⟨_, rfl, Nat.zero_le _, h0⟩, ?_⟩
  rintro i m H ⟨em, hi, p⟩
  have q := hl i H hi p
  rcases Nat.lt_or_ge i xs.length with hlt | hge
  · refine .inr ⟨⟨xs, _, q, List.getElem?_eq_getElem hlt⟩, Pv (i + 1), fun H' p' => ⟨_, by rw [em]; exact Nat.sub_lt_sub_left hlt (Nat.lt_succ_self i), rfl, hlt, p'⟩, fun x H' y => ?_⟩
    have e := y.1
    have y := y.2 xs q
    rw [e]
    exact hs i x _ y p
  · have e : i = xs.length := Nat.le_antisymm hi hge
    subst e
    exact .inl ⟨⟨xs, q, Nat.le_refl _⟩, hd H p⟩
end
/-- a tuple, one item longer -/
theorem cat_one {K : PySem.W.Frag} {H : Hp} {ad t : Addr} {xs : List V} {y : V} {Q : VK} (h1 : H ad = some (.tup xs)) (h2 : H t = some (.tup [y]))
    (sz : xs.length ≤ 100000) (k : ∀ p H', Ex H H' → H' p = some (.tup (xs ++ [y])) → Q (.ref p) H') : rCatA K (.ref ad) (.ref t) H Q := by
  refine ⟨ad, t, _, _, rfl, rfl, SqT.of h1, SqT.of h2, Nat.le_trans (Nat.add_le_add_right sz 1) (by decide), fun h => ?_, fun _ h => (by cases h), fun _ _ p np => k p _ (Ex.new np) upd_same⟩
  subst h
  exact k t H (Ex.refl H) h2
/-- the rules where the context is another than the written part's -/
theorem pi_tupK {X : Cx} {K : PySem.W.Frag} {tg e : Expr} {te : TE} (h : X.K = K) (he : PE X e te) : PI X tg e (iTup K te) := by rw [← h]; exact pi_tup he
theorem pi_listK {X : Cx} {K : PySem.W.Frag} {tg e : Expr} {te : TE} (h : X.K = K) (he : PE X e te) : PI X tg e (iList K te) := by rw [← h]; exact pi_list he
theorem op_catAK {X : Cx} {K : PySem.W.Frag} (h : X.K = K) : OpR X (binaryOp .Add) (rCatA K) := by rw [← h]; exact op_catA
end Gx

set_option Elab.async false
set_option linter.all false
set_option maxRecDepth 100000
set_option maxHeartbeats 4000000
namespace K22
open PySem PySem.Spec PyProof.Rows L2 Evl Gx
abbrev s_parts : Stmt := topS 7
theorem sc_parts : FnScope ["condition", "kind", "pair", "part"] ["condition"] (defScope s_parts) := ⟨rfl, rfl, rfl, by decide +kernel, rfl, by decide +kernel, by decide +kernel⟩
def spParts (K : PySem.W.Frag) : Sp := fun vs H Q _ => ∃ (v : V) (c : Cnd) (ns : List Str), vs = [v] ∧ CndAt K H v c ∧ c.ok ns ∧ c.weight ≤ 160000000 ∧
  ∀ l xs H', Ex H H' → H l = none → H' l = some (.lst xs) → CndsAt K H' xs c.parts → Q (.ref l) H'
section
variable {P : Program} {w : World} {K : PySem.W.Frag} {mg : Str → Option Value} {base : Heap} {a_LISTS : Addr}
theorem ok_parts {f : Addr} {fd : FuncData} (D : Def K mg "parts" s_parts f fd ["condition"]) (bi : Bi mg)
    (C_LISTS : ConT K mg "LISTS" a_LISTS (kinds.map V.str)) : FnOk P w K mg base CX0 1 f fd ["condition"] (spParts K) := by
  refine D.fn.ok sc_parts (fun vs H Q E h => ?_) (fun cdv A outer s0 H vs Q E hr h => ?_)
  · obtain ⟨v, c, ns, rfl, _⟩ := h
    rfl
  · obtain ⟨v, c, ns, rfl, hv, ok, wt, k⟩ := h
    refine ⟨_, (pss_cons (ps_set (i := 1) sc_parts.nd rfl (Or.inl rfl) (pe_ix (ix_tupK (K := K) rfl) (pv 0) pe_int (fun _ _ => rfl)))
  (pss_cons (ps_if (pt_cmpR op_in_seq (pv 1) (pe_glob (v := .ref a_LISTS) rfl C_LISTS.mg rfl) (by rfl))
    (pss_one (ps_ret (pe_callTy call_list_of (by rfl) bi.list bt_list (pa_cons (pe_ix (ix_tupK (K := K) rfl) (pv 0) pe_int (fun _ _ => rfl)) pa_nil))))
    pss_nil)
  (pss_cons (ps_if (pt_cmpR op_eq (pv 1) pe_str (nomark _))
    (pss_one (ps_ret (pe_lst (pa_cons (pe_ix (ix_tupK (K := K) rfl) (pv 0) pe_int (fun _ _ => rfl)) pa_nil))))
    pss_nil)
  (pss_cons (ps_if (pt_cmpR op_eq (pv 1) pe_str (nomark _))
    (pss_one (ps_ret (pe_op op_cat (pe_lc2 (own := [("pair", 2), ("part", 3)]) (vs1 := [3]) rfl sc_parts.nd (pi_tup (pe_ix (ix_tupK (K := K) rfl) (pv 0) pe_int (fun _ _ => rfl))) (blkOk_by (N := ["condition", "kind", "pair", "part"]) (sc := defScope s_parts) (by decide +kernel)) (by decide) (fun _ _ _ _ _ => (pg_name (i := 2) sc_parts.nd rfl (Or.inl rfl))) (fun _ _ _ _ _ => pts_nil) (fun _ _ _ _ _ => (pi_tupK (K := K) rfl (pv 2))) (fun _ _ _ _ _ => (pg_name (i := 3) sc_parts.nd rfl (Or.inl rfl))) (fun _ _ _ _ _ => pts_nil) (fun _ _ _ _ _ => (pv 3))) (pe_lst (pa_cons (pe_ix (ix_tupK (K := K) rfl) (pv 0) pe_int (fun _ _ => rfl)) pa_nil)))))
    pss_nil)
  (pss_one (ps_ret (pe_lst pa_nil))))))), ?_⟩
    have n1 : inV (.str "not") (kinds.map V.str) = false := by decide +kernel
    have n2 : inV (.str "case") (kinds.map V.str) = false := by decide +kernel
    have n3 : ¬ V.str "not" = V.str "case" := by decide +kernel
    have n4 : ¬ V.str "case" = V.str "not" := by decide +kernel
    have pl := Cnd.parts_len ok
    have fl : (kinds.map V.str).all flatV = true := by decide +kernel
    cases c with
    | leaf l =>
      obtain ⟨a, xs, rfl, ha, h0⟩ := cnd_kind hv
      have lk : ∀ l : Gx.Leaf, inV (.str l.kind) (kinds.map V.str) = false ∧ ¬ V.str l.kind = V.str "not" ∧ ¬ V.str l.kind = V.str "case" := by
        intro l
        cases l <;> (simp only [Leaf.kind]; decide +kernel)
      obtain ⟨l1, l2, l3⟩ := lk l
      refine ⟨_, rfl, a, xs, 0, _, rfl, rfl, ha, h0, _, rfl, a_LISTS, _, rfl, .inr (C_LISTS.at_ H), rfl, fl, _, rfl, if_f l1 ?_⟩
      refine ⟨_, rfl, rfl, _, rfl, if_f (decide_eq_false l2) ⟨_, rfl, rfl, _, rfl, if_f (decide_eq_false l3) ⟨Nat.zero_le _, fun p np => ?_⟩⟩⟩
      exact k p [] _ (Ex.new np) np upd_same (by simp only [Cnd.parts, CndsAt])
    | not c =>
      simp only [CndAt] at hv
      obtain ⟨a, x, rfl, ha, hx⟩ := hv
      refine ⟨_, rfl, a, _, 0, _, rfl, rfl, ha, rfl, _, rfl, a_LISTS, _, rfl, .inr (C_LISTS.at_ H), rfl, fl, _, rfl, if_f n1 ?_⟩
      refine ⟨_, rfl, rfl, _, rfl, if_t (decide_eq_true rfl) ⟨_, rfl, a, _, 1, _, rfl, rfl, ha, rfl, sz1, fun p np => ?_⟩⟩
      exact k p [x] _ (Ex.new np) np upd_same (cnds_one (cndAt_toI (.of (Ex.new np)) _ _ hx))
    | node kd cs =>
      simp only [CndAt] at hv
      obtain ⟨a, b, xs, rfl, ha, hb, hc⟩ := hv
      have ok' : kd ∈ kinds := by simp only [Cnd.ok] at ok; exact ok.1
      have kin : ∀ x ∈ kinds, inV (.str x) (kinds.map V.str) = true := by decide +kernel
      refine ⟨_, rfl, a, _, 0, _, rfl, rfl, ha, rfl, _, rfl, a_LISTS, _, rfl, .inr (C_LISTS.at_ H), rfl, fl, _, rfl, if_t (kin kd ok') ?_⟩
      exact ⟨_, rfl, a, _, 1, _, rfl, rfl, ha, rfl, b, xs, rfl, .inr hb, fun p np => k p xs _ (Ex.new np) np upd_same (cndsAt_toI (.of (Ex.new np)) _ _ hc)⟩
    | case ws ts e =>
      simp only [CndAt] at hv
      obtain ⟨a, b, qs, xs, ys, y, rfl, ha, hb, hz, hw, ht, he⟩ := hv
      have lw : ws.length = ts.length := by simp only [Cnd.ok] at ok; exact ok.1
      obtain ⟨q1, q2⟩ := zip3_len hz
      have xl := cnds_len hw
      have pw := inter_len lw
      simp only [Cnd.parts, List.length_append, List.length_singleton] at pl
      refine ⟨_, rfl, a, _, 0, _, rfl, rfl, ha, rfl, _, rfl, a_LISTS, _, rfl, .inr (C_LISTS.at_ H), rfl, fl, _, rfl, if_f n2 ?_⟩
      refine ⟨_, rfl, rfl, _, rfl, if_f (decide_eq_false n4) ⟨_, rfl, rfl, _, rfl, if_t (decide_eq_true rfl) ?_⟩⟩
      refine ⟨_, rfl, a, _, 1, _, rfl, rfl, ha, rfl, b, rfl, ⟨_, hb⟩, fun D nD => ?_⟩
      refine lc2_tup (xs := qs.map V.ref) (fun j H' => Ex H H' ∧ H' D = some (.lst (inter (xs.take j) (ys.take j)))) ?_ (fun j H' _ z => ex_t z.1 hb) ?_ ?_
      · exact ⟨Ex.new nD, upd_same⟩
      · rintro j z H3 hj ⟨x3, hD⟩
        obtain ⟨p, x, y', rfl, hx, hy, hp⟩ := zip3_get hz hj
        have jl : j < qs.length := by
          have := (List.getElem?_eq_some_iff.mp hj).1
          simpa using this
        have tx := takeS hx
        have ty := takeS hy
        have il : (inter (xs.take j) (ys.take j)).length ≤ 2 * qs.length := by
          rw [inter_len (by rw [List.length_take, List.length_take, q2]), List.length_take]
          omega
        refine ⟨rfl, _, rfl, p, rfl, ⟨_, ex_t x3 hp⟩, ?_⟩
        refine inner_tup (xs := [x, y']) (fun c H' => Ex H H' ∧ H' D = some (.lst (inter (xs.take j) (ys.take j) ++ [x, y'].take c))) ?_ (fun c H' _ z => ex_t z.1 hp) ?_ ?_
        · exact ⟨x3, by rw [List.take_zero, List.append_nil]; exact hD⟩
        · rintro c z H5 hc ⟨x5, hD5⟩
          have cl : c < 2 := (List.getElem?_eq_some_iff.mp hc).1
          refine ⟨rfl, _, rfl, _, hD5, ?_, x5.mut nD, ?_⟩
          · rw [List.length_append, List.length_take, sizeLine_eq]
            simp only [List.length_cons, List.length_nil]
            omega
          · rw [upd_same, takeS hc, List.append_assoc]
        · rintro H5 ⟨x5, hD5⟩
          refine ⟨x5, ?_⟩
          rw [hD5, tx, ty, inter_app (by rw [List.length_take, List.length_take, q2])]
          rfl
      · rintro H3 ⟨x3, hD⟩
        rw [List.length_map, List.take_of_length_le (by omega), List.take_of_length_le (by omega)] at hD
        refine ⟨_, rfl, a, _, 2, _, rfl, rfl, ex_t x3 ha, rfl, sz1, fun l nl => ?_⟩
        have x4 : Ex H3 (upd H3 l (.lst [y])) := Ex.new nl
        have hl : upd H3 l (.lst [y]) l = some (.lst [y]) := upd_same
        generalize upd H3 l (.lst [y]) = H4 at x4 hl ⊢
        refine ⟨D, l, _, _, rfl, rfl, x4 _ _ hD, hl, ?_, fun L nL => ?_⟩
        · rw [inter_len q2, sizeLine_eq]
          simp only [List.length_cons, List.length_nil]
          omega
        · have x5 := (x3.trans x4).trans (Ex.new (o := .lst (inter xs ys ++ [y])) nL)
          have nLH : H L = none := by
            cases q : H L with
            | none => rfl
            | some o =>
              have := (x3.trans x4) _ _ q
              rw [nL] at this; cases this
          exact k L _ _ x5 nLH upd_same (cnds_app (cnds_inter lw (cndsAt_toI (.of x5) _ _ hw) (cndsAt_toI (.of x5) _ _ ht)) (cnds_one (cndAt_toI (.of x5) _ _ he)))
end
end K22

set_option Elab.async false
set_option linter.all false
set_option maxRecDepth 100000
set_option maxHeartbeats 2000000
/-! a def whose last parameter stands at True where none is given -/
namespace Gx
open PySem PySem.Spec PyProof.Rows L2 Evl
structure DefO (K : PySem.W.Frag) (mg : Str → Option Value) (x : Str) (st : Stmt) (f : Addr) (fd : FuncData) (ps : List Str) : Prop where
  fn : FunD K x x (defArgs st) (defBody st) (defScope st) [.bl true] [] f fd
  mg : mg x = some (.ref f)
  bd : Binds K fd ps []
  bd1 : Binds K fd ps [.bool true]
/-- the body lets nothing out -/
theorem DefO.okN {P : Program} {w : World} {K : PySem.W.Frag} {mg : Str → Option Value} {base : Heap} {x : Str} {st : Stmt} {f : Addr} {fd : FuncData} {N ps : List Str} {k : Nat} {sp : Sp} (D : DefO K mg x st f fd ps) (S : FnScope N ps (defScope st)) (len : ∀ vs H Q E, sp vs H Q E → vs.length = ps.length)
    (body : ∀ (cdv : Value) (A : Around) (outer : List Env) (s : Shared) (H : Hp) (vs : List V) (Q : VK) (E : XK), Room k (A.deeper (envOfC x (defScope st) s.heap.objs.size f cdv)) → sp vs H Q E →
      ∃ t, PSs (cxOf CX0 P w K mg base N x (defScope st) f cdv A outer s H E).nox (defBody st) t ∧ t { nx := fun _ H' => Q .non H', rt := Q } (L2.start N vs) H) : FnOk P w K mg base CX0 (k + 1) f fd ps sp :=
  D.fn.ok S len fun cdv A outer s H vs Q E hr h => by
    obtain ⟨t, b, q⟩ := body cdv A outer s H vs Q E hr h
    exact ⟨t, b.nox, q⟩
/-- a promise that is never given -/
theorem fn_never {P : Program} {w : World} {K : PySem.W.Frag} {mg : Str → Option Value} {base : Heap} {CX : CXT} {k : Nat} {f : Addr} {fd : FuncData} {ps : List Str} {sp : Sp} (h : ∀ vs H Q E, ¬ sp vs H Q E) : FnOk P w K mg base CX k f fd ps sp :=
  ⟨fun vs H Q E z => (h vs H Q E z).elim, fun A o s H ar us vs Q E _ _ _ _ z => (h vs H Q E z).elim⟩
theorem vd1 : Vals [V.bl true] [Value.bool true] := .cons rfl .nil
end Gx

set_option Elab.async false
set_option linter.all false
set_option maxRecDepth 100000
set_option maxHeartbeats 4000000
/-! enumerate(zip(xs, ys)): the pair that zip hands out lives on within that of enumerate. -/
namespace PySem
open Sem (wp)
/-- a zip, whatever it remembers of the pair it gave out -/
abbrev GzAt (h : Heap) (z TI TO : Addr) (v : Value) (f : Bool) : Prop :=
  h.get? z = some { cls := .type "zip", dict := none, data := .fields #[v, .bool f, .bool false, .ref TI, .ref TO], slots := #[] }
def GzMem (v : Value) : Prop := v = .none ∨ ∃ T : Addr, v = rawInt T
def Gz (h : Heap) (z TI TO : Addr) : Prop := ∃ v f, GzMem v ∧ GzAt h z TI TO v f
section
variable {prog : Program} {w : World} {A : Around} {E : Value → Shared → Prop} {s : Shared}
theorem gz_free {z TI TO : Addr} {v : Value} {f : Bool} {Q : Bool → Shared → Prop} (hz : GzAt s.heap z TI TO v f) (hv : GzMem v) (yes : Q true s)
    (no : ∀ g, GzAt g z TI TO v true → Heap.SameBut z s.heap g → Q false { s with heap := g }) : wpAny (model prog w) A (Builtin.SmallTypes.ownedTupleIsFree (.ref z)) Q E s := by
  unfold Builtin.SmallTypes.ownedTupleIsFree
  refine wpAny_bind (wpAny_field hz rfl (x := v) rfl ?_)
  rcases hv with rfl | ⟨T, rfl⟩
  · exact wpAny_pure yes
  · show wpAny _ _ (loadIfAlive ((T : Int).toNat) >>= _) _ _ _
    rw [Int.toNat_natCast]
    refine wpAny_bind ?_
    have go : wpAny (model prog w) A (loadIfAlive T) (fun o s' => s' = s ∧ o = s.heap.get? T) E s := fun _ _ _ => ⟨rfl, rfl⟩
    refine wpAny_mono go (fun o s' hq => ?_) fun _ _ hq => hq
    obtain ⟨rfl, rfl⟩ := hq
    cases q : s'.heap.get? T with
    | none => simp only [Option.isNone_none, if_true]; exact wpAny_pure yes
    | some oT =>
      simp only [Option.isNone_some, Bool.false_eq_true, if_false]
      refine wpAny_bind (wpAny_field hz rfl (x := .bool f) rfl ?_)
      cases f with
      | true => exact wpAny_pure (no s'.heap hz (Heap.SameBut.refl _ _))
      | false => exact wpAny_bind (wpAny_setField_rec hz (by simp) fun g hg sg => wpAny_pure (no g hg sg))

/-- the pair after the draw, zip's own pair as it was left -/
abbrev GzEnd (s : Shared) (z TI TO i1 i2 l1 l2 : Addr) (k : Nat) (x y : Value) (g : Heap) : Prop :=
  Gz g z TI TO ∧ (∃ a b, IsPair g TO a b) ∧ g.IsListIter i1 l1 (k + 1) ∧ g.IsListIter i2 l2 (k + 1) ∧ IsPair g s.heap.objs.size x y ∧ g.objs.size = s.heap.objs.size + 1 ∧
    ∀ c o, c ≠ z → c ≠ TO → c ≠ i1 → c ≠ i2 → s.heap.get? c = some o → g.get? c = some o
theorem gz_draw {z TI TO i1 i2 l1 l2 : Addr} {k : Nat} {xs ys : Array Value} {x y : Value} {Q : Value → Shared → Prop} (D : ZipApart z TI TO i1 i2 l1 l2)
    (hz : Gz s.heap z TI TO) (pI : IsPair s.heap TI (.ref i1) (.ref i2)) (pO : ∃ a b, IsPair s.heap TO a b)
    (t1 : s.heap.IsListIter i1 l1 k) (t2 : s.heap.IsListIter i2 l2 k) (m1 : s.heap.IsList l1 xs) (m2 : s.heap.IsList l2 ys) (ex : xs[k]? = some x) (ey : ys[k]? = some y)
    (fin : ∀ g, GzEnd s z TI TO i1 i2 l1 l2 k x y g → Q (.ref s.heap.objs.size) { s with heap := g }) :
    wpAny (model prog w) A (Builtin.SmallTypes.nextOf (.ref z)) Q E s := by
  obtain ⟨v, f, hv, hz⟩ := hz
  obtain ⟨a, b, pO⟩ := pO
  have ty : s.TypeIs (.ref z) "zip" := ⟨_, hz, rfl⟩
  unfold Builtin.SmallTypes.nextOf
  refine wpAny_bind (wpAny_callSpecial?_slot (name := Str.ofString "__next__") ty F.slot_zip_next
    (wpAny_call_entry F.slot_zip_next ty F.entry_zip_next ?_ (F.args_zip_next_1 _)))
  show wpAny _ _ (field (.ref z) 2 >>= _) _ _ _
  refine wpAny_bind (wpAny_field hz rfl (x := .bool false) rfl ?_)
  show wpAny _ _ (field (.ref z) 3 >>= _) _ _ _
  refine wpAny_bind (wpAny_field hz rfl (x := .ref TI) rfl ?_)
  refine wpAny_bind (wpAny_seqItems pI rfl ?_)
  show wpAny _ _ (Builtin.SmallTypes.ownedTupleIsFree (.ref z) >>= _) _ _ _
  refine wpAny_bind (gz_free hz hv ?_ fun g1 z1 s1 => ?_)
  · simp only [if_true]
    refine wpAny_bind (wpAny_rule ?_)
    refine wpAny_bind (wpAny_field hz rfl (x := .ref TO) rfl ?_)
    refine wpAny_bind (wpAny_setField_rec hz (by simp) fun g1 z1 s1 => ?_)
    replace z1 : GzAt g1 z TI TO .ellipsis f := z1
    refine wpAny_bind ?_
    simp only [List.zipIdx_cons, List.zipIdx_nil, List.forIn_cons, List.forIn_nil]
    refine wpAny_bind (wpAny_bind (wpAny_onRaise ?_))
    show wpAny _ _ (Builtin.SmallTypes.nextOf (.ref i1) >>= _) _ _ _
    refine wpAny_bind (wpAny_nextOf_list_item (t1.extBut s1.extBut D.i1z) (m1.extBut s1.extBut D.l1z) ex fun g2 u2 s2 => wpAny_pure ?_)
    have o2 : IsPair g2 TO a b := s2.extBut _ _ D.TOi1 (s1.extBut _ _ D.TOz pO)
    refine wpAny_bind (wpAny_seqItems o2 rfl ?_)
    refine wpAny_bind (wpAny_updateSeq_pair o2 fun g3 o3 s3 => ?_)
    replace o3 : IsPair g3 TO x b := o3
    refine wpAny_bind (wpAny_letGo (wpAny_pure ?_))
    refine wpAny_bind (wpAny_bind (wpAny_onRaise ?_))
    show wpAny _ _ (Builtin.SmallTypes.nextOf (.ref i2) >>= _) _ _ _
    have w2 := ((t2.extBut s1.extBut D.i2z).extBut s2.extBut D.i12.symm).extBut s3.extBut D.TOi2.symm
    have n2 := ((m2.extBut s1.extBut D.l2z).extBut s2.extBut D.l2i1).extBut s3.extBut D.l2TO
    refine wpAny_bind (wpAny_nextOf_list_item w2 n2 ey fun g4 u4 s4 => wpAny_pure ?_)
    have o4 : IsPair g4 TO x b := s4.extBut _ _ D.TOi2 o3
    refine wpAny_bind (wpAny_seqItems o4 rfl ?_)
    refine wpAny_bind (wpAny_updateSeq_pair o4 fun g5 o5 s5 => ?_)
    replace o5 : IsPair g5 TO x y := o5
    refine wpAny_bind (wpAny_letGo (wpAny_pure (wpAny_pure ?_)))
    refine wpAny_bind (wpAny_seqItems o5 rfl ?_)
    refine wpAny_bind (wpAny_newTuple ?_)
    have size5 : g5.objs.size = s.heap.objs.size := by rw [s5.1, s4.1, s3.1, s2.1, s1.1]
    have z5 : GzAt g5 z TI TO .ellipsis f := s5.extBut _ _ D.TOz.symm (s4.extBut _ _ D.i2z.symm (s3.extBut _ _ D.TOz.symm (s2.extBut _ _ D.i1z.symm z1)))
    have keep5 : ∀ c o, c ≠ z → c ≠ TO → c ≠ i1 → c ≠ i2 → s.heap.get? c = some o → g5.get? c = some o := fun c o nz nO n1 n2 q =>
      s5.extBut _ _ nO (s4.extBut _ _ n2 (s3.extBut _ _ nO (s2.extBut _ _ n1 (s1.extBut _ _ nz q))))
    have v1 : g5.IsListIter i1 l1 (k + 1) := ((u2.extBut s3.extBut D.TOi1.symm).extBut s4.extBut D.i12).extBut s5.extBut D.TOi1.symm
    have v2 : g5.IsListIter i2 l2 (k + 1) := u4.extBut s5.extBut D.TOi2.symm
    have zl : z < g5.objs.size := Heap.lt_size z5
    show wpAny _ _ (Builtin.SmallTypes.ownedTupleHandOut (.ref z) (.ref g5.objs.size) >>= _) _ _ _
    refine wpAny_bind ?_
    unfold Builtin.SmallTypes.ownedTupleHandOut
    have z6 : GzAt (g5.push { cls := .type "tuple", data := .seq #[x, y] }) z TI TO .ellipsis f := Heap.get?_push_of_some _ z5
    refine wpAny_bind (wpAny_setField_rec z6 (by simp) fun g7 z7 s7 => ?_)
    replace z7 : GzAt g7 z TI TO (rawInt g5.objs.size) f := z7
    refine wpAny_setField_rec z7 (by simp) fun g8 z8 s8 => ?_
    replace z8 : GzAt g8 z TI TO (rawInt g5.objs.size) false := z8
    have up : ∀ c o, c ≠ z → g5.get? c = some o → g8.get? c = some o := fun c o nz q => s8.extBut _ _ nz (s7.extBut _ _ nz (Heap.get?_push_of_some _ q))
    have pair8 : IsPair g8 g5.objs.size x y := s8.extBut _ _ (Nat.ne_of_gt zl) (s7.extBut _ _ (Nat.ne_of_gt zl) (Heap.get?_push_size _ rfl))
    have size8 : g8.objs.size = g5.objs.size + 1 := by rw [s8.1, s7.1, Heap.size_push]
    rw [size5] at pair8 size8
    have last := fin g8 ⟨⟨_, _, .inr ⟨_, rfl⟩, z8⟩, ⟨_, _, up _ _ D.TOz o5⟩, v1.at fun o q => up _ o D.i1z q, v2.at fun o q => up _ o D.i2z q, pair8, size8,
      fun c o nz nO n1 n2 q => up c o nz (keep5 c o nz nO n1 n2 q)⟩
    refine wpAny_pure ⟨_, rfl, wpAny_pure ?_⟩
    rw [size5]
    exact last
  · simp only [Bool.false_eq_true, if_false]
    refine wpAny_bind ?_
    rw [← Array.forIn_toList]
    simp only [List.forIn_cons, List.forIn_nil]
    refine wpAny_bind (wpAny_bind (wpAny_holding ?_))
    show wpAny _ _ (Builtin.SmallTypes.nextOf (.ref i1) >>= _) _ _ _
    refine wpAny_bind (wpAny_nextOf_list_item (s := { s with heap := g1 }) (t1.extBut s1.extBut D.i1z) (m1.extBut s1.extBut D.l1z) ex fun g2 u2 s2 => wpAny_pure ?_)
    refine wpAny_pure ?_
    refine wpAny_bind (wpAny_bind (wpAny_holding ?_))
    show wpAny _ _ (Builtin.SmallTypes.nextOf (.ref i2) >>= _) _ _ _
    have w2 := (t2.extBut s1.extBut D.i2z).extBut s2.extBut D.i12.symm
    have n2 := (m2.extBut s1.extBut D.l2z).extBut s2.extBut D.l2i1
    refine wpAny_bind (wpAny_nextOf_list_item (s := { s with heap := g2 }) w2 n2 ey fun g3 u3 s3 => wpAny_pure ?_)
    refine wpAny_pure (wpAny_pure ?_)
    show wpAny _ _ (newTuple [x, y] >>= _) _ _ _
    refine wpAny_bind (wpAny_newTuple ?_)
    have size3 : g3.objs.size = s.heap.objs.size := by rw [s3.1, s2.1, s1.1]
    have z3 : GzAt g3 z TI TO v true := s3.extBut _ _ D.i2z.symm (s2.extBut _ _ D.i1z.symm z1)
    have keep3 : ∀ c o, c ≠ z → c ≠ i1 → c ≠ i2 → s.heap.get? c = some o → g3.get? c = some o := fun c o nz n1 n2 q => s3.extBut _ _ n2 (s2.extBut _ _ n1 (s1.extBut _ _ nz q))
    have v1 : g3.IsListIter i1 l1 (k + 1) := u2.extBut s3.extBut D.i12
    have pr : IsPair (g3.push { cls := .type "tuple", data := .seq #[x, y] }) g3.objs.size x y := Heap.get?_push_size _ rfl
    have sz4 : (g3.push { cls := .type "tuple", data := .seq #[x, y] }).objs.size = g3.objs.size + 1 := Heap.size_push ..
    rw [size3] at pr sz4
    have last := fin _ ⟨⟨_, _, hv, Heap.get?_push_of_some _ z3⟩, ⟨_, _, Heap.get?_push_of_some _ (keep3 _ _ D.TOz D.TOi1 D.TOi2 pO)⟩, v1.at fun o q => Heap.get?_push_of_some _ q, u3.at fun o q => Heap.get?_push_of_some _ q,
      pr, sz4, fun c o nz _ n1 n2 q => Heap.get?_push_of_some _ (keep3 c o nz n1 n2 q)⟩
    refine wpAny_pure ⟨_, rfl, wpAny_pure ?_⟩
    show Q (.ref g3.objs.size) _
    rw [size3]
    exact last
/-- there is no further pair -/
theorem gz_over {z TI TO i1 i2 l1 l2 : Addr} {k : Nat} {xs ys : Array Value} {Q : Value → Shared → Prop} (hh : A.handled = none) (D : ZipApart z TI TO i1 i2 l1 l2)
    (hz : Gz s.heap z TI TO) (pI : IsPair s.heap TI (.ref i1) (.ref i2)) (pO : ∃ a b, IsPair s.heap TO a b)
    (t1 : s.heap.IsListIter i1 l1 k) (t2 : s.heap.IsListIter i2 l2 k) (m1 : s.heap.IsList l1 xs) (m2 : s.heap.IsList l2 ys) (out : xs[k]? = none ∨ ys[k]? = none)
    (fin : ∀ g e, (∀ c o, c ≠ z → c ≠ TO → c ≠ i1 → c ≠ i2 → s.heap.get? c = some o → g.get? c = some o) → (∃ o, g.get? e = some o ∧ o.cls = .type "StopIteration") → E (.ref e) { s with heap := g }) :
    wpAny (model prog w) A (Builtin.SmallTypes.nextOf (.ref z)) Q E s := by
  obtain ⟨v, f, hv, hz⟩ := hz
  obtain ⟨a, b, pO⟩ := pO
  have ty : s.TypeIs (.ref z) "zip" := ⟨_, hz, rfl⟩
  unfold Builtin.SmallTypes.nextOf
  refine wpAny_bind (wpAny_callSpecial?_slot (name := Str.ofString "__next__") ty F.slot_zip_next
    (wpAny_call_entry F.slot_zip_next ty F.entry_zip_next ?_ (F.args_zip_next_1 _)))
  show wpAny _ _ (field (.ref z) 2 >>= _) _ _ _
  refine wpAny_bind (wpAny_field hz rfl (x := .bool false) rfl ?_)
  show wpAny _ _ (field (.ref z) 3 >>= _) _ _ _
  refine wpAny_bind (wpAny_field hz rfl (x := .ref TI) rfl ?_)
  refine wpAny_bind (wpAny_seqItems pI rfl ?_)
  show wpAny _ _ (Builtin.SmallTypes.ownedTupleIsFree (.ref z) >>= _) _ _ _
  refine wpAny_bind (gz_free hz hv ?_ fun g1 z1 s1 => ?_)
  · simp only [if_true]
    refine wpAny_bind (wpAny_rule ?_)
    refine wpAny_bind (wpAny_field hz rfl (x := .ref TO) rfl ?_)
    refine wpAny_bind (wpAny_setField_rec hz (by simp) fun g1 z1 s1 => ?_)
    replace z1 : GzAt g1 z TI TO .ellipsis f := z1
    refine wpAny_bind ?_
    simp only [List.zipIdx_cons, List.zipIdx_nil, List.forIn_cons, List.forIn_nil]
    refine wpAny_bind (wpAny_bind (wpAny_onRaise ?_))
    show wpAny _ _ (Builtin.SmallTypes.nextOf (.ref i1) >>= _) _ _ _
    cases hx : xs[k]? with
    | none =>
      refine wpAny_bind (wpAny_nextOf_list_end hh (t1.extBut s1.extBut D.i1z) (m1.extBut s1.extBut D.l1z) hx fun g2 e s2 ee => ?_)
      obtain ⟨oe, q1, q2⟩ := ee
      have z2 : GzAt g2 z TI TO .ellipsis f := s2 _ _ D.i1z.symm z1
      have ez : e ≠ z := fun q => by subst q; rw [z2] at q1; cases q1; simp at q2
      refine wpAny_setField_rec z2 (by simp) fun g3 _ s3 => fin g3 e (fun c o nz _ n1 _ q => s3.extBut _ _ nz (s2 _ _ n1 (s1.extBut _ _ nz q))) ⟨oe, s3.extBut _ _ ez q1, q2⟩
    | some x =>
      have hy : ys[k]? = none := by rcases out with q | q; rw [hx] at q; cases q; exact q
      refine wpAny_bind (wpAny_nextOf_list_item (t1.extBut s1.extBut D.i1z) (m1.extBut s1.extBut D.l1z) hx fun g2 u2 s2 => wpAny_pure ?_)
      have o2 : IsPair g2 TO a b := s2.extBut _ _ D.TOi1 (s1.extBut _ _ D.TOz pO)
      refine wpAny_bind (wpAny_seqItems o2 rfl ?_)
      refine wpAny_bind (wpAny_updateSeq_pair o2 fun g3 o3 s3 => ?_)
      refine wpAny_bind (wpAny_letGo (wpAny_pure ?_))
      refine wpAny_bind (wpAny_bind (wpAny_onRaise ?_))
      show wpAny _ _ (Builtin.SmallTypes.nextOf (.ref i2) >>= _) _ _ _
      have w2 := ((t2.extBut s1.extBut D.i2z).extBut s2.extBut D.i12.symm).extBut s3.extBut D.TOi2.symm
      have n2 := ((m2.extBut s1.extBut D.l2z).extBut s2.extBut D.l2i1).extBut s3.extBut D.l2TO
      refine wpAny_bind (wpAny_nextOf_list_end hh w2 n2 hy fun g4 e s4 ee => ?_)
      obtain ⟨oe, q1, q2⟩ := ee
      have z4 : GzAt g4 z TI TO .ellipsis f := s4 _ _ D.i2z.symm (s3.extBut _ _ D.TOz.symm (s2.extBut _ _ D.i1z.symm z1))
      have ez : e ≠ z := fun q => by subst q; rw [z4] at q1; cases q1; simp at q2
      refine wpAny_setField_rec z4 (by simp) fun g5 _ s5 => fin g5 e (fun c o nz nO n1 n2 q => s5.extBut _ _ nz (s4 _ _ n2 (s3.extBut _ _ nO (s2.extBut _ _ n1 (s1.extBut _ _ nz q))))) ⟨oe, s5.extBut _ _ ez q1, q2⟩
  · simp only [Bool.false_eq_true, if_false]
    refine wpAny_bind ?_
    rw [← Array.forIn_toList]
    simp only [List.forIn_cons, List.forIn_nil]
    refine wpAny_bind (wpAny_bind (wpAny_holding ?_))
    show wpAny _ _ (Builtin.SmallTypes.nextOf (.ref i1) >>= _) _ _ _
    cases hx : xs[k]? with
    | none =>
      refine wpAny_bind (wpAny_nextOf_list_end (s := { s with heap := g1 }) hh (t1.extBut s1.extBut D.i1z) (m1.extBut s1.extBut D.l1z) hx fun g2 e s2 ee => ?_)
      exact fin g2 e (fun c o nz _ n1 _ q => s2 _ _ n1 (s1.extBut _ _ nz q)) ee
    | some x =>
      have hy : ys[k]? = none := by rcases out with q | q; rw [hx] at q; cases q; exact q
      refine wpAny_bind (wpAny_nextOf_list_item (s := { s with heap := g1 }) (t1.extBut s1.extBut D.i1z) (m1.extBut s1.extBut D.l1z) hx fun g2 u2 s2 => wpAny_pure ?_)
      refine wpAny_pure ?_
      refine wpAny_bind (wpAny_bind (wpAny_holding ?_))
      show wpAny _ _ (Builtin.SmallTypes.nextOf (.ref i2) >>= _) _ _ _
      have w2 := (t2.extBut s1.extBut D.i2z).extBut s2.extBut D.i12.symm
      have n2 := (m2.extBut s1.extBut D.l2z).extBut s2.extBut D.l2i1
      refine wpAny_bind (wpAny_nextOf_list_end (s := { s with heap := g2 }) hh w2 n2 hy fun g3 e s3 ee => ?_)
      exact fin g3 e (fun c o nz _ n1 n2 q => s3 _ _ n2 (s2.extBut _ _ n1 (s1.extBut _ _ nz q))) ee
end
end PySem

set_option Elab.async false
set_option linter.all false
set_option maxRecDepth 100000
set_option maxHeartbeats 4000000
namespace PySem
open Sem (wp)
open AutoSeq1 (wpAny_loadPart')
/-- enumerate(z) of a zip -/
theorem ge_new (z TI TO : Addr) :
    Meets (Builtin.«enumerate.__new__» ⟨[.type "enumerate", .ref z], []⟩) (fun _ R s => GzAt s.heap z TI TO .none false ∧
      R (.ok (.ret (.ref s.heap.objs.size)))
        { s with heap := s.heap.push { cls := .type "enumerate", data := .fields #[.none, .bool false, .ref z, rawInt 0, .none, .none] } }) := by
  refine .of_wp fun prog w A R s h => ?_
  obtain ⟨hp, g, d, tk, os⟩ := s
  obtain ⟨hl, h⟩ := h
  have sb := sub_enumerate
  have hl' : IsZip (Shared.heap ⟨hp, g, d, tk, os⟩) z TI TO .none := hl
  wp_walk using wpAny_loadPart' hl
  refine wpAny_stack_any fun st => wpAny_pure ?_
  split
  · rename_i c _ _ _ _ _
    cases (c == Value.type "enumerate") <;>
      (wp_walk using wpAny_loadPart' hl, wpAny_pyIter_zip hl'; exact ⟨_, rfl, h⟩)
  · wp_walk using wpAny_loadPart' hl, wpAny_pyIter_zip hl'
    exact ⟨_, rfl, h⟩
section
variable {prog : Program} {w : World} {A : Around} {E : Value → Shared → Prop} {s : Shared}
theorem ge_call {z TI TO : Addr} {Q : Value → Shared → Prop} (hz : GzAt s.heap z TI TO .none false)
    (h : ∀ h', IsEnum h' s.heap.objs.size z 0 .none → (∀ b o, s.heap.get? b = some o → h'.get? b = some o) → Q (.ref s.heap.objs.size) { s with heap := h' }) :
    wpAny (model prog w) A (call (.type "enumerate") [.ref z]) Q E s := by
  refine callType_new F.called_enumerate (by decide) (F.typeCall_enumerate_1 _) (F.newCall_enumerate_1 _)
    (fun obj => F.args_object_init_2 obj _) F.entry_enumerate_new (ge_new z TI TO) ⟨hz, ?_⟩
  have at1 := Heap.get?_push_size s.heap (o := { cls := .type "enumerate", data := .fields #[.none, .bool false, .ref z, rawInt 0, .none, .none] }) rfl
  exact ⟨⟨_, at1, rfl⟩, h _ at1 fun b o x => Heap.get?_push_of_some _ x⟩
/-- a turn of enumerate over a zip -/
theorem ge_draw {e z TI TO i1 i2 l1 l2 : Addr} {k : Nat} {xs ys : Array Value} {x y old : Value} {Q : Option Value → Shared → Prop} (D : ZipApart z TI TO i1 i2 l1 l2)
    (he : IsEnum s.heap e z ((k : Nat) : Int) old) (ne : e ≠ z ∧ e ≠ TI ∧ e ≠ TO ∧ e ≠ i1 ∧ e ≠ i2) (hz : Gz s.heap z TI TO) (pI : IsPair s.heap TI (.ref i1) (.ref i2)) (pO : ∃ a b, IsPair s.heap TO a b)
    (t1 : s.heap.IsListIter i1 l1 k) (t2 : s.heap.IsListIter i2 l2 k) (m1 : s.heap.IsList l1 xs) (m2 : s.heap.IsList l2 ys) (ex : xs[k]? = some x) (ey : ys[k]? = some y)
    (fin : ∀ g, IsEnumOut g e z ((k : Nat) + 1) (.ref s.heap.objs.size) (s.heap.objs.size + 1) → Gz g z TI TO → (∃ a b, IsPair g TO a b) → g.IsListIter i1 l1 (k + 1) → g.IsListIter i2 l2 (k + 1) →
      IsPair g s.heap.objs.size x y → IsPair g (s.heap.objs.size + 1) (.int k s.toks) (.ref s.heap.objs.size) →
      (∀ c o, c ≠ e → c ≠ z → c ≠ TO → c ≠ i1 → c ≠ i2 → s.heap.get? c = some o → g.get? c = some o) → Q (some (.ref (s.heap.objs.size + 1))) { s with heap := g, toks := s.toks + 1 }) :
    wpAny (model prog w) A (pyNext (.ref e)) Q E s := by
  obtain ⟨hp, gl, dr, tk, os⟩ := s
  have ty : Shared.TypeIs ⟨hp, gl, dr, tk, os⟩ (.ref e) "enumerate" := ⟨_, he, rfl⟩
  have el : e < hp.objs.size := Heap.lt_size he
  unfold pyNext
  refine wpAny_bind (wpAny_attempt (wpAny_callSpecial?_slot (name := Str.ofString "__next__") ty F.slot_enumerate_next
    (wpAny_call_entry F.slot_enumerate_next ty F.entry_enumerate_next ?_ (F.args_enumerate_next_1 _))))
  show wpAny _ _ (field (.ref e) 2 >>= _) _ _ _
  refine wpAny_bind (wpAny_field he rfl (x := .ref z) rfl ?_)
  refine wpAny_bind (gz_draw D hz pI pO t1 t2 m1 m2 ex ey fun g1 Z => ?_)
  obtain ⟨z1, o1, u1, u2, p1, n1, k1⟩ := Z
  replace k1 : ∀ c o, c ≠ z → c ≠ TO → c ≠ i1 → c ≠ i2 → hp.get? c = some o → g1.get? c = some o := k1
  replace p1 : IsPair g1 hp.objs.size x y := p1
  replace n1 : g1.objs.size = hp.objs.size + 1 := n1
  have e1 : IsEnum g1 e z ((k : Nat) : Int) old := k1 _ _ ne.1 ne.2.2.1 ne.2.2.2.1 ne.2.2.2.2 he
  show wpAny _ _ (field (.ref e) 3 >>= _) _ _ ⟨g1, gl, dr, tk, os⟩
  refine wpAny_bind (wpAny_field e1 rfl (x := rawInt ((k : Nat) : Int)) rfl ?_)
  show wpAny _ _ (field (.ref e) 4 >>= _) _ _ ⟨g1, gl, dr, tk, os⟩
  refine wpAny_bind (wpAny_field e1 rfl (x := .none) rfl ?_)
  show wpAny _ _ (mkInt ((k : Nat) : Int) >>= _) _ _ ⟨g1, gl, dr, tk, os⟩
  refine wpAny_bind (wpAny_mkInt ?_)
  show wpAny _ _ (setField (.ref e) 3 (rawInt (((k : Nat) : Int) + 1)) >>= _) _ _ ⟨g1, gl, dr, tk + 1, os⟩
  refine wpAny_bind (wpAny_setField_rec e1 (by simp) fun g2 e2 s2 => ?_)
  replace s2 : Heap.SameBut e g1 g2 := s2
  replace e2 : IsEnum g2 e z (((k : Nat) : Int) + 1) old := e2
  show wpAny _ _ (setField (.ref e) 4 .none >>= _) _ _ ⟨g2, gl, dr, tk + 1, os⟩
  refine wpAny_bind (wpAny_setField_rec e2 (by simp) fun g3 e3 s3 => ?_)
  replace s3 : Heap.SameBut e g2 g3 := s3
  replace e3 : IsEnum g3 e z (((k : Nat) : Int) + 1) old := e3
  show wpAny _ _ (newTuple [.int ((k : Nat) : Int) tk, .ref hp.objs.size] >>= _) _ _ ⟨g3, gl, dr, tk + 1, os⟩
  refine wpAny_bind (wpAny_newTuple ?_)
  have n3 : g3.objs.size = hp.objs.size + 1 := by rw [s3.1, s2.1, n1]
  have k3 : ∀ c o, c ≠ e → g1.get? c = some o → g3.get? c = some o := fun c o c1 q => s3.extBut c o c1 (s2.extBut c o c1 q)
  have e4 : IsEnum (g3.push { cls := .type "tuple", data := .seq #[.int ((k : Nat) : Int) tk, .ref hp.objs.size] }) e z (((k : Nat) : Int) + 1) old := Heap.get?_push_of_some _ e3
  have p4 : (g3.push { cls := .type "tuple", data := .seq #[.int ((k : Nat) : Int) tk, .ref hp.objs.size] }).get? g3.objs.size = some { cls := .type "tuple", data := .seq #[.int ((k : Nat) : Int) tk, .ref hp.objs.size] } := Heap.get?_push_size _ rfl
  have k4 : ∀ c o, c ≠ e → g1.get? c = some o → (g3.push { cls := .type "tuple", data := .seq #[.int ((k : Nat) : Int) tk, .ref hp.objs.size] }).get? c = some o := fun c o c1 q => Heap.get?_push_of_some _ (k3 c o c1 q)
  generalize g3.push { cls := .type "tuple", data := .seq #[.int ((k : Nat) : Int) tk, .ref hp.objs.size] } = g4 at e4 p4 k4
  show wpAny _ _ (Builtin.SmallTypes.ownedTupleIsFree (.ref e) >>= _) _ _ ⟨g4, gl, dr, tk + 1, os⟩
  rw [n3] at p4 ⊢
  refine wpAny_bind ?_
  unfold Builtin.SmallTypes.ownedTupleIsFree
  refine wpAny_bind (wpAny_field e4 rfl (x := .none) rfl (wpAny_pure ?_))
  simp only [if_true]
  refine wpAny_bind (wpAny_rule ?_)
  refine wpAny_bind (wpAny_field e4 rfl (x := old) rfl ?_)
  refine wpAny_bind (wpAny_setField_rec e4 (by simp) fun g5 e5 s5 => ?_)
  replace s5 : Heap.SameBut e g4 g5 := s5
  replace e5 : IsEnum g5 e z (((k : Nat) : Int) + 1) (.ref hp.objs.size) := e5
  show wpAny _ _ (Builtin.SmallTypes.ownedTupleHandOut (.ref e) (.ref (hp.objs.size + 1)) >>= _) _ _ ⟨g5, gl, dr, tk + 1, os⟩
  refine wpAny_bind ?_
  unfold Builtin.SmallTypes.ownedTupleHandOut
  refine wpAny_bind (wpAny_setField_rec e5 (by simp) fun g6 e6 s6 => ?_)
  replace s6 : Heap.SameBut e g5 g6 := s6
  replace e6 : IsEnumOut g6 e z (((k : Nat) : Int) + 1) (.ref hp.objs.size) (hp.objs.size + 1) := e6
  refine wpAny_setField_rec e6 (by simp) fun g7 e7 s7 => ?_
  replace s7 : Heap.SameBut e g6 g7 := s7
  replace e7 : IsEnumOut g7 e z (((k : Nat) : Int) + 1) (.ref hp.objs.size) (hp.objs.size + 1) := e7
  have k7 : ∀ c o, c ≠ e → g4.get? c = some o → g7.get? c = some o := fun c o c1 q => s7.extBut c o c1 (s6.extBut c o c1 (s5.extBut c o c1 q))
  have up : ∀ c o, c ≠ e → g1.get? c = some o → g7.get? c = some o := fun c o c1 q => k7 c o c1 (k4 c o c1 q)
  obtain ⟨v, f, hv, zz⟩ := z1
  obtain ⟨a, b, oo⟩ := o1
  refine wpAny_bind (wpAny_letGo (wpAny_pure ⟨_, rfl, wpAny_pure ?_⟩))
  exact fin g7 e7 ⟨v, f, hv, up _ _ ne.1.symm zz⟩ ⟨a, b, up _ _ ne.2.2.1.symm oo⟩ (u1.at fun o q => up _ o ne.2.2.2.1.symm q) (u2.at fun o q => up _ o ne.2.2.2.2.symm q)
    (up _ _ (Nat.ne_of_gt el) p1) (k7 _ _ (Nat.ne_of_gt (Nat.lt_succ_of_lt el)) p4) fun c o c1 c2 c3 c4 c5 q => up c o c1 (k1 c o c2 c3 c4 c5 q)
end
end PySem

set_option Elab.async false
set_option linter.all false
set_option maxRecDepth 100000
set_option maxHeartbeats 400000
/-! `==` and `!=` of an instance whose class has an own `__eq__` and no own `__ne__`. -/
namespace Gx
open PySem PySem.Spec PyProof.Rows L2 Evl
/-- `a == y`, a's class with an own `__eq__` -/
def rEqI (K : PySem.W.Frag) (C : Addr) (sp : Sp) (E : XK) : R2 := fun x y H Q => ∃ (a dx : Addr) (fs : List (Str × V)) (tb : Value), x = .ref a ∧ H a = some (.ins C dx fs) ∧ TyX K H y tb ∧ PySem.W.notFirst K C tb = true ∧ sp [x, y] H Q E
theorem op_eqI {X : Cx} {CX : CXT} {C g : Addr} {n : Nat} {sp : Sp} {E : XK} (hs : PySem.W.findIn X.K (.ref C) "__eq__" = some (some (.ref g))) (hf : PySem.W.isFn X.K (.ref g) = true)
    (F : FnR X.prog X.w X.K X.mg X.base CX n g sp) (hr : Room n X.A) (hx : Passes CX X E) : OpR X (compareOp .Eq) (rEqI X.K C sp E) := by
  rintro pins s σ H x y v u Q inv rx ry ⟨a, dx, fs, tb, rfl, ha, ty, nf, h⟩
  cases rx
  obtain ⟨mA, om, _⟩ := L2.ins_get inv.hok ha
  obtain ⟨od, I, _⟩ := om.look
  obtain ⟨P, kx, hP, _⟩ := L2.kit_of inv ry ty
  obtain ⟨m, fr⟩ := inv.fr
  have e : compareOp .Eq (.ref a) u = richCompare .Eq (.ref a) u := rfl
  rw [e]
  have back : wpAny (model X.prog X.w) X.A (call (.ref g) [.ref a, u]) (PySem.W.CmpBack (EP X pins σ Q)) X.xe s := by
    refine wpAny_mono (wpAny_call (L2.run_fnR F hr hx inv (.cons (show RelV (.ref a) (.ref a) from rfl) (.cons ry .nil)) h)) (fun v s' q => ?_) (fun _ _ q => q)
    obtain ⟨z, H', i, r, q⟩ := q
    exact SlX.cmpback r ⟨z, H', i, r, q⟩
  exact PySem.W.cmp_K (op := .Eq) hr.units0 fr inv.ok.mod.kin I (kx.ty _ _ inv.kIn hP) nf hs hf back
/-- the default `__ne__` is found -/
theorem ifBound_ne {M : Model} {A : Around} {E : Value → Shared → Prop} {s : Shared} {K : PySem.W.Frag} {x C : Addr} {ox : Obj} {od : Option Obj} {args : List Value} {Q : Option Value → Shared → Prop}
    (kin : K.In s.heap) (I : PySem.W.InstAt s.heap x ox C od) (hs : PySem.W.findIn K (.ref C) "__ne__" = some (some (.builtin "object.__ne__")))
    (h : wpAny M A (call (.builtin "object.__ne__") (.ref x :: args)) (fun v => Q (some v)) E s) : wpAny M A (callSpecialIfBound? (.ref x) "__ne__" args) Q E s := by
  unfold callSpecialIfBound? bindSpecialIfBound? specialOf
  refine wpAny_holding (wpAny_bind (wpAny_bind (wpAny_bind (PySem.W.Looks.here I.type (PySem.W.Looks.here (PySem.W.looks_findIn kin hs) ?_)))))
  refine wpAny_bind (wpAny_askSetting ?_)
  have e : bindSpecial (.builtin "object.__ne__") (.ref x) = pure (Value.builtin "object.__ne__", [Value.ref x]) := F.cmp_object.ne.bind _
  have fin : wpAny M A (call (.builtin "object.__ne__") ([Value.ref x] ++ args)) (fun v => Q (some v)) E s := h
  refine wpAny_ite ?_
  split
  · refine wpAny_bind (wpAny_of_eq e (wpAny_pure (wpAny_bind (wpAny_mono fin (fun v s' q => wpAny_pure q) fun _ _ q => q))))
  · refine wpAny_tryCatch (wpAny_bind (wpAny_of_eq e (wpAny_pure (wpAny_bind (wpAny_mono fin (fun v s' q => wpAny_pure q) fun _ _ q => q)))))
def rNeI (K : PySem.W.Frag) (C : Addr) (sp : Sp) (E : XK) : R2 := fun x y H Q => ∃ (a dx : Addr) (fs : List (Str × V)) (tb : Value), x = .ref a ∧ H a = some (.ins C dx fs) ∧ TyX K H y tb ∧ PySem.W.notFirst K C tb = true ∧ sp [x, y] H (fun z H' => ∃ b, z = .bl b ∧ Q (.bl (!b)) H') E
theorem call_objNe {prog : Program} {w : World} {A : Around} {E : Value → Shared → Prop} {s : Shared} {K : PySem.W.Frag} {x C g : Addr} {ox : Obj} {od : Option Obj} {u : Value} {Q : Value → Shared → Prop}
    (kin : K.In s.heap) (I : PySem.W.InstAt s.heap x ox C od) (ho : PySem.W.mroIn K C (.type "object") = some true) (hu : A.in1.units < cLine)
    (hs : PySem.W.findIn K (.ref C) "__eq__" = some (some (.ref g))) (hf : PySem.W.isFn K (.ref g) = true)
    (h : wpAny (model prog w) A.in1 (call (.ref g) [.ref x, u]) (fun v s' => ∃ b, v = .bool b ∧ Q (.bool !b) s') E s) :
    wpAny (model prog w) A (call (.builtin "object.__ne__") [.ref x, u]) Q E s := by
  refine wpAny_call (codeAny_call_builtin F.cmp_object.ne.plain F.cmpEntry_ne ?_)
  refine PySem.W.check_slot F.cmpKind_ne F.cmpSplit_ne (PySem.W.Looks.andThen I.type ?_) (F.cmpArgs_ne _ _) ?_
  · exact PySem.W.looks_mroIn kin ho
  · unfold Builtin.«object.__ne__» slotArgs
    refine wpAny_bind (wpAny_of_eq (a := (Value.ref x, [u])) rfl ?_)
    refine wpAny_bind (wpAny_cRoomFor hu ?_)
    refine wpAny_bind (PySem.W.ifBound_K kin I hs hf (wpAny_mono h (fun v s' q => ?_) fun _ _ q => q))
    obtain ⟨b, rfl, q⟩ := q
    refine wpAny_bind (wpAny_of_eq (a := b) rfl ?_)
    exact wpAny_pure q
theorem op_neI {X : Cx} {CX : CXT} {C g : Addr} {n : Nat} {sp : Sp} {E : XK} (hs : PySem.W.findIn X.K (.ref C) "__eq__" = some (some (.ref g))) (hf : PySem.W.isFn X.K (.ref g) = true)
    (hn : PySem.W.findIn X.K (.ref C) "__ne__" = some (some (.builtin "object.__ne__"))) (ho : PySem.W.mroIn X.K C (.type "object") = some true)
    (F : FnR X.prog X.w X.K X.mg X.base CX n g sp) (hr : Room (n + 1) X.A) (hx : Passes CX X E) : OpR X (compareOp .NotEq) (rNeI X.K C sp E) := by
  rintro pins s σ H x y v u Q inv rx ry ⟨a, dx, fs, tb, rfl, ha, ty, nf, h⟩
  cases rx
  obtain ⟨mA, om, _⟩ := L2.ins_get inv.hok ha
  obtain ⟨od, I, _⟩ := om.look
  obtain ⟨P, kx, hP, _⟩ := L2.kit_of inv ry ty
  have hr1 : Room n X.A.in1 := hr.in1
  have e : compareOp .NotEq (.ref a) u = richCompare .NotEq (.ref a) u := rfl
  rw [e]
  have call : wpAny (model X.prog X.w) X.A (call (.builtin "object.__ne__") [.ref a, u]) (EP X pins σ Q) X.xe s := by
    refine call_objNe inv.kIn I ho hr1.units0 hs hf ?_
    refine wpAny_mono (wpAny_call (SlX.run_at F hr1 inv.env0.in1 hx inv (.cons (show RelV (.ref a) (.ref a) from rfl) (.cons ry .nil)) h)) (fun v s' q => ?_) (fun _ _ q => q)
    obtain ⟨z, H', i, r, b, rfl, q⟩ := q
    cases r
    exact ⟨b, rfl, .bl (!b), H', i, (show RelV (.bl (!b)) (.bool (!b)) from rfl), q⟩
  unfold richCompare
  refine wpAny_holding (wpAny_bind (wpAny_cRoomFor hr.units0 ?_))
  have o : oneThing? .NotEq (.ref a) u = none := by cases u <;> rfl
  rw [o]
  have tryc : wpAny (model X.prog X.w) X.A (tryCompare (.ref a) "__ne__" u) (fun r s' => ∃ v, r = some v ∧ EP X pins σ Q v s') X.xe s := by
    unfold tryCompare
    refine wpAny_bind (ifBound_ne inv.kIn I hn (wpAny_mono call (fun v s' q => ?_) fun _ _ q => q))
    obtain ⟨z, H', i, r, q⟩ := q
    have q' : EP X pins σ Q v s' := ⟨z, H', i, r, q⟩
    have nn : v ≠ .notImplemented := fun h => by subst h; exact SlX.cmpback (P := fun _ _ => True) (s' := s') r trivial
    cases v <;> first | exact absurd rfl nn | exact wpAny_pure ⟨_, rfl, q'⟩
  refine wpAny_bind (PySem.W.Looks.here I.type (wpAny_bind (PySem.W.Looks.here (kx.ty _ _ inv.kIn hP) ?_)))
  refine wpAny_ite ?_
  by_cases hc : tb = .ref C
  · subst hc
    rw [if_neg (by simp)]
    refine wpAny_bind (wpAny_pure (wpAny_ite_false (by decide) ?_))
    exact wpAny_bind (wpAny_mono tryc (fun r s' q => by obtain ⟨v, rfl, q⟩ := q; exact wpAny_pure q) fun _ _ q => q)
  · have sub : PySem.W.subIn X.K tb (.ref C) = some false := by
      have := nf
      unfold PySem.W.notFirst at this
      rcases Bool.or_eq_true _ _ |>.mp this with h1 | h1
      · exact absurd (eq_of_beq h1) hc
      · exact eq_of_beq h1
    rw [if_pos (by simpa using fun h => hc h.symm)]
    refine wpAny_bind (PySem.W.Looks.here (PySem.W.looks_subIn inv.kIn sub) (wpAny_ite_false (by decide) ?_))
    exact wpAny_bind (wpAny_mono tryc (fun r s' q => by obtain ⟨v, rfl, q⟩ := q; exact wpAny_pure q) fun _ _ q => q)
end Gx

set_option Elab.async false
set_option linter.all false
set_option maxRecDepth 100000
set_option maxHeartbeats 400000
/-! `a op b` of two instances of one own class, `~a`, `len(a)`, `x in a`, `x not in a`. -/
namespace Gx
open PySem PySem.Spec PyProof.Rows L2 Evl
section
variable {X : Cx} {CX : CXT} {C g : Addr} {n : Nat} {sp : Sp} {E : XK}
def rBinI (C : Addr) (sp : Sp) (E : XK) : R2 := fun x y H Q => ∃ (a b dx dy : Addr) (fs gs : List (Str × V)), x = .ref a ∧ y = .ref b ∧ H a = some (.ins C dx fs) ∧ H b = some (.ins C dy gs) ∧ sp [x, y] H Q E
theorem op_binI {op : Operator} (sf : PySem.W.selfFirst X.K C = true) (hs : PySem.W.findIn X.K (.ref C) (PySem.dunder op.info.2) = some (some (.ref g))) (hf : PySem.W.isFn X.K (.ref g) = true)
    (F : FnR X.prog X.w X.K X.mg X.base CX n g sp) (hr : Room n X.A) (hx : Passes CX X E) : OpR X (binaryOp op) (rBinI C sp E) := by
  rintro pins s σ H x y v u Q inv rx ry ⟨a, b, dx, dy, fs, gs, rfl, rfl, ha, hb, h⟩
  cases rx
  cases ry
  obtain ⟨mA, oa, _⟩ := L2.ins_get inv.hok ha
  obtain ⟨od, I, _⟩ := oa.look
  obtain ⟨mB, ob, _⟩ := L2.ins_get inv.hok hb
  obtain ⟨od', J, _⟩ := ob.look
  obtain ⟨m, fr⟩ := inv.fr
  refine PySem.W.binop_K fr inv.ok.mod.kin I J.type sf hs hf ?_
  refine wpAny_mono (wpAny_call (L2.run_fnR F hr hx inv (.cons (show RelV (.ref a) (.ref a) from rfl) (.cons (show RelV (.ref b) (.ref b) from rfl) .nil)) h)) (fun v s' q => ?_) (fun _ _ q => q)
  obtain ⟨z, H', i, r, q⟩ := q
  exact SlX.cmpback r ⟨z, H', i, r, q⟩
def rInvI (C : Addr) (sp : Sp) (E : XK) : V → Hp → VK → Prop := fun x H Q => ∃ (a dx : Addr) (fs : List (Str × V)), x = .ref a ∧ H a = some (.ins C dx fs) ∧ sp [x] H Q E
theorem un_invI (hs : PySem.W.findIn X.K (.ref C) "__invert__" = some (some (.ref g))) (hf : PySem.W.isFn X.K (.ref g) = true)
    (F : FnR X.prog X.w X.K X.mg X.base CX n g sp) (hr : Room n X.A) (hx : Passes CX X E) : UnR X (unaryOp .Invert) (rInvI C sp E) := by
  rintro pins s σ H x v Q inv rx ⟨a, dx, fs, rfl, ha, h⟩
  cases rx
  obtain ⟨mA, oa, _⟩ := L2.ins_get inv.hok ha
  obtain ⟨od, I, _⟩ := oa.look
  obtain ⟨m, fr⟩ := inv.fr
  refine PySem.W.ksp_inv fr inv.ok.mod.kin I hs hf ?_
  exact wpAny_call (L2.run_fnR F hr hx inv (.cons (show RelV (.ref a) (.ref a) from rfl) .nil) h)
def rLenI (C : Addr) (sp : Sp) (E : XK) : List V → Hp → VK → Prop := fun xs H Q => ∃ (a dx : Addr) (fs : List (Str × V)), xs = [.ref a] ∧ H a = some (.ins C dx fs) ∧
  sp xs H (fun z H' => ∃ k : Nat, z = .int k ∧ k ≤ sizeLine ∧ Q (.int k) H') E
theorem call_lenI (hs : PySem.W.findIn X.K (.ref C) "__len__" = some (some (.ref g))) (hf : PySem.W.isFn X.K (.ref g) = true)
    (F : FnR X.prog X.w X.K X.mg X.base CX n g sp) (hr : Room (n + 1) X.A) (hx : Passes CX X E) : CallR X (.builtin "len") (rLenI C sp E) := by
  rintro pins s σ H xs us Q inv rv ⟨a, dx, fs, rfl, ha, h⟩
  obtain ⟨u, rfl, rx⟩ := vals1 rv
  cases rx
  obtain ⟨mA, oa, _⟩ := L2.ins_get inv.hok ha
  obtain ⟨od, I, _⟩ := oa.look
  obtain ⟨m, fr⟩ := inv.fr
  have hr1 : Room n X.A.in1 := hr.in1
  refine PySem.W.len_K fr inv.ok.mod.kin I hs hf ?_
  refine wpAny_mono (wpAny_call (SlX.run_at F hr1 inv.env0.in1 hx inv (.cons (show RelV (.ref a) (.ref a) from rfl) .nil) h)) (fun v s' q => ?_) (fun _ _ q => q)
  obtain ⟨z, H', i, r, k, rfl, hk, q⟩ := q
  obtain ⟨t, rfl⟩ := r
  have := line63
  refine ⟨⟨by omega, by omega⟩, ?_⟩
  exact ⟨.int k, H', i.tok _, ⟨_, rfl⟩, q⟩
def rInI (C : Addr) (sp : Sp) (E : XK) (neg : Bool) : R2 := fun x y H Q => ∃ (a dx : Addr) (fs : List (Str × V)), y = .ref a ∧ H a = some (.ins C dx fs) ∧
  sp [y, x] H (fun z H' => ∃ b, z = .bl b ∧ Q (.bl (if neg then !b else b)) H') E
theorem op_inI (hs : PySem.W.findIn X.K (.ref C) "__contains__" = some (some (.ref g))) (hf : PySem.W.isFn X.K (.ref g) = true)
    (F : FnR X.prog X.w X.K X.mg X.base CX n g sp) (hr : Room n X.A) (hx : Passes CX X E) : OpR X (compareOp .In) (rInI C sp E false) := by
  rintro pins s σ H x y v u Q inv rx ry ⟨a, dx, fs, rfl, ha, h⟩
  cases ry
  obtain ⟨mA, oa, _⟩ := L2.ins_get inv.hok ha
  obtain ⟨od, I, _⟩ := oa.look
  obtain ⟨m, fr⟩ := inv.fr
  refine PySem.W.in_K fr inv.ok.mod.kin I hs hf ?_
  refine wpAny_mono (wpAny_call (L2.run_fnR F hr hx inv (.cons (show RelV (.ref a) (.ref a) from rfl) (.cons rx .nil)) h)) (fun v s' q => ?_) (fun _ _ q => q)
  obtain ⟨z, H', i, r, b, rfl, q⟩ := q
  cases r
  exact wpAny_pure ⟨.bl b, H', i, rfl, q⟩
theorem op_notInI (hs : PySem.W.findIn X.K (.ref C) "__contains__" = some (some (.ref g))) (hf : PySem.W.isFn X.K (.ref g) = true)
    (F : FnR X.prog X.w X.K X.mg X.base CX n g sp) (hr : Room n X.A) (hx : Passes CX X E) : OpR X (compareOp .NotIn) (rInI C sp E true) := by
  rintro pins s σ H x y v u Q inv rx ry ⟨a, dx, fs, rfl, ha, h⟩
  cases ry
  obtain ⟨mA, oa, _⟩ := L2.ins_get inv.hok ha
  obtain ⟨od, I, _⟩ := oa.look
  obtain ⟨m, fr⟩ := inv.fr
  refine PySem.W.notIn_K fr inv.ok.mod.kin I hs hf ?_
  refine wpAny_mono (wpAny_call (L2.run_fnR F hr hx inv (.cons (show RelV (.ref a) (.ref a) from rfl) (.cons rx .nil)) h)) (fun v s' q => ?_) (fun _ _ q => q)
  obtain ⟨z, H', i, r, b, rfl, q⟩ := q
  cases r
  exact wpAny_pure ⟨.bl (!b), H', i, rfl, q⟩
theorem op_eqIK {P : Program} {w : World} {K : PySem.W.Frag} {mg : Str → Option Value} {base : Heap} (e1 : X.prog = P) (e2 : X.w = w) (e3 : X.K = K) (e4 : X.mg = mg) (e5 : X.base = base)
    (hs : PySem.W.findIn K (.ref C) "__eq__" = some (some (.ref g))) (hf : PySem.W.isFn K (.ref g) = true) (F : FnR P w K mg base CX n g sp) (hr : Room n X.A) (hx : Passes CX X E) : OpR X (compareOp .Eq) (rEqI K C sp E) := by
  subst e1 e2 e3 e4 e5
  exact op_eqI hs hf F hr hx
end
end Gx

set_option Elab.async false
set_option linter.all false
set_option maxRecDepth 100000
set_option maxHeartbeats 400000
/-! sorted(xs, key=f), f a def that answers its argument's first item. -/
namespace Gx
open PySem PySem.Spec PyProof.Rows L2 Evl
section
variable {P : Program} {w : World} {K : PySem.W.Frag}
theorem bindL_one {k : Str → Option NameKind} {nm : Str} {v : Value} (h : k nm = some .local) : bindL k [(nm, v)] (fun _ => none) nm = some v := by
  unfold bindL bindL
  rw [if_pos h]
  exact if_pos rfl
theorem low_call {x qual nm : Str} {st : Stmt} {f : Addr} {fd : FuncData} {p1 p2 p3 p4 : Pos} {c : Nat} (F : Fun K x qual st f fd) (S : FnScope [nm] [nm] (defScope st)) (bd : L2.Binds K fd [nm] [])
    (hb : defBody st = [.Return (some (.Subscript (.Name nm p1) (.Constant (.int 0) c p2) p3)) p4]) (hn : (defScope st).names.lookup nm = some .local) (hdb : (nm == ("__debug__" : Str)) = false)
    {A : Around} {E : Value → Shared → Prop} {s : Shared} {a : Addr} {its : Array Value} {v : Value} {d : PyData}
    (hk : K.In s.heap) (hl : s.heap.NoLimit) (hr : Room 1 A) (ht : IsTup s.heap a its) (h0 : its.toList[0]? = some v) (hv : Reads s.heap v d []) (hz : its.size ≤ sizeLine) :
    wpAny (model P w) A (call (.ref f) [.ref a]) (PySem.W.KeyPure d s) E s := by
  obtain ⟨oc, od, kV, doc, pm, an, cdv, ct, osl, rfl, lk, hcd⟩ := F.ex
  refine wpAny_call ?_
  refine codeAny_call_function hr.depth (hk _ _ lk) rfl S.co S.gen rfl (PySem.W.codeRec_of hk hcd) ?_
  have b := bd s [.ref a] hk rfl
  rw [List.append_nil] at b
  refine b _ _ _ _ ?_
  refine wpAny_newFunctionEnv_cells S.kind (fun y hy => ?_) fun en hen s1 ic => ?_
  · have : y = (nm, .ref a) := by simpa using hy
    subst this
    exact .inl hn
  · subst hen
    obtain ⟨h', tk, e1, kp⟩ := ic.done
    refine ⟨hl.keeps ic.toInCall.keep, codeAny_func ?_⟩
    show wpAny _ _ (execs (defBody st) _) _ _ _
    rw [hb]
    refine wpAny_execs_cons (wpAny_Return_some ?_)
    refine Subscript_Constant ?_
    have ns := ic.toInCall.ns
    refine wpAny_Name ?_ hdb
    subst e1
    dsimp only at ns
    refine wpAny_loadName_local (v := .ref a) S.kind hn ns ?_ ?_
    · exact bindL_one (k := Env.kindOf _) hn
    · refine wpAny_Constant_int ⟨"tuple", "tuple.__getitem__", slot_tuple_getitem.lookup, ?_, ?_⟩
      · obtain ⟨o, e, hc, _⟩ := ht
        exact ⟨o, kp _ _ e, hc⟩
      · have ht' : IsTup h' a its := by
          obtain ⟨o, e, hc, z⟩ := ht
          exact ⟨o, kp _ _ e, hc, z⟩
        have hs : 0 < its.toList.length := by
          cases q : its.toList with
          | nil => rw [q] at h0; cases h0
          | cons _ _ => simp
        rw [Array.length_toList] at hs
        have hn63 := line63
        refine getItem_tuple (j := 0) ht' (by omega) (by omega) (by show (if (decide (0 ≤ (0 : Int)) && decide ((0 : Int) < (its.size : Int))) = true then some (Int.toNat 0) else none) = some 0; rw [if_pos (by simp; omega)]; rfl) (by simpa using h0) ?_
        exact ⟨h', _, rfl, kp, PyProof.Rows.Reads.keeps kp hv⟩
/-- sorted(xs, key=f): the items' first items are ints -/
def rSortedLow (K : PySem.W.Frag) (f : Addr) : List V → List V → Hp → VK → Prop := fun vs zs H Q => ∃ (a : Addr) (ps : List (V × Int)), vs = [.ref a] ∧ zs = [.ref f] ∧ SqL K H a (ps.map (·.1)) ∧
  (∀ p ∈ ps, ∃ (t : Addr) (xs : List V), p.1 = .ref t ∧ SqT K H t (.int p.2 :: xs)) ∧
  ∀ p, H p = none → Q (.ref p) (upd H p (.lst ((ps.mergeSort fun x y => decide (x.2 ≤ y.2)).map (·.1))))
theorem each_vals {β : Type} (g : β → V) : ∀ {bs : List β} {us : List Value}, Vals (bs.map g) us → PySem.W.EachIs (fun u b => RelV (g b) u) us bs
  | [], _, h => by cases h; exact .nil
  | b :: bs, _, h => by
    cases h with
    | cons h1 h2 => exact .cons h1 (each_vals g h2)
theorem vals_each {β : Type} (g : β → V) : ∀ {bs : List β} {us : List Value}, PySem.W.EachIs (fun u b => RelV (g b) u) us bs → Vals (bs.map g) us
  | [], _, h => by cases h; exact .nil
  | b :: bs, _, h => by
    cases h with
    | cons h1 h2 => exact .cons h1 (vals_each g h2)
theorem cr_sortedLow {X : Cx} {x qual nm : Str} {st : Stmt} {f : Addr} {fd : FuncData} {p1 p2 p3 p4 : Pos} {c : Nat} (F : Fun X.K x qual st f fd) (S : FnScope [nm] [nm] (defScope st)) (bd : L2.Binds X.K fd [nm] [])
    (hb : defBody st = [.Return (some (.Subscript (.Name nm p1) (.Constant (.int 0) c p2) p3)) p4]) (hn : (defScope st).names.lookup nm = some .local) (hdb : (nm == ("__debug__" : Str)) = false)
    (hr : Room 3 X.A) : CallRK X (.builtin "sorted") [Str.ofString "key"] (rSortedLow X.K f) := by
  intro pins s σ H vs zs us ws Q I r rz h
  obtain ⟨a, ps, rfl, rfl, hs, ht, q⟩ := h
  obtain rfl := Vals.ref1 r
  obtain ⟨w1, rfl, e1⟩ := vals1 rz
  obtain rfl : w1 = Value.ref f := e1
  obtain ⟨its, rv, hl, hz⟩ := I.list hs
  have hz' : ps.length ≤ sizeLine := by simpa using hz
  have hu := hr.units
  refine PySem.W.sorted_key_data (β := V × Int) (R := fun u b => RelV b.1 u) (b := false) (fun b => .int b.2) hl.isList (each_vals _ rv) ?_ ?_ hz' ?_ (PyProof.Rows.ksk_s1 _ _) (fun _ => PyProof.Rows.ksk_l1 _ _) (fun _ => rfl) ?_ ?_
  · exact PySem.W.AllAlike.of fun _ _ => rfl
  · exact PySem.W.Sortable.others fun _ => ⟨(fun e => by cases e), fun _ e => (by cases e)⟩
  · intro x _
    have : (PyData.int x.2).depth = 0 := rfl
    omega
  · intro v x hR hx h tk kp
    obtain ⟨t, xs, e, hq⟩ := ht x hx
    rw [e] at hR
    obtain rfl : v = Value.ref t := hR
    obtain ⟨jts, rj, hj, hjz⟩ := I.tuple hq
    obtain ⟨u, us, rfl, ru, _⟩ : ∃ u us, jts = u :: us ∧ RelV (.int x.2) u ∧ Vals xs us := by
      cases rj with
      | cons h1 h2 => exact ⟨_, _, rfl, h1, h2⟩
    obtain ⟨tt, rfl⟩ := ru
    have hr2 : Room 1 X.A.in1.in1 := (show Room 2 X.A.in1 from hr.in1).in1
    refine low_call (s := { s with heap := h, toks := tk }) F S bd hb hn hdb (I.kIn.keeps kp) (I.nolimit.keeps kp) hr2 ?_ (its := (Value.int x.2 tt :: us).toArray) rfl (.int _ _) ?_
    · obtain ⟨o, e, hc, z⟩ := hj
      exact ⟨o, kp _ _ e, hc, z⟩
    · have := rj.length
      simp only [List.size_toArray]
      omega
  · intro out c h' tk kp fr he hlen hE
    have hv := vals_each (fun b : V × Int => b.1) hE
    have e : PySem.W.dataLe false (fun b : V × Int => PyData.int b.2) = fun x y => decide (x.2 ≤ y.2) := PySem.W.dataLe_int (fun b : V × Int => b.2)
    rw [e] at hv
    have hL : ((ps.mergeSort fun x y => decide (x.2 ≤ y.2)).map (·.1)).length ≤ sizeLine := by simpa using hz'
    exact ⟨.ref _, upd H (s.heap.objs.size + 1) (.lst ((ps.mergeSort fun x y => decide (x.2 ≤ y.2)).map (·.1))), I.laid (t' := tk) kp (Nat.le_succ _) ⟨hL, out, c, hv, he⟩, rfl, q _ (I.hok.fresh (Nat.le_succ _))⟩
end
end Gx

set_option Elab.async false
set_option linter.all false
set_option maxRecDepth 100000
set_option maxHeartbeats 400000
/-! isinstance of a caught error that has a field. -/
namespace Gx
open PySem PySem.Spec PyProof.Rows L2 Evl
theorem kind_ga : builtinKind "BaseException.__getattribute__" = some Manifest.AttrKind.slot := by decide +kernel
theorem split_ga : splitId "BaseException.__getattribute__" = some ("BaseException", "__getattribute__") := by decide +kernel
theorem class_of {prog : Program} {w : World} {A : Around} {E : Value → Shared → Prop} {s : Shared} {K : PySem.W.Frag} {x D : Addr} {ox od : Obj} {Q : Option Value → Shared → Prop}
    (c : ExcC K D) (kin : K.In s.heap) (I : PySem.W.InstAt s.heap x ox D (some od))
    (h : Q (some (.ref D)) { heap := s.heap, gens := s.gens, drawn := s.drawn, toks := s.toks + 1, os := s.os }) :
    wpAny (model prog w) A (getAttr? (.ref x) "__class__") Q E s := by
  have fo : PySem.W.findObj K D (some od) "__class__" = some (.bind (.builtin "getset_descriptor.__get__") (.builtin "object.__class__")) := by
    refine PySem.W.findObj_data ?_ c.ha c.hn c.ht
    obtain ⟨a, h1, _⟩ := PySem.W.any_some c.hd
    rw [h1]; rfl
  unfold getAttr? getAttrBy? getAttrBy
  refine wpAny_bind (wpAny_mkText ?_)
  refine wpAny_bind (wpAny_attempt (wpAny_holding (wpAny_bind (PySem.W.Looks.at I.type (wpAny_bind (PySem.W.Looks.at (PySem.W.looks_findIn kin c.hg) ?_))))))
  show wpAny _ _ (if _ then _ else _) _ _ _
  refine wpAny_ite_false (show decide ((true && (Value.builtin "BaseException.__getattribute__" == Value.builtin "object.__getattribute__")) = true) = false from by decide) ?_
  unfold getAttrByItsOwn hookBefore
  refine wpAny_bind (wpAny_ite ?_)
  rw [if_pos (show onTheHeap (.ref D) = true from rfl)]
  refine PySem.W.Looks.at (PySem.W.looks_findIn kin c.hk) ?_
  refine wpAny_bind (wpAny_attempt (wpAny_holding ?_))
  unfold callGetattribute
  refine wpAny_ite_false (by simp) ?_
  unfold boundAndCalled
  refine wpAny_bind (wpAny_of_eq (F.excAttr_ValueError.ga.bind _) ?_)
  show wpAny (model prog w) A (call (.builtin "BaseException.__getattribute__") [.ref x, .str "__class__" s.toks]) _ _ _
  refine wpAny_call (codeAny_call_builtin F.excAttr_ValueError.ga.plain F.entry_bexc_ga ?_)
  refine PySem.W.check_slot (i := "BaseException.__getattribute__") (self := .ref x) (rest := [.str "__class__" s.toks]) (kw := []) kind_ga split_ga (show PySem.W.Looks (model prog w) s.heap (isInstance (.ref x) (.type "BaseException")) true from PySem.W.Looks.andThen I.type (PySem.W.looks_subIn kin c.hs)) (F.args_bexc_ga _ _) ?_
  unfold Builtin.«object.__getattribute__»
  refine wpAny_bind (wpAny_of_eq (a := (Value.ref x, [Value.str "__class__" s.toks])) rfl ?_)
  refine wpAny_bind (wpAny_of_eq (a := ("__class__" : Str)) rfl ?_)
  refine wpAny_bind (PySem.W.Looks.at I.type (wpAny_bind (PySem.W.Looks.at (PySem.W.looks_find kin I fo) ?_)))
  unfold Builtin.ObjectAttr.bindTo
  refine wpAny_bind (wpAny_holding (wpAny_call (PySem.W.class_get kin I c.hm ?_)))
  exact wpAny_pure (wpAny_of_eq (PySem.W.handedOut_of rfl) (wpAny_pure h))
theorem kit_err {K : PySem.W.Frag} {x D : Addr} {ox od : Obj} (c : ExcC K D) : PySem.W.KitX K (.ref x) (.ref D) (fun h => PySem.W.InstAt h x ox D (some od) ∧ ∃ s : Shared, s.heap = h) where
  ty := fun _ _ _ h => h.1.type
  it := fun M h kin hh => by
    obtain ⟨_, s, rfl⟩ := hh
    exact PySem.W.mc_isType kin c.hd
  ne := fun h tp dd its n sl kin ht => by
    obtain ⟨cd, h1, _⟩ := PySem.W.any_some c.hd
    unfold PySem.W.clsIn at h1
    split at h1
    · rename_i l
      have := kin _ _ l
      refine beq_false_of_ne fun e => ?_
      cases e
      rw [ht] at this
      cases this
    · cases h1
  ca := fun kin hh q => class_of c kin hh.1 q
def rIsEd (K : PySem.W.Frag) (a : Addr) (cls : Value) (d : Option Addr) : List V → Hp → VK → Prop := fun xs H Q =>
  ∃ (c : V) (cv : Value) (b : Bool) (D dd : Addr) (fs : List (Str × V)), xs = [.ref a, c] ∧ (∀ u, RelV c u → u = cv) ∧ cls = .ref D ∧ d = some dd ∧ ExcC K D ∧ PySem.W.kitOne K (.ref D) cv = some b ∧ H dd = some (.xd fs) ∧ Q (.bl b) H
theorem call_isEd {X : Cx} {a : Addr} {cls : Value} {d : Option Addr} {oe : Obj} {pn : List (Addr × Obj)} (hz : Zc cls d oe) (hf : ∃ vs, oe.data = .fields vs) :
    CallR (X.suite a ((a, oe) :: pn)) (.builtin "isinstance") (rIsEd X.K a cls d) := by
  rintro pins s σ H xs us Q inv hv ⟨c, cv, b, D, dd, fs, rfl, hc, rfl, rfl, e, hk, hd, q⟩
  obtain ⟨mA, ns, _⟩ : ∃ mA, s.heap.Ns1 dd mA ∧ ∀ f : Str, RelO (List.lookup f fs) (mA f) := inv.hok _ _ hd
  obtain ⟨od, hod, _⟩ := L2.lookIn_ns ns
  have hp := inv.pin (a, oe) (by show (a, oe) ∈ ((a, oe) :: pn) ++ pins; exact List.mem_append_left _ List.mem_cons_self)
  obtain ⟨vs, hvs⟩ := hf
  have I : PySem.W.InstAt s.heap a oe D (some od) := by
    refine ⟨hp.1, hz.1, ?_, ?_⟩
    · unfold PySem.W.notCls; rw [hvs]
    · rw [hz.2]; exact hod
  cases hv with
  | cons r1 hv =>
    cases hv with
    | cons r2 hv =>
      cases hv
      cases r1
      have := hc _ r2
      subst this
      exact PySem.W.kia_one (kit_err e) inv.kIn ⟨I, s, rfl⟩ hk (by intro h; cases h) fun tk => ⟨_, H, inv.kept fun _ _ h => h, (show RelV (.bl b) (.bool b) from rfl), q⟩
end Gx

set_option Elab.async false
set_option linter.all false
set_option maxRecDepth 100000
set_option maxHeartbeats 4000000
/-! Own classes: what the head tells of a method, of a class. -/
namespace Gx
open PySem PySem.Spec PyProof.Rows L2 Evl
structure MDef (K : PySem.W.Frag) (C : Addr) (m qual : Str) (st : Stmt) (f : Addr) (fd : FuncData) (ps : List Str) : Prop where
  fn : Fun K m qual st f fd
  mt : Meth K C m f
  bd : Binds K fd ps []
theorem mdef_mk {K : PySem.W.Frag} {C : Addr} {m qual : Str} {st : Stmt} {f : Addr} {ps : List Str}
    (a : PySem.W.findIn K (.ref C) m = some (some (.ref f))) (i : PySem.W.isFn K (.ref f) = true) (d : IsDef K m qual st f)
    (hb : ∀ (kV doc pm : Value) (an : Option Addr) (cdv ct : Value) (us : List Value), us.length = ps.length →
      bindArgs (PySem.W.fnOf m qual (defArgs st) (defBody st) (defScope st) .none kV doc pm an cdv ct) ⟨us, []⟩ = pure (ps.zip us)) :
    ∃ fd, MDef K C m qual st f fd ps := by
  have kp : PySem.W.keepIn K (.ref f) = true := by obtain ⟨_, _, _, _, _, _, _, _, _, _, _, k⟩ := d; exact k
  obtain ⟨fd, F⟩ := d.fn
  exact ⟨fd, F, ⟨a, i, kp⟩, F.binds hb⟩
/-! ### the one who asks: its fields -/
structure AskerT (K : PySem.W.Frag) (mg : Str → Option Value) (C fI : Addr) : Prop where
  cl : Cls K C
  mak : Mk K C fI
  gC : mg "Asker" = some (.ref C)
  row : NoAttr K C "row"
  plan : NoAttr K C "plan"
  every : NoAttr K C "every"
  lowers : NoAttr K C "lowers"
  trail : NoAttr K C "trail"
def askF (r d : Addr) (ev lo : Bool) (tr : Addr) : List (Str × V) := [("row", .ref r), ("plan", .ref d), ("every", .bl ev), ("lowers", .bl lo), ("trail", .ref tr)]
section
variable {r d tr : Addr} {ev lo : Bool}
theorem ask_row : (askF r d ev lo tr).lookup ("row" : Str) = some (.ref r) := by unfold askF; simp [List.lookup]
theorem ask_plan : (askF r d ev lo tr).lookup ("plan" : Str) = some (.ref d) := by
  unfold askF
  have e1 : (("plan" : Str) == "row") = false := by decide +kernel
  have e2 : (("plan" : Str) == "plan") = true := by decide +kernel
  simp only [List.lookup, e1, e2]
theorem ask_every : (askF r d ev lo tr).lookup ("every" : Str) = some (.bl ev) := by
  unfold askF
  have e1 : (("every" : Str) == "row") = false := by decide +kernel
  have e2 : (("every" : Str) == "plan") = false := by decide +kernel
  have e3 : (("every" : Str) == "every") = true := by decide +kernel
  simp only [List.lookup, e1, e2, e3]
theorem ask_lowers : (askF r d ev lo tr).lookup ("lowers" : Str) = some (.bl lo) := by
  unfold askF
  have e1 : (("lowers" : Str) == "row") = false := by decide +kernel
  have e2 : (("lowers" : Str) == "plan") = false := by decide +kernel
  have e3 : (("lowers" : Str) == "every") = false := by decide +kernel
  have e4 : (("lowers" : Str) == "lowers") = true := by decide +kernel
  simp only [List.lookup, e1, e2, e3, e4]
theorem ask_trail : (askF r d ev lo tr).lookup ("trail" : Str) = some (.ref tr) := by
  unfold askF
  have e1 : (("trail" : Str) == "row") = false := by decide +kernel
  have e2 : (("trail" : Str) == "plan") = false := by decide +kernel
  have e3 : (("trail" : Str) == "every") = false := by decide +kernel
  have e4 : (("trail" : Str) == "lowers") = false := by decide +kernel
  have e5 : (("trail" : Str) == "trail") = true := by decide +kernel
  simp only [List.lookup, e1, e2, e3, e4, e5]
def askNames : List Str := ["row", "plan", "every", "lowers", "trail"]
theorem ask_no {m : Str} (h : m ∉ askNames) : (askF r d ev lo tr).lookup m = none := by
  unfold askNames at h
  simp only [List.mem_cons, List.not_mem_nil, or_false, not_or] at h
  obtain ⟨h1, h2, h3, h4, h5⟩ := h
  have e : ∀ {x y : Str}, x ≠ y → (x == y) = false := fun h => beq_false_of_ne h
  unfold askF
  simp only [List.lookup, e h1, e h2, e h3, e h4, e h5]
theorem ask_puts (x1 x2 x3 x4 x5 : V) : putF "trail" x5 (putF "lowers" x4 (putF "every" x3 (putF "plan" x2 (putF "row" x1 [])))) =
    [(("row" : Str), x1), ("plan", x2), ("every", x3), ("lowers", x4), ("trail", x5)] := by
  have e1 : ¬ ("row" : Str) = "plan" := by decide +kernel
  have e2 : ¬ ("row" : Str) = "every" := by decide +kernel
  have e3 : ¬ ("row" : Str) = "lowers" := by decide +kernel
  have e4 : ¬ ("row" : Str) = "trail" := by decide +kernel
  have e5 : ¬ ("plan" : Str) = "every" := by decide +kernel
  have e6 : ¬ ("plan" : Str) = "lowers" := by decide +kernel
  have e7 : ¬ ("plan" : Str) = "trail" := by decide +kernel
  have e8 : ¬ ("every" : Str) = "lowers" := by decide +kernel
  have e9 : ¬ ("every" : Str) = "trail" := by decide +kernel
  have e0 : ¬ ("lowers" : Str) = "trail" := by decide +kernel
  simp only [putF, e1, e2, e3, e4, e5, e6, e7, e8, e9, e0, if_false]
end
theorem putF_le {f : Str} {v : V} {fs : List (Str × V)} {n : Nat} (h : fs.length ≤ n) : (putF f v fs).length ≤ n + 1 :=
  Nat.le_trans (length_putF _ _ _) (Nat.succ_le_succ h)
theorem lt1000 {n m : Nat} (h : n ≤ m) (h2 : m ≤ 50) : n < 1000 := by omega
/-- a plan's dict: the orders of addresses -/
def PlanAt (H : Hp) (d : Addr) (M : Md) (tr : Addr) : Prop := ∃ kvs : List (List Key × V), H d = some (.dT kvs) ∧
  ∀ adr : List Int, match M.ord adr with
    | none => valV kvs (adr.map Sum.inl) = none
    | some o => ∃ p : Addr, valV kvs (adr.map Sum.inl) = some (.ref p) ∧ H p = some (.lst (o.map fun i : Nat => V.int i)) ∧ p ≠ tr
theorem PlanAt.to {H H' : Hp} {d tr : Addr} {M : Md} {ts : List V} (h : PlanAt H d M tr) (e : ExB tr H H') (ht : H tr = some (.lst ts)) : PlanAt H' d M tr := by
  obtain ⟨kvs, h1, h2⟩ := h
  refine ⟨kvs, e _ _ (fun z => by subst z; rw [ht] at h1; cases h1) h1, fun adr => ?_⟩
  have h2 := h2 adr
  cases q : M.ord adr with
  | none => rw [q] at h2; exact h2
  | some o =>
    rw [q] at h2
    obtain ⟨p, h3, h4, h5⟩ := h2
    exact ⟨p, h3, e _ _ h5 h4, h5⟩
theorem plan0 {H : Hp} {d tr : Addr} (h : H d = some (.dT [])) : PlanAt H d Md0 tr := ⟨[], h, fun adr => rfl⟩
/-! ### what different parts weigh together -/
theorem sum_diff (f : Nat → Nat) : ∀ (n : Nat) (o : List Nat), o.Nodup → (∀ i ∈ o, i < n) → (o.map f).sum ≤ ((List.range n).map f).sum
  | 0, o, _, h => by
    cases o with
    | nil => simp
    | cons a o => exact absurd (h a List.mem_cons_self) (Nat.not_lt_zero _)
  | n + 1, o, nd, h => by
    have ih := sum_diff f n (o.filter fun i => decide (i ≠ n)) (nd.filter _) fun i hi => by
      obtain ⟨h1, h2⟩ := List.mem_filter.mp hi
      have := h i h1
      have := of_decide_eq_true h2
      omega
    have : ∀ l : List Nat, l.Nodup → (l.map f).sum ≤ ((l.filter fun i => decide (i ≠ n)).map f).sum + f n := by
      intro l
      induction l with
      | nil => intro _; simp
      | cons a l ihl =>
        intro nd
        obtain ⟨n1, n2⟩ := List.nodup_cons.mp nd
        by_cases e : a = n
        · subst e
          have : l.filter (fun i => decide (i ≠ a)) = l := List.filter_eq_self.mpr fun i hi => decide_eq_true fun z => n1 (z ▸ hi)
          rw [List.filter_cons_of_neg (by simp), this, List.map_cons, List.sum_cons]
          omega
        · rw [List.filter_cons_of_pos (by simp [e]), List.map_cons, List.map_cons, List.sum_cons, List.sum_cons]
          have := ihl n2
          omega
    have := this o nd
    rw [List.range_succ, List.map_append, List.sum_append]
    simp only [List.map_cons, List.map_nil, List.sum_cons, List.sum_nil]
    omega
def wAt (cs : List Cnd) (i : Nat) : Nat := match cs[i]? with | some c => c.weight | none => 0
theorem wAt_sum : ∀ cs : List Cnd, ((List.range cs.length).map (wAt cs)).sum ≤ Cnd.weightL cs
  | [] => by simp
  | c :: cs => by
    rw [List.length_cons, List.range_succ_eq_map, List.map_cons, List.sum_cons, List.map_map, Cnd.weightL]
    have e : (wAt (c :: cs) ∘ Nat.succ) = wAt cs := by funext i; simp [wAt]
    have e0 : wAt (c :: cs) 0 = c.weight := rfl
    rw [e, e0]
    have := wAt_sum cs
    omega
end Gx
namespace Gx
theorem nodup_len {n : Nat} {o : List Nat} (nd : o.Nodup) (h : ∀ i ∈ o, i < n) : o.length ≤ n := by
  have e : ∀ l : List Nat, (l.map fun _ => 1).sum = l.length := by
    intro l
    induction l with
    | nil => rfl
    | cons a l ih => rw [List.map_cons, List.sum_cons, ih, List.length_cons]; omega
  have := sum_diff (fun _ => 1) n o nd h
  rw [e, e, List.length_range] at this
  exact this
end Gx
namespace Gx
open PySem PySem.Spec PyProof.Rows L2 Evl
theorem flat_strs (f : List Str) : (f.map V.str).all flatV = true := by
  rw [List.all_eq_true]
  intro x hx
  obtain ⟨y, _, rfl⟩ := List.mem_map.mp hx
  rfl
theorem inV_strs (x : Str) (f : List Str) : inV (.str x) (f.map V.str) = decide (x ∈ f) := by
  unfold inV
  rw [List.any_map]
  by_cases h : x ∈ f
  · rw [decide_eq_true h, List.any_eq_true]
    exact ⟨x, h, by simp [eqV]⟩
  · rw [decide_eq_false h, List.any_eq_false]
    intro y hy e
    have e : (y == x) = true := e
    rw [beq_iff_eq] at e
    exact h (e ▸ hy)
end Gx

set_option Elab.async false
set_option linter.all false
set_option maxRecDepth 100000
set_option maxHeartbeats 4000000
/-! Targets that take a tuple or a list. -/
namespace Gx
open PySem PySem.Spec PyProof.Rows L2 Evl
theorem pg_or {X : Cx} {tg : Expr} {g1 g2 : TG} (h1 : PG X tg g1) (h2 : PG X tg g2) : PG X tg (fun v σ H Q => g1 v σ H Q ∨ g2 v σ H Q) :=
  ⟨fun pins s σ H v u Q I r h => h.elim (fun z => h1.run pins s σ H v u Q I r z) (fun z => h2.run pins s σ H v u Q I r z)⟩
end Gx

set_option linter.all false
/-! Stretches of integers, their lists in order: what is put together of them. -/
namespace Gx
abbrev Sx := Option Int × Option Int
namespace Spn
def has (p : Sx) (x : Int) : Prop := (∀ l, p.1 = some l → l ≤ x) ∧ (∀ h, p.2 = some h → x ≤ h)
def ok (p : Sx) : Prop := ∀ l h, p.1 = some l → p.2 = some h → l ≤ h
def hasL (s : List Sx) (x : Int) : Prop := ∃ p ∈ s, has p x
def Sep (p q : Sx) : Prop := ∃ h l, p.2 = some h ∧ q.1 = some l ∧ h + 1 < l
structure Canon (s : List Sx) : Prop where
  ok : ∀ p ∈ s, ok p
  sep : s.Pairwise Sep
theorem hasL_nil (x : Int) : ¬ hasL [] x := fun ⟨_, h, _⟩ => by cases h
theorem hasL_cons {p : Sx} {s : List Sx} {x : Int} : hasL (p :: s) x ↔ has p x ∨ hasL s x := by
  unfold hasL
  constructor
  · rintro ⟨q, hq, hx⟩
    rcases List.mem_cons.mp hq with rfl | hq
    · exact .inl hx
    · exact .inr ⟨q, hq, hx⟩
  · rintro (h | ⟨q, hq, hx⟩)
    · exact ⟨p, List.mem_cons_self, h⟩
    · exact ⟨q, List.mem_cons_of_mem _ hq, hx⟩
theorem hasL_append {s t : List Sx} {x : Int} : hasL (s ++ t) x ↔ hasL s x ∨ hasL t x := by
  induction s with
  | nil => simp [hasL_nil, hasL]
  | cons p s ih => rw [List.cons_append, hasL_cons, hasL_cons, ih, or_assoc]
theorem hasL_perm {s t : List Sx} (h : s.Perm t) {x : Int} : hasL s x ↔ hasL t x := by
  unfold hasL
  constructor
  · rintro ⟨p, hp, hx⟩; exact ⟨p, h.mem_iff.mp hp, hx⟩
  · rintro ⟨p, hp, hx⟩; exact ⟨p, h.mem_iff.mpr hp, hx⟩
theorem Canon.nil : Canon [] := ⟨by simp, .nil⟩
theorem Canon.tail {p : Sx} {s : List Sx} (h : Canon (p :: s)) : Canon s := ⟨fun q hq => h.ok q (List.mem_cons_of_mem _ hq), (List.pairwise_cons.mp h.sep).2⟩
theorem Canon.one {p : Sx} (h : Spn.ok p) : Canon [p] := ⟨by simpa using h, by simp⟩
theorem Canon.cons {p : Sx} {s : List Sx} (h : Spn.ok p) (h' : ∀ q ∈ s, Sep p q) (c : Canon s) : Canon (p :: s) :=
  ⟨fun q hq => by rcases List.mem_cons.mp hq with rfl | hq; exact h; exact c.ok q hq, List.pairwise_cons.mpr ⟨h', c.sep⟩⟩
theorem Sep.gt {p q : Sx} {x y : Int} (h : Sep p q) (hx : has p x) (hy : has q y) : x + 1 < y := by
  obtain ⟨a, b, e1, e2, e⟩ := h
  have := hx.2 a e1
  have := hy.1 b e2
  omega
theorem ok_has {p : Sx} (h : ok p) : ∃ x, has p x := by
  obtain ⟨l, u⟩ := p
  cases l with
  | some l => exact ⟨l, ⟨fun a e => (by cases e; omega), fun b e => h l b rfl e⟩⟩
  | none =>
    cases u with
    | some u => exact ⟨u, ⟨fun a e => (by cases e), fun b e => (by cases e; omega)⟩⟩
    | none => exact ⟨0, ⟨fun a e => (by cases e), fun b e => (by cases e)⟩⟩
/-- the low end of the first stretch bounds all -/
theorem Canon.low {p : Sx} {s : List Sx} {l x : Int} (c : Canon (p :: s)) (e : p.1 = some l) (h : hasL (p :: s) x) : l ≤ x := by
  rcases hasL_cons.mp h with h | ⟨q, hq, h⟩
  · exact h.1 l e
  · obtain ⟨a, b, e1, e2, e3⟩ := (List.pairwise_cons.mp c.sep).1 q hq
    have := h.1 b e2
    have := c.ok p List.mem_cons_self l a e e1
    omega
/-- what stands right behind the first stretch is in none -/
theorem Canon.behind {p : Sx} {s : List Sx} {u : Int} (c : Canon (p :: s)) (e : p.2 = some u) : ¬ hasL (p :: s) (u + 1) := by
  intro h
  rcases hasL_cons.mp h with h | ⟨q, hq, h⟩
  · have := h.2 u e; omega
  · obtain ⟨a, b, e1, e2, e3⟩ := (List.pairwise_cons.mp c.sep).1 q hq
    have := h.1 b e2
    rw [e] at e1; cases e1
    omega
theorem low_none {p q : Sx} {s t : List Sx} (c : Canon (p :: s)) (d : Canon (q :: t)) (h : ∀ x, hasL (p :: s) x → hasL (q :: t) x) (e : p.1 = none) : q.1 = none := by
  cases hq : q.1 with
  | none => rfl
  | some l =>
    exfalso
    obtain ⟨a, u⟩ := p
    dsimp only at e
    subst e
    cases u with
    | none =>
      have := d.low hq (h (l - 1) (hasL_cons.mpr (.inl ⟨fun _ z => (by cases z), fun _ z => (by cases z)⟩)))
      omega
    | some u =>
      have := d.low hq (h (min u (l - 1)) (hasL_cons.mpr (.inl ⟨fun _ z => (by cases z), fun _ z => (by cases z; omega)⟩)))
      omega
theorem low_le {p q : Sx} {s t : List Sx} {a b : Int} (c : Canon (p :: s)) (d : Canon (q :: t)) (h : ∀ x, hasL (p :: s) x → hasL (q :: t) x) (ea : p.1 = some a) (eb : q.1 = some b) : b ≤ a := by
  have hp : has p a := ⟨fun l z => by rw [ea] at z; cases z; omega, fun u z => c.ok p List.mem_cons_self a u ea z⟩
  exact d.low eb (h a (hasL_cons.mpr (.inl hp)))
theorem low_eq {p q : Sx} {s t : List Sx} (c : Canon (p :: s)) (d : Canon (q :: t)) (h : ∀ x, hasL (p :: s) x ↔ hasL (q :: t) x) : p.1 = q.1 := by
  cases e : p.1 with
  | none => exact (low_none c d (fun x => (h x).mp) e).symm
  | some a =>
    cases e' : q.1 with
    | none => rw [low_none d c (fun x => (h x).mpr) e'] at e; cases e
    | some b =>
      have h1 := low_le c d (fun x => (h x).mp) e e'
      have h2 := low_le d c (fun x => (h x).mpr) e' e
      congr 1; omega
theorem high_le {p q : Sx} {s t : List Sx} {u : Int} (c : Canon (p :: s)) (d : Canon (q :: t)) (h : ∀ x, hasL (p :: s) x ↔ hasL (q :: t) x) (e : q.2 = some u) : ∃ v, p.2 = some v ∧ v ≤ u := by
  have l := low_eq c d h
  have no : ¬ has p (u + 1) := fun z => d.behind e ((h _).mp (hasL_cons.mpr (.inl z)))
  have lo : ∀ a, p.1 = some a → a ≤ u := fun a ea => d.ok q List.mem_cons_self a u (by rw [← l]; exact ea) e
  cases hp : p.2 with
  | none => exact absurd ⟨fun a ea => by have := lo a ea; omega, fun b eb => by rw [hp] at eb; cases eb⟩ no
  | some v =>
    refine ⟨v, rfl, ?_⟩
    by_cases q : v ≤ u
    · exact q
    · exact absurd ⟨fun a ea => by have := lo a ea; omega, fun b eb => by rw [hp] at eb; cases eb; omega⟩ no
theorem high_eq {p q : Sx} {s t : List Sx} (c : Canon (p :: s)) (d : Canon (q :: t)) (h : ∀ x, hasL (p :: s) x ↔ hasL (q :: t) x) : p.2 = q.2 := by
  cases e : q.2 with
  | some u =>
    obtain ⟨v, e1, h1⟩ := high_le c d h e
    obtain ⟨u', e2, h2⟩ := high_le d c (fun x => (h x).symm) e1
    rw [e] at e2; cases e2
    rw [e1]; congr 1; omega
  | none =>
    cases e' : p.2 with
    | none => rfl
    | some v =>
      obtain ⟨u', e2, h2⟩ := high_le d c (fun x => (h x).symm) e'
      rw [e] at e2; cases e2
/-- lists of one and the same lot are the same -/
theorem canon_eq : ∀ {s t : List Sx}, Canon s → Canon t → (∀ x, hasL s x ↔ hasL t x) → s = t
  | [], [], _, _, _ => rfl
  | [], q :: t, _, d, h => by
    obtain ⟨x, hx⟩ := ok_has (d.ok q List.mem_cons_self)
    exact absurd ((h x).mpr (hasL_cons.mpr (.inl hx))) (hasL_nil x)
  | p :: s, [], c, _, h => by
    obtain ⟨x, hx⟩ := ok_has (c.ok p List.mem_cons_self)
    exact absurd ((h x).mp (hasL_cons.mpr (.inl hx))) (hasL_nil x)
  | p :: s, q :: t, c, d, h => by
    have e : p = q := Prod.ext (low_eq c d h) (high_eq c d h)
    subst e
    have cut : ∀ {s t : List Sx}, Canon (p :: s) → (∀ x, hasL (p :: s) x → hasL (p :: t) x) → ∀ x, hasL s x → hasL t x := fun {s t} c h x hx => by
      rcases hasL_cons.mp (h x (hasL_cons.mpr (.inr hx))) with z | z
      · obtain ⟨r, hr, y⟩ := hx
        have := ((List.pairwise_cons.mp c.sep).1 r hr).gt z y
        omega
      · exact z
    rw [canon_eq c.tail d.tail fun x => ⟨cut c (fun x => (h x).mp) x, cut d (fun x => (h x).mpr) x⟩]
-- ---- put in order and joined
def joinGo : Sx → List Sx → List Sx
  | c, [] => [c]
  | (f, none), _ :: _ => [(f, none)]
  | (f, some l), (none, none) :: r => joinGo (f, none) r
  | (f, some l), (none, some u) :: r => if u > l then joinGo (f, some u) r else joinGo (f, some l) r
  | (f, some l), (some a, u) :: r => if a > l + 1 then (f, some l) :: joinGo (some a, u) r else
      match u with
      | none => joinGo (f, none) r
      | some u => if u > l then joinGo (f, some u) r else joinGo (f, some l) r
/-- low ends, one behind the other -/
def lowLe (p q : Sx) : Prop := ∀ b, q.1 = some b → ∀ a, p.1 = some a → a ≤ b
def LowLe (p q : Sx) : Prop := lowLe p q ∧ (p.1 ≠ none → q.1 ≠ none)
theorem joinGo_low {a : Int} : ∀ {c : Sx} {r : List Sx}, (∃ b, c.1 = some b ∧ a ≤ b) → (∀ q ∈ r, ∃ b, q.1 = some b ∧ a ≤ b) → ∀ q ∈ joinGo c r, ∃ b, q.1 = some b ∧ a ≤ b
  | c, [], e, _, q, hq => by
    simp only [joinGo, List.mem_singleton] at hq
    subst hq
    exact e
  | (f, none), _ :: _, e, _, q, hq => by
    simp only [joinGo, List.mem_singleton] at hq
    subst hq
    exact e
  | (f, some l), (none, none) :: r, e, h, q, hq => by
    obtain ⟨b, z, _⟩ := h _ List.mem_cons_self
    cases z
  | (f, some l), (none, some u) :: r, e, h, q, hq => by
    obtain ⟨b, z, _⟩ := h _ List.mem_cons_self
    cases z
  | (f, some l), (some b, u) :: r, e, h, q, hq => by
    have hr : ∀ q ∈ r, ∃ b, q.1 = some b ∧ a ≤ b := fun q hq => h q (List.mem_cons_of_mem _ hq)
    obtain ⟨b', z, hb⟩ := h _ List.mem_cons_self
    cases z
    unfold joinGo at hq
    split at hq
    · rcases List.mem_cons.mp hq with rfl | hq
      · exact e
      · exact joinGo_low ⟨_, rfl, hb⟩ hr q hq
    · cases u with
      | none => exact joinGo_low (c := (f, none)) e hr q hq
      | some u =>
        dsimp only at hq
        split at hq
        · exact joinGo_low (c := (f, some u)) e hr q hq
        · exact joinGo_low (c := (f, some l)) e hr q hq
/-- in order of the low ends -/
def Low : Option Int → Option Int → Prop
  | none, _ => True
  | some _, none => False
  | some a, some b => a ≤ b
theorem Low.trans {a b c : Option Int} (h : Low a b) (h' : Low b c) : Low a c := by
  cases a <;> cases b <;> cases c <;> simp_all [Low]
  omega
def Ord (s : List Sx) : Prop := s.Pairwise fun p q => Low p.1 q.1
theorem has_same {f : Option Int} {l u x : Int} {a : Option Int} (hok : Spn.ok (a, some u)) (hul : ¬ u > l) (hlow : Low f a) (hal : ∀ b, a = some b → ¬ b > l + 1) :
    has (f, some l) x ↔ has (f, some l) x ∨ has (a, some u) x := by
  constructor
  · exact .inl
  · rintro (h | h)
    · exact h
    · refine ⟨fun c e => ?_, fun c e => ?_⟩
      · dsimp only at e; subst e
        cases a with
        | none => exact hlow.elim
        | some b => have := h.1 b rfl; have : c ≤ b := hlow; omega
      · cases e; have := h.2 u rfl; omega
theorem has_more {f : Option Int} {l x : Int} {u a : Option Int} (hul : ∀ v, u = some v → v > l) (hlow : Low f a) (hal : ∀ b, a = some b → ¬ b > l + 1) :
    has (f, u) x ↔ has (f, some l) x ∨ has (a, u) x := by
  constructor
  · intro h
    by_cases q : x ≤ l
    · exact .inl ⟨h.1, fun c e => by cases e; exact q⟩
    · refine .inr ⟨fun b e => ?_, h.2⟩
      have := hal b e
      omega
  · rintro (h | h)
    · exact ⟨h.1, fun c e => by have := hul c e; have := h.2 l rfl; omega⟩
    · refine ⟨fun c e => ?_, h.2⟩
      dsimp only at e; subst e
      cases a with
      | none => exact hlow.elim
      | some b => have := h.1 b rfl; have : c ≤ b := hlow; omega
theorem joinGo_ok : ∀ {c : Sx} {r : List Sx}, Spn.ok c → (∀ q ∈ r, Spn.ok q) → Ord (c :: r) → Canon (joinGo c r) ∧ ∀ x, hasL (joinGo c r) x ↔ hasL (c :: r) x
  | c, [], h, _, _ => by
    have e : joinGo c [] = [c] := by unfold joinGo; rfl
    rw [e]
    exact ⟨.one h, fun x => Iff.rfl⟩
  | (f, none), q :: r, h, hr, ho => by
    simp only [joinGo]
    refine ⟨.one h, fun x => ?_⟩
    rw [hasL_cons, hasL_cons]
    constructor
    · rintro (h | h)
      · exact .inl h
      · exact absurd h (hasL_nil x)
    · rintro (h | ⟨p, hp, hx⟩)
      · exact .inl h
      · refine .inl ⟨fun a e => ?_, fun a e => by cases e⟩
        have := (List.pairwise_cons.mp ho).1 p hp
        dsimp only at e this
        rw [e] at this
        obtain ⟨lo, hi⟩ := p
        cases lo with
        | none => exact this.elim
        | some b => have := hx.1 b rfl; have h2 : a ≤ b := by assumption
                    omega
  | (f, some l), (a, u) :: r, h, hr, ho => by
    have hr' : ∀ q ∈ r, Spn.ok q := fun q hq => hr q (List.mem_cons_of_mem _ hq)
    have hq : Spn.ok (a, u) := hr _ List.mem_cons_self
    obtain ⟨o1, o2⟩ := List.pairwise_cons.mp ho
    obtain ⟨o3, o4⟩ := List.pairwise_cons.mp o2
    have lo : Low f a := o1 _ List.mem_cons_self
    have ordf : ∀ v : Option Int, Ord ((f, v) :: r) := fun v => List.pairwise_cons.mpr ⟨fun p hp => lo.trans (o3 p hp), o4⟩
    -- the stretch grows
    have grow : (∀ b, a = some b → ¬ b > l + 1) → (∀ v, u = some v → v > l) → Canon (joinGo (f, u) r) ∧ ∀ x, hasL (joinGo (f, u) r) x ↔ hasL ((f, some l) :: (a, u) :: r) x := fun h1 h2 => by
      have okf : Spn.ok (f, u) := fun x y ex ey => by
        dsimp only at ex ey; subst ex; subst ey
        have := h x l rfl rfl
        have := h2 y rfl
        omega
      obtain ⟨c, m⟩ := joinGo_ok okf hr' (ordf u)
      refine ⟨c, fun x => ?_⟩
      rw [m, hasL_cons, hasL_cons, hasL_cons, ← or_assoc, ← has_more h2 lo h1]
    have stay : ∀ v, u = some v → (∀ b, a = some b → ¬ b > l + 1) → ¬ v > l → Canon (joinGo (f, some l) r) ∧ ∀ x, hasL (joinGo (f, some l) r) x ↔ hasL ((f, some l) :: (a, u) :: r) x := fun v e h1 h2 => by
      subst e
      obtain ⟨c, m⟩ := joinGo_ok h hr' (ordf (some l))
      refine ⟨c, fun x => ?_⟩
      rw [m, hasL_cons, hasL_cons, hasL_cons, ← or_assoc, ← has_same hq h2 lo h1]
    match a, u, lo, hq, o3, grow, stay with
    | none, none, _, _, _, grow, _ => exact grow (fun b e => (by cases e)) (fun v e => (by cases e))
    | none, some u, _, _, _, grow, stay =>
      unfold joinGo
      split
      · rename_i g
        exact grow (fun b e => by cases e) (fun v e => by cases e; exact g)
      · rename_i g
        exact stay u rfl (fun b e => by cases e) g
    | some a, u, lo, hq, o3, grow, stay =>
      unfold joinGo
      split
      · rename_i g
        obtain ⟨c, m⟩ := joinGo_ok hq hr' o2
        have lows := joinGo_low (a := a) (c := (some a, u)) (r := r) ⟨a, rfl, Int.le_refl a⟩ fun q hq => by
          have := o3 q hq
          cases e : q.1 with
          | none => rw [e] at this; exact this.elim
          | some b => rw [e] at this; exact ⟨b, rfl, this⟩
        refine ⟨.cons h (fun q hq => ?_) c, fun x => ?_⟩
        · obtain ⟨b, e, hb⟩ := lows q hq
          exact ⟨l, b, rfl, e, by omega⟩
        · rw [hasL_cons, m, hasL_cons (p := (f, some l))]
      · rename_i g
        cases u with
        | none => exact grow (fun b e => by cases e; exact g) (fun v e => by cases e)
        | some u =>
          dsimp only
          split
          · rename_i g'
            exact grow (fun b e => by cases e; exact g) (fun v e => by cases e; exact g')
          · rename_i g'
            exact stay u rfl (fun b e => by cases e; exact g) g'
/-- the low end, where there is one -/
def lowV (p : Sx) : Int := p.1.getD 0
def ordered (s : List Sx) : List Sx := s.filter (fun p => p.1.isNone) ++ (s.filter (fun p => p.1.isSome)).mergeSort (fun p q => decide (lowV p ≤ lowV q))
def joined (s : List Sx) : List Sx := if s.length < 2 then s else match ordered s with
  | [] => []
  | c :: r => joinGo c r
theorem ordered_perm (s : List Sx) : (ordered s).Perm s := by
  unfold ordered
  refine ((List.Perm.refl _).append (List.mergeSort_perm _ _)).trans ?_
  have e : s.filter (fun p => p.1.isSome) = s.filter (fun p => !(p.1.isNone)) := by
    congr 1; funext p; cases p.1 <;> rfl
  rw [e]
  exact List.filter_append_perm (fun p : Sx => p.1.isNone) s
theorem ordered_ord (s : List Sx) : Ord (ordered s) := by
  unfold ordered Ord
  rw [List.pairwise_append]
  refine ⟨?_, ?_, ?_⟩
  · refine List.Pairwise.imp_of_mem (R := fun _ _ => True) (fun {p q} hp hq _ => ?_) (List.pairwise_of_forall fun _ _ => trivial)
    have := (List.mem_filter.mp hp).2
    cases e : p.1 with
    | none => trivial
    | some a => rw [e] at this; cases this
  · have h := List.pairwise_mergeSort (le := fun p q : Sx => decide (lowV p ≤ lowV q)) (fun a b c h1 h2 => by simp at *; omega) (fun a b => by simp; omega) (s.filter (fun p => p.1.isSome))
    refine h.imp_of_mem ?_
    intro p q hp hq h
    have p1 := (List.mem_filter.mp (List.mem_mergeSort.mp hp)).2
    have q1 := (List.mem_filter.mp (List.mem_mergeSort.mp hq)).2
    obtain ⟨a, pu⟩ := p
    obtain ⟨b, qu⟩ := q
    cases a with
    | none => trivial
    | some a =>
      cases b with
      | none => cases q1
      | some b => exact (of_decide_eq_true h : a ≤ b)
  · intro p hp q hq
    have := (List.mem_filter.mp hp).2
    cases e : p.1 with
    | none => trivial
    | some a => rw [e] at this; cases this
theorem joined_ok {s : List Sx} (h : ∀ p ∈ s, Spn.ok p) : Canon (joined s) ∧ ∀ x, hasL (joined s) x ↔ hasL s x := by
  unfold joined
  split
  · rename_i hl
    match s, hl, h with
    | [], _, _ => exact ⟨.nil, fun x => Iff.rfl⟩
    | [p], _, h => exact ⟨.one (h p List.mem_cons_self), fun x => Iff.rfl⟩
    | _ :: _ :: _, hl, _ => simp at hl; omega
  · have hp := ordered_perm s
    have ho := ordered_ord s
    have hok : ∀ p ∈ ordered s, Spn.ok p := fun p z => h p (hp.mem_iff.mp z)
    generalize ordered s = o at hp ho hok ⊢
    cases o with
    | nil => exact ⟨.nil, fun x => hasL_perm hp⟩
    | cons c r =>
      obtain ⟨cc, m⟩ := joinGo_ok (hok c List.mem_cons_self) (fun q hq => hok q (List.mem_cons_of_mem _ hq)) ho
      exact ⟨cc, fun x => (m x).trans (hasL_perm hp)⟩
theorem joinGo_len : ∀ (c : Sx) (r : List Sx), (joinGo c r).length ≤ r.length + 1
  | c, [] => by rw [joinGo]; simp
  | (f, none), _ :: _ => by rw [joinGo]; simp
  | (f, some l), (none, none) :: r => by rw [joinGo]; have := joinGo_len (f, none) r; simp; omega
  | (f, some l), (none, some u) :: r => by
    rw [joinGo]
    have h1 := joinGo_len (f, some u) r
    have h2 := joinGo_len (f, some l) r
    split <;> (simp only [List.length_cons]; omega)
  | (f, some l), (some a, u) :: r => by
    have h0 := joinGo_len (some a, u) r
    have h1 := joinGo_len (f, none) r
    have h2 := joinGo_len (f, some l) r
    conv => lhs; unfold joinGo
    split
    · simp only [List.length_cons]; omega
    · cases u with
      | none => simp only [List.length_cons]; omega
      | some u =>
        have h3 := joinGo_len (f, some u) r
        dsimp only
        split <;> (simp only [List.length_cons]; omega)
theorem joined_len (s : List Sx) : (joined s).length ≤ s.length := by
  unfold joined
  split
  · exact Nat.le_refl _
  · have hp := (ordered_perm s).length_eq
    cases e : ordered s with
    | nil => simp
    | cons c r =>
      rw [e] at hp
      have := joinGo_len c r
      simp at hp
      dsimp only
      omega
-- ---- what lies between
def betw (s : List Sx) : List Sx := (s.zip s.tail).map fun z => (z.1.2.map (· + 1), z.2.1.map (· - 1))
def below (s : List Sx) : List Sx := match s.head? with
  | some (some l, _) => [(none, some (l - 1))]
  | _ => []
def above (s : List Sx) : List Sx := match s.getLast? with
  | some (_, some h) => [(some (h + 1), none)]
  | _ => []
def gaps (s : List Sx) : List Sx := if s = [] then [(none, none)] else below s ++ betw s ++ above s
def gapsGo : Sx → List Sx → List Sx
  | p, [] => match p.2 with
    | none => []
    | some h => [(some (h + 1), none)]
  | p, q :: r => (p.2.map (· + 1), q.1.map (· - 1)) :: gapsGo q r
theorem gapsGo_eq : ∀ (p : Sx) (r : List Sx), gapsGo p r = betw (p :: r) ++ above (p :: r)
  | (a, none), [] => rfl
  | (a, some h), [] => rfl
  | p, q :: r => by
    unfold gapsGo
    rw [gapsGo_eq q r]
    have e : betw (p :: q :: r) = (p.2.map (· + 1), q.1.map (· - 1)) :: betw (q :: r) := rfl
    have e2 : above (p :: q :: r) = above (q :: r) := by
      unfold above
      rw [List.getLast?_cons_cons]
    rw [e, e2]
    rfl
theorem gapsGo_ok : ∀ {p : Sx} {r : List Sx}, Canon (p :: r) → Canon (gapsGo p r) ∧ (∀ q ∈ gapsGo p r, ∃ h l, p.2 = some h ∧ q.1 = some l ∧ h < l) ∧
    ∀ x, hasL (gapsGo p r) x ↔ (∃ h, p.2 = some h ∧ h < x) ∧ ¬ hasL r x
  | (a, none), [], c => by
    refine ⟨.nil, fun q hq => (by cases hq), fun x => ⟨fun h => absurd h (hasL_nil x), fun h => ?_⟩⟩
    obtain ⟨⟨b, e, _⟩, _⟩ := h
    cases e
  | (a, some h), [], c => by
    have e : gapsGo (a, some h) [] = [(some (h + 1), none)] := rfl
    rw [e]
    refine ⟨.one fun x y e1 e2 => (by cases e2), fun q hq => ?_, fun x => ?_⟩
    · rw [List.mem_singleton] at hq; subst hq
      exact ⟨h, h + 1, rfl, rfl, by omega⟩
    · rw [hasL_cons]
      constructor
      · rintro (z | z)
        · exact ⟨⟨h, rfl, by have := z.1 _ rfl; omega⟩, hasL_nil x⟩
        · exact absurd z (hasL_nil x)
      · rintro ⟨⟨b, e, hb⟩, _⟩
        cases e
        exact .inl ⟨fun y e => (by cases e; omega), fun y e => by cases e⟩
  | p, q :: r, c => by
    obtain ⟨h, l, e1, e2, hl⟩ := (List.pairwise_cons.mp c.sep).1 q List.mem_cons_self
    obtain ⟨cc, lows, m⟩ := gapsGo_ok c.tail
    have okq := c.ok q (List.mem_cons_of_mem _ List.mem_cons_self)
    have e : gapsGo p (q :: r) = (some (h + 1), some (l - 1)) :: gapsGo q r := by
      rw [gapsGo, e1, e2]; rfl
    rw [e]
    refine ⟨.cons (fun x y ex ey => by cases ex; cases ey; omega) (fun z hz => ?_) cc, fun z hz => ?_, fun x => ?_⟩
    · obtain ⟨h', l', g1, g2, g3⟩ := lows z hz
      have := okq l h' e2 g1
      exact ⟨l - 1, l', rfl, g2, by omega⟩
    · rcases List.mem_cons.mp hz with rfl | hz
      · exact ⟨h, h + 1, e1, rfl, by omega⟩
      · obtain ⟨h', l', g1, g2, g3⟩ := lows z hz
        have := okq l h' e2 g1
        exact ⟨h, l', e1, g2, by omega⟩
    · rw [hasL_cons, hasL_cons, m]
      constructor
      · rintro (z | ⟨⟨h', g1, g2⟩, z⟩)
        · have z1 := z.1 _ rfl
          have z2 := z.2 _ rfl
          refine ⟨⟨h, e1, by omega⟩, ?_⟩
          rintro (y | y)
          · have := y.1 l e2; omega
          · have := c.tail.low e2 (hasL_cons.mpr (.inr y)); omega
        · have := okq l h' e2 g1
          refine ⟨⟨h, e1, by omega⟩, ?_⟩
          rintro (y | y)
          · have := y.2 h' g1; omega
          · exact z y
      · rintro ⟨⟨h', g1, g2⟩, z⟩
        rw [e1] at g1; cases g1
        by_cases k : x < l
        · exact .inl ⟨fun y e => (by cases e; omega), fun y e => by cases e; omega⟩
        · refine .inr ⟨?_, fun y => z (.inr y)⟩
          cases hq : q.2 with
          | none => exact absurd (.inl ⟨fun y e => (by rw [e2] at e; cases e; omega), fun y e => by rw [hq] at e; cases e⟩) z
          | some u =>
            refine ⟨u, rfl, ?_⟩
            by_cases k2 : u < x
            · exact k2
            · exact absurd (.inl ⟨fun y e => (by rw [e2] at e; cases e; omega), fun y e => by rw [hq] at e; cases e; omega⟩) z
theorem gaps_ok {s : List Sx} (c : Canon s) : Canon (gaps s) ∧ ∀ x, hasL (gaps s) x ↔ ¬ hasL s x := by
  match s, c with
  | [], _ =>
    have e : gaps [] = [(none, none)] := rfl
    rw [e]
    refine ⟨.one fun x y e1 e2 => (by cases e1), fun x => ⟨fun _ => hasL_nil x, fun _ => ⟨_, List.mem_cons_self, fun y e => (by cases e), fun y e => by cases e⟩⟩⟩
  | p :: r, c =>
    obtain ⟨cc, lows, m⟩ := gapsGo_ok c
    have e : gaps (p :: r) = below (p :: r) ++ gapsGo p r := by
      unfold gaps
      rw [if_neg (by simp), List.append_assoc, gapsGo_eq]
    rw [e]
    obtain ⟨a, u⟩ := p
    cases a with
    | none =>
      have e : below ((none, u) :: r) = [] := rfl
      rw [e, List.nil_append]
      refine ⟨cc, fun x => ?_⟩
      rw [m, hasL_cons]
      constructor
      · rintro ⟨⟨h, e, hx⟩, z⟩
        rintro (y | y)
        · have := y.2 h e; omega
        · exact z y
      · intro z
        refine ⟨?_, fun y => z (.inr y)⟩
        cases u with
        | none => exact absurd (.inl ⟨fun y e => (by cases e), fun y e => by cases e⟩) z
        | some u =>
          refine ⟨u, rfl, ?_⟩
          by_cases k2 : u < x
          · exact k2
          · exact absurd (.inl ⟨fun y e => (by cases e), fun y e => by cases e; omega⟩) z
    | some a =>
      have e : below ((some a, u) :: r) = [(none, some (a - 1))] := rfl
      rw [e]
      have okp := c.ok _ List.mem_cons_self
      refine ⟨.cons (fun x y ex ey => by cases ex) (fun z hz => ?_) cc, fun x => ?_⟩
      · obtain ⟨h, l, g1, g2, g3⟩ := lows z hz
        have := okp a h rfl g1
        exact ⟨a - 1, l, rfl, g2, by omega⟩
      · rw [List.singleton_append, hasL_cons, m, hasL_cons]
        constructor
        · rintro (z | ⟨⟨h, e, hx⟩, z⟩)
          · have := z.2 _ rfl
            rintro (y | y)
            · have := y.1 a rfl; omega
            · have := c.low rfl (hasL_cons.mpr (.inr y)); omega
          · rintro (y | y)
            · have := y.2 h e; omega
            · exact z y
        · intro z
          by_cases k : x < a
          · exact .inl ⟨fun y e => (by cases e), fun y e => by cases e; omega⟩
          · refine .inr ⟨?_, fun y => z (.inr y)⟩
            cases u with
            | none => exact absurd (.inl ⟨fun y e => (by cases e; omega), fun y e => by cases e⟩) z
            | some u =>
              refine ⟨u, rfl, ?_⟩
              by_cases k2 : u < x
              · exact k2
              · exact absurd (.inl ⟨fun y e => (by cases e; omega), fun y e => by cases e; omega⟩) z
-- ---- what both have
def later : Option Int → Option Int → Option Int
  | none, b => b
  | some a, none => some a
  | some a, some b => some (if b > a then b else a)
def earlier : Option Int → Option Int → Bool
  | none, _ => false
  | some _, none => true
  | some a, some b => decide (a < b)
def stands : Sx → Bool
  | (some a, some b) => decide (a ≤ b)
  | _ => true
def met : List Sx → List Sx → List Sx
  | [], _ => []
  | _ :: _, [] => []
  | a :: s, b :: t =>
    if earlier a.2 b.2 = true then (if stands (later a.1 b.1, a.2) = true then [(later a.1 b.1, a.2)] else []) ++ met s (b :: t)
    else (if stands (later a.1 b.1, b.2) = true then [(later a.1 b.1, b.2)] else []) ++ met (a :: s) t
termination_by s t => s.length + t.length
theorem later_le {a b : Option Int} {x : Int} : (∀ l, later a b = some l → l ≤ x) ↔ (∀ l, a = some l → l ≤ x) ∧ (∀ l, b = some l → l ≤ x) := by
  cases a with
  | none => simp [later]
  | some a =>
    cases b with
    | none => simp [later]
    | some b =>
      simp only [later, Option.some.injEq, forall_eq']
      split <;> omega
theorem stands_iff {p : Sx} : stands p = true ↔ ok p := by
  obtain ⟨a, b⟩ := p
  cases a <;> cases b <;> simp [stands, ok]
theorem one_has {p : Sx} {x : Int} : hasL (if stands p = true then [p] else []) x ↔ has p x := by
  split
  · rw [hasL_cons]
    exact ⟨fun h => h.elim id fun h => absurd h (hasL_nil x), .inl⟩
  · rename_i h
    refine ⟨fun z => absurd z (hasL_nil x), fun z => absurd (stands_iff.mpr fun l u e1 e2 => ?_) h⟩
    have := z.1 l e1
    have := z.2 u e2
    omega
theorem met_low : ∀ {s t : List Sx} {q : Sx}, q ∈ met s t → ∃ a ∈ s, ∃ b ∈ t, q.1 = later a.1 b.1 ∧ ok q
  | [], t, q, h => by unfold met at h; cases h
  | a :: s, [], q, h => by unfold met at h; cases h
  | a :: s, b :: t, q, h => by
    unfold met at h
    split at h
    · rcases List.mem_append.mp h with h | h
      · split at h
        · rename_i k
          rw [List.mem_singleton] at h; subst h
          exact ⟨a, List.mem_cons_self, b, List.mem_cons_self, rfl, stands_iff.mp k⟩
        · cases h
      · obtain ⟨a', ha, b', hb, e⟩ := met_low h
        exact ⟨a', List.mem_cons_of_mem _ ha, b', hb, e⟩
    · rcases List.mem_append.mp h with h | h
      · split at h
        · rename_i k
          rw [List.mem_singleton] at h; subst h
          exact ⟨a, List.mem_cons_self, b, List.mem_cons_self, rfl, stands_iff.mp k⟩
        · cases h
      · obtain ⟨a', ha, b', hb, e⟩ := met_low h
        exact ⟨a', ha, b', List.mem_cons_of_mem _ hb, e⟩
termination_by s t => s.length + t.length
theorem later_ge {a b : Option Int} {l : Int} (h : later a b = some l) : (∀ x, a = some x → x ≤ l) ∧ (∀ x, b = some x → x ≤ l) := later_le.mp fun y e => by rw [h] at e; cases e; exact Int.le_refl _
theorem later_none {a b : Option Int} (h : later a b = none) : a = none ∧ b = none := by
  cases a <;> cases b <;> simp_all [later]
theorem cons_canon {p : Sx} {s : List Sx} (h : ∀ q ∈ s, Sep p q) (c : Canon s) : Canon ((if stands p = true then [p] else []) ++ s) := by
  split
  · rename_i k
    exact .cons (stands_iff.mp k) h c
  · exact c
theorem met_ok : ∀ {s t : List Sx}, Canon s → Canon t → Canon (met s t) ∧ ∀ x, hasL (met s t) x ↔ hasL s x ∧ hasL t x
  | [], t, _, _ => by
    have e : met [] t = [] := by unfold met; rfl
    rw [e]
    exact ⟨.nil, fun x => ⟨fun h => absurd h (hasL_nil x), fun h => absurd h.1 (hasL_nil x)⟩⟩
  | a :: s, [], _, _ => by
    have e : met (a :: s) [] = [] := by unfold met; rfl
    rw [e]
    exact ⟨.nil, fun x => ⟨fun h => absurd h (hasL_nil x), fun h => absurd h.2 (hasL_nil x)⟩⟩
  | a :: s, b :: t, c, d => by
    unfold met
    split
    · rename_i k
      obtain ⟨cc, m⟩ := met_ok c.tail d
      obtain ⟨h, eh⟩ : ∃ h, a.2 = some h := by
        cases e : a.2 with
        | none => rw [e] at k; cases k
        | some h => exact ⟨h, rfl⟩
      have kb : ∀ u, b.2 = some u → h < u := fun u e => by rw [eh, e] at k; exact of_decide_eq_true k
      refine ⟨cons_canon (fun q hq => ?_) cc, fun x => ?_⟩
      · obtain ⟨a', ha, b', hb, e, o⟩ := met_low hq
        obtain ⟨h', l, e1, e2, e3⟩ := (List.pairwise_cons.mp c.sep).1 a' ha
        rw [eh] at e1; cases e1
        cases e4 : q.1 with
        | none => rw [e4] at e; rw [(later_none e.symm).1] at e2; cases e2
        | some m =>
          have := (later_ge (e.symm.trans e4)).1 l e2
          exact ⟨h, m, eh, e4, by omega⟩
      · rw [hasL_append, one_has, m, hasL_cons (p := a), hasL_cons (p := b)]
        have l : has (later a.1 b.1, a.2) x ↔ has a x ∧ (has b x ∨ hasL t x) := by
          constructor
          · intro z
            have z1 := later_le.mp z.1
            have zh := z.2 h eh
            exact ⟨⟨z1.1, z.2⟩, .inl ⟨z1.2, fun u e => by have := kb u e; omega⟩⟩
          · rintro ⟨z, y | y⟩
            · exact ⟨later_le.mpr ⟨z.1, y.1⟩, z.2⟩
            · obtain ⟨q, hq, y⟩ := y
              obtain ⟨u, l, e1, e2, e3⟩ := (List.pairwise_cons.mp d.sep).1 q hq
              have := y.1 l e2
              have := z.2 h eh
              have := kb u e1
              omega
        rw [l]
        constructor
        · rintro (⟨z, y⟩ | ⟨z, y⟩)
          · exact ⟨.inl z, y⟩
          · exact ⟨.inr z, y⟩
        · rintro ⟨z | z, y⟩
          · exact .inl ⟨z, y⟩
          · exact .inr ⟨z, y⟩
    · rename_i k
      obtain ⟨cc, m⟩ := met_ok c d.tail
      have kb : ∀ u, b.2 = some u → ∀ h, a.2 = some h → u ≤ h := fun u e h e' => by
        rw [e', e] at k
        simp only [earlier, decide_eq_true_eq] at k
        omega
      have kn : b.2 = none → a.2 = none := fun e => by
        cases e' : a.2 with
        | none => rfl
        | some h => rw [e', e] at k; exact absurd rfl k
      refine ⟨cons_canon (fun q hq => ?_) cc, fun x => ?_⟩
      · obtain ⟨a', ha, b', hb, e, o⟩ := met_low hq
        obtain ⟨h', l, e1, e2, e3⟩ := (List.pairwise_cons.mp d.sep).1 b' hb
        cases e4 : q.1 with
        | none => rw [e4] at e; rw [(later_none e.symm).2] at e2; cases e2
        | some m =>
          have := (later_ge (e.symm.trans e4)).2 l e2
          exact ⟨h', m, e1, e4, by omega⟩
      · rw [hasL_append, one_has, m, hasL_cons (p := a), hasL_cons (p := b)]
        have l : has (later a.1 b.1, b.2) x ↔ (has a x ∨ hasL s x) ∧ has b x := by
          constructor
          · intro z
            have z1 := later_le.mp z.1
            refine ⟨.inl ⟨z1.1, fun u e => ?_⟩, ⟨z1.2, z.2⟩⟩
            cases e' : b.2 with
            | none => rw [kn e'] at e; cases e
            | some v => have := z.2 v e'; have := kb v e' u e; omega
          · rintro ⟨y | y, z⟩
            · exact ⟨later_le.mpr ⟨y.1, z.1⟩, z.2⟩
            · obtain ⟨q, hq, y⟩ := y
              obtain ⟨u, l, e1, e2, e3⟩ := (List.pairwise_cons.mp c.sep).1 q hq
              have := y.1 l e2
              cases e' : b.2 with
              | none => rw [kn e'] at e1; cases e1
              | some v => have := z.2 v e'; have := kb v e' u e1; omega
        rw [l]
        constructor
        · rintro (⟨z, y⟩ | ⟨z, y⟩)
          · exact ⟨z, .inl y⟩
          · exact ⟨z, .inr y⟩
        · rintro ⟨z, y | y⟩
          · exact .inl ⟨z, y⟩
          · exact .inr ⟨z, y⟩
termination_by s t => s.length + t.length
theorem met_cons (a b : Sx) (s t : List Sx) : met (a :: s) (b :: t) =
    if earlier a.2 b.2 = true then (if stands (later a.1 b.1, a.2) = true then [(later a.1 b.1, a.2)] else []) ++ met s (b :: t)
    else (if stands (later a.1 b.1, b.2) = true then [(later a.1 b.1, b.2)] else []) ++ met (a :: s) t := by
  conv => lhs; unfold met
theorem met_nil (t : List Sx) : met [] t = [] := by unfold met; rfl
theorem met_nil' (s : List Sx) : met s [] = [] := by cases s <;> (unfold met; rfl)
theorem met_len : ∀ (s t : List Sx), (met s t).length ≤ s.length + t.length
  | [], t => by rw [met_nil]; simp
  | a :: s, [] => by rw [met_nil']; simp
  | a :: s, b :: t => by
    rw [met_cons]
    have h1 := met_len s (b :: t)
    have h2 := met_len (a :: s) t
    simp only [List.length_cons] at h1 h2 ⊢
    split
    · split <;> (simp only [List.length_append, List.length_cons, List.length_nil]; omega)
    · split <;> (simp only [List.length_append, List.length_cons, List.length_nil]; omega)
termination_by s t => s.length + t.length
theorem gaps_len (s : List Sx) : (gaps s).length ≤ s.length + 1 := by
  unfold gaps
  split
  · simp
  · rename_i h
    have h1 : (below s).length ≤ 1 := by unfold below; split <;> simp
    have h2 : (above s).length ≤ 1 := by unfold above; split <;> simp
    have h3 : (betw s).length = s.length - 1 := by unfold betw; rw [List.length_map, List.length_zip, List.length_tail]; omega
    have h4 : 0 < s.length := by cases s with | nil => exact absurd rfl h | cons _ _ => simp
    simp only [List.length_append]
    omega
-- ---- x in it, by the first stretch that does not end below x
def leO (l : Option Int) (x : Int) : Bool := match l with
  | none => true
  | some l => decide (l ≤ x)
def geO (h : Option Int) (x : Int) : Bool := match h with
  | none => true
  | some h => decide (x ≤ h)
theorem leO_iff {l : Option Int} {x : Int} : leO l x = true ↔ ∀ a, l = some a → a ≤ x := by cases l <;> simp [leO]
theorem geO_iff {l : Option Int} {x : Int} : geO l x = true ↔ ∀ a, l = some a → x ≤ a := by cases l <;> simp [geO]
def holds : List Sx → Int → Bool
  | [], _ => false
  | (l, h) :: r, x => if geO h x = true then leO l x else holds r x
theorem holds_iff : ∀ {s : List Sx} {x : Int}, Canon s → (holds s x = true ↔ hasL s x)
  | [], x, _ => ⟨fun h => (by cases h), fun h => absurd h (hasL_nil x)⟩
  | (l, h) :: r, x, c => by
    unfold holds
    rw [hasL_cons]
    split
    · rename_i k
      have hk := geO_iff.mp k
      rw [leO_iff]
      constructor
      · intro z; exact .inl ⟨z, hk⟩
      · rintro (z | ⟨q, hq, z⟩)
        · exact z.1
        · obtain ⟨u, a, e1, e2, e3⟩ := (List.pairwise_cons.mp c.sep).1 q hq
          have := z.1 a e2
          have := hk u e1
          intro b e
          have := c.ok _ List.mem_cons_self b u e e1
          dsimp only at *
          omega
    · rename_i k
      rw [holds_iff c.tail]
      constructor
      · exact .inr
      · rintro (z | z)
        · exact absurd (geO_iff.mpr z.2) k
        · exact z
-- ---- the laws' own words
def lies (s : List Sx) (i : Int) : Bool := s.any fun p => leO p.1 i && geO p.2 i
theorem lies_iff {s : List Sx} {i : Int} : lies s i = true ↔ hasL s i := by
  unfold lies hasL has
  rw [List.any_eq_true]
  constructor
  · rintro ⟨p, hp, h⟩
    rw [Bool.and_eq_true, leO_iff, geO_iff] at h
    exact ⟨p, hp, h⟩
  · rintro ⟨p, hp, h⟩
    refine ⟨p, hp, ?_⟩
    rw [Bool.and_eq_true, leO_iff, geO_iff]
    exact h
theorem lies_false {s : List Sx} {i : Int} : lies s i = false ↔ ¬ hasL s i := by
  rw [← lies_iff]; simp
def e3 : Option Int → List Int
  | none => []
  | some x => [x - 1, x, x + 1]
def e6 (p : Sx) : List Int := e3 p.1 ++ e3 p.2
def endsOf (s : List Sx) : List Int := [-(10 ^ 59), -1, 0, 1, 10 ^ 59] ++ s.flatMap e6
def Bnd (s : List Sx) : Prop := ∀ p ∈ s, (∀ l, p.1 = some l → -(10 ^ 50) ≤ l ∧ l ≤ 10 ^ 50) ∧ (∀ h, p.2 = some h → -(10 ^ 50) ≤ h ∧ h ≤ 10 ^ 50)
theorem edge {S : Int → Prop} : ∀ (k : Nat) (x w : Int), (x - w).toNat = k → w < x → S x → ¬ S w → ∃ z, S z ∧ ¬ S (z - 1)
  | 0, x, w, e, h, _, _ => by omega
  | k + 1, x, w, e, h, hx, hw => by
    by_cases g : S (x - 1)
    · have ne : w ≠ x - 1 := fun z => by subst z; exact hw g
      exact edge k (x - 1) w (by omega) (by omega) g hw
    · exact ⟨x, hx, g⟩
theorem mem_e3 {x : Int} {o : Option Int} (h : o = some x) : x ∈ e3 o ∧ x + 1 ∈ e3 o := by subst h; simp [e3]
theorem mem_ends {s : List Sx} {p : Sx} {x : Int} (hp : p ∈ s) (h : x ∈ e3 p.1 ∨ x ∈ e3 p.2) : x ∈ endsOf s := by
  unfold endsOf
  refine List.mem_append_right _ (List.mem_flatMap.mpr ⟨p, hp, List.mem_append.mpr h⟩)
theorem ends_len : ∀ (s : List Sx) (m : Nat), ((s.take m).flatMap e6).length ≤ 6 * s.length
  | [], m => by simp
  | p :: s, 0 => by simp
  | p :: s, m + 1 => by
    have h := ends_len s m
    have h1 : ∀ o : Option Int, (e3 o).length ≤ 3 := fun o => by cases o <;> simp [e3]
    have := h1 p.1
    have := h1 p.2
    simp only [List.take_succ_cons, List.flatMap_cons, List.length_append, List.length_cons, e6] at *
    omega
/-- what is in s and not in r is so at some end -/
theorem witness {s r : List Sx} (bs : Bnd s) (br : Bnd r) {x : Int} (h1 : hasL s x) (h2 : ¬ hasL r x) : ∃ n ∈ endsOf (s ++ r), hasL s n ∧ ¬ hasL r n := by
  by_cases h : ∃ w, w < x ∧ ¬ (hasL s w ∧ ¬ hasL r w)
  · obtain ⟨w, hw, h⟩ := h
    obtain ⟨z, ⟨hz1, hz2⟩, hz⟩ := edge (S := fun i => hasL s i ∧ ¬ hasL r i) _ x w rfl hw ⟨h1, h2⟩ h
    refine ⟨z, ?_, hz1, hz2⟩
    by_cases g : hasL s (z - 1)
    · have g2 : hasL r (z - 1) := Classical.byContradiction fun n => hz ⟨g, n⟩
      obtain ⟨q, hq, y⟩ := g2
      have : ∃ u, q.2 = some u ∧ z = u + 1 := by
        cases e : q.2 with
        | none => exact absurd ⟨q, hq, fun l el => (by have := y.1 l el; omega), fun u eu => by rw [e] at eu; cases eu⟩ hz2
        | some u =>
          refine ⟨u, rfl, ?_⟩
          have := y.2 u e
          by_cases k : z ≤ u
          · exact absurd ⟨q, hq, fun l el => (by have := y.1 l el; omega), fun u' eu => by rw [e] at eu; cases eu; exact k⟩ hz2
          · omega
      obtain ⟨u, eu, rfl⟩ := this
      exact mem_ends (List.mem_append_right _ hq) (.inr (mem_e3 eu).2)
    · obtain ⟨p, hp, y⟩ := hz1
      have : p.1 = some z := by
        cases e : p.1 with
        | none => exact absurd ⟨p, hp, fun l el => (by rw [e] at el; cases el), fun u eu => by have := y.2 u eu; omega⟩ g
        | some l =>
          have := y.1 l e
          by_cases k : l ≤ z - 1
          · exact absurd ⟨p, hp, fun l' el => (by rw [e] at el; cases el; exact k), fun u eu => by have := y.2 u eu; omega⟩ g
          · congr 1; omega
      exact mem_ends (List.mem_append_left _ hp) (.inl (mem_e3 this).1)
  · have all : ∀ w, w < x → hasL s w ∧ ¬ hasL r w := fun w hw => Classical.byContradiction fun n => h ⟨w, hw, n⟩
    refine ⟨-(10 ^ 59), by unfold endsOf; simp, ?_⟩
    by_cases hx : -(10 ^ 59) < x
    · exact all _ hx
    · obtain ⟨p, hp, y⟩ := h1
      obtain ⟨b1, b2⟩ := bs p hp
      refine ⟨⟨p, hp, fun l el => (by have := b1 l el; have := y.1 l el; omega), fun u eu => by have := b2 u eu; omega⟩, ?_⟩
      rintro ⟨q, hq, z⟩
      obtain ⟨c1, c2⟩ := br q hq
      exact h2 ⟨q, hq, fun l el => (by have := c1 l el; have := z.1 l el; omega), fun u eu => by have := c2 u eu; omega⟩
theorem canon_apart : ∀ {r : List Sx}, Canon r → ∀ {p q : Sx}, p ∈ r → q ∈ r → p = q ∨ Sep p q ∨ Sep q p
  | [], _, p, q, h, _ => by cases h
  | a :: r, c, p, q, hp, hq => by
    obtain ⟨h1, h2⟩ := List.pairwise_cons.mp c.sep
    rcases List.mem_cons.mp hp with e | hp'
    · rcases List.mem_cons.mp hq with e' | hq'
      · exact .inl (e.trans e'.symm)
      · subst e; exact .inr (.inl (h1 q hq'))
    · rcases List.mem_cons.mp hq with e' | hq'
      · subst e'; exact .inr (.inr (h1 p hp'))
      · exact canon_apart c.tail hp' hq'
theorem canon_low {r : List Sx} (c : Canon r) {p : Sx} {l : Int} (hp : p ∈ r) (e : p.1 = some l) : hasL r l ∧ ¬ hasL r (l - 1) := by
  have ok := c.ok p hp
  refine ⟨⟨p, hp, fun a ea => (by rw [e] at ea; cases ea; omega), fun u eu => ok l u e eu⟩, ?_⟩
  rintro ⟨q, hq, y⟩
  rcases canon_apart c hp hq with rfl | ⟨u, a, e1, e2, e3⟩ | ⟨u, a, e1, e2, e3⟩
  · have := y.1 l e; omega
  · have := y.1 a e2; have := ok l u e e1; omega
  · rw [e] at e2; cases e2
    have := y.2 u e1; omega
theorem canon_high {r : List Sx} (c : Canon r) {p : Sx} {u : Int} (hp : p ∈ r) (e : p.2 = some u) : hasL r u ∧ ¬ hasL r (u + 1) := by
  have ok := c.ok p hp
  refine ⟨⟨p, hp, fun l el => ok l u el e, fun a ea => by rw [e] at ea; cases ea; omega⟩, ?_⟩
  rintro ⟨q, hq, y⟩
  rcases canon_apart c hp hq with rfl | ⟨v, a, e1, e2, e3⟩ | ⟨v, a, e1, e2, e3⟩
  · have := y.2 u e; omega
  · rw [e] at e1; cases e1
    have := y.1 a e2; omega
  · have := y.2 v e1; have := ok a u e2 e; omega
theorem canon_next {r : List Sx} (c : Canon r) {i : Nat} {p q : Sx} (hp : r[i]? = some p) (hq : r[i + 1]? = some q) : Sep p q := by
  obtain ⟨h1, e1⟩ := List.getElem?_eq_some_iff.mp hp
  obtain ⟨h2, e2⟩ := List.getElem?_eq_some_iff.mp hq
  have := List.pairwise_iff_getElem.mp c.sep i (i + 1) h1 h2 (by omega)
  rw [e1, e2] at this
  exact this
theorem canon_nil {r : List Sx} (c : Canon r) : r = [] ↔ ∀ i, ¬ hasL r i := by
  constructor
  · rintro rfl i; exact hasL_nil i
  · intro h
    exact canon_eq c .nil fun x => ⟨fun z => absurd z (h x), fun z => absurd z (hasL_nil x)⟩
end Spn
end Gx


set_option Elab.async false
set_option linter.all false
set_option maxRecDepth 100000
set_option maxHeartbeats 4000000
/-! repr of data with dicts in it: only a dict's own place has to be no table of modules. -/
namespace Gx
open PySem PySem.Spec PyProof.Rows L2 Evl
mutual
inductive Rs (h : Heap) : Value → PyData → Prop
  | none : Rs h .none .none
  | bool (b) : Rs h (.bool b) (.bool b)
  | int (i t) : Rs h (.int i t) (.int i)
  | str (x t) : Rs h (.str x t) (.str x)
  | list {a o vs n ds} (e : h.get? a = some o) (c : o.cls = .type "list") (q : o.data = .seq vs n) (m : RsAll h vs.toList ds) : Rs h (.ref a) (.list ds)
  | tuple {a o vs n ds} (e : h.get? a = some o) (c : o.cls = .type "tuple") (q : o.data = .seq vs n) (m : RsAll h vs.toList ds) : Rs h (.ref a) (.tuple ds)
  | dict {a o es n ps} (y : (a == sysModules) = false) (e : h.get? a = some o) (c : o.cls = .type "dict") (q : o.data = .dict es n)
      (m : RsAll h (es.toList.map (·.key)) (ps.map (·.1))) (m2 : RsAll h (es.toList.map (·.val)) (ps.map (·.2))) : Rs h (.ref a) (.dict ps)
inductive RsAll (h : Heap) : List Value → List PyData → Prop
  | nil : RsAll h [] []
  | cons {v vs d ds} : Rs h v d → RsAll h vs ds → RsAll h (v :: vs) (d :: ds)
end
mutual
theorem Rs.read {h : Heap} : ∀ {v : Value} {d : PyData}, Rs h v d → ∃ as, Reads h v d as
  | _, _, .none => ⟨_, Reads.none⟩
  | _, _, .bool b => ⟨_, Reads.bool b⟩
  | _, _, .int i t => ⟨_, Reads.int i t⟩
  | _, _, .str x t => ⟨_, Reads.str x t⟩
  | _, _, .list e c q m => let ⟨_, z⟩ := RsAll.read m; ⟨_, Reads.list e c q z⟩
  | _, _, .tuple e c q m => let ⟨_, z⟩ := RsAll.read m; ⟨_, Reads.tuple e c q z⟩
  | _, _, .dict _ e c q m m2 => let ⟨_, z⟩ := RsAll.read m; let ⟨_, z2⟩ := RsAll.read m2; ⟨_, Reads.dict e c q z z2⟩
theorem RsAll.read {h : Heap} : ∀ {vs : List Value} {ds : List PyData}, RsAll h vs ds → ∃ as, ReadsAll h vs ds as
  | _, _, .nil => ⟨_, ReadsAll.nil⟩
  | _, _, .cons r m => let ⟨_, z⟩ := Rs.read r; let ⟨_, z2⟩ := RsAll.read m; ⟨_, ReadsAll.cons z z2⟩
end
section
variable {prog : Program} {w : World} {h : Heap}
/-- what a thing at a depth tells of the places within it -/
abbrev Sh (prog : Program) (w : World) (h : Heap) (n : Nat) (v : Value) (t : Str) : Prop := ∃ bs, ReadAtMost h n bs ∧ ReprK prog w bs h n v t
abbrev ShAll (prog : Program) (w : World) (h : Heap) (n : Nat) (vs : List Value) (ts : List Str) : Prop := ∃ bs, ReadAtMost h n bs ∧ ReprAllK prog w bs h n vs ts
theorem atMost_mono {n m : Nat} {bs : List Addr} (z : ReadAtMost h n bs) (l : n ≤ m) : ReadAtMost h m bs := fun b hb =>
  let ⟨d, as, r, q⟩ := z b hb
  ⟨d, as, r, Nat.le_trans q l⟩
mutual
theorem Rs.sh : ∀ {v : Value} {d : PyData}, Rs h v d → d.showable = true → d.shown.length ≤ sizeLine → Sh prog w h d.depth v d.shown
  | _, _, .none, _, _ => ⟨[], (fun _ z => nomatch z), by simp only [PyData.shown]; exact ReprK.of_is ReprIs.none _ _ _⟩
  | _, _, .bool b, _, _ => ⟨[], (fun _ z => nomatch z), by simp only [PyData.shown]; exact ReprK.of_is (ReprIs.bool b) _ _ _⟩
  | _, _, .int i t, s, _ => ⟨[], (fun _ z => nomatch z), by simp only [PyData.shown]; exact ReprK.of_is (ReprIs.int t (by simpa [PyData.showable] using s)) _ _ _⟩
  | _, _, .str x t, _, l => ⟨[], (fun _ z => nomatch z), by simp only [PyData.shown]; exact ReprK.of_is (ReprIs.str x t (by simpa only [PyData.shown] using l)) _ _ _⟩
  | _, _, .list (a := a) (vs := vs) (ds := ds) e c q m, s, l => by
    have lt : (listText (PyData.shownAll ds)).length ≤ sizeLine := by simpa only [PyData.shown] using l
    obtain ⟨bs, z, k⟩ := RsAll.sh m (by simpa [PyData.showable] using s) (fun t ht => Nat.le_trans (listText_mem_le ht) lt)
    obtain ⟨as, r⟩ := (Rs.list e c q m).read
    have far : a ∉ bs := not_mem_of_deeper r (by simp only [PyData.depth]; exact Nat.lt_succ_self _) z
    refine ⟨a :: bs, ReadAtMost.cons r (by simp only [PyData.depth]; omega) z, ?_⟩
    simp only [PyData.shown, PyData.depth]
    rcases vs with ⟨_ | ⟨x, us⟩⟩
    · have m' : RsAll h [] ds := m
      cases m'
      simp only [listText_nil, PyData.shownAll]
      exact ReprK.listEmpty e c q
    · exact ReprK.list e c q far (by simpa using k.length_eq) (fun i y g => k.item i y (by simpa using g))
  | _, _, .tuple (a := a) (ds := ds) e c q m, s, l => by
    have lt : (tupleText (PyData.shownAll ds)).length ≤ sizeLine := by simpa only [PyData.shown] using l
    obtain ⟨bs, z, k⟩ := RsAll.sh m (by simpa [PyData.showable] using s) (fun t ht => Nat.le_trans (tupleText_mem_le ht) lt)
    obtain ⟨as, r⟩ := (Rs.tuple e c q m).read
    have far : a ∉ bs := not_mem_of_deeper r (by simp only [PyData.depth]; exact Nat.lt_succ_self _) z
    refine ⟨a :: bs, ReadAtMost.cons r (by simp only [PyData.depth]; omega) z, ?_⟩
    simp only [PyData.shown, PyData.depth]
    exact ReprK.tuple e c q far k
  | _, _, .dict (a := a) (es := es) (ps := ps) y e c q m m2, s, l => by
    have lt : (dictText (PyData.shownKv ps)).length ≤ sizeLine := by simpa only [PyData.shown] using l
    obtain ⟨s1, s2⟩ := PyData.showableKv_split ps (by simpa [PyData.showable] using s)
    obtain ⟨b1, z1, k1⟩ := RsAll.sh m s1 (fun t ht => let ⟨_, g1, g2⟩ := PyData.shownKv_key_le ps t ht; Nat.le_trans g2 (Nat.le_trans (dictText_mem_le g1) lt))
    obtain ⟨b2, z2, k2⟩ := RsAll.sh m2 s2 (fun t ht => let ⟨_, g1, g2⟩ := PyData.shownKv_val_le ps t ht; Nat.le_trans g2 (Nat.le_trans (dictText_mem_le g1) lt))
    obtain ⟨as, r⟩ := (Rs.dict y e c q m m2).read
    have z : ReadAtMost h (PyData.depthKv ps) (b1 ++ b2) := (atMost_mono z1 (PyData.depthAll_keys_le ps)).append (atMost_mono z2 (PyData.depthAll_vals_le ps))
    have far : a ∉ b1 ++ b2 := not_mem_of_deeper r (by simp only [PyData.depth]; exact Nat.lt_succ_self _) z
    refine ⟨a :: (b1 ++ b2), ReadAtMost.cons r (by simp only [PyData.depth]; omega) z, ?_⟩
    simp only [PyData.shownKv_eq, PyData.shown, PyData.depth]
    exact ReprK.dict e c q y far (ReprEntriesK.of_two es.toList _ _ (k1.more_le (fun b g => List.mem_append_left _ g) (PyData.depthAll_keys_le ps))
      (k2.more_le (fun b g => List.mem_append_right _ g) (PyData.depthAll_vals_le ps)))
theorem RsAll.sh : ∀ {vs : List Value} {ds : List PyData}, RsAll h vs ds → PyData.showableAll ds = true → (∀ t ∈ PyData.shownAll ds, t.length ≤ sizeLine) →
    ShAll prog w h (PyData.depthAll ds) vs (PyData.shownAll ds)
  | _, _, .nil, _, _ => ⟨[], (fun _ z => nomatch z), by simp only [PyData.shownAll]; exact ReprAllK.nil⟩
  | _, _, .cons (d := d) (ds := ds) r m, s, l => by
    have s' : d.showable = true ∧ PyData.showableAll ds = true := by simpa [PyData.showableAll] using s
    obtain ⟨b1, z1, k1⟩ := Rs.sh r s'.1 (l _ (by simp only [PyData.shownAll]; exact List.mem_cons_self))
    obtain ⟨b2, z2, k2⟩ := RsAll.sh m s'.2 (fun t ht => l t (by simp only [PyData.shownAll]; exact List.mem_cons_of_mem _ ht))
    refine ⟨b1 ++ b2, ?_, ?_⟩
    · simp only [PyData.depthAll]
      exact (atMost_mono z1 (Nat.le_max_left _ _)).append (atMost_mono z2 (Nat.le_max_right _ _))
    · simp only [PyData.shownAll, PyData.depthAll]
      exact ReprAllK.cons ((k1.more fun b g => List.mem_append_left _ g).level_le (Nat.le_max_left _ _)) (k2.more_le (fun b g => List.mem_append_right _ g) (Nat.le_max_right _ _))
end
/-- the whole thing, asked by repr -/
theorem Rs.by {a : Addr} {d : PyData} (r : Rs h (.ref a) d) (s : d.showable = true) (l : d.shown.length ≤ sizeLine) :
    ∃ T idr, ShowsBy prog w h a d T idr := by
  cases r with
  | list e c q m =>
    rename_i o vs n ds
    have lt : (listText (PyData.shownAll ds)).length ≤ sizeLine := by simpa only [PyData.shown] using l
    obtain ⟨bs, z, k⟩ := RsAll.sh (prog := prog) (w := w) m (by simpa [PyData.showable] using s) (fun t ht => Nat.le_trans (listText_mem_le ht) lt)
    obtain ⟨as, r⟩ := (Rs.list e c q m).read
    have far : a ∉ bs := not_mem_of_deeper r (by simp only [PyData.depth]; exact Nat.lt_succ_self _) z
    refine ⟨_, _, F.slot_list_repr.toG, F.slot_list_str, F.slot_list_format, fun s' kp => ⟨o, kp _ _ e, c⟩, fun A E s' Q g u kp k' => ?_⟩
    simp only [PyData.depth] at u
    simp only [PyData.shown] at k'
    rcases vs with ⟨_ | ⟨x, us⟩⟩
    · have m' : RsAll h [] ds := m
      cases m'
      simp only [listText_nil, PyData.shownAll] at k'
      exact call_list_repr_empty ⟨o, kp _ _ e, c⟩ (kp _ _ e) q (k' s'.heap _ _ fun _ _ g => g)
    · exact call_list_reprK e c q far (by simpa using k.length_eq) (fun i y g => k.item i y (by simpa using g)) g (fun b _ => Clear.nil b) u kp k' lt
  | tuple e c q m =>
    rename_i o vs n ds
    have lt : (tupleText (PyData.shownAll ds)).length ≤ sizeLine := by simpa only [PyData.shown] using l
    obtain ⟨bs, z, k⟩ := RsAll.sh (prog := prog) (w := w) m (by simpa [PyData.showable] using s) (fun t ht => Nat.le_trans (tupleText_mem_le ht) lt)
    obtain ⟨as, r⟩ := (Rs.tuple e c q m).read
    have far : a ∉ bs := not_mem_of_deeper r (by simp only [PyData.depth]; exact Nat.lt_succ_self _) z
    refine ⟨_, _, F.slot_tuple_repr, F.slot_tuple_str, F.slot_tuple_format, fun s' kp => ⟨o, kp _ _ e, c⟩, fun A E s' Q g u kp k' => ?_⟩
    simp only [PyData.depth] at u
    simp only [PyData.shown] at k'
    exact call_tuple_reprK e c q far k g (fun b _ => Clear.nil b) u kp k' lt
  | dict y e c q m m2 =>
    rename_i o es n ps
    have lt : (dictText (PyData.shownKv ps)).length ≤ sizeLine := by simpa only [PyData.shown] using l
    obtain ⟨s1, s2⟩ := PyData.showableKv_split ps (by simpa [PyData.showable] using s)
    obtain ⟨b1, z1, k1⟩ := RsAll.sh (prog := prog) (w := w) m s1 (fun t ht => let ⟨_, g1, g2⟩ := PyData.shownKv_key_le ps t ht; Nat.le_trans g2 (Nat.le_trans (dictText_mem_le g1) lt))
    obtain ⟨b2, z2, k2⟩ := RsAll.sh (prog := prog) (w := w) m2 s2 (fun t ht => let ⟨_, g1, g2⟩ := PyData.shownKv_val_le ps t ht; Nat.le_trans g2 (Nat.le_trans (dictText_mem_le g1) lt))
    obtain ⟨as, r⟩ := (Rs.dict y e c q m m2).read
    have z : ReadAtMost h (PyData.depthKv ps) (b1 ++ b2) := (atMost_mono z1 (PyData.depthAll_keys_le ps)).append (atMost_mono z2 (PyData.depthAll_vals_le ps))
    have far : a ∉ b1 ++ b2 := not_mem_of_deeper r (by simp only [PyData.depth]; exact Nat.lt_succ_self _) z
    refine ⟨_, _, F.slot_dict_repr, F.slot_dict_str, F.slot_dict_format, fun s' kp => ⟨o, kp _ _ e, c⟩, fun A E s' Q g u kp k' => ?_⟩
    simp only [PyData.depth] at u
    simp only [PyData.shown, PyData.shownKv_eq] at k'
    exact call_dict_reprK e c q y far (ReprEntriesK.of_two es.toList _ _ (k1.more_le (fun b g => List.mem_append_left _ g) (PyData.depthAll_keys_le ps))
      (k2.more_le (fun b g => List.mem_append_right _ g) (PyData.depthAll_vals_le ps))) g (fun b _ => Clear.nil b) u kp k' (by rw [← PyData.shownKv_eq]; exact lt)
end
/-! Data in the told heap, dicts with keys of ints and texts among it. -/
def kD : Key → PyData
  | .inl i => .int i
  | .inr x => .str x
mutual
inductive Dq (K : PySem.W.Frag) (H : Hp) : V → PyData → Prop
  | non : Dq K H .non .none
  | bl (b : Bool) : Dq K H (.bl b) (.bool b)
  | int (i : Int) : Dq K H (.int i) (.int i)
  | str (x : Str) : Dq K H (.str x) (.str x)
  | lst {a : Addr} {xs : List V} {ds : List PyData} : SqL K H a xs → DqAll K H xs ds → Dq K H (.ref a) (.list ds)
  | tup {a : Addr} {xs : List V} {ds : List PyData} : SqT K H a xs → DqAll K H xs ds → Dq K H (.ref a) (.tuple ds)
  | dct {a : Addr} {kvs : List (Key × V)} {ps : List (PyData × PyData)} : H a = some (.dK kvs) → DqKvs K H kvs ps → Dq K H (.ref a) (.dict ps)
inductive DqAll (K : PySem.W.Frag) (H : Hp) : List V → List PyData → Prop
  | nil : DqAll K H [] []
  | cons {v : V} {vs : List V} {d : PyData} {ds : List PyData} : Dq K H v d → DqAll K H vs ds → DqAll K H (v :: vs) (d :: ds)
inductive DqKvs (K : PySem.W.Frag) (H : Hp) : List (Key × V) → List (PyData × PyData) → Prop
  | nil : DqKvs K H [] []
  | cons {k : Key} {v : V} {kvs : List (Key × V)} {d : PyData} {ps : List (PyData × PyData)} : Dq K H v d → DqKvs K H kvs ps → DqKvs K H ((k, v) :: kvs) ((kD k, d) :: ps)
end
section
variable {K : PySem.W.Frag} {H H' : Hp}
mutual
theorem Dp.q : ∀ (d : PyData) (v : V), Dp K H v d → Dq K H v d
  | .none, _, z => by cases z; exact .non
  | .bool b, _, z => by cases z; exact .bl b
  | .int i, _, z => by cases z; exact .int i
  | .str x, _, z => by cases z; exact .str x
  | .list ds, _, z => by cases z with | lst a b => exact .lst a (DpAll.q ds _ b)
  | .tuple ds, _, z => by cases z with | tup a b => exact .tup a (DpAll.q ds _ b)
  | .dict _, _, z => by cases z
theorem DpAll.q : ∀ (ds : List PyData) (vs : List V), DpAll K H vs ds → DqAll K H vs ds
  | [], _, z => by cases z; exact .nil
  | d :: ds, _, z => by cases z with | cons a b => exact .cons (Dp.q d _ a) (DpAll.q ds _ b)
end
theorem _root_.L2.Dp.dq {d : PyData} {v : V} (z : Dp K H v d) : Dq K H v d := Dp.q d v z
theorem _root_.L2.DpAll.dq {ds : List PyData} {vs : List V} (z : DpAll K H vs ds) : DqAll K H vs ds := DpAll.q ds vs z
mutual
theorem Dq.to (e : Ex H H') : ∀ {v : V} {d : PyData}, Dq K H v d → Dq K H' v d
  | _, _, .non => .non
  | _, _, .bl b => .bl b
  | _, _, .int i => .int i
  | _, _, .str x => .str x
  | _, _, .lst a b => .lst (ex_l e a) (DqAll.to e b)
  | _, _, .tup a b => .tup (ex_t e a) (DqAll.to e b)
  | _, _, .dct a b => .dct (e _ _ a) (DqKvs.to e b)
theorem DqAll.to (e : Ex H H') : ∀ {vs : List V} {ds : List PyData}, DqAll K H vs ds → DqAll K H' vs ds
  | _, _, .nil => .nil
  | _, _, .cons a b => .cons (Dq.to e a) (DqAll.to e b)
theorem DqKvs.to (e : Ex H H') : ∀ {kvs : List (Key × V)} {ps : List (PyData × PyData)}, DqKvs K H kvs ps → DqKvs K H' kvs ps
  | _, _, .nil => .nil
  | _, _, .cons a b => .cons (Dq.to e a) (DqKvs.to e b)
end
end
section
variable {X : Cx} {pins : List (Addr × Obj)} {σ : L2.St} {H : Hp} {s : Shared}
theorem keys_rs {P : Program} {w : World} {h : Heap} {es : List DictEntry} {vs : List (Key × Value)} (p : Pairs (mixKind P w) es vs) :
    RsAll h (es.map (·.key)) (vs.map fun q => kD q.1) := by
  induction p with
  | nil => exact .nil
  | cons a b c ih =>
    rename_i e kv es kvs
    refine .cons ?_ ih
    rcases keyIs_shape (show keyIs kv.1 e.key = true from a) with ⟨i, t, e1, e2⟩ | ⟨x, t, e1, e2⟩
    · show Rs h e.key (kD kv.1)
      rw [e1, e2]; exact .int i t
    · show Rs h e.key (kD kv.1)
      rw [e1, e2]; exact .str x t
theorem vals_eq {P : Program} {w : World} {es : List DictEntry} {vs : List (Key × Value)} (p : Pairs (mixKind P w) es vs) :
    es.map (·.val) = vs.map (·.2) := by
  induction p with
  | nil => rfl
  | cons a b c ih => rw [List.map_cons, List.map_cons, ih, b]
mutual
theorem Dq.rs (I : Inv X pins σ H s) : ∀ {v : V} {d : PyData} {u : Value}, Dq X.K H v d → RelV v u → Rs s.heap u d
  | _, _, _, .non, r => by cases r; exact .none
  | _, _, _, .bl b, r => by cases r; exact .bool b
  | _, _, _, .int i, r => by obtain ⟨t, rfl⟩ := r; exact .int i t
  | _, _, _, .str x, r => by obtain ⟨t, rfl⟩ := r; exact .str x t
  | _, _, _, .lst hs ha, r => by
    cases r
    obtain ⟨its, rv, ⟨o, n, ho, hc, _, hd⟩, _⟩ := I.list hs
    exact .list ho hc hd (DqAll.rs I ha rv)
  | _, _, _, .tup hs ha, r => by
    cases r
    obtain ⟨its, rv, ⟨o, ho, hc, n, hd⟩, _⟩ := I.tuple hs
    exact .tuple ho hc hd (DqAll.rs I ha rv)
  | _, _, _, .dct ha hk, r => by
    cases r
    obtain ⟨_, y, vs, rel, o, es, ep, ho, hx, hd, _, pr, _⟩ := dk_of I.hok ha
    obtain ⟨m1, m2⟩ := DqKvs.rs I hk rel
    refine .dict y ho hx.1 hd ?_ ?_
    · rw [← m1]; exact keys_rs pr
    · rw [vals_eq pr]; exact m2
theorem DqAll.rs (I : Inv X pins σ H s) : ∀ {vs : List V} {ds : List PyData} {us : List Value}, DqAll X.K H vs ds → Vals vs us → RsAll s.heap us ds
  | _, _, _, .nil, r => by cases r; exact .nil
  | _, _, _, .cons a b, r => by cases r with | cons r1 r2 => exact .cons (Dq.rs I a r1) (DqAll.rs I b r2)
theorem DqKvs.rs (I : Inv X pins σ H s) : ∀ {kvs : List (Key × V)} {ps : List (PyData × PyData)} {vs : List (Key × Value)}, DqKvs X.K H kvs ps → KV kvs vs →
    (vs.map fun q => kD q.1) = ps.map (·.1) ∧ RsAll s.heap (vs.map (·.2)) (ps.map (·.2))
  | _, _, _, .nil, r => by cases r; exact ⟨rfl, .nil⟩
  | _, _, _, .cons a b, r => by
    cases r with
    | cons r1 r2 =>
      obtain ⟨m1, m2⟩ := DqKvs.rs I b r2
      refine ⟨?_, .cons (Dq.rs I a r1.2) m2⟩
      rw [List.map_cons, List.map_cons, m1, ← r1.1]
end
end
/-- how many signs repr may take, dicts too -/
def wq : PyData → Nat
  | .none => 4
  | .bool _ => 5
  | .int _ => 1921
  | .str x => (reprText x).length
  | .list xs => wqAll xs + 2
  | .tuple xs => wqAll xs + 3
  | .dict ps => wqKv ps + 2
where
  wqAll : List PyData → Nat
  | [] => 0
  | x :: xs => wq x + 2 + wqAll xs
  wqKv : List (PyData × PyData) → Nat
  | [] => 0
  | (k, v) :: ps => wq k + wq v + 4 + wqKv ps
theorem dictText_wide (ts : List Str) : (dictText ts).length ≤ piled ts + 2 := by
  have e1 : ((("{" : String) : Str)).length = 1 := rfl
  have e2 : ((("}" : String) : Str)).length = 1 := rfl
  unfold dictText
  rw [strLen_append, strLen_append, e1, e2]
  by_cases z : ts = []
  · subst z
    have : (Str.join ", " ([] : List Str)).length = 0 := rfl
    omega
  · have := join_length_add ts z
    omega
mutual
theorem shown_wq : ∀ d : PyData, d.showable = true → d.shown.length ≤ wq d
  | .none, _ => by simp only [PyData.shown, wq]; decide
  | .bool b, _ => by cases b <;> (simp only [PyData.shown, wq]; decide)
  | .int i, z => by
    simp only [PyData.shown, wq]
    exact PyProof.Rows.int_text_len_1921 (of_decide_eq_true (by simpa only [PyData.showable] using z))
  | .str x, _ => by simp only [PyData.shown, wq]; exact Nat.le_refl _
  | .list xs, z => by
    simp only [PyData.shown, wq]
    have q := shown_wqAll xs (by simpa only [PyData.showable] using z)
    exact Nat.le_trans (listText_wide _) (by omega)
  | .tuple xs, z => by
    simp only [PyData.shown, wq]
    have q := shown_wqAll xs (by simpa only [PyData.showable] using z)
    exact Nat.le_trans (tupText_wide _) (by omega)
  | .dict ps, z => by
    simp only [PyData.shown, wq]
    have q := shown_wqKv ps (by simpa only [PyData.showable] using z)
    exact Nat.le_trans (dictText_wide _) (by omega)
theorem shown_wqAll : ∀ ds : List PyData, PyData.showableAll ds = true → piled (PyData.shownAll ds) ≤ wq.wqAll ds
  | [], _ => by simp [PyData.shownAll, piled, wq.wqAll]
  | d :: ds, z => by
    simp only [PyData.showableAll, Bool.and_eq_true] at z
    have q1 := shown_wq d z.1
    have q2 := shown_wqAll ds z.2
    simp only [PyData.shownAll, piled_cons, wq.wqAll]
    omega
theorem shown_wqKv : ∀ ps : List (PyData × PyData), PyData.showableKv ps = true → piled (PyData.shownKv ps) ≤ wq.wqKv ps
  | [], _ => by simp [PyData.shownKv, piled, wq.wqKv]
  | (k, v) :: ps, z => by
    simp only [PyData.showableKv, Bool.and_eq_true] at z
    have q1 := shown_wq k z.1.1
    have q2 := shown_wq v z.1.2
    have q3 := shown_wqKv ps z.2
    have e3 : (((": " : String) : Str)).length = 2 := rfl
    simp only [PyData.shownKv, piled_cons, wq.wqKv, strLen_append]
    omega
end
section
variable {X : Cx}
def rRepQ (K : PySem.W.Frag) : List V → Hp → VK → Prop := fun xs H Q =>
  ∃ v d, xs = [v] ∧ Dq K H v d ∧ d.showable = true ∧ d.depth ≤ 100 ∧ wq d ≤ 10000000 ∧ Q (.str d.shown) H
theorem call_reprQ (qu : Quiet X.A) (hu : X.A.units + 200 < cLine) : CallR X (.builtin "repr") (rRepQ X.K) := by
  intro pins s σ H xs us Q I rv z
  obtain ⟨v, d, rfl, hd, h1, h3, h4, q⟩ := z
  obtain ⟨u, rfl, ru⟩ := vals1 rv
  have rd := Dq.rs I hd ru
  have sz : d.shown.length ≤ sizeLine := Nat.le_trans (shown_wq d h1) (Nat.le_trans h4 big_sz)
  have fin : ∀ h' t tk, (∀ b o, s.heap.get? b = some o → h'.get? b = some o) → EP X pins σ Q (.str d.shown t) { s with heap := h', toks := tk } :=
    fun h' t tk k => ⟨.str _, H, I.kept k, ⟨_, rfl⟩, q⟩
  cases hd with
  | non =>
    obtain rfl : u = Value.none := ru
    exact PySem.P.repr_of_none (fin s.heap _ _ fun _ _ e => e)
  | bl b =>
    obtain rfl : u = Value.bool b := ru
    refine PySem.P.repr_of_bool ?_
    have z := fin s.heap s.toks (s.toks + 1) fun _ _ e => e
    simp only [PyData.shown] at z
    cases b <;> exact z
  | int i =>
    obtain ⟨t, rfl⟩ := ru
    exact PySem.P.repr_of_int (of_decide_eq_true (by simpa only [PyData.showable] using h1)) (fin s.heap _ _ fun _ _ e => e)
  | str x =>
    obtain ⟨t, rfl⟩ := ru
    exact PySem.P.repr_of_str (fin s.heap _ _ fun _ _ e => e) sz
  | lst hs ha =>
    obtain rfl : u = Value.ref _ := ru
    obtain ⟨T, idr, S⟩ := rd.by (prog := X.prog) (w := X.w) h1 sz
    exact call_repr_slot (by omega) (S.typeIs s fun _ _ e => e) S.slotRepr (S.call X.A.in1 _ s _ qu (by show X.A.units + 1 + _ < cLine; omega) (fun _ _ e => e) fun h' u tk hk => ⟨_, _, rfl, fin h' u tk hk⟩)
  | tup hs ha =>
    obtain rfl : u = Value.ref _ := ru
    obtain ⟨T, idr, S⟩ := rd.by (prog := X.prog) (w := X.w) h1 sz
    exact call_repr_slot (by omega) (S.typeIs s fun _ _ e => e) S.slotRepr (S.call X.A.in1 _ s _ qu (by show X.A.units + 1 + _ < cLine; omega) (fun _ _ e => e) fun h' u tk hk => ⟨_, _, rfl, fin h' u tk hk⟩)
  | dct ha hk =>
    obtain rfl : u = Value.ref _ := ru
    obtain ⟨T, idr, S⟩ := rd.by (prog := X.prog) (w := X.w) h1 sz
    exact call_repr_slot (by omega) (S.typeIs s fun _ _ e => e) S.slotRepr (S.call X.A.in1 _ s _ qu (by show X.A.units + 1 + _ < cLine; omega) (fun _ _ e => e) fun h' u tk hk => ⟨_, _, rfl, fin h' u tk hk⟩)
end
end Gx

set_option Elab.async false
set_option linter.all false
set_option maxRecDepth 100000
set_option maxHeartbeats 1000000
/-! What is a list or a tuple; comprehensions that tell data. -/
namespace Gx
open PySem PySem.Spec PyProof.Rows L2 Evl RZ
/-- a tuple (t) or a list -/
def SqB (t : Bool) (K : PySem.W.Frag) (H : Hp) (a : Addr) (xs : List V) : Prop := match t with
  | true => SqT K H a xs
  | false => SqL K H a xs
theorem SqB.or {t : Bool} {K : PySem.W.Frag} {H : Hp} {a : Addr} {xs : List V} (h : SqB t K H a xs) : SqL K H a xs ∨ SqT K H a xs := by
  cases t
  · exact .inl h
  · exact .inr h
theorem SqB.ro {t : Bool} {K : PySem.W.Frag} {H : Hp} {a : Addr} {xs : List V} (h : SqB t K H a xs) : SqT K H a xs ∨ SqL K H a xs := h.or.symm
theorem SqB.to {t : Bool} {K : PySem.W.Frag} {H H' : Hp} {a : Addr} {xs : List V} (h : SqB t K H a xs) (e : Ex H H') : SqB t K H' a xs := by
  cases t
  · exact ex_l e h
  · exact ex_t e h
theorem SqB.ixs {t : Bool} {K : PySem.W.Frag} {H : Hp} {a : Addr} {xs : List V} {i : Int} {v : V} {Q : VK} (h : SqB t K H a xs) (e : atI xs i = some v) (q : Q v H) :
    rIxT K (.ref a) (.int i) H Q ∨ rIxL K (.ref a) (.int i) H Q := by
  cases t
  · exact .inr ⟨a, xs, i, v, rfl, rfl, h, e, q⟩
  · exact .inl ⟨a, xs, i, v, rfl, rfl, h, e, q⟩
theorem IxR.or' {X : Cx} {r r' : R2} (h : IxR X r) (h' : IxR X r') : IxR X (fun x y H Q => r x y H Q ∨ r' x y H Q) := fun value slice pins s σ H x y v u Q I rx ry z hs =>
  z.elim (fun z => h value slice pins s σ H x y v u Q I rx ry z hs) fun z => h' value slice pins s σ H x y v u Q I rx ry z hs
theorem ix_tl {X : Cx} {K : PySem.W.Frag} (h : X.K = K) : IxR X (fun x y H Q => rIxT K x y H Q ∨ rIxL K x y H Q) := IxR.or' (ix_tupK h) (ix_listK h)
def ItB (t : Bool) (K : PySem.W.Frag) (a : Addr) : It := match t with
  | true => Itt K a
  | false => Itl K a
def iSeq (K : PySem.W.Frag) (te : TE) : TI := fun σ H R => te σ H fun x H1 => ∃ (a : Addr) (t : Bool) (xs : List V), x = .ref a ∧ SqB t K H1 a xs ∧ R (ItB t K a) H1
theorem pi_seq {X : Cx} {K : PySem.W.Frag} {tg l : Expr} {te : TE} (hK : X.K = K) (hl : PE X l te) : PI X tg l (iSeq K te) := by
  subst hK
  refine ⟨fun pins s σ H R I h => ?_⟩
  refine thn (hl.run pins s σ H _ I h) fun v s1 ⟨x, H1, I1, r1, a, t, xs, e, hq, q⟩ => ?_
  subst e
  cases r1
  cases t
  · have g : PI X tg l (iList X.K fun _ H Q => H = H1 ∧ Q (.ref a) H1) → True := fun _ => trivial
    obtain ⟨its, rv, p, hz⟩ := I1.list hq
    refine wpAny_pyIter_list p.isList ?_
    refine ⟨s1.heap.objs.size, [s1.heap.objs.size], _, _, H1, rfl, I1.kept (t' := s1.toks) fun b o e => Heap.get?_push_of_some _ e, turn_list a _, ⟨_, Heap.get?_push_size _ rfl, rfl, rfl⟩, fun b hb => ?_, q⟩
    have e : b = s1.heap.objs.size := by simpa using hb
    subst e
    exact I1.fpOk (Nat.le_refl _) (I1.hok.fresh (Nat.le_refl _))
  · obtain ⟨its, rv, p, hz⟩ := I1.tuple hq
    refine wpAny_pyIter_tuple (show s1.heap.IsTuple a its.toArray from p) ?_
    refine ⟨s1.heap.objs.size, [s1.heap.objs.size], _, _, H1, rfl, I1.kept (t' := s1.toks) fun b o e => Heap.get?_push_of_some _ e, turn_tuple a _, ⟨_, Heap.get?_push_size _ rfl, rfl, rfl⟩, fun b hb => ?_, q⟩
    have e : b = s1.heap.objs.size := by simpa using hb
    subst e
    exact I1.fpOk (Nat.le_refl _) (I1.hok.fresh (Nat.le_refl _))
theorem for_seq {t : Bool} {K : PySem.W.Frag} {a : Addr} {xs : List V} {g : TG} {tb : TS} {D : Ends} {σ : L2.St} {H : Hp} (Pv : Nat → L2.St → Hp → Prop) (h0 : Pv 0 σ H) (hl : ∀ i σ H, i ≤ xs.length → Pv i σ H → SqB t K H a xs)
    (hs : ∀ i x σ H, xs[i]? = some x → Pv i σ H → g x σ H fun σ2 H2 => tb { D with nx := Pv (i + 1), ct := Pv (i + 1), bk := D.nx } σ2 H2) (hd : ∀ σ H, Pv xs.length σ H → D.nx σ H) :
    ∃ W : Nat → Nat → L2.St → Hp → Prop, (∃ m, W 0 m σ H) ∧ ∀ i m σ H, W i m σ H →
      ((ItB t K a).stop i H ∧ D.nx σ H) ∨ ((ItB t K a).go i H ∧ ∃ N : L2.St → Hp → Prop, (∀ σ' H', N σ' H' → ∃ m', m' < m ∧ W (i + 1) m' σ' H') ∧ ∀ x H', (ItB t K a).yld i H x H' → g x σ H' fun σ2 H2 => tb { D with nx := N, ct := N, bk := D.nx } σ2 H2) := by
  cases t
  · exact for_list (K := K) Pv h0 hl hs hd
  · exact for_tup (K := K) Pv h0 hl hs hd
theorem lc_seq {t : Bool} {K : PySem.W.Frag} {a : Addr} {xs : List V} {g : TG} {tt : TT} {te : TE} {vs : List Nat} {σ : L2.St} {H1 : Hp} {D : Addr} {Qd : Hp → Prop} (Pv : Nat → Hp → Prop) (h0 : Pv 0 (upd H1 D (.lst []))) (hl : ∀ i H, i ≤ xs.length → Pv i H → SqB t K H a xs)
    (hs : ∀ i x H, xs[i]? = some x → Pv i H → g x (wipe σ vs) H fun σ2 H2 => wipe σ2 vs = wipe σ vs ∧ tt σ2 H2 fun b H3 =>
      if b = true then te σ2 H3 fun y H4 => ∃ acc, H4 D = some (.lst acc) ∧ acc.length < sizeLine ∧ Pv (i + 1) (upd H4 D (.lst (acc ++ [y]))) else Pv (i + 1) H3) (hd : ∀ H, Pv xs.length H → Qd H) :
    ∃ W : Nat → Nat → Hp → Prop, (∃ m, W 0 m (upd H1 D (.lst []))) ∧ ∀ i m H, W i m H →
      ((ItB t K a).stop i H ∧ Qd H) ∨ ((ItB t K a).go i H ∧ ∃ Nx : Hp → Prop, (∀ H', Nx H' → ∃ m', m' < m ∧ W (i + 1) m' H') ∧ ∀ x H', (ItB t K a).yld i H x H' → g x (wipe σ vs) H' fun σ2 H2 => wipe σ2 vs = wipe σ vs ∧ tt σ2 H2 fun b H3 =>
        if b = true then te σ2 H3 fun y H4 => ∃ acc, H4 D = some (.lst acc) ∧ acc.length < sizeLine ∧ Nx (upd H4 D (.lst (acc ++ [y]))) else Nx H3) := by
  cases t
  · exact lc_list (K := K) Pv h0 hl hs hd
  · exact lc_tup (K := K) Pv h0 hl hs hd
/-! ### data without lists: it stands whatever list is written -/
mutual
def flatD : PyData → Bool
  | .list _ => false
  | .dict _ => false
  | .tuple xs => flatDs xs
  | _ => true
def flatDs : List PyData → Bool
  | [] => true
  | d :: ds => flatD d && flatDs ds
end
section
variable {K : PySem.W.Frag} {H H' : Hp}
mutual
theorem dp_exI (e : ExI H H') : ∀ (d : PyData) (v : V), flatD d = true → Dp K H v d → Dp K H' v d
  | .none, _, _, h => by cases h; exact .non
  | .bool b, _, _, h => by cases h; exact .bl b
  | .int i, _, _, h => by cases h; exact .int i
  | .str x, _, _, h => by cases h; exact .str x
  | .list ds, _, q, h => by simp [flatD] at q
  | .tuple ds, _, q, h => by
    cases h with
    | tup hs ha => exact .tup (e.sq hs) (dpAll_exI e ds _ (by simpa [flatD] using q) ha)
  | .dict _, _, _, h => by cases h
theorem dpAll_exI (e : ExI H H') : ∀ (ds : List PyData) (vs : List V), flatDs ds = true → DpAll K H vs ds → DpAll K H' vs ds
  | [], _, _, h => by cases h; exact .nil
  | d :: ds, _, q, h => by
    simp only [flatDs, Bool.and_eq_true] at q
    cases h with
    | cons h1 h2 => exact .cons (dp_exI e d _ q.1 h1) (dpAll_exI e ds _ q.2 h2)
end
end
theorem flatDs_all {ds : List PyData} (h : ∀ d ∈ ds, flatD d = true) : flatDs ds = true := by
  induction ds with
  | nil => rfl
  | cons d ds ih => simp only [flatDs, Bool.and_eq_true]; exact ⟨h d List.mem_cons_self, ih fun x hx => h x (List.mem_cons_of_mem _ hx)⟩
theorem flatDs_mem {ds : List PyData} (h : flatDs ds = true) : ∀ d ∈ ds, flatD d = true := by
  induction ds with
  | nil => simp
  | cons d ds ih =>
    simp only [flatDs, Bool.and_eq_true] at h
    intro x hx
    rcases List.mem_cons.mp hx with rfl | hx
    · exact h.1
    · exact ih h.2 x hx
/-- what the turns of a comprehension have told so far -/
def outs (out : Nat → Option PyData) (n : Nat) : List PyData := (List.range n).filterMap out
theorem outs_succ (out : Nat → Option PyData) (n : Nat) : outs out (n + 1) = outs out n ++ (out n).toList := by
  unfold outs
  rw [List.range_succ, List.filterMap_append]
  cases e : out n <;> simp [e]
/-- a comprehension over a list or a tuple, each turn telling data without lists, or nothing -/
theorem lc_dp {t : Bool} {K : PySem.W.Frag} {a : Addr} {xs : List V} {g : TG} {tt : TT} {te : TE} {vs : List Nat} {σ : L2.St} {H1 : Hp} {D : Addr} {Qd : Hp → Prop} (out : Nat → Option PyData)
    (hD : H1 D = none) (hq : SqB t K H1 a xs) (hz : xs.length < sizeLine)
    (hs : ∀ i x H (N : V → Hp → Prop) (M : Hp → Prop), xs[i]? = some x → Ex H1 H → (∀ y H4 d, Ex H H4 → out i = some d → flatD d = true → Dp K H4 y d → N y H4) → (out i = none → ∀ H3, Ex H H3 → M H3) →
      g x (wipe σ vs) H fun σ2 H2 => wipe σ2 vs = wipe σ vs ∧ tt σ2 H2 fun b H3 => if b = true then te σ2 H3 N else M H3)
    (hd : ∀ H ys, Ex H1 H → H D = some (.lst ys) → DpAll K H ys (outs out xs.length) → Qd H) :
    ∃ W : Nat → Nat → Hp → Prop, (∃ m, W 0 m (upd H1 D (.lst []))) ∧ ∀ i m H, W i m H →
      ((ItB t K a).stop i H ∧ Qd H) ∨ ((ItB t K a).go i H ∧ ∃ Nx : Hp → Prop, (∀ H', Nx H' → ∃ m', m' < m ∧ W (i + 1) m' H') ∧ ∀ x H', (ItB t K a).yld i H x H' → g x (wipe σ vs) H' fun σ2 H2 => wipe σ2 vs = wipe σ vs ∧ tt σ2 H2 fun b H3 =>
        if b = true then te σ2 H3 fun y H4 => ∃ acc, H4 D = some (.lst acc) ∧ acc.length < sizeLine ∧ Nx (upd H4 D (.lst (acc ++ [y]))) else Nx H3) := by
  refine lc_seq (fun i H => i ≤ xs.length ∧ Ex H1 H ∧ ∃ ys, H D = some (.lst ys) ∧ ys.length ≤ i ∧ flatDs (outs out i) = true ∧ DpAll K H ys (outs out i)) ?_ (fun i H _ p => hq.to p.2.1) ?_ ?_
  · exact ⟨Nat.zero_le _, Ex.new hD, [], upd_same, Nat.le_refl _, rfl, .nil⟩
  · rintro i x H hx ⟨hi, e, ys, hy, hl, hf, hp⟩
    have hil : i < xs.length := (List.getElem?_eq_some_iff.mp hx).1
    refine hs i x H _ _ hx e (fun y H4 d e4 ho hfd hdp => ?_) fun ho H3 e3 => ?_
    · have hy4 := e4 _ _ hy
      refine ⟨ys, hy4, by omega, hil, (e.trans e4).mut hD, ys ++ [y], upd_same, by simp; omega, ?_, ?_⟩
      · rw [outs_succ, ho]
        refine flatDs_all fun z hz => ?_
        rcases List.mem_append.mp hz with hz | hz
        · exact flatDs_mem hf z hz
        · simp at hz; subst hz; exact hfd
      · rw [outs_succ, ho]
        have ei : ExI H4 (upd H4 D (.lst (ys ++ [y]))) := ExI.put hy4 rfl
        exact (dpAll_exI ei _ _ hf (hp.to e4)).app (.one (dp_exI ei d y hfd hdp))
    · refine ⟨hil, e.trans e3, ys, e3 _ _ hy, by omega, ?_, ?_⟩
      · rw [outs_succ, ho]; simpa using hf
      · rw [outs_succ, ho]; simpa using hp.to e3
  · rintro H ⟨_, e, ys, hy, _, _, hp⟩
    exact hd H ys e hy hp
def ItzB (t : Bool) (K : PySem.W.Frag) (a b : Addr) : It := match t with
  | true => ItzT K a b
  | false => Itz K a b
def GoB (t : Bool) (K : PySem.W.Frag) (a b : Addr) (i : Nat) (H : Hp) : Prop := ∃ (xs ys : List V) (x y : V), SqB t K H a xs ∧ SqB t K H b ys ∧ xs[i]? = some x ∧ ys[i]? = some y
/-- a comprehension over zip(a, b), both tuples or both lists -/
theorem lc_dpz {t : Bool} {K : PySem.W.Frag} {a b : Addr} {xs ys : List V} {g : TG} {tt : TT} {te : TE} {vs : List Nat} {σ : L2.St} {H1 : Hp} {D : Addr} {Qd : Hp → Prop} (out : Nat → Option PyData)
    (hD : H1 D = none) (hqa : SqB t K H1 a xs) (hqb : SqB t K H1 b ys) (hz : xs.length < sizeLine)
    (hs : ∀ i x y T H (N : V → Hp → Prop) (M : Hp → Prop), xs[i]? = some x → ys[i]? = some y → Ex H1 H → H T = none → (∀ y H4 d, Ex H H4 → out i = some d → flatD d = true → Dp K H4 y d → N y H4) → (out i = none → ∀ H3, Ex H H3 → M H3) →
      g (.ref T) (wipe σ vs) (upd H T (.tup [x, y])) fun σ2 H2 => wipe σ2 vs = wipe σ vs ∧ tt σ2 H2 fun b H3 => if b = true then te σ2 H3 N else M H3)
    (hd : ∀ H zs, Ex H1 H → H D = some (.lst zs) → DpAll K H zs (outs out (min xs.length ys.length)) → Qd H) :
    ∃ W : Nat → Nat → Hp → Prop, (∃ m, W 0 m (upd H1 D (.lst []))) ∧ ∀ i m H, W i m H →
      ((ItzB t K a b).stop i H ∧ Qd H) ∨ ((ItzB t K a b).go i H ∧ ∃ Nx : Hp → Prop, (∀ H', Nx H' → ∃ m', m' < m ∧ W (i + 1) m' H') ∧ ∀ x H', (ItzB t K a b).yld i H x H' → g x (wipe σ vs) H' fun σ2 H2 => wipe σ2 vs = wipe σ vs ∧ tt σ2 H2 fun b H3 =>
        if b = true then te σ2 H3 fun y H4 => ∃ acc, H4 D = some (.lst acc) ∧ acc.length < sizeLine ∧ Nx (upd H4 D (.lst (acc ++ [y]))) else Nx H3) := by
  refine ⟨fun i m H => m = min xs.length ys.length - i ∧ i ≤ min xs.length ys.length ∧ Ex H1 H ∧ ∃ zs, H D = some (.lst zs) ∧ zs.length ≤ i ∧ flatDs (outs out i) = true ∧ DpAll K H zs (outs out i),
    ⟨min xs.length ys.length, by simp, Nat.zero_le _, Ex.new hD, [], upd_same, Nat.le_refl _, rfl, .nil⟩, ?_⟩
  rintro i m H ⟨rfl, hi, e, zs, hy, hl, hf, hp⟩
  have qa := hqa.to e
  have qb := hqb.to e
  by_cases hlt : i < min xs.length ys.length
  · have ha : xs[i]? = some (xs[i]'(by omega)) := List.getElem?_eq_getElem (by omega)
    have hb : ys[i]? = some (ys[i]'(by omega)) := List.getElem?_eq_getElem (by omega)
    refine .inr ⟨?_, fun H => i + 1 ≤ min xs.length ys.length ∧ Ex H1 H ∧ ∃ zs, H D = some (.lst zs) ∧ zs.length ≤ i + 1 ∧ flatDs (outs out (i + 1)) = true ∧ DpAll K H zs (outs out (i + 1)), fun H' p' => ⟨_, by omega, rfl, p'⟩, ?_⟩
    · cases t
      · exact ⟨xs, ys, _, _, qa, qb, ha, hb⟩
      · exact ⟨xs, ys, _, _, qa, qb, ha, hb⟩
    · have key : ∀ x y T, H T = none → xs[i]? = some x → ys[i]? = some y → g (.ref T) (wipe σ vs) (upd H T (.tup [x, y])) fun σ2 H2 => wipe σ2 vs = wipe σ vs ∧ tt σ2 H2 fun b H3 =>
          if b = true then te σ2 H3 fun y H4 => ∃ acc, H4 D = some (.lst acc) ∧ acc.length < sizeLine ∧ (i + 1 ≤ min xs.length ys.length ∧ Ex H1 (upd H4 D (.lst (acc ++ [y]))) ∧ ∃ zs, (upd H4 D (.lst (acc ++ [y]))) D = some (.lst zs) ∧ zs.length ≤ i + 1 ∧ flatDs (outs out (i + 1)) = true ∧ DpAll K (upd H4 D (.lst (acc ++ [y]))) zs (outs out (i + 1)))
          else (i + 1 ≤ min xs.length ys.length ∧ Ex H1 H3 ∧ ∃ zs, H3 D = some (.lst zs) ∧ zs.length ≤ i + 1 ∧ flatDs (outs out (i + 1)) = true ∧ DpAll K H3 zs (outs out (i + 1))) := fun x y T nT hx hy' => by
        refine hs i x y T H _ _ hx hy' e nT (fun z H4 d e4 ho hfd hdp => ?_) fun ho H3 e3 => ?_
        · have hy4 := e4 _ _ hy
          refine ⟨zs, hy4, by omega, hlt, (e.trans e4).mut hD, zs ++ [z], upd_same, by simp; omega, ?_, ?_⟩
          · rw [outs_succ, ho]
            refine flatDs_all fun z hz => ?_
            rcases List.mem_append.mp hz with hz | hz
            · exact flatDs_mem hf z hz
            · simp at hz; subst hz; exact hfd
          · rw [outs_succ, ho]
            have ei : ExI H4 (upd H4 D (.lst (zs ++ [z]))) := ExI.put hy4 rfl
            exact (dpAll_exI ei _ _ hf (hp.to e4)).app (.one (dp_exI ei d z hfd hdp))
        · refine ⟨hlt, e.trans e3, zs, e3 _ _ hy, by omega, ?_, ?_⟩
          · rw [outs_succ, ho]; simpa using hf
          · rw [outs_succ, ho]; simpa using hp.to e3
      cases t
      · rintro v H' ⟨T, x, y, rfl, nT, rfl, hx, hy'⟩
        exact key x y T nT (hx xs qa) (hy' ys qb)
      · rintro v H' ⟨T, x, y, rfl, nT, rfl, hx, hy'⟩
        exact key x y T nT (hx xs qa) (hy' ys qb)
  · have ei : i = min xs.length ys.length := by omega
    subst ei
    refine .inl ⟨?_, hd H zs e hy hp⟩
    cases t
    · exact ⟨xs, ys, qa, qb, by omega⟩
    · exact ⟨xs, ys, qa, qb, by omega⟩
theorem atI_back {α : Type} {xs : List α} {v : α} (h : xs[xs.length - 1]? = some v) : atI xs (-1) = some v := by
  have h0 : xs.length - 1 < xs.length := (List.getElem?_eq_some_iff.mp h).1
  unfold atI
  have e : ixN xs.length (-1) = some (xs.length - 1) := by
    unfold ixN
    rw [if_neg (by decide), if_pos (by omega)]
    congr 1
    omega
  rw [e]
  exact h
theorem cut_tail (xs : List V) (h : 1 ≤ xs.length) : cutV xs (some 1) none = xs.tail := by
  unfold cutV
  rw [show HT.sIx xs.length 0 (some 1) = min 1 xs.length from rfl, show HT.sIx xs.length xs.length none = xs.length from rfl]
  have : min 1 xs.length = 1 := by omega
  rw [this, List.drop_one]
  exact List.take_of_length_le (by simp)
theorem dpAll_tail {K : PySem.W.Frag} {H : Hp} {xs : List V} {ds : List PyData} (h : DpAll K H xs ds) : DpAll K H xs.tail ds.tail := by
  cases h with
  | nil => exact .nil
  | cons _ h => exact h
theorem drop_cons {α : Type} {s : List α} {i : Nat} {p : α} (h : s[i]? = some p) : s.drop i = p :: s.drop (i + 1) := by
  obtain ⟨h1, h2⟩ := List.getElem?_eq_some_iff.mp h
  rw [List.drop_eq_getElem_cons h1, h2]
theorem for_enumL {K : PySem.W.Frag} {a : Addr} {xs : List V} {g : TG} {tb : TS} {D : Ends} {σ : L2.St} {H : Hp} (Pv : Nat → L2.St → Hp → Prop)
    (h0 : Pv 0 σ H) (hl : ∀ i σ H, i ≤ xs.length → Pv i σ H → SqL K H a xs)
    (hs : ∀ i x T σ H, xs[i]? = some x → Pv i σ H → H T = none →
      g (.ref T) σ (upd H T (.tup [.int (i : Nat), x])) fun σ2 H2 => tb { D with nx := Pv (i + 1), ct := Pv (i + 1), bk := D.nx } σ2 H2)
    (hd : ∀ σ H, Pv xs.length σ H → D.nx σ H) :
    ∃ W : Nat → Nat → L2.St → Hp → Prop, (∃ m, W 0 m σ H) ∧ ∀ i m σ H, W i m σ H →
      ((Ite K a).stop i H ∧ D.nx σ H) ∨ ((Ite K a).go i H ∧ ∃ N : L2.St → Hp → Prop, (∀ σ' H', N σ' H' → ∃ m', m' < m ∧ W (i + 1) m' σ' H') ∧
        ∀ x H', (Ite K a).yld i H x H' → g x σ H' fun σ2 H2 => tb { D with nx := N, ct := N, bk := D.nx } σ2 H2) := by
  refine ⟨fun i m σ H => m = xs.length - i ∧ i ≤ xs.length ∧ Pv i σ H, ⟨xs.length, by simp, Nat.zero_le _, h0⟩, ?_⟩
  rintro i m σ H ⟨rfl, hi, p⟩
  have q := hl i σ H hi p
  by_cases hlt : i < xs.length
  · refine .inr ⟨⟨xs, xs[i], q, List.getElem?_eq_getElem hlt⟩, Pv (i + 1), fun σ' H' p' => ⟨_, by omega, rfl, hlt, p'⟩, ?_⟩
    rintro v H' ⟨T, x, rfl, nT, rfl, hx⟩
    exact hs i x T σ H (hx xs q) p nT
  · have e : i = xs.length := by omega
    subst e
    exact .inl ⟨⟨xs, q, Nat.le_refl _⟩, hd σ H p⟩

end Gx

set_option Elab.async false
set_option linter.all false
set_option maxRecDepth 100000
set_option maxHeartbeats 2000000
/-! The data layer: readings that speak of data alone. A slot holds data that nobody changes, a list of the def's own, or an object. -/
namespace Gx
open PySem PySem.Spec PyProof.Rows L2 Evl
/-- the heap less the lists that are some def's own -/
def hd (H : Hp) (O : List Addr) : Hp := fun a => if a ∈ O then none else H a
theorem hd_at {H : Hp} {O : List Addr} {a : Addr} (h : a ∉ O) : hd H O a = H a := if_neg h
theorem hd_in {H : Hp} {O : List Addr} {a : Addr} (h : a ∈ O) : hd H O a = none := if_pos h
theorem hd_some {H : Hp} {O : List Addr} {a : Addr} {o : HO} (h : hd H O a = some o) : a ∉ O ∧ H a = some o := by
  by_cases z : a ∈ O
  · rw [hd_in z] at h; cases h
  · exact ⟨z, by rwa [hd_at z] at h⟩
theorem hd_nil (H : Hp) : hd H [] = H := by funext a; exact if_neg (by simp)
theorem hd_ex (H : Hp) (O : List Addr) : Ex (hd H O) H := fun a o h => (hd_some h).2
theorem hd_sub {H : Hp} {O O' : List Addr} (s : ∀ a ∈ O, a ∈ O') : Ex (hd H O') (hd H O) := fun a o h => by
  obtain ⟨h1, h2⟩ := hd_some h
  rw [hd_at fun z => h1 (s a z)]; exact h2
/-- what is new is not among what was told -/
theorem hd_to {H H' : Hp} {O O' : List Addr} (e : Ex H H') (s : ∀ a ∈ O', a ∈ O ∨ H a = none) : Ex (hd H O) (hd H' O') := fun a o h => by
  obtain ⟨h1, h2⟩ := hd_some h
  rw [hd_at fun z => (s a z).elim h1 fun q => by rw [q] at h2; cases h2]
  exact e a o h2
/-- a list of one's own is written -/
theorem hd_put {H : Hp} {O : List Addr} {a : Addr} {o : HO} (h : a ∈ O) : hd (upd H a o) O = hd H O := by
  funext b
  by_cases z : b ∈ O
  · rw [hd_in z, hd_in z]
  · rw [hd_at z, hd_at z, upd_ne fun e => z (by rw [e]; exact h)]
/-- an object by what is true of it, whatever else comes -/
structure Ob where
  φ : Hp → V → Prop
  up : ∀ {H H' : Hp} {v : V}, Ex H H' → φ H v → φ H' v
/-- what an expression tells: data, a list of its own, the own list of a slot, an object -/
inductive Dv where
  | d (x : PyData) | ow (xs : List PyData) | bo (i : Nat) (xs : List PyData) | x (o : Ob)
/-- what a slot holds -/
inductive Sl where
  | fz (x : PyData) | ow (xs : List PyData) | x (o : Ob)
abbrev DSt := List (Option Sl)
def RSl (K : PySem.W.Frag) (O : List Addr) (H0 H : Hp) : Option Sl → Option V → Prop
  | none, _ => True
  | some (.fz d), some v => Dq K (hd H O) v d
  | some (.ow xs), some v => ∃ a vs, v = .ref a ∧ a ∈ O ∧ H0 a = none ∧ H a = some (.lst vs) ∧ DqAll K (hd H O) vs xs
  | some (.x o), some v => o.φ (hd H O) v
  | some _, none => False
/-- the slots of a def: O0, H0 as the def found them -/
structure RS (K : PySem.W.Frag) (O0 : List Addr) (H0 : Hp) (δ : DSt) (σ : L2.St) (O : List Addr) (H : Hp) : Prop where
  old : ∀ a ∈ O0, ∃ xs, H0 a = some (.lst xs)
  lst : ∀ a ∈ O, ∃ xs, H a = some (.lst xs)
  ex : Ex H0 H
  sub : ∀ a ∈ O0, a ∈ O
  len : δ.length = σ.length
  at_ : ∀ i : Nat, RSl K O H0 H ((δ[i]?).getD none) ((σ[i]?).getD none)
  two : ∀ (i j : Nat) (xs ys : List PyData) (v : Option V), i ≠ j → δ[i]? = some (some (.ow xs)) → δ[j]? = some (some (.ow ys)) → σ[i]? = some v → σ[j]? = some v → False
/-- p is no slot's own -/
def Ap (δ : DSt) (σ : L2.St) (p : Addr) : Prop := ∀ (i : Nat) (xs : List PyData), δ[i]? = some (some (.ow xs)) → σ[i]? ≠ some (some (.ref p))
def RV (K : PySem.W.Frag) (H0 : Hp) (δ : DSt) (σ : L2.St) (O : List Addr) (H : Hp) : Dv → V → Prop
  | .d x, v => Dq K (hd H O) v x
  | .ow xs, v => ∃ p vs, v = .ref p ∧ p ∈ O ∧ H0 p = none ∧ Ap δ σ p ∧ H p = some (.lst vs) ∧ DqAll K (hd H O) vs xs
  | .bo i xs, v => σ[i]? = some (some v) ∧ ∃ p vs, v = .ref p ∧ H p = some (.lst vs) ∧ DqAll K (hd H O) vs xs
  | .x o, v => o.φ (hd H O) v
/-- a step of an expression: what stood stands; a slot's list may become data -/
structure Nx (O : List Addr) (H : Hp) (O' : List Addr) (H' : Hp) (δ δ' : DSt) : Prop where
  ex : Ex H H'
  new : ∀ a ∈ O', a ∈ O ∨ H a = none
  len : δ'.length = δ.length
  slot : ∀ (i : Nat) (s : Option Sl), δ[i]? = some s → δ'[i]? = some s ∨ (∃ xs, s = some (.ow xs) ∧ δ'[i]? = some (some (.fz (.list xs)))) ∨ δ'[i]? = some none
section
variable {K : PySem.W.Frag} {O0 O O' O'' : List Addr} {H0 H H' H'' : Hp} {δ δ' δ'' : DSt} {σ : L2.St}
theorem Nx.refl : Nx O H O H δ δ := ⟨Ex.refl _, fun _ h => .inl h, rfl, fun _ _ h => .inl h⟩
theorem Nx.trans (a : Nx O H O' H' δ δ') (b : Nx O' H' O'' H'' δ' δ'') : Nx O H O'' H'' δ δ'' :=
  ⟨a.ex.trans b.ex, fun p hp => (b.new p hp).elim (fun z => a.new p z) fun z => .inr (fresh_back a.ex z), b.len.trans a.len, fun i s h => by
    rcases a.slot i s h with z | ⟨xs, rfl, z⟩ | z
    · exact b.slot i s z
    · rcases b.slot i _ z with y | ⟨ys, y, _⟩ | y
      · exact .inr (.inl ⟨xs, rfl, y⟩)
      · cases y
      · exact .inr (.inr y)
    · rcases b.slot i _ z with y | ⟨ys, y, _⟩ | y
      · exact .inr (.inr y)
      · cases y
      · exact .inr (.inr y)⟩
theorem Nx.hd (a : Nx O H O' H' δ δ') : Ex (hd H O) (hd H' O') := hd_to a.ex a.new
theorem Nx.own (a : Nx O H O' H' δ δ') {i : Nat} {xs : List PyData} (h : δ'[i]? = some (some (.ow xs))) : δ[i]? = some (some (.ow xs)) := by
  have hi : i < δ'.length := (List.getElem?_eq_some_iff.mp h).1
  have e : δ[i]? = some (δ[i]'(by rw [← a.len]; exact hi)) := List.getElem?_eq_getElem (by rw [← a.len]; exact hi)
  rcases a.slot i _ e with z | ⟨ys, e2, z⟩ | z
  · rw [z] at h; rw [e]; exact h
  · rw [h] at z; cases z
  · rw [h] at z; cases z
theorem Nx.ap (a : Nx O H O' H' δ δ') {p : Addr} (h : Ap δ σ p) : Ap δ' σ p := fun i xs z => h i xs (a.own z)
mutual
theorem Dq.free' {K : PySem.W.Frag} {H : Hp} : ∀ (d : PyData) (v : V), Dq K H v d → d.hasDict = false → Dp K H v d
  | .none, _, z, _ => by cases z; exact .non
  | .bool b, _, z, _ => by cases z; exact .bl b
  | .int i, _, z, _ => by cases z; exact .int i
  | .str x, _, z, _ => by cases z; exact .str x
  | .list ds, _, z, y => by cases z with | lst a b => exact .lst a (DqAll.free' ds _ b (by simpa only [PyData.hasDict] using y))
  | .tuple ds, _, z, y => by cases z with | tup a b => exact .tup a (DqAll.free' ds _ b (by simpa only [PyData.hasDict] using y))
  | .dict _, _, z, y => by simp [PyData.hasDict] at y
theorem DqAll.free' {K : PySem.W.Frag} {H : Hp} : ∀ (ds : List PyData) (vs : List V), DqAll K H vs ds → PyData.hasDictAll ds = false → DpAll K H vs ds
  | [], _, z, _ => by cases z; exact .nil
  | d :: ds, _, z, y => by
    simp only [PyData.hasDictAll, Bool.or_eq_false_iff] at y
    cases z with | cons a b => exact .cons (Dq.free' d _ a y.1) (DqAll.free' ds _ b y.2)
end
theorem Dq.free {v : V} {d : PyData} (h : Dq K H v d) (f : d.hasDict = false) : Dp K H v d := Dq.free' d v h f
theorem DqAll.free {vs : List V} {ds : List PyData} (h : DqAll K H vs ds) (f : PyData.hasDictAll ds = false) : DpAll K H vs ds := DqAll.free' ds vs h f
theorem DqAll.len {vs : List V} {ds : List PyData} (h : DqAll K H vs ds) : vs.length = ds.length := by
  induction ds generalizing vs with
  | nil => cases h; rfl
  | cons d ds ih => cases h with | cons h1 h2 => simp [ih h2]
theorem DqAll.get {vs : List V} {ds : List PyData} (h : DqAll K H vs ds) {i : Nat} {v : V} (e : vs[i]? = some v) : ∃ d, ds[i]? = some d ∧ Dq K H v d := by
  induction ds generalizing vs i with
  | nil => cases h; simp at e
  | cons d ds ih =>
    cases h with
    | cons h1 h2 =>
      cases i with
      | zero => simp at e; subst e; exact ⟨d, by simp, h1⟩
      | succ i => obtain ⟨d', q1, q2⟩ := ih h2 (i := i) (by simpa using e); exact ⟨d', by simpa using q1, q2⟩
theorem DqAll.get' {vs : List V} {ds : List PyData} (h : DqAll K H vs ds) {i : Nat} {d : PyData} (e : ds[i]? = some d) : ∃ v, vs[i]? = some v ∧ Dq K H v d := by
  have hl := h.len
  have hi : i < ds.length := (List.getElem?_eq_some_iff.mp e).1
  have hv : vs[i]? = some (vs[i]'(by omega)) := List.getElem?_eq_getElem (by omega)
  obtain ⟨d', q1, q2⟩ := h.get hv
  rw [e] at q1; cases q1
  exact ⟨_, hv, q2⟩
theorem DqAll.app {vs ws : List V} {ds es : List PyData} (h : DqAll K H vs ds) (h' : DqAll K H ws es) : DqAll K H (vs ++ ws) (ds ++ es) := by
  induction ds generalizing vs with
  | nil => cases h; exact h'
  | cons d ds ih => cases h with | cons h1 h2 => exact .cons h1 (ih h2)
theorem DqAll.one {v : V} {d : PyData} (h : Dq K H v d) : DqAll K H [v] [d] := .cons h .nil
theorem DqAll.take {vs : List V} {ds : List PyData} (n : Nat) (h : DqAll K H vs ds) : DqAll K H (vs.take n) (ds.take n) := by
  induction ds generalizing vs n with
  | nil => cases h; simp; exact .nil
  | cons d ds ih =>
    cases h with
    | cons h1 h2 =>
      cases n with
      | zero => exact .nil
      | succ n => exact .cons h1 (ih n h2)
theorem DqAll.drop {vs : List V} {ds : List PyData} (n : Nat) (h : DqAll K H vs ds) : DqAll K H (vs.drop n) (ds.drop n) := by
  induction ds generalizing vs n with
  | nil => cases h; simp; exact .nil
  | cons d ds ih =>
    cases h with
    | cons h1 h2 =>
      cases n with
      | zero => exact .cons h1 h2
      | succ n => exact ih n h2
theorem DqAll.set {vs : List V} {ds : List PyData} (i : Nat) {v : V} {d : PyData} (h : DqAll K H vs ds) (r : Dq K H v d) : DqAll K H (vs.set i v) (ds.set i d) := by
  induction ds generalizing vs i with
  | nil => cases h; simp; exact .nil
  | cons d ds ih =>
    cases h with
    | cons h1 h2 =>
      cases i with
      | zero => exact .cons r h2
      | succ n => exact .cons h1 (ih n h2)
theorem DqAll.rev {vs : List V} {ds : List PyData} (h : DqAll K H vs ds) : DqAll K H vs.reverse ds.reverse := by
  induction ds generalizing vs with
  | nil => cases h; exact .nil
  | cons d ds ih => cases h with | cons h1 h2 => rw [List.reverse_cons, List.reverse_cons]; exact (ih h2).app (.one h1)
theorem dqAll_ints : ∀ ns : List Int, DqAll K H (ns.map V.int) (ns.map PyData.int)
  | [] => .nil
  | n :: ns => .cons (.int n) (dqAll_ints ns)
theorem RV.to (a : Nx O H O' H' δ δ') {v : V} {x : PyData} (h : RV K H0 δ σ O H (.d x) v) : RV K H0 δ' σ O' H' (.d x) v := Dq.to a.hd (show Dq K (Gx.hd H O) v x from h)
theorem RS.get (r : RS K O0 H0 δ σ O H) {i : Nat} {s : Sl} (h : δ[i]? = some (some s)) : ∃ v, σ[i]? = some (some v) ∧ RSl K O H0 H (some s) (some v) := by
  have z := r.at_ i
  rw [h] at z
  have hi : i < σ.length := by rw [← r.len]; exact (List.getElem?_eq_some_iff.mp h).1
  have e : σ[i]? = some (σ[i]'hi) := List.getElem?_eq_getElem hi
  rw [e] at z
  cases q : σ[i]'hi with
  | none => rw [q] at z; cases s <;> exact z.elim
  | some v => rw [q] at e z; exact ⟨v, e, z⟩
end
end Gx

set_option Elab.async false
set_option linter.all false
set_option maxRecDepth 100000
set_option maxHeartbeats 2000000
/-! The data layer: steps of the state, expressions. -/
namespace Gx
open PySem PySem.Spec PyProof.Rows L2 Evl
abbrev DTE := DSt → (Dv → DSt → Prop) → Prop
abbrev DTT := DSt → (Bool → DSt → Prop) → Prop
abbrev DTA := DSt → (List Dv → DSt → Prop) → Prop
section
variable {K : PySem.W.Frag} {O0 O O' O1 : List Addr} {H0 H H' H1 : Hp} {δ δ' δ1 : DSt} {σ : L2.St}
/-- content that may be read: data, or a list of one's own -/
def Cq (K : PySem.W.Frag) (O : List Addr) (H : Hp) (v : V) (x : PyData) : Prop :=
  Dq K (hd H O) v x ∨ ∃ xs p vs, x = .list xs ∧ v = .ref p ∧ H p = some (.lst vs) ∧ DqAll K (hd H O) vs xs
theorem Cq.dq {v : V} {x : PyData} (h : Cq K O H v x) : Dq K H v x := by
  rcases h with h | ⟨xs, p, vs, rfl, rfl, h1, h2⟩
  · exact h.to (hd_ex _ _)
  · exact .lst (SqL.of h1) (h2.to (hd_ex _ _))
theorem Cq.to (a : Nx O H O' H' δ δ') {v : V} {x : PyData} (h : Cq K O H v x) : Cq K O' H' v x := by
  rcases h with h | ⟨xs, p, vs, rfl, rfl, h1, h2⟩
  · exact .inl (h.to a.hd)
  · exact .inr ⟨xs, p, vs, rfl, rfl, a.ex _ _ h1, h2.to a.hd⟩
theorem Cq.list {v : V} {xs : List PyData} (h : Cq K O H v (.list xs)) : ∃ p vs, v = .ref p ∧ SqL K H p vs ∧ DqAll K (hd H O) vs xs := by
  rcases h with h | ⟨_, p, vs, e, rfl, h1, h2⟩
  · cases h with | lst a b => exact ⟨_, _, rfl, ex_l (hd_ex _ _) a, b⟩
  · cases e; exact ⟨p, vs, rfl, SqL.of h1, h2⟩
theorem Cq.tuple {v : V} {xs : List PyData} (h : Cq K O H v (.tuple xs)) : ∃ p vs, v = .ref p ∧ SqT K H p vs ∧ DqAll K (hd H O) vs xs := by
  rcases h with h | ⟨_, p, vs, e, rfl, h1, h2⟩
  · cases h with | tup a b => exact ⟨_, _, rfl, ex_t (hd_ex _ _) a, b⟩
  · cases e
theorem Cq.int {v : V} {i : Int} (h : Cq K O H v (.int i)) : v = .int i := by
  rcases h with h | ⟨_, p, vs, e, _⟩
  · cases h; rfl
  · cases e
theorem Cq.bool {v : V} {b : Bool} (h : Cq K O H v (.bool b)) : v = .bl b := by
  rcases h with h | ⟨_, p, vs, e, _⟩
  · cases h; rfl
  · cases e
theorem Cq.str {v : V} {b : Str} (h : Cq K O H v (.str b)) : v = .str b := by
  rcases h with h | ⟨_, p, vs, e, _⟩
  · cases h; rfl
  · cases e
theorem Cq.non {v : V} (h : Cq K O H v .none) : v = .non := by
  rcases h with h | ⟨_, p, vs, e, _⟩
  · cases h; rfl
  · cases e
/-- a value read as data -/
def vw : Dv → (PyData → Prop) → Prop
  | .d x, k => k x
  | .ow xs, k => k (.list xs)
  | .bo _ xs, k => k (.list xs)
  | .x _, _ => False
theorem vw_ok {d : Dv} {v : V} {k : PyData → Prop} (h : RV K H0 δ σ O H d v) (z : vw d k) : ∃ x, Cq K O H v x ∧ k x := by
  cases d with
  | d x => exact ⟨x, .inl h, z⟩
  | ow xs => obtain ⟨p, vs, rfl, _, _, _, h1, h2⟩ := h; exact ⟨_, .inr ⟨xs, p, vs, rfl, rfl, h1, h2⟩, z⟩
  | bo i xs => obtain ⟨_, p, vs, rfl, h1, h2⟩ := h; exact ⟨_, .inr ⟨xs, p, vs, rfl, rfl, h1, h2⟩, z⟩
  | x o => exact z.elim
/-! the state's steps -/
theorem RSl.to {s : Option Sl} {v : Option V} (e : Ex H H') (e' : Ex (hd H O) (hd H' O')) (n : ∀ xs a, s = some (.ow xs) → v = some (.ref a) → a ∈ O → a ∈ O') (h : RSl K O H0 H s v) : RSl K O' H0 H' s v := by
  match s, v, h with
  | none, _, _ => trivial
  | some (.fz d), some v, h => exact Dq.to e' (show Dq K (hd H O) v d from h)
  | some (.ow xs), some v, h =>
    obtain ⟨a, vs, rfl, h1, h2, h3, h4⟩ := h
    exact ⟨a, vs, rfl, n xs a rfl rfl h1, h2, e _ _ h3, h4.to e'⟩
  | some (.x o), some v, h => exact o.up e' h
  | some (.fz d), none, h => exact h.elim
  | some (.ow d), none, h => exact h.elim
  | some (.x d), none, h => exact h.elim
theorem RS.grow (r : RS K O0 H0 δ σ O H) (e : Ex H H') : RS K O0 H0 δ σ O H' :=
  ⟨r.old, fun a ha => let ⟨xs, q⟩ := r.lst a ha; ⟨xs, e _ _ q⟩, r.ex.trans e, r.sub, r.len, fun i => RSl.to e (hd_to e fun a h => .inl h) (fun _ _ _ _ h => h) (r.at_ i), r.two⟩
theorem nx_grow (e : Ex H H') : Nx O H O H' δ δ := ⟨e, fun _ h => .inl h, rfl, fun _ _ h => .inl h⟩
theorem RS.own (r : RS K O0 H0 δ σ O H) {p : Addr} {vs : List V} (e : Ex H H') (n : H p = none) (hp : H' p = some (.lst vs)) : RS K O0 H0 δ σ (p :: O) H' := by
  refine ⟨r.old, fun a ha => ?_, r.ex.trans e, fun a h => List.mem_cons_of_mem _ (r.sub a h), r.len, fun i => RSl.to e (hd_to e fun a h => ?_) (fun _ _ _ _ h => List.mem_cons_of_mem _ h) (r.at_ i), r.two⟩
  · rcases List.mem_cons.mp ha with rfl | ha
    · exact ⟨vs, hp⟩
    · obtain ⟨xs, q⟩ := r.lst a ha; exact ⟨xs, e _ _ q⟩
  · rcases List.mem_cons.mp h with rfl | h
    · exact .inr n
    · exact .inl h
theorem nx_own {p : Addr} (e : Ex H H') (n : H p = none) : Nx O H (p :: O) H' δ δ := ⟨e, fun a h => by
  rcases List.mem_cons.mp h with rfl | h
  · exact .inr n
  · exact .inl h, rfl, fun _ _ h => .inl h⟩
/-- p is nobody's any more -/
def les (O : List Addr) (p : Addr) : List Addr := O.filter fun a => decide (a ≠ p)
theorem les_sub {p : Addr} : ∀ a ∈ les O p, a ∈ O := fun a h => (List.mem_filter.mp h).1
theorem les_ne {p a : Addr} (h : a ∈ O) (n : a ≠ p) : a ∈ les O p := List.mem_filter.mpr ⟨h, decide_eq_true n⟩
theorem les_no {p : Addr} : p ∉ les O p := fun h => by simpa using (List.mem_filter.mp h).2
theorem nx_les {p : Addr} : Nx O H (les O p) H δ δ := ⟨Ex.refl _, fun a h => .inl (les_sub a h), rfl, fun _ _ h => .inl h⟩
theorem ap_at {i : Nat} {p : Addr} {xs : List PyData} (a : Ap δ σ p) (h : (δ[i]?).getD none = some (.ow xs)) (h2 : (σ[i]?).getD none = some (.ref p)) : False := by
  have e1 : δ[i]? = some (some (.ow xs)) := by
    cases q : δ[i]? with
    | none => rw [q] at h; cases h
    | some z => rw [q] at h; exact congrArg some h
  have e2 : σ[i]? = some (some (.ref p)) := by
    cases q : σ[i]? with
    | none => rw [q] at h2; cases h2
    | some z => rw [q] at h2; exact congrArg some h2
  exact a i xs e1 e2
theorem RS.kept0 (r : RS K O0 H0 δ σ O H) {p : Addr} (n : H0 p = none) : ∀ a ∈ O0, a ∈ les O p := fun a h => les_ne (r.sub a h) (by
  rintro rfl
  obtain ⟨xs, q⟩ := r.old _ h
  rw [n] at q; cases q)
theorem RS.drop (r : RS K O0 H0 δ σ O H) {p : Addr} (n : H0 p = none) (a : Ap δ σ p) : RS K O0 H0 δ σ (les O p) H :=
  ⟨r.old, fun a h => r.lst a (les_sub a h), r.ex, r.kept0 n, r.len, fun i => RSl.to (Ex.refl _) (hd_sub les_sub)
    (fun xs b e1 e2 hb => les_ne hb fun e => ap_at (i := i) a e1 (by rw [← e]; exact e2)) (r.at_ i), r.two⟩

/-! frozen, where it was one's own -/
theorem rs_set {i : Nat} {s : Sl} {v : V} (r : RS K O0 H0 δ σ O H) (hi : δ[i]? = some (some (.ow (match s with | .ow xs => xs | _ => [])))) : True := trivial
theorem get_set {α : Type} {l : List α} {i j : Nat} {a x : α} (h : (l.set i a)[j]? = some x) : (j = i ∧ x = a) ∨ (j ≠ i ∧ l[j]? = some x) := by
  rw [List.getElem?_set] at h
  by_cases e : i = j
  · subst e
    rw [if_pos rfl] at h
    split at h
    · exact .inl ⟨rfl, (Option.some.inj h).symm⟩
    · cases h
  · rw [if_neg e] at h; exact .inr ⟨fun z => e z.symm, h⟩
/-- a slot's own list becomes data -/
theorem RS.freeze (r : RS K O0 H0 δ σ O H) {i : Nat} {xs : List PyData} {p : Addr} {vs : List V} (h : δ[i]? = some (some (.ow xs))) (hv : σ[i]? = some (some (.ref p)))
    (n : H0 p = none) (h1 : H p = some (.lst vs)) (h2 : DqAll K (hd H O) vs xs) :
    RS K O0 H0 (δ.set i (some (.fz (.list xs)))) σ (les O p) H ∧ Nx O H (les O p) H δ (δ.set i (some (.fz (.list xs)))) ∧ Dq K (hd H (les O p)) (.ref p) (.list xs) := by
  have hil : i < δ.length := (List.getElem?_eq_some_iff.mp h).1
  have dat : Dq K (hd H (les O p)) (.ref p) (.list xs) := .lst (SqL.of (by rw [hd_at les_no]; exact h1)) (h2.to (hd_sub les_sub))
  refine ⟨⟨r.old, fun a ha => r.lst a (les_sub a ha), r.ex, r.kept0 n,
    by rw [List.length_set]; exact r.len, fun j => ?_, fun j k ys zs v e ej ek vj vk => ?_⟩, ⟨Ex.refl _, fun a ha => .inl (les_sub a ha), by simp, fun j s hj => ?_⟩, dat⟩
  · rw [List.getElem?_set]
    by_cases e : i = j
    · subst e
      rw [if_pos rfl, if_pos hil, hv]
      exact dat
    · rw [if_neg e]
      refine RSl.to (Ex.refl _) (hd_sub les_sub) (fun ys b e1 e2 hb => les_ne hb fun e3 => ?_) (r.at_ j)
      subst e3
      have q1 : δ[j]? = some (some (.ow ys)) := by
        cases q : δ[j]? with
        | none => rw [q] at e1; cases e1
        | some z => rw [q] at e1; exact congrArg some e1
      have q2 : σ[j]? = some (some (.ref b)) := by
        cases q : σ[j]? with
        | none => rw [q] at e2; cases e2
        | some z => rw [q] at e2; exact congrArg some e2
      exact r.two i j xs ys _ e h q1 hv q2
  · rcases get_set ej with ⟨rfl, q⟩ | ⟨_, q⟩
    · cases q
    · rcases get_set ek with ⟨rfl, q'⟩ | ⟨_, q'⟩
      · cases q'
      · exact r.two j k ys zs v e q q' vj vk
  · by_cases e : j = i
    · subst e
      rw [h] at hj; cases hj
      exact .inr (.inl ⟨xs, rfl, by rw [List.getElem?_set, if_pos rfl, if_pos hil]⟩)
    · exact .inl (by rw [List.getElem?_set, if_neg (fun z => e z.symm)]; exact hj)
/-- given away -/
def frz : Dv → DSt → (Dv → DSt → Prop) → Prop
  | .d x, δ, k => k (.d x) δ
  | .ow xs, δ, k => k (.d (.list xs)) δ
  | .bo i _, δ, k => match δ[i]? with
    | some (some (.ow ys)) => k (.d (.list ys)) (δ.set i (some (.fz (.list ys))))
    | some (some (.fz y)) => k (.d y) δ
    | _ => False
  | .x o, δ, k => k (.x o) δ
theorem frz_ok (r : RS K O0 H0 δ σ O H) {d : Dv} {v : V} {k : Dv → DSt → Prop} (h : RV K H0 δ σ O H d v) (z : frz d δ k) :
    ∃ d' δ' O', Nx O H O' H δ δ' ∧ RS K O0 H0 δ' σ O' H ∧ RV K H0 δ' σ O' H d' v ∧ k d' δ' ∧ (∀ i xs, d' ≠ .bo i xs) ∧ (∀ xs, d' ≠ .ow xs) := by
  cases d with
  | d x => exact ⟨_, _, _, Nx.refl, r, h, z, by simp, by simp⟩
  | x o => exact ⟨_, _, _, Nx.refl, r, h, z, by simp, by simp⟩
  | ow xs =>
    obtain ⟨p, vs, rfl, hp, n, a, h1, h2⟩ := h
    refine ⟨_, _, les O p, nx_les, r.drop n a, ?_, z, by simp, by simp⟩
    exact Dq.lst (SqL.of (by rw [hd_at les_no]; exact h1)) (h2.to (hd_sub les_sub))
  | bo i xs =>
    obtain ⟨e, p, vs, rfl, h1, h2⟩ := h
    simp only [frz] at z
    rcases q : δ[i]? with _ | s
    · rw [q] at z; exact z.elim
    · rw [q] at z
      match s, z with
      | some (.ow ys), z =>
        obtain ⟨v, hv, rl⟩ := r.get q
        rw [e] at hv; cases hv
        obtain ⟨a, us, ea, ha, n, g1, g2⟩ := rl
        cases ea
        obtain ⟨r', nx, dq⟩ := r.freeze q e n g1 g2
        exact ⟨.d _, _, _, nx, r', dq, z, by simp, by simp⟩
      | some (.fz y), z =>
        obtain ⟨v, hv, rl⟩ := r.get q
        rw [e] at hv; cases hv
        exact ⟨.d _, _, _, Nx.refl, r, rl, z, by simp, by simp⟩
theorem RV.tod (a : Nx O H O' H' δ δ') {d : Dv} {v : V} (no : ∀ xs, d ≠ .ow xs) (h : RV K H0 δ σ O H d v) : RV K H0 δ' σ O' H' d v := by
  cases d with
  | d x => exact RV.to a h
  | x o => exact o.up a.hd h
  | ow xs => exact absurd rfl (no xs)
  | bo i xs => obtain ⟨e, p, vs, rfl, h1, h2⟩ := h; exact ⟨e, p, vs, rfl, a.ex _ _ h1, h2.to a.hd⟩
/-- a list just made is kept as data; what a slot lends stays lent -/
def tmp : Dv → Dv
  | .ow xs => .d (.list xs)
  | d => d
theorem tmp_ok (r : RS K O0 H0 δ σ O H) {d : Dv} {v : V} (h : RV K H0 δ σ O H d v) :
    ∃ O', Nx O H O' H δ δ ∧ RS K O0 H0 δ σ O' H ∧ RV K H0 δ σ O' H (tmp d) v ∧ (∀ xs, tmp d ≠ .ow xs) := by
  cases d with
  | d x => exact ⟨_, Nx.refl, r, h, by simp [tmp]⟩
  | x o => exact ⟨_, Nx.refl, r, h, by simp [tmp]⟩
  | bo i xs => exact ⟨_, Nx.refl, r, h, by simp [tmp]⟩
  | ow xs =>
    obtain ⟨p, vs, rfl, hp, n, a, h1, h2⟩ := h
    refine ⟨les O p, nx_les, r.drop n a, ?_, by simp [tmp]⟩
    exact Dq.lst (SqL.of (by rw [hd_at les_no]; exact h1)) (h2.to (hd_sub les_sub))
/-! readings -/
/-- what is wanted, said of data, is wanted of the heap -/
def Post (K : PySem.W.Frag) (O0 : List Addr) (H0 : Hp) (δ : DSt) (σ : L2.St) (O : List Addr) (H : Hp) (R : Dv → DSt → Prop) (Q : VK) : Prop :=
  ∀ d δ' v O' H', Nx O H O' H' δ δ' → RS K O0 H0 δ' σ O' H' → RV K H0 δ' σ O' H' d v → R d δ' → Q v H'
def PostT (K : PySem.W.Frag) (O0 : List Addr) (H0 : Hp) (δ : DSt) (σ : L2.St) (O : List Addr) (H : Hp) (R : Bool → DSt → Prop) (Q : Bool → Hp → Prop) : Prop :=
  ∀ b δ' O' H', Nx O H O' H' δ δ' → RS K O0 H0 δ' σ O' H' → R b δ' → Q b H'
def RVs (K : PySem.W.Frag) (H0 : Hp) (δ : DSt) (σ : L2.St) (O : List Addr) (H : Hp) : List Dv → List V → Prop
  | [], vs => vs = []
  | d :: ds, vs => ∃ v ws, vs = v :: ws ∧ RV K H0 δ σ O H d v ∧ (∀ xs, d ≠ .ow xs) ∧ RVs K H0 δ σ O H ds ws
def PostA (K : PySem.W.Frag) (O0 : List Addr) (H0 : Hp) (δ : DSt) (σ : L2.St) (O : List Addr) (H : Hp) (R : List Dv → DSt → Prop) (Q : List V → Hp → Prop) : Prop :=
  ∀ ds δ' vs O' H', Nx O H O' H' δ δ' → RS K O0 H0 δ' σ O' H' → RVs K H0 δ' σ O' H' ds vs → R ds δ' → Q vs H'
def simE (K : PySem.W.Frag) (T : DTE) : TE := fun σ H Q => ∃ O0 H0 δ O R, RS K O0 H0 δ σ O H ∧ T δ R ∧ Post K O0 H0 δ σ O H R Q
def simT (K : PySem.W.Frag) (T : DTT) : TT := fun σ H Q => ∃ O0 H0 δ O R, RS K O0 H0 δ σ O H ∧ T δ R ∧ PostT K O0 H0 δ σ O H R Q
def simA (K : PySem.W.Frag) (T : DTA) : TA := fun σ H Q => ∃ O0 H0 δ O R, RS K O0 H0 δ σ O H ∧ T δ R ∧ PostA K O0 H0 δ σ O H R Q
section
variable {R : Dv → DSt → Prop} {Q : VK}
theorem Post.step (p : Post K O0 H0 δ σ O H R Q) (a : Nx O H O1 H1 δ δ1) : Post K O0 H0 δ1 σ O1 H1 R Q :=
  fun d δ' v O' H' n r rv h => p d δ' v O' H' (a.trans n) r rv h
theorem Post.d (p : Post K O0 H0 δ σ O H R Q) (r : RS K O0 H0 δ σ O H) {x : PyData} {v : V} (h : Dq K (hd H O) v x) (q : R (.d x) δ) : Q v H := p (.d x) _ _ _ _ Nx.refl r h q
theorem Post.tup (p : Post K O0 H0 δ σ O H R Q) (r : RS K O0 H0 δ σ O H) {xs : List PyData} {vs : List V} (h : DqAll K (hd H O) vs xs) (q : R (.d (.tuple xs)) δ) {a : Addr} (n : H a = none) :
    Q (.ref a) (upd H a (.tup vs)) := by
  have e : Ex H (upd H a (.tup vs)) := Ex.new n
  have ha : a ∉ O := fun z => by obtain ⟨xs, q⟩ := r.lst a z; rw [n] at q; cases q
  exact p (.d (.tuple xs)) _ _ _ _ (nx_grow e) (r.grow e) (Dq.tup (SqT.of (by rw [hd_at ha]; exact upd_same)) (h.to (hd_to e fun _ h => .inl h))) q
theorem Post.lst (p : Post K O0 H0 δ σ O H R Q) (r : RS K O0 H0 δ σ O H) {xs : List PyData} {vs : List V} (h : DqAll K (hd H O) vs xs) (q : R (.ow xs) δ) {a : Addr} (n : H a = none) :
    Q (.ref a) (upd H a (.lst vs)) := by
  have e : Ex H (upd H a (.lst vs)) := Ex.new n
  refine p (.ow xs) _ _ (a :: O) _ (nx_own e n) (r.own e n upd_same) ⟨a, vs, rfl, List.mem_cons_self, fresh_back r.ex n, fun i ys h1 h2 => ?_, upd_same, h.to (hd_to e fun b h => ?_)⟩ q
  · obtain ⟨v, hv, a', us, e1, h3, _⟩ := r.get h1
    rw [h2] at hv; cases hv; cases e1
    obtain ⟨ws, q⟩ := r.lst _ h3
    rw [n] at q; cases q
  · rcases List.mem_cons.mp h with rfl | h
    · exact .inr n
    · exact .inl h
end
end
end Gx

set_option Elab.async false
set_option linter.all false
set_option maxRecDepth 100000
set_option maxHeartbeats 2000000
/-! The data layer: rules for expressions. -/
namespace Gx
open PySem PySem.Spec PyProof.Rows L2 Evl
theorem _root_.L2.PE.imp {X : Cx} {e : Expr} {t t' : TE} (h : PE X e t) (f : ∀ σ H Q, t' σ H Q → t σ H Q) : PE X e t' := ⟨fun p s σ H Q I z => h.run p s σ H Q I (f σ H Q z)⟩
theorem _root_.L2.PT.imp {X : Cx} {e : Expr} {t t' : TT} (h : PT X e t) (f : ∀ σ H Q, t' σ H Q → t σ H Q) : PT X e t' := ⟨fun p s σ H Q I z => h.run p s σ H Q I (f σ H Q z)⟩
theorem _root_.L2.PW.imp {X : Cx} {e : Expr} {t t' : TT} (h : PW X e t) (f : ∀ σ H Q, t' σ H Q → t σ H Q) : PW X e t' := ⟨fun wh p s σ H Q I z => h.run wh p s σ H Q I (f σ H Q z)⟩
theorem _root_.L2.PA.imp {X : Cx} {e : List Expr} {t t' : TA} (h : PA X e t) (f : ∀ σ H Q, t' σ H Q → t σ H Q) : PA X e t' := ⟨fun pos p s σ H Q I z => h.run pos p s σ H Q I (f σ H Q z)⟩
theorem _root_.L2.PO.imp {X : Cx} {e : Option Expr} {t t' : TO} (h : PO X e t) (f : ∀ σ H Q, t' σ H Q → t σ H Q) : PO X e t' := ⟨fun p s σ H Q I z => h.run p s σ H Q I (f σ H Q z)⟩
theorem OpR.or' {X : Cx} {g : Value → Value → Sem Value} {r r' : R2} (h : OpR X g r) (h' : OpR X g r') : OpR X g (fun x y H Q => r x y H Q ∨ r' x y H Q) := fun pins s σ H x y v u Q I rx ry z =>
  z.elim (fun z => h pins s σ H x y v u Q I rx ry z) fun z => h' pins s σ H x y v u Q I rx ry z
theorem vw_tmp {d : Dv} {k : PyData → Prop} : vw (tmp d) k = vw d k := by cases d <;> rfl
section
variable {X : Cx} {K : PySem.W.Frag} {O0 O O' O1 : List Addr} {H0 H H' H1 : Hp} {δ δ' δ1 : DSt} {σ : L2.St}
variable {a b e : Expr} {pos : Pos} {Ta Tb Tc : DTE}
/-! names, constants -/
def dC (x : PyData) : DTE := fun δ R => R (.d x) δ
theorem de_int {i j pos} : PE X (.Constant (.int i) j pos) (simE K (dC (.int i))) := pe_int.imp fun _ _ _ ⟨_, _, _, _, _, r, t, p⟩ => p.d r (.int i) t
theorem de_bl {i j pos} : PE X (.Constant (.bool i) j pos) (simE K (dC (.bool i))) := pe_bl.imp fun _ _ _ ⟨_, _, _, _, _, r, t, p⟩ => p.d r (.bl i) t
theorem de_str {i j pos} : PE X (.Constant (.str i) j pos) (simE K (dC (.str i))) := pe_str.imp fun _ _ _ ⟨_, _, _, _, _, r, t, p⟩ => p.d r (.str i) t
theorem de_non {j pos} : PE X (.Constant .none j pos) (simE K (dC .none)) := pe_non.imp fun _ _ _ ⟨_, _, _, _, _, r, t, p⟩ => p.d r .non t
def dVar (i : Nat) : DTE := fun δ R => match δ[i]? with
  | some (some (.fz x)) => R (.d x) δ
  | some (some (.ow xs)) => R (.bo i xs) δ
  | some (some (.x o)) => R (.x o) δ
  | _ => False
theorem de_v {i : Nat} {x : Str} {pos : Pos} (h : PE X (.Name x pos) (tVar i)) : PE X (.Name x pos) (simE K (dVar i)) := h.imp fun σ H Q ⟨O0, H0, δ, O, R, r, t, p⟩ => by
  simp only [dVar] at t
  rcases q : δ[i]? with _ | s
  · rw [q] at t; exact t.elim
  · rw [q] at t
    match s, t with
    | some (.fz y), t =>
      obtain ⟨v, hv, rl⟩ := r.get q
      exact ⟨v, hv, p.d r rl t⟩
    | some (.x o), t =>
      obtain ⟨v, hv, rl⟩ := r.get q
      exact ⟨v, hv, p (.x o) _ _ _ _ Nx.refl r rl t⟩
    | some (.ow ys), t =>
      obtain ⟨v, hv, a, us, rfl, ha, n, g1, g2⟩ := r.get q
      exact ⟨_, hv, p (.bo i ys) _ _ _ _ Nx.refl r ⟨hv, a, us, rfl, g1, g2⟩ t⟩
/-- a thing of the module, by what is true of it -/
theorem de_con {x : Str} {pos : Pos} {v : V} {d : PyData} (h : PE X (.Name x pos) (tC v)) (f : ∀ H, Dq K H v d) : PE X (.Name x pos) (simE K (dC d)) :=
  h.imp fun _ _ _ ⟨_, _, _, _, _, r, t, p⟩ => p.d r (f _) t
/-! two operands -/
abbrev DF := PyData → PyData → DSt → (Dv → DSt → Prop) → Prop
def dOp (f : DF) (Ta Tb : DTE) : DTE := fun δ R => Ta δ fun a δ1 => vw a fun x => Tb δ1 fun b δ2 => vw b fun y => f x y δ2 R
/-- how an operator of values meets one of data -/
def Meets (K : PySem.W.Frag) (r : R2) (f : DF) : Prop := ∀ (O0 : List Addr) (H0 : Hp) (δ : DSt) (σ : L2.St) (O : List Addr) (H : Hp) (R : Dv → DSt → Prop) (Q : VK) (x y : PyData) (a b : V),
  RS K O0 H0 δ σ O H → Cq K O H a x → Cq K O H b y → f x y δ R → Post K O0 H0 δ σ O H R Q → r a b H Q
theorem sim_op {r : R2} {f : DF} (hr : Meets K r f) : ∀ σ H Q, simE K (dOp f Ta Tb) σ H Q → tOp r (simE K Ta) (simE K Tb) σ H Q := by
  rintro σ H Q ⟨O0, H0, δ, O, R, rs, t, p⟩
  refine ⟨O0, H0, δ, O, _, rs, t, fun d δ1 v O1 H1 n1 rs1 rv1 h1 => ?_⟩
  obtain ⟨O1', nx, rs1', rv1', now⟩ := tmp_ok rs1 rv1
  rw [← vw_tmp] at h1
  obtain ⟨x, cx, h1⟩ := vw_ok rv1' h1
  refine ⟨O0, H0, δ1, O1', _, rs1', h1, fun d2 δ2 u O2 H2 n2 rs2 rv2 h2 => ?_⟩
  obtain ⟨y, cy, h2⟩ := vw_ok rv2 h2
  exact hr _ _ _ _ _ _ _ _ _ _ _ _ rs2 (cx.to n2) cy h2 (p.step ((n1.trans nx).trans n2))
theorem de_op {op : Operator} {f : DF} (ho : ∃ r, OpR X (binaryOp op) r ∧ Meets K r f) (ha : PE X a (simE K Ta)) (hb : PE X b (simE K Tb)) : PE X (.BinOp a op b pos) (simE K (dOp f Ta Tb)) :=
  (pe_op ho.choose_spec.1 ha hb).imp (sim_op ho.choose_spec.2)
theorem de_cmp {op : CmpOp} {f : DF} (ho : ∃ r, OpR X (compareOp op) r ∧ Meets K r f) (ha : PE X a (simE K Ta)) (hb : PE X b (simE K Tb)) (hm : behindInMarks op b = false) : PE X (.Compare a [op] [b] pos) (simE K (dOp f Ta Tb)) :=
  (pe_cmpR ho.choose_spec.1 ha hb hm).imp (sim_op ho.choose_spec.2)
theorem de_ix {f : DF} (ho : ∃ r, IxR X r ∧ Meets K r f) (ha : PE X a (simE K Ta)) (hb : PE X b (simE K Tb)) (hs : PlainIx b) : PE X (.Subscript a b pos) (simE K (dOp f Ta Tb)) :=
  (pe_ix ho.choose_spec.1 ha hb hs).imp (sim_op ho.choose_spec.2)
/-- a value that is a bool, as a test -/
def dTest (T : DTE) : DTT := fun δ R => T δ fun a δ1 => vw a fun x => match x with
  | .bool b => R b δ1
  | _ => False
theorem sim_test : ∀ σ H Q, simT K (dTest Ta) σ H Q → tTest (simE K Ta) σ H Q := by
  rintro σ H Q ⟨O0, H0, δ, O, R, rs, t, p⟩
  refine ⟨O0, H0, δ, O, _, rs, t, fun d δ1 v O1 H1 n1 rs1 rv1 h1 => ?_⟩
  obtain ⟨x, cx, h1⟩ := vw_ok rv1 h1
  match x, cx, h1 with
  | .bool b, cx, h1 => exact ⟨b, cx.bool, p b δ1 O1 H1 n1 rs1 h1⟩
theorem dt_cmp {op : CmpOp} {f : DF} (ho : ∃ r, OpR X (compareOp op) r ∧ Meets K r f) (ha : PE X a (simE K Ta)) (hb : PE X b (simE K Tb)) (hm : behindInMarks op b = false) : PT X (.Compare a [op] [b] pos) (simT K (dTest (dOp f Ta Tb))) := by
  obtain ⟨r, h1, h2⟩ := ho
  refine (pt_cmpR h1 ha hb hm).imp fun σ H Q h => ?_
  obtain ⟨O0, H0, δ, O, R, rs, t, p⟩ := h
  refine sim_op h2 σ H _ ⟨O0, H0, δ, O, _, rs, t, fun d δ1 v O1 H1 n1 rs1 rv1 h1 => ?_⟩
  obtain ⟨x, cx, h1⟩ := vw_ok rv1 h1
  match x, cx, h1 with
  | .bool b, cx, h1 => exact ⟨b, cx.bool, p b δ1 O1 H1 n1 rs1 h1⟩
theorem dt_val (h : PE X e (simE K Ta)) (he : ∀ whole, isTrue e X.env whole = (do let v ← whole; standAt e.pos; holding [v] (truthy v)) := by intro _; rfl) : PT X e (simT K (dTest Ta)) := by
  refine (pt_val h he).imp fun σ H Q z => ?_
  exact sim_test σ H Q z
/-! the operators -/
def fI (g : Int → Int → PyData) : DF := fun x y δ R => match x, y with
  | .int i, .int j => R (.d (g i j)) δ
  | _, _ => False
def fIc (C : Int → Int → Prop) (g : Int → Int → Int) : DF := fun x y δ R => match x, y with
  | .int i, .int j => C i j ∧ R (.d (.int (g i j))) δ
  | _, _ => False
theorem meets_ic {C : Int → Int → Prop} {g : Int → Int → Int} : Meets K (rI C fun i j => .int (g i j)) (fIc C g) := by
  intro O0 H0 δ σ O H R Q x y a b rs cx cy h p
  match x, y, cx, cy, h with
  | .int i, .int j, cx, cy, h => exact ⟨i, j, cx.int, cy.int, h.1, p.d rs (.int _) h.2⟩
theorem meets_i0 {g : Int → Int → Int} : Meets K (rI0 fun i j => .int (g i j)) (fI fun i j => .int (g i j)) := by
  intro O0 H0 δ σ O H R Q x y a b rs cx cy h p
  match x, y, cx, cy, h with
  | .int i, .int j, cx, cy, h => exact ⟨i, j, cx.int, cy.int, p.d rs (.int _) h⟩
theorem meets_ib {g : Int → Int → Bool} : Meets K (rI0 fun i j => .bl (g i j)) (fI fun i j => .bool (g i j)) := by
  intro O0 H0 δ σ O H R Q x y a b rs cx cy h p
  match x, y, cx, cy, h with
  | .int i, .int j, cx, cy, h => exact ⟨i, j, cx.int, cy.int, p.d rs (.bl _) h⟩
theorem do_sub : ∃ r, OpR X (binaryOp .Sub) r ∧ Meets K r (fI fun i j => .int (i - j)) := ⟨_, op_sub, meets_i0⟩
theorem do_mod : ∃ r, OpR X (binaryOp .Mod) r ∧ Meets K r (fIc (fun _ j => 0 < j) fun i j => i % j) := ⟨_, op_mod, meets_ic⟩
theorem do_fdiv : ∃ r, OpR X (binaryOp .FloorDiv) r ∧ Meets K r (fIc CDivZ fun i j => i.fdiv j) := ⟨_, op_fdivZ, meets_ic⟩
theorem do_pow : ∃ r, OpR X (binaryOp .Pow) r ∧ Meets K r (fIc CPow fun i j => i ^ j.toNat) := ⟨_, op_pow, meets_ic⟩
theorem do_shr : ∃ r, OpR X (binaryOp .RShift) r ∧ Meets K r (fIc (fun _ j => 0 ≤ j) fun i j => i / 2 ^ j.toNat) := ⟨_, op_shr, meets_ic⟩
theorem do_lt : ∃ r, OpR X (compareOp .Lt) r ∧ Meets K r (fI fun i j => .bool (decide (i < j))) := ⟨_, op_lt, meets_ib⟩
theorem do_le : ∃ r, OpR X (compareOp .LtE) r ∧ Meets K r (fI fun i j => .bool (decide (i ≤ j))) := ⟨_, op_le, meets_ib⟩
theorem do_gt : ∃ r, OpR X (compareOp .Gt) r ∧ Meets K r (fI fun i j => .bool (decide (j < i))) := ⟨_, op_gt, meets_ib⟩
theorem do_ge : ∃ r, OpR X (compareOp .GtE) r ∧ Meets K r (fI fun i j => .bool (decide (j ≤ i))) := ⟨_, op_ge, meets_ib⟩
/-- == of data: ints, texts and truths by themselves; whole data where it can be laid out -/
def fEq : DF := fun x y δ R => SeqAt.shaped x = true ∧ SeqAt.shaped y = true ∧ R (.d (.bool (PyData.eqv x y))) δ
def fNe : DF := fun x y δ R => SeqAt.shaped x = true ∧ SeqAt.shaped y = true ∧ R (.d (.bool (!PyData.eqv x y))) δ
mutual
theorem noDict_of : ∀ d : PyData, d.canLay0 = true → d.hasDict = false
  | .none, _ => rfl
  | .bool _, _ => rfl
  | .int _, _ => rfl
  | .str _, _ => rfl
  | .list xs, h => by simp only [PyData.hasDict]; exact noDict_all xs (by simpa only [PyData.canLay0] using h)
  | .tuple xs, h => by simp only [PyData.hasDict]; exact noDict_all xs (by simpa only [PyData.canLay0] using h)
  | .dict _, h => by simp [PyData.canLay0] at h
theorem noDict_all : ∀ ds : List PyData, PyData.canLayAll0 ds = true → PyData.hasDictAll ds = false
  | [], _ => rfl
  | d :: ds, h => by
    simp only [PyData.canLayAll0, Bool.and_eq_true] at h
    simp only [PyData.hasDictAll, noDict_of d h.1, noDict_all ds h.2, Bool.or_false]
end
theorem shaped_free {d : PyData} (h : SeqAt.shaped d = true) : d.hasDict = false := noDict_of d (SeqAt.canLay_of_shaped h)
theorem do_eq (hK : X.K = K) (hu : X.A.units + 64 < cLine) : ∃ r, OpR X (compareOp .Eq) r ∧ Meets K r fEq := by
  subst hK
  refine ⟨_, op_eqD hu, ?_⟩
  rintro O0 H0 δ σ O H R Q x y a b rs cx cy ⟨h1, h2, h3⟩ p
  exact ⟨x, y, cx.dq.free (shaped_free h1), cy.dq.free (shaped_free h2), h1, h2, p.d rs (.bl _) h3⟩
theorem do_ne (hK : X.K = K) (hu : X.A.units + 64 < cLine) : ∃ r, OpR X (compareOp .NotEq) r ∧ Meets K r fNe := by
  subst hK
  refine ⟨_, op_neD hu, ?_⟩
  rintro O0 H0 δ σ O H R Q x y a b rs cx cy ⟨h1, h2, h3⟩ p
  exact ⟨x, y, cx.dq.free (shaped_free h1), cy.dq.free (shaped_free h2), h1, h2, p.d rs (.bl _) h3⟩
/-- + of ints, of lists, of tuples, of texts -/
def fAdd : DF := fun x y δ R => match x, y with
  | .int i, .int j => R (.d (.int (i + j))) δ
  | .list xs, .list ys => xs.length + ys.length ≤ sizeLine ∧ R (.ow (xs ++ ys)) δ
  | .tuple xs, .tuple ys => xs.length + ys.length ≤ sizeLine ∧ R (.d (.tuple (xs ++ ys))) δ
  | _, _ => False
def rCatL (K : PySem.W.Frag) : R2 := fun x y H Q => ∃ l b xs zs, x = .ref l ∧ y = .ref b ∧ SqL K H l xs ∧ SqL K H b zs ∧ xs.length + zs.length ≤ sizeLine ∧ ∀ p, H p = none → Q (.ref p) (upd H p (.lst (xs ++ zs)))
theorem op_catL : OpR X (binaryOp .Add) (rCatL X.K) := by
  intro pins s σ H x y v u Q I rx ry h
  obtain ⟨l, b, xs, zs, rfl, rfl, hH, hB, hz, q⟩ := h
  cases rx
  cases ry
  obtain ⟨its, r, pl, hl⟩ := I.list hH
  obtain ⟨its2, r2, pl2, hl2⟩ := I.list hB
  obtain ⟨⟨oc, od, odat, osl⟩, n, ho, hc, hd', hdat⟩ := pl
  obtain ⟨⟨oc2, od2, odat2, osl2⟩, n2, ho2, hc2, hd2, hdat2⟩ := pl2
  simp only at hc hdat hc2 hdat2
  subst hc hdat hc2 hdat2
  have e : its.toArray ++ its2.toArray = (its ++ its2).toArray := by simp
  have e1 := r.length
  have e2 := r2.length
  refine concat_meets ⟨_, ho, rfl⟩ ⟨_, ho2, rfl⟩ noFill_list_add seq_list_add PySem.F.slot_list_add PySem.F.entry_list_add (PySem.F.args_list_add_2 _ _)
    (list_addW l b its.toArray its2.toArray n n2 od od2 osl osl2 (by rw [List.size_toArray, List.size_toArray]; omega)) ⟨ho, ho2, ?_⟩
  rw [e]
  exact ⟨.ref _, _, I.lnew (t' := s.toks) (r.append r2) (by rw [List.length_append]; omega), rfl, q _ I.fresh⟩
theorem do_add (hK : X.K = K) : ∃ r, OpR X (binaryOp .Add) r ∧ Meets K r fAdd := by
  subst hK
  refine ⟨_, OpR.or' op_add (OpR.or' op_catL op_catA), ?_⟩
  intro O0 H0 δ σ O H R Q x y a b rs cx cy h p
  match x, y, cx, cy, h with
  | .int i, .int j, cx, cy, h => exact .inl ⟨i, j, cx.int, cy.int, p.d rs (.int _) h⟩
  | .list xs, .list ys, cx, cy, h =>
    obtain ⟨p1, vs, rfl, h1, h2⟩ := cx.list
    obtain ⟨p2, ws, rfl, h3, h4⟩ := cy.list
    exact .inr (.inl ⟨p1, p2, vs, ws, rfl, rfl, h1, h3, by rw [h2.len, h4.len]; exact h.1, fun q n => p.lst rs (h2.app h4) h.2 n⟩)
  | .tuple xs, .tuple ys, cx, cy, h =>
    obtain ⟨p1, vs, rfl, h1, h2⟩ := cx.tuple
    obtain ⟨p2, ws, rfl, h3, h4⟩ := cy.tuple
    refine .inr (.inr ⟨p1, p2, vs, ws, rfl, rfl, h1, h3, by rw [h2.len, h4.len]; exact h.1, fun e => ?_, fun _ e => ?_, fun _ _ q n => p.tup rs (h2.app h4) h.2 n⟩)
    · subst e
      have e2 := h2.len
      cases xs with
      | cons x xs => cases e2
      | nil =>
        rcases cy with cy | ⟨_, _, _, e, _⟩
        · exact p.d rs cy h.2
        · cases e
    · subst e
      have e2 := h4.len
      cases ys with
      | cons x xs => cases e2
      | nil =>
        rcases cx with cx | ⟨_, _, _, e, _⟩
        · exact p.d rs cx (by simpa using h.2)
        · cases e
/-- * of ints, of a list and an int -/
def fMul : DF := fun x y δ R => match x, y with
  | .int i, .int j => CMul i j ∧ R (.d (.int (i * j))) δ
  | .list xs, .int j => (0 ≤ j ∧ j ≤ 100000 ∧ xs.length ≤ 100) ∧ R (.ow (List.replicate j.toNat xs).flatten) δ
  | _, _ => False
end
end Gx

set_option Elab.async false
set_option linter.all false
set_option maxRecDepth 100000
set_option maxHeartbeats 2000000
/-! The data layer: tests, displays, subscripts, calls. -/
namespace Gx
open PySem PySem.Spec PyProof.Rows L2 Evl
section
variable {X : Cx} {K : PySem.W.Frag} {O0 O O' O1 : List Addr} {H0 H H' H1 : Hp} {δ δ' δ1 : DSt} {σ : L2.St}
variable {a b e c : Expr} {pos : Pos} {Ta Tb Tc : DTE} {tA tB' : DTT} {rest : List Expr}
theorem do_mul (hK : X.K = K) : ∃ r, OpR X (binaryOp .Mult) r ∧ Meets K r fMul := by
  subst hK
  refine ⟨_, OpR.or' op_mul op_repL, ?_⟩
  intro O0 H0 δ σ O H R Q x y a b rs cx cy h p
  match x, y, cx, cy, h with
  | .int i, .int j, cx, cy, h => exact .inl ⟨i, j, cx.int, cy.int, h.1, p.d rs (.int _) h.2⟩
  | .list xs, .int j, cx, cy, h =>
    obtain ⟨p1, vs, rfl, h1, h2⟩ := cx.list
    obtain ⟨⟨g1, g2, g3⟩, h⟩ := h
    refine .inr ⟨p1, j, vs, rfl, cy.int, h1, g1, g2, by rw [h2.len]; exact g3, fun q n => p.lst rs ?_ h n⟩
    generalize j.toNat = m
    induction m with
    | zero => exact .nil
    | succ m ih => rw [List.replicate_succ, List.replicate_succ, List.flatten_cons, List.flatten_cons]; exact h2.app ih
/-! is None -/
def isN : PyData → Bool
  | .none => true
  | _ => false
def fIsN : DF := fun x y δ R => match y with
  | .none => R (.d (.bool (isN x))) δ
  | _ => False
def fNotN : DF := fun x y δ R => match y with
  | .none => R (.d (.bool (!isN x))) δ
  | _ => False
theorem isN_of {v : V} {x : PyData} (h : Cq K O H v x) : decide (v = V.non) = (isN x) := by
  have q := h.dq
  cases x <;> cases q <;> rfl
theorem notN_of {v : V} {x : PyData} (h : Cq K O H v x) : (!decide (v = V.non)) = (!isN x) := by
  have q := h.dq
  cases x <;> cases q <;> rfl
theorem do_isN : ∃ r, OpR X (compareOp .Is) r ∧ Meets K r fIsN := by
  refine ⟨_, op_isN, ?_⟩
  intro O0 H0 δ σ O H R Q x y a b rs cx cy h p
  match y, cy, h with
  | .none, cy, h => exact ⟨cy.non, by rw [isN_of cx]; exact p.d rs (.bl _) h⟩
theorem do_notN : ∃ r, OpR X (compareOp .IsNot) r ∧ Meets K r fNotN := by
  refine ⟨_, op_notN, ?_⟩
  intro O0 H0 δ σ O H R Q x y a b rs cx cy h p
  match y, cy, h with
  | .none, cy, h => exact ⟨cy.non, by rw [notN_of cx]; exact p.d rs (.bl _) h⟩
/-! in, not in: of data that can be compared -/
def inD (x : PyData) (ys : List PyData) : Bool := ys.any fun y => PyData.eqv y x
def itemsD : PyData → Option (List PyData)
  | .list xs => some xs
  | .tuple xs => some xs
  | _ => none
def fIn (neg : Bool) : DF := fun x y δ R => ∃ ys, itemsD y = some ys ∧ SeqAt.shaped x = true ∧ ys.all SeqAt.shaped = true ∧ R (.d (.bool (if neg then !inD x ys else inD x ys))) δ
/-! unary -/
def dUn (f : PyData → DSt → (Dv → DSt → Prop) → Prop) (Ta : DTE) : DTE := fun δ R => Ta δ fun a δ1 => vw a fun x => f x δ1 R
def fNeg : PyData → DSt → (Dv → DSt → Prop) → Prop := fun x δ R => match x with
  | .int i => R (.d (.int (-i))) δ
  | _ => False
theorem de_neg (ha : PE X a (simE K Ta)) : PE X (.UnaryOp .USub a pos) (simE K (dUn fNeg Ta)) := (pe_un un_neg ha).imp fun σ H Q ⟨O0, H0, δ, O, R, rs, t, p⟩ => by
  refine ⟨O0, H0, δ, O, _, rs, t, fun d δ1 v O1 H1 n1 rs1 rv1 h1 => ?_⟩
  obtain ⟨x, cx, h1⟩ := vw_ok rv1 h1
  match x, cx, h1 with
  | .int i, cx, h1 => exact ⟨i, cx.int, (p.step n1).d rs1 (.int _) h1⟩
/-! and, or, not, if -/
def dNot (t : DTT) : DTT := fun δ R => t δ fun c δ1 => R (!c) δ1
theorem dt_not (ha : PT X a (simT K tA)) : PT X (.UnaryOp .Not a pos) (simT K (dNot tA)) := (pt_not ha).imp fun σ H Q ⟨O0, H0, δ, O, R, rs, t, p⟩ =>
  ⟨O0, H0, δ, O, _, rs, t, fun b δ' O' H' n r h => p (!b) δ' O' H' n r h⟩
def dAnd (t u : DTT) : DTT := fun δ R => t δ fun c δ1 => if c = true then u δ1 R else R false δ1
def dOr (t u : DTT) : DTT := fun δ R => t δ fun c δ1 => if c = true then R true δ1 else u δ1 R
theorem PostT.step {R : Bool → DSt → Prop} {Q : Bool → Hp → Prop} (p : PostT K O0 H0 δ σ O H R Q) (a : Nx O H O1 H1 δ δ1) : PostT K O0 H0 δ1 σ O1 H1 R Q :=
  fun b δ' O' H' n r h => p b δ' O' H' (a.trans n) r h
theorem dw_and1 (ha : PT X a (simT K tA)) : PW X (.BoolOp .And [a] pos) (simT K tA) := pw_and1 ha
theorem dw_or1 (ha : PT X a (simT K tA)) : PW X (.BoolOp .Or [a] pos) (simT K tA) := pw_or1 ha
theorem dw_and (ha : PT X a (simT K tA)) (hb : PW X (.BoolOp .And (b :: rest) pos) (simT K tB')) : PW X (.BoolOp .And (a :: b :: rest) pos) (simT K (dAnd tA tB')) :=
  (pw_and ha hb).imp fun σ H Q ⟨O0, H0, δ, O, R, rs, t, p⟩ => ⟨O0, H0, δ, O, _, rs, t, fun c δ' O' H' n r h => by
    cases c with
    | true => exact ⟨O0, H0, δ', O', R, r, h, p.step n⟩
    | false => exact p false δ' O' H' n r h⟩
theorem dw_or (ha : PT X a (simT K tA)) (hb : PW X (.BoolOp .Or (b :: rest) pos) (simT K tB')) : PW X (.BoolOp .Or (a :: b :: rest) pos) (simT K (dOr tA tB')) :=
  (pw_or ha hb).imp fun σ H Q ⟨O0, H0, δ, O, R, rs, t, p⟩ => ⟨O0, H0, δ, O, _, rs, t, fun c δ' O' H' n r h => by
    cases c with
    | false => exact ⟨O0, H0, δ', O', R, r, h, p.step n⟩
    | true => exact p true δ' O' H' n r h⟩
/-- as values -/
def dNotV (Ta : DTE) : DTE := fun δ R => Ta δ fun a δ1 => vw a fun x => match x with
  | .bool b => R (.d (.bool (!b))) δ1
  | _ => False
def dAndV (Ta Tb : DTE) : DTE := fun δ R => Ta δ fun a δ1 => vw a fun x => match x with
  | .bool b => if b = true then Tb δ1 R else R (.d (.bool false)) δ1
  | _ => False
def dOrV (Ta Tb : DTE) : DTE := fun δ R => Ta δ fun a δ1 => vw a fun x => match x with
  | .bool b => if b = true then R (.d (.bool true)) δ1 else Tb δ1 R
  | _ => False
theorem de_one {op} {T : DTE} (h : PE X a (simE K T)) : PE X (.BoolOp op [a] pos) (simE K T) := pe_one h
theorem de_not (ha : PE X a (simE K Ta)) : PE X (.UnaryOp .Not a pos) (simE K (dNotV Ta)) := (pe_not ha).imp fun σ H Q ⟨O0, H0, δ, O, R, rs, t, p⟩ => by
  refine ⟨O0, H0, δ, O, _, rs, t, fun d δ1 v O1 H1 n1 rs1 rv1 h1 => ?_⟩
  obtain ⟨x, cx, h1⟩ := vw_ok rv1 h1
  match x, cx, h1 with
  | .bool i, cx, h1 => exact ⟨i, cx.bool, (p.step n1).d rs1 (.bl _) h1⟩
theorem de_and (ha : PE X a (simE K Ta)) (hb : PE X (.BoolOp .And (b :: rest) pos) (simE K Tb)) : PE X (.BoolOp .And (a :: b :: rest) pos) (simE K (dAndV Ta Tb)) :=
  (pe_and ha hb).imp fun σ H Q ⟨O0, H0, δ, O, R, rs, t, p⟩ => by
    refine ⟨O0, H0, δ, O, _, rs, t, fun d δ1 v O1 H1 n1 rs1 rv1 h1 => ?_⟩
    obtain ⟨x, cx, h1⟩ := vw_ok rv1 h1
    match x, cx, h1 with
    | .bool true, cx, h1 => exact ⟨true, cx.bool, ⟨O0, H0, δ1, O1, R, rs1, h1, p.step n1⟩⟩
    | .bool false, cx, h1 => exact ⟨false, cx.bool, (p.step n1).d rs1 (.bl _) h1⟩
theorem de_or (ha : PE X a (simE K Ta)) (hb : PE X (.BoolOp .Or (b :: rest) pos) (simE K Tb)) : PE X (.BoolOp .Or (a :: b :: rest) pos) (simE K (dOrV Ta Tb)) :=
  (pe_or ha hb).imp fun σ H Q ⟨O0, H0, δ, O, R, rs, t, p⟩ => by
    refine ⟨O0, H0, δ, O, _, rs, t, fun d δ1 v O1 H1 n1 rs1 rv1 h1 => ?_⟩
    obtain ⟨x, cx, h1⟩ := vw_ok rv1 h1
    match x, cx, h1 with
    | .bool false, cx, h1 => exact ⟨false, cx.bool, ⟨O0, H0, δ1, O1, R, rs1, h1, p.step n1⟩⟩
    | .bool true, cx, h1 => exact ⟨true, cx.bool, (p.step n1).d rs1 (.bl _) h1⟩
def dIf (t : DTT) (Ta Tb : DTE) : DTE := fun δ R => t δ fun c δ1 => if c = true then Ta δ1 R else Tb δ1 R
theorem de_if (hc : PT X c (simT K tA)) (ha : PE X a (simE K Ta)) (hb : PE X b (simE K Tb)) : PE X (.IfExp c a b pos) (simE K (dIf tA Ta Tb)) :=
  (pe_ifExp hc ha hb).imp fun σ H Q ⟨O0, H0, δ, O, R, rs, t, p⟩ => ⟨O0, H0, δ, O, _, rs, t, fun b δ' O' H' n r h => by
    cases b with
    | true => exact ⟨O0, H0, δ', O', R, r, h, p.step n⟩
    | false => exact ⟨O0, H0, δ', O', R, r, h, p.step n⟩⟩
/-! argument lists -/
def dNil : DTA := fun δ R => R [] δ
def dCons (Te : DTE) (Tr : DTA) : DTA := fun δ R => Te δ fun d δ1 => Tr δ1 fun ds δ2 => R (tmp d :: ds) δ2
theorem da_nil : PA X [] (simA K dNil) := pa_nil.imp fun σ H Q ⟨O0, H0, δ, O, R, rs, t, p⟩ => p [] δ [] O H Nx.refl rs rfl t
theorem RVs.to (n : Nx O H O' H' δ δ') : ∀ {ds : List Dv} {vs : List V}, RVs K H0 δ σ O H ds vs → RVs K H0 δ' σ O' H' ds vs
  | [], _, h => h
  | d :: ds, _, ⟨v, ws, rfl, h1, h2, h3⟩ => ⟨v, ws, rfl, h1.tod n h2, h2, RVs.to n h3⟩
theorem da_cons {es : List Expr} {Tr : DTA} (ha : PE X e (simE K Ta)) (hr : PA X es (simA K Tr)) (hs : starEach (e :: es) X.env = (false, eval e X.env) :: starEach es X.env := by rfl) : PA X (e :: es) (simA K (dCons Ta Tr)) :=
  (pa_cons ha hr hs).imp fun σ H Q ⟨O0, H0, δ, O, R, rs, t, p⟩ => by
    refine ⟨O0, H0, δ, O, _, rs, t, fun d δ1 v O1 H1 n1 rs1 rv1 h1 => ?_⟩
    obtain ⟨O1', nx, rs1', rv1', now⟩ := tmp_ok rs1 rv1
    refine ⟨O0, H0, δ1, O1', _, rs1', h1, fun ds δ2 vs O2 H2 n2 rs2 rv2 h2 => ?_⟩
    exact p (tmp d :: ds) δ2 _ O2 H2 ((n1.trans nx).trans n2) rs2 ⟨v, vs, rfl, rv1'.tod n2 now, now, rv2⟩ h2
/-- all given away -/
def frzL : List Dv → DSt → (List Dv → DSt → Prop) → Prop
  | [], δ, k => k [] δ
  | d :: ds, δ, k => frz d δ fun d' δ1 => frzL ds δ1 fun ds' δ2 => k (d' :: ds') δ2
/-- what is data or an object alone -/
def Plain : Dv → Prop
  | .d _ => True
  | .x _ => True
  | _ => False
def DVs (K : PySem.W.Frag) (Hf : Hp) : List Dv → List V → Prop
  | [], vs => vs = []
  | d :: ds, vs => ∃ v ws, vs = v :: ws ∧ (match d with | .d x => Dq K Hf v x | .x o => o.φ Hf v | _ => False) ∧ DVs K Hf ds ws
theorem DVs.to {Hf Hg : Hp} (e : Ex Hf Hg) : ∀ {ds : List Dv} {vs : List V}, DVs K Hf ds vs → DVs K Hg ds vs
  | [], _, h => h
  | .d x :: ds, _, ⟨v, ws, rfl, h1, h2⟩ => ⟨v, ws, rfl, Dq.to e h1, DVs.to e h2⟩
  | .x o :: ds, _, ⟨v, ws, rfl, h1, h2⟩ => ⟨v, ws, rfl, o.up e h1, DVs.to e h2⟩
  | .ow _ :: ds, _, ⟨v, ws, rfl, h1, h2⟩ => h1.elim
  | .bo _ _ :: ds, _, ⟨v, ws, rfl, h1, h2⟩ => h1.elim
theorem frzL_ok : ∀ {ds : List Dv} {vs : List V} {k : List Dv → DSt → Prop} {O : List Addr} {δ : DSt}, RS K O0 H0 δ σ O H → RVs K H0 δ σ O H ds vs → frzL ds δ k →
    ∃ ds' δ' O', Nx O H O' H δ δ' ∧ RS K O0 H0 δ' σ O' H ∧ DVs K (hd H O') ds' vs ∧ k ds' δ'
  | [], _, k, O, δ, r, h, z => ⟨[], δ, O, Nx.refl, r, h, z⟩
  | d :: ds, _, k, O, δ, r, ⟨v, ws, rfl, h1, h2, h3⟩, z => by
    obtain ⟨d', δ1, O1, n1, r1, v1, z1, nb, no⟩ := frz_ok r h1 z
    obtain ⟨ds', δ2, O2, n2, r2, v2, z2⟩ := frzL_ok r1 (RVs.to n1 h3) z1
    refine ⟨d' :: ds', _, _, n1.trans n2, r2, ⟨v, ws, rfl, ?_, v2⟩, z2⟩
    cases d' with
    | d x => exact RV.to n2 v1
    | x o => exact o.up n2.hd v1
    | ow xs => exact absurd rfl (no xs)
    | bo i xs => exact absurd rfl (nb i xs)
/-! displays -/
def datas : List Dv → Option (List PyData)
  | [] => some []
  | .d x :: ds => (datas ds).map (x :: ·)
  | _ :: _ => none
theorem datas_ok {Hf : Hp} : ∀ {ds : List Dv} {vs : List V} {xs : List PyData}, DVs K Hf ds vs → datas ds = some xs → DqAll K Hf vs xs
  | [], _, _, h, e => by cases e; cases h; exact .nil
  | .d x :: ds, _, _, ⟨v, ws, rfl, h1, h2⟩, e => by
    simp only [datas, Option.map_eq_some_iff] at e
    obtain ⟨ys, e1, rfl⟩ := e
    exact .cons h1 (datas_ok h2 e1)
  | .x _ :: _, _, _, _, e => by cases e
  | .ow _ :: _, _, _, _, e => by cases e
  | .bo _ _ :: _, _, _, _, e => by cases e
def dTup (T : DTA) : DTE := fun δ R => T δ fun ds δ1 => frzL ds δ1 fun ds' δ2 => ∃ xs, datas ds' = some xs ∧ xs.length ≤ 100000 ∧ R (.d (.tuple xs)) δ2
def dLst (T : DTA) : DTE := fun δ R => T δ fun ds δ1 => frzL ds δ1 fun ds' δ2 => ∃ xs, datas ds' = some xs ∧ xs.length ≤ 100000 ∧ R (.ow xs) δ2
theorem de_tup {x1} {es : List Expr} {T : DTA} (h : PA X es (simA K T)) : PE X (.Tuple es x1 pos) (simE K (dTup T)) := (pe_tup h).imp fun σ H Q ⟨O0, H0, δ, O, R, rs, t, p⟩ => by
  refine ⟨O0, H0, δ, O, _, rs, t, fun ds δ1 vs O1 H1 n1 rs1 rv1 h1 => ?_⟩
  obtain ⟨ds', δ2, O2, n2, r2, v2, xs, e, hz, z⟩ := frzL_ok rs1 rv1 h1
  have q := datas_ok v2 e
  exact ⟨by rw [q.len]; exact Nat.le_of_lt (small hz), fun a n => (p.step (n1.trans n2)).tup r2 q z n⟩
theorem de_lst {es : List Expr} {T : DTA} (h : PA X es (simA K T)) : PE X (.List es pos) (simE K (dLst T)) := (pe_lst h).imp fun σ H Q ⟨O0, H0, δ, O, R, rs, t, p⟩ => by
  refine ⟨O0, H0, δ, O, _, rs, t, fun ds δ1 vs O1 H1 n1 rs1 rv1 h1 => ?_⟩
  obtain ⟨ds', δ2, O2, n2, r2, v2, xs, e, hz, z⟩ := frzL_ok rs1 rv1 h1
  have q := datas_ok v2 e
  exact ⟨by rw [q.len]; exact Nat.le_of_lt (small hz), fun a n => (p.step (n1.trans n2)).lst r2 q z n⟩
/-! subscripts -/
def fIx : DF := fun x y δ R => match y with
  | .int i => ∃ xs d, itemsD x = some xs ∧ atI xs i = some d ∧ R (.d d) δ
  | _ => False
theorem ixN_len {n : Nat} {i : Int} {j : Nat} (h : ixN n i = some j) : j < n := by
  unfold ixN at h
  split at h
  · split at h
    · cases h; omega
    · cases h
  · split at h
    · cases h; omega
    · cases h
theorem DqAll.atI {Hf : Hp} {vs : List V} {ds : List PyData} {i : Int} {d : PyData} (h : DqAll K Hf vs ds) (e : L2.atI ds i = some d) : ∃ v, L2.atI vs i = some v ∧ Dq K Hf v d := by
  unfold L2.atI at e ⊢
  rw [h.len]
  cases q : ixN ds.length i with
  | none => rw [q] at e; cases e
  | some j => rw [q] at e; obtain ⟨v, h1, h2⟩ := h.get' (i := j) e; exact ⟨v, h1, h2⟩
theorem di_ix (hK : X.K = K) : ∃ r, IxR X r ∧ Meets K r fIx := by
  refine ⟨_, ix_tl hK, ?_⟩
  intro O0 H0 δ σ O H R Q x y a b rs cx cy h p
  match y, cy, h with
  | .int i, cy, ⟨xs, d, h1, h2, h3⟩ =>
    match x, cx, h1 with
    | .list ys, cx, h1 =>
      cases h1
      obtain ⟨p1, vs, rfl, g1, g2⟩ := cx.list
      obtain ⟨v, e1, e2⟩ := g2.atI h2
      exact .inr ⟨p1, vs, i, v, rfl, cy.int, g1, e1, p.d rs e2 h3⟩
    | .tuple ys, cx, h1 =>
      cases h1
      obtain ⟨p1, vs, rfl, g1, g2⟩ := cx.tuple
      obtain ⟨v, e1, e2⟩ := g2.atI h2
      exact .inl ⟨p1, vs, i, v, rfl, cy.int, g1, e1, p.d rs e2 h3⟩
end
end Gx

set_option Elab.async false
set_option linter.all false
set_option maxRecDepth 100000
set_option maxHeartbeats 2000000
/-! The data layer: in, slices, built-in calls, calls of defs. -/
namespace Gx
open PySem PySem.Spec PyProof.Rows L2 Evl
section
variable {X : Cx} {K : PySem.W.Frag} {O0 O O' O1 : List Addr} {H0 H H' H1 : Hp} {δ δ' δ1 : DSt} {σ : L2.St}
variable {a b e c : Expr} {pos : Pos} {Ta Tb Tc : DTE} {es : List Expr}
/-! in -/
def rInD (K : PySem.W.Frag) (neg : Bool) : R2 := fun x y H Q => ∃ p vs d ds, y = .ref p ∧ (SqL K H p vs ∨ SqT K H p vs) ∧ Dp K H x d ∧ DpAll K H vs ds ∧ SeqAt.shaped d = true ∧ ds.all SeqAt.shaped = true ∧
  Q (.bl (if neg then !inD d ds else inD d ds)) H
noncomputable def eqUD (h : Heap) (d : PyData) (u : Value) : Bool := by
  classical exact if z : ∃ d' as, d'.canLay0 = true ∧ Reads h u d' as then PyData.eqv z.choose d else false
theorem eqUD_of {h : Heap} {d d' : PyData} {u : Value} {as : List Addr} (c : d'.canLay0 = true) (r : Reads h u d' as) : eqUD h d u = PyData.eqv d' d := by
  have z : ∃ d' as, d'.canLay0 = true ∧ Reads h u d' as := ⟨d', as, c, r⟩
  unfold eqUD
  rw [dif_pos z]
  obtain ⟨bs, h1, h2⟩ := z.choose_spec
  rw [← SeqAt.Reads.unique _ _ _ _ _ h1 h2 r]
theorem any_eqUD {X : Cx} {pins : List (Addr × Obj)} {σ : L2.St} {H : Hp} {s : Shared} (I : Inv X pins σ H s) {d : PyData} : ∀ {vs : List V} {us : List Value} {ds : List PyData}, Vals vs us → DpAll X.K H vs ds → ds.all SeqAt.shaped = true →
    us.any (eqUD s.heap d) = inD d ds
  | _, _, _, .nil, .nil, _ => rfl
  | _, _, d' :: ds, .cons r t, .cons a b, f => by
    rw [List.all_cons, Bool.and_eq_true] at f
    obtain ⟨as, rd⟩ := Dp.reads I _ _ _ a r
    unfold inD
    rw [List.any_cons, List.any_cons, eqUD_of (SeqAt.canLay_of_shaped f.1) rd, any_eqUD I t b f.2]
    rfl
theorem mem_eqUD {X : Cx} {pins : List (Addr × Obj)} {σ : L2.St} {H : Hp} {s : Shared} {A : Around} (I : Inv X pins σ H s) (hu : A.units + 64 < cLine) {d : PyData} {x : Value} {bs : List Addr} (sd : SeqAt.shaped d = true) (rx : Reads s.heap x d bs) :
    ∀ {vs : List V} {us : List Value} {ds : List PyData}, Vals vs us → DpAll X.K H vs ds → ds.all SeqAt.shaped = true → ∀ u ∈ us, SeqAt.EqAt A s u x (eqUD s.heap d u)
  | _, _, _, .nil, .nil, _ => fun _ h => by cases h
  | _, _, d' :: ds, .cons r t, .cons a b, f => fun u hu' => by
    rw [List.all_cons, Bool.and_eq_true] at f
    rcases List.mem_cons.mp hu' with rfl | hu'
    · obtain ⟨as, rd⟩ := Dp.reads I _ _ _ a r
      rw [eqUD_of (SeqAt.canLay_of_shaped f.1) rd]
      exact SeqAt.eqAt_reads _ _ _ _ _ _ _ _ rd rx (SeqAt.canLay_of_shaped f.1) (SeqAt.canLay_of_shaped sd) (SeqAt.room_of_shaped f.1 hu)
    · exact mem_eqUD I hu sd rx t b f.2 u hu'
theorem op_inD (hu : X.A.units + 100 < cLine) : OpR X (compareOp .In) (rInD X.K false) := by
  intro pins s σ H x y v u Q I rx ry h
  obtain ⟨p, vs, d, ds, rfl, hq, hd, hds, sd, sds, q⟩ := h
  cases ry
  obtain ⟨bs, rdx⟩ := Dp.reads I _ _ _ hd rx
  have hu' : X.A.in1.units + 64 < cLine := by show X.A.units + 1 + 64 < cLine; omega
  rcases hq with hq | hq
  · obtain ⟨its, r, pl, hz⟩ := I.list hq
    refine SeqAt.in_listAt (eqUD s.heap d) pl.isList (fun w hw => mem_eqUD I hu' sd rdx r hds sds w (by simpa using hw)) ⟨.bl _, H, I, rfl, ?_⟩
    rw [show its.toArray.any (eqUD s.heap d) = its.any (eqUD s.heap d) by simp, any_eqUD I r hds sds]
    exact q
  · obtain ⟨its, r, pl, hz⟩ := I.tuple hq
    refine SeqAt.in_tupleAt (eqUD s.heap d) pl (fun w hw => mem_eqUD I hu' sd rdx r hds sds w (by simpa using hw)) ⟨.bl _, H, I, rfl, ?_⟩
    rw [show its.toArray.any (eqUD s.heap d) = its.any (eqUD s.heap d) by simp, any_eqUD I r hds sds]
    exact q
theorem op_notInD (hu : X.A.units + 100 < cLine) : OpR X (compareOp .NotIn) (rInD X.K true) := by
  intro pins s σ H x y v u Q I rx ry h
  obtain ⟨p, vs, d, ds, rfl, hq, hd, hds, sd, sds, q⟩ := h
  cases ry
  obtain ⟨bs, rdx⟩ := Dp.reads I _ _ _ hd rx
  have hu' : X.A.in1.units + 64 < cLine := by show X.A.units + 1 + 64 < cLine; omega
  rcases hq with hq | hq
  · obtain ⟨its, r, pl, hz⟩ := I.list hq
    refine SeqAt.notIn_listAt (eqUD s.heap d) pl.isList (fun w hw => mem_eqUD I hu' sd rdx r hds sds w (by simpa using hw)) ⟨.bl _, H, I, rfl, ?_⟩
    rw [show its.toArray.any (eqUD s.heap d) = its.any (eqUD s.heap d) by simp, any_eqUD I r hds sds]
    exact q
  · obtain ⟨its, r, pl, hz⟩ := I.tuple hq
    refine SeqAt.notIn_tupleAt (eqUD s.heap d) pl (fun w hw => mem_eqUD I hu' sd rdx r hds sds w (by simpa using hw)) ⟨.bl _, H, I, rfl, ?_⟩
    rw [show its.toArray.any (eqUD s.heap d) = its.any (eqUD s.heap d) by simp, any_eqUD I r hds sds]
    exact q
theorem allShaped_free : ∀ {ds : List PyData}, ds.all SeqAt.shaped = true → PyData.hasDictAll ds = false
  | [], _ => rfl
  | d :: ds, h => by
    rw [List.all_cons, Bool.and_eq_true] at h
    simp only [PyData.hasDictAll, shaped_free h.1, allShaped_free h.2, Bool.or_false]
theorem meets_in {neg : Bool} : Meets K (rInD K neg) (fIn neg) := by
  rintro O0 H0 δ σ O H R Q x y a b rs cx cy ⟨ys, e, s1, s2, h⟩ p
  have key : ∀ {p1 vs}, (SqL K H p1 vs ∨ SqT K H p1 vs) → DqAll K (hd H O) vs ys → rInD K neg a (.ref p1) H Q := fun {p1 vs} q1 q2 =>
    ⟨p1, vs, x, ys, rfl, q1, cx.dq.free (shaped_free s1), (q2.to (hd_ex _ _)).free (allShaped_free s2), s1, s2, p.d rs (.bl _) h⟩
  match y, cy, e with
  | .list _, cy, e =>
    cases e
    obtain ⟨p1, vs, rfl, g1, g2⟩ := cy.list
    exact key (.inl g1) g2
  | .tuple _, cy, e =>
    cases e
    obtain ⟨p1, vs, rfl, g1, g2⟩ := cy.tuple
    exact key (.inr g1) g2
theorem do_in (hK : X.K = K) (hu : X.A.units + 100 < cLine) : ∃ r, OpR X (compareOp .In) r ∧ Meets K r (fIn false) := by subst hK; exact ⟨_, op_inD hu, meets_in⟩
theorem do_notIn (hK : X.K = K) (hu : X.A.units + 100 < cLine) : ∃ r, OpR X (compareOp .NotIn) r ∧ Meets K r (fIn true) := by subst hK; exact ⟨_, op_notInD hu, meets_in⟩
/-! slices -/
abbrev DTO := DSt → (Option Int → DSt → Prop) → Prop
def simO (K : PySem.W.Frag) (T : DTO) : TO := fun σ H Q => ∃ O0 H0 δ O R, RS K O0 H0 δ σ O H ∧ T δ R ∧ ∀ o δ' O' H', Nx O H O' H' δ δ' → RS K O0 H0 δ' σ O' H' → R o δ' → Q o H'
def dPart0 : DTO := fun δ R => R none δ
def dPart (T : DTE) : DTO := fun δ R => T δ fun a δ1 => vw a fun x => match x with
  | .int i => R (some i) δ1
  | _ => False
theorem dp_none : PO X none (simO K dPart0) := po_none.imp fun σ H Q ⟨O0, H0, δ, O, R, rs, t, p⟩ => p _ _ _ _ Nx.refl rs t
theorem dp_some (ha : PE X a (simE K Ta)) : PO X (some a) (simO K (dPart Ta)) := (po_some ha).imp fun σ H Q ⟨O0, H0, δ, O, R, rs, t, p⟩ => by
  refine ⟨O0, H0, δ, O, _, rs, t, fun d δ1 v O1 H1 n1 rs1 rv1 h1 => ?_⟩
  obtain ⟨x, cx, h1⟩ := vw_ok rv1 h1
  match x, cx, h1 with
  | .int i, cx, h1 => exact ⟨i, cx.int, p _ _ _ _ n1 rs1 h1⟩
def cutD (xs : List PyData) (lo hi : Option Int) : List PyData := (xs.drop (HT.sIx xs.length 0 lo)).take (HT.sIx xs.length xs.length hi - HT.sIx xs.length 0 lo)
def fSl : PyData → Option Int → Option Int → DSt → (Dv → DSt → Prop) → Prop := fun x lo hi δ R => match x with
  | .list xs => R (.ow (cutD xs lo hi)) δ
  | .tuple xs => R (.d (.tuple (cutD xs lo hi))) δ
  | _ => False
def dSl (Ta : DTE) (Tl Th : DTO) : DTE := fun δ R => Ta δ fun a δ1 => vw a fun x => Tl δ1 fun l δ2 => Th δ2 fun u δ3 => fSl x l u δ3 R
theorem cut_dq {Hf : Hp} {vs : List V} {xs : List PyData} {lo hi : Option Int} (h : DqAll K Hf vs xs) : DqAll K Hf (cutV vs lo hi) (cutD xs lo hi) := by
  unfold cutV cutD
  rw [h.len]
  exact (h.drop _).take _
theorem de_slice (hK : X.K = K) {lo hi : Option Expr} {Tl Th : DTO} {p2 : Pos} (he : PE X e (simE K Ta)) (hl : PO X lo (simO K Tl)) (hu : PO X hi (simO K Th)) : PE X (.Subscript e (.Slice lo hi none p2) pos) (simE K (dSl Ta Tl Th)) := by
  subst hK
  refine (pe_slice (SlR.or sl_list sl_tupA) he hl hu).imp fun σ H Q ⟨O0, H0, δ, O, R, rs, t, p⟩ => ?_
  refine ⟨O0, H0, δ, O, _, rs, t, fun d δ1 v O1 H1 n1 rs1 rv1 h1 => ?_⟩
  obtain ⟨O1', nx, rs1', rv1', now⟩ := tmp_ok rs1 rv1
  rw [← vw_tmp] at h1
  obtain ⟨x, cx, h1⟩ := vw_ok rv1' h1
  refine ⟨O0, H0, δ1, O1', _, rs1', h1, fun l δ2 O2 H2 n2 rs2 h2 => ⟨O0, H0, δ2, O2, _, rs2, h2, fun u δ3 O3 H3 n3 rs3 h3 => ?_⟩⟩
  have cx := (cx.to n2).to n3
  have p := p.step (((n1.trans nx).trans n2).trans n3)
  match x, cx, h3 with
  | .list xs, cx, h3 =>
    obtain ⟨p1, vs, rfl, g1, g2⟩ := cx.list
    exact .inl ⟨p1, vs, rfl, g1, fun q n => p.lst rs3 (cut_dq g2) h3 n⟩
  | .tuple xs, cx, h3 =>
    obtain ⟨p1, vs, rfl, g1, g2⟩ := cx.tuple
    refine .inr ⟨p1, vs, rfl, g1, fun hw => ?_, fun _ q n => p.tup rs3 (cut_dq g2) h3 n⟩
    have e : cutD xs l u = xs := by
      rw [g2.len] at hw
      unfold cutD
      rw [hw.1, hw.2, List.drop_zero, Nat.sub_zero, List.take_length]
    rcases cx with cx | ⟨_, _, _, e2, _⟩
    · exact p.d rs3 cx (by rw [← e]; exact h3)
    · cases e2
/-! built-in functions -/
abbrev DFA := List Dv → DSt → (Dv → DSt → Prop) → Prop
def MeetsA (K : PySem.W.Frag) (r : List V → Hp → VK → Prop) (g : DFA) : Prop := ∀ (O0 : List Addr) (H0 : Hp) (δ : DSt) (σ : L2.St) (O : List Addr) (H : Hp) (R : Dv → DSt → Prop) (Q : VK) (ds : List Dv) (vs : List V),
  RS K O0 H0 δ σ O H → RVs K H0 δ σ O H ds vs → g ds δ R → Post K O0 H0 δ σ O H R Q → r vs H Q
def dCB (g : DFA) (T : DTA) : DTE := fun δ R => T δ fun ds δ1 => g ds δ1 R
theorem sim_cb {r : List V → Hp → VK → Prop} {g : DFA} {T : DTA} (hr : MeetsA K r g) : ∀ σ H Q, simE K (dCB g T) σ H Q → tCB r (simA K T) σ H Q := by
  rintro σ H Q ⟨O0, H0, δ, O, R, rs, t, p⟩
  exact ⟨O0, H0, δ, O, _, rs, t, fun ds δ1 vs O1 H1 n1 rs1 rv1 h1 => hr _ _ _ _ _ _ _ _ _ _ rs1 rv1 h1 (p.step n1)⟩
theorem de_callB {id : String} {x : Str} {p : Pos} {g : DFA} {T : DTA} (hc : ∃ r, CallR X (.builtin id) r ∧ MeetsA K r g) (hg : Gl X x) (hm : X.mg x = none) (hv : bootBuiltins x = some (.builtin id)) (ha : PA X (e :: es) (simA K T)) (hn : x ≠ "__name__" := by decide) (hdb : (x == ("__debug__" : Str)) = false := by decide)
    (he : starEach (e :: es) X.env = (false, eval e X.env) :: starEach es X.env := by rfl) (hpl : (backTo pos (starEach es X.env)).any (·.1) = false := by rfl) : PE X (.Call (.Name x p) (e :: es) [] pos) (simE K (dCB g T)) :=
  (pe_callB hc.choose_spec.1 hg hm hv ha hn hdb he hpl).imp (sim_cb hc.choose_spec.2)
theorem de_callTy {id : String} {x : Str} {p : Pos} {g : DFA} {T : DTA} (hc : ∃ r, CallR X (.type id) r ∧ MeetsA K r g) (hg : Gl X x) (hm : X.mg x = none) (hv : bootBuiltins x = some (.type id)) (ha : PA X (e :: es) (simA K T)) (hn : x ≠ "__name__" := by decide) (hdb : (x == ("__debug__" : Str)) = false := by decide)
    (he : starEach (e :: es) X.env = (false, eval e X.env) :: starEach es X.env := by rfl) (hpl : (backTo pos (starEach es X.env)).any (·.1) = false := by rfl) : PE X (.Call (.Name x p) (e :: es) [] pos) (simE K (dCB g T)) :=
  (pe_callTy hc.choose_spec.1 hg hm hv ha hn hdb he hpl).imp (sim_cb hc.choose_spec.2)
/-- one argument, read -/
def g1 (f : PyData → DSt → (Dv → DSt → Prop) → Prop) : DFA := fun ds δ R => match ds with
  | [d] => vw d fun x => f x δ R
  | _ => False
theorem meets_1 {r : List V → Hp → VK → Prop} {f : PyData → DSt → (Dv → DSt → Prop) → Prop} (h : ∀ (O0 : List Addr) (H0 : Hp) (δ : DSt) (σ : L2.St) (O : List Addr) (H : Hp) (R : Dv → DSt → Prop) (Q : VK) (x : PyData) (v : V),
    RS K O0 H0 δ σ O H → Cq K O H v x → f x δ R → Post K O0 H0 δ σ O H R Q → r [v] H Q) : MeetsA K r (g1 f) := by
  intro O0 H0 δ σ O H R Q ds vs rs rv z p
  match ds, rv, z with
  | [d], rv, z =>
    obtain ⟨v, ws, rfl, h1, h2, h3⟩ := rv
    obtain rfl : ws = [] := h3
    obtain ⟨x, cx, z⟩ := vw_ok h1 z
    exact h _ _ _ _ _ _ _ _ _ _ rs cx z p
def fLen : PyData → DSt → (Dv → DSt → Prop) → Prop := fun x δ R => ∃ ys, itemsD x = some ys ∧ R (.d (.int ys.length)) δ
theorem dc_len (hK : X.K = K) : ∃ r, CallR X (.builtin "len") r ∧ MeetsA K r (g1 fLen) := by
  subst hK
  refine ⟨_, call_len_seq, meets_1 ?_⟩
  rintro O0 H0 δ σ O H R Q x v rs cx ⟨ys, e, z⟩ p
  match x, cx, e with
  | .list _, cx, e =>
    cases e
    obtain ⟨p1, vs, rfl, g1, g2⟩ := cx.list
    exact ⟨p1, vs, rfl, .inl g1, by rw [g2.len]; exact p.d rs (.int _) z⟩
  | .tuple _, cx, e =>
    cases e
    obtain ⟨p1, vs, rfl, g1, g2⟩ := cx.tuple
    exact ⟨p1, vs, rfl, .inr g1, by rw [g2.len]; exact p.d rs (.int _) z⟩
def fList : PyData → DSt → (Dv → DSt → Prop) → Prop := fun x δ R => ∃ ys, itemsD x = some ys ∧ R (.ow ys) δ
theorem dc_list (hK : X.K = K) : ∃ r, CallR X (.type "list") r ∧ MeetsA K r (g1 fList) := by
  subst hK
  refine ⟨_, call_list_of, meets_1 ?_⟩
  rintro O0 H0 δ σ O H R Q x v rs cx ⟨ys, e, z⟩ p
  match x, cx, e with
  | .list _, cx, e =>
    cases e
    obtain ⟨p1, vs, rfl, g1, g2⟩ := cx.list
    exact ⟨p1, vs, rfl, .inl g1, fun l n => p.lst rs g2 z n⟩
  | .tuple _, cx, e =>
    cases e
    obtain ⟨p1, vs, rfl, g1, g2⟩ := cx.tuple
    exact ⟨p1, vs, rfl, .inr g1, fun l n => p.lst rs g2 z n⟩
def fTuple : PyData → DSt → (Dv → DSt → Prop) → Prop := fun x δ R => ∃ ys, itemsD x = some ys ∧ R (.d (.tuple ys)) δ
theorem dc_tuple (hK : X.K = K) : ∃ r, CallR X (.type "tuple") r ∧ MeetsA K r (g1 fTuple) := by
  subst hK
  refine ⟨_, call_tuple_of, meets_1 ?_⟩
  rintro O0 H0 δ σ O H R Q x v rs cx ⟨ys, e, z⟩ p
  match x, cx, e with
  | .list _, cx, e =>
    cases e
    obtain ⟨p1, vs, rfl, g1, g2⟩ := cx.list
    exact ⟨p1, vs, rfl, .inl ⟨g1, fun l n => p.tup rs g2 z n⟩⟩
  | .tuple _, cx, e =>
    cases e
    obtain ⟨p1, vs, rfl, g1, g2⟩ := id cx.tuple
    rcases cx with cx | ⟨_, _, _, e2, _⟩
    · exact ⟨p1, vs, rfl, .inr ⟨g1, p.d rs cx z⟩⟩
    · cases e2
def fInt : PyData → DSt → (Dv → DSt → Prop) → Prop := fun x δ R => match x with
  | .int i => R (.d (.int i)) δ
  | .bool k => R (.d (.int (if k then 1 else 0))) δ
  | _ => False
theorem dc_int : ∃ r, CallR X (.type "int") r ∧ MeetsA K r (g1 fInt) := by
  refine ⟨_, call_int1, meets_1 ?_⟩
  intro O0 H0 δ σ O H R Q x v rs cx z p
  match x, cx, z with
  | .int i, cx, z => exact .inl ⟨i, by rw [cx.int], p.d rs (.int _) z⟩
  | .bool i, cx, z => exact .inr ⟨i, by rw [cx.bool], p.d rs (.int _) z⟩
def fBool : PyData → DSt → (Dv → DSt → Prop) → Prop := fun x δ R => match x with
  | .int i => R (.d (.bool (i != 0))) δ
  | .bool k => R (.d (.bool k)) δ
  | _ => False
theorem dc_bool : ∃ r, CallR X (.type "bool") r ∧ MeetsA K r (g1 fBool) := by
  refine ⟨_, call_bool1, meets_1 ?_⟩
  intro O0 H0 δ σ O H R Q x v rs cx z p
  match x, cx, z with
  | .int i, cx, z => exact .inl ⟨i, by rw [cx.int], p.d rs (.bl _) z⟩
  | .bool i, cx, z => exact .inr ⟨i, by rw [cx.bool], p.d rs (.bl _) z⟩
def fAbs : PyData → DSt → (Dv → DSt → Prop) → Prop := fun x δ R => match x with
  | .int i => R (.d (.int (if i < 0 then -i else i))) δ
  | _ => False
theorem dc_abs : ∃ r, CallR X (.builtin "abs") r ∧ MeetsA K r (g1 fAbs) := by
  refine ⟨_, call_abs, meets_1 ?_⟩
  intro O0 H0 δ σ O H R Q x v rs cx z p
  match x, cx, z with
  | .int i, cx, z => exact ⟨i, by rw [cx.int], p.d rs (.int _) z⟩
def fRepr : PyData → DSt → (Dv → DSt → Prop) → Prop := fun x δ R => x.showable = true ∧ x.depth ≤ 100 ∧ wq x ≤ 10000000 ∧ R (.d (.str x.shown)) δ
theorem dc_repr (hK : X.K = K) (qu : Quiet X.A) (hu : X.A.units + 200 < cLine) : ∃ r, CallR X (.builtin "repr") r ∧ MeetsA K r (g1 fRepr) := by
  subst hK
  refine ⟨_, call_reprQ qu hu, meets_1 ?_⟩
  rintro O0 H0 δ σ O H R Q x v rs cx ⟨h1, h2, h3, z⟩ p
  exact ⟨v, x, rfl, cx.dq, h1, h2, h3, p.d rs (.str _) z⟩
/-- two arguments, read -/
def g2 (f : PyData → PyData → DSt → (Dv → DSt → Prop) → Prop) : DFA := fun ds δ R => match ds with
  | [d, e] => vw d fun x => vw e fun y => f x y δ R
  | _ => False
theorem meets_2 {r : List V → Hp → VK → Prop} {f : PyData → PyData → DSt → (Dv → DSt → Prop) → Prop} (h : ∀ (O0 : List Addr) (H0 : Hp) (δ : DSt) (σ : L2.St) (O : List Addr) (H : Hp) (R : Dv → DSt → Prop) (Q : VK) (x y : PyData) (v u : V),
    RS K O0 H0 δ σ O H → Cq K O H v x → Cq K O H u y → f x y δ R → Post K O0 H0 δ σ O H R Q → r [v, u] H Q) : MeetsA K r (g2 f) := by
  intro O0 H0 δ σ O H R Q ds vs rs rv z p
  match ds, rv, z with
  | [d, e], rv, z =>
    obtain ⟨v, ws, rfl, h1, h2, u, ws', rfl, h3, h4, h5⟩ := rv
    obtain rfl : ws' = [] := h5
    obtain ⟨x, cx, z⟩ := vw_ok h1 z
    obtain ⟨y, cy, z⟩ := vw_ok h3 z
    exact h _ _ _ _ _ _ _ _ _ _ _ _ rs cx cy z p
def fI2 (g : Int → Int → Int) : PyData → PyData → DSt → (Dv → DSt → Prop) → Prop := fun x y δ R => match x, y with
  | .int i, .int j => R (.d (.int (g i j))) δ
  | _, _ => False
theorem dc_max2 (hc : X.calm = true) : ∃ r, CallR X (.builtin "max") r ∧ MeetsA K r (g2 (fI2 fun i j => if j > i then j else i)) := by
  refine ⟨_, call_max2 hc, meets_2 ?_⟩
  intro O0 H0 δ σ O H R Q x y v u rs cx cy z p
  match x, y, cx, cy, z with
  | .int i, .int j, cx, cy, z => exact ⟨i, j, by rw [cx.int, cy.int], p.d rs (.int _) z⟩
theorem dc_min2 (hc : X.calm = true) : ∃ r, CallR X (.builtin "min") r ∧ MeetsA K r (g2 (fI2 fun i j => if j < i then j else i)) := by
  refine ⟨_, call_min2 hc, meets_2 ?_⟩
  intro O0 H0 δ σ O H R Q x y v u rs cx cy z p
  match x, y, cx, cy, z with
  | .int i, .int j, cx, cy, z => exact ⟨i, j, by rw [cx.int, cy.int], p.d rs (.int _) z⟩
end
end Gx

set_option Elab.async false
set_option linter.all false
set_option maxRecDepth 100000
set_option maxHeartbeats 2000000
/-! What isinstance answers of data. -/
namespace Gx
open PySem PySem.Spec PyProof.Rows L2 Evl
def tyName : PyData → String
  | .none => "NoneType" | .bool _ => "bool" | .int _ => "int" | .str _ => "str" | .list _ => "list" | .tuple _ => "tuple" | .dict _ => "dict"
def isaD (x : PyData) (T : String) : Bool := tyName x == T || (tyName x == "bool" && T == "int")
def tys6 : List String := ["bool", "int", "str", "list", "tuple", "dict"]
theorem kit_tbl : (["NoneType", "bool", "int", "str", "list", "tuple", "dict"].all fun n => tys6.all fun T => L2.kitB n T == some (n == T || (n == "bool" && T == "int"))) = true := by decide +kernel
theorem kit_isa {K : PySem.W.Frag} (x : PyData) {T : String} (h : T ∈ tys6) : PySem.W.kitOne K (.type (tyName x)) (.type T) = some (isaD x T) := by
  refine L2.kit_ty ?_
  have m : tyName x ∈ ["NoneType", "bool", "int", "str", "list", "tuple", "dict"] := by cases x <;> simp [tyName]
  have q := List.all_eq_true.mp (List.all_eq_true.mp kit_tbl _ m) _ h
  exact eq_of_beq q
section
variable {K : PySem.W.Frag} {H : Hp}
theorem dq_ty {v : V} {x : PyData} (h : Dq K H v x) : L2.TyX K H v (.type (tyName x)) := by
  cases h with
  | non => exact .base .non
  | bl b => exact .base (.bl b)
  | int i => exact .base (.int i)
  | str x => exact .base (.str x)
  | lst hs _ =>
    rcases hs with hs | ⟨o, its, n, l, c, _⟩
    · rcases hs with hs | ⟨o, hs⟩
      · exact .base (.lst hs)
      · exact .base (.frz hs)
    · exact .kList l c
  | tup hs _ =>
    rcases hs with hs | ⟨o, its, n, l, c, _⟩
    · rcases hs with hs | ⟨o, hs⟩
      · exact .base (.tup hs)
      · exact .fTuple hs
    · exact .kTuple l c
  | dct h _ => exact .base (.dK h)
end
/-- repr within a comprehension -/
theorem call_reprQK {X : Cx} {K : PySem.W.Frag} (e : X.K = K) (qu : Quiet X.A) (room : X.A.units + 200 < cLine) : CallR X (.builtin "repr") (rRepQ K) := by
  subst e
  exact call_reprQ qu room
end Gx

set_option Elab.async false
set_option linter.all false
set_option maxRecDepth 100000
set_option maxHeartbeats 2000000
/-! The data layer: isinstance; what a def promises of data, its calls. -/
namespace Gx
open PySem PySem.Spec PyProof.Rows L2 Evl
/-! isinstance -/
section
variable {X : Cx} {K : PySem.W.Frag} {O0 O O' O1 : List Addr} {H0 H H' H1 : Hp} {δ δ' δ1 : DSt} {σ : L2.St}
variable {a b e c : Expr} {pos : Pos} {Ta Tb Tc : DTE} {es : List Expr}
/-- the classes as written -/
def dTy (T : String) : DTE := fun δ R => R (.x ⟨fun _ v => v = .ty T, fun _ h => h⟩) δ
theorem de_ty {x : Str} {T : String} {p : Pos} (h : PE X (.Name x p) (tC (.ty T))) : PE X (.Name x p) (simE K (dTy T)) := h.imp fun σ H Q ⟨O0, H0, δ, O, R, rs, t, p⟩ =>
  p (.x ⟨fun _ v => v = .ty T, fun _ h => h⟩) _ _ _ _ Nx.refl rs rfl t
def dIsi (T : String) (Ta : DTE) : DTE := fun δ R => Ta δ fun a δ1 => vw a fun x => R (.d (.bool (isaD x T))) δ1
/-- isinstance(e, T) -/
theorem de_isi (hK : X.K = K) {x : Str} {T : String} {p : Pos} {t : Expr} (hg : Gl X x) (hm : X.mg x = none) (hv : bootBuiltins x = some (.builtin "isinstance")) (ht : PE X t (tC (.ty T))) (hT : T ∈ tys6) (ha : PE X e (simE K Ta))
    (hn : x ≠ "__name__" := by decide) (hdb : (x == ("__debug__" : Str)) = false := by decide)
    (he : starEach [e, t] X.env = (false, eval e X.env) :: starEach [t] X.env := by rfl) (he2 : starEach [t] X.env = (false, eval t X.env) :: starEach [] X.env := by rfl) (hpl : (backTo pos (starEach [t] X.env)).any (·.1) = false := by rfl) :
    PE X (.Call (.Name x p) [e, t] [] pos) (simE K (dIsi T Ta)) := by
  subst hK
  refine (pe_callB call_isi hg hm hv (pa_cons ha (pa_cons ht pa_nil he2) he) hn hdb he hpl).imp fun σ H Q ⟨O0, H0, δ, O, R, rs, t, p⟩ => ?_
  refine ⟨O0, H0, δ, O, _, rs, t, fun d δ1 v O1 H1 n1 rs1 rv1 h1 => ?_⟩
  obtain ⟨y, cx, h1⟩ := vw_ok rv1 h1
  exact ⟨v, .ty T, _, _, _, rfl, .ty T, dq_ty cx.dq, kit_isa y hT, (p.step n1).d rs1 (.bl _) h1⟩
def dIsiT (Ts : List String) (Ta : DTE) : DTE := fun δ R => Ta δ fun a δ1 => vw a fun x => R (.d (.bool (Ts.any fun T => isaD x T))) δ1
theorem kit_any {K : PySem.W.Frag} (x : PyData) : ∀ {Ts : List String}, (∀ T ∈ Ts, T ∈ tys6) → PySem.W.kitAny K (.type (tyName x)) (Ts.map Value.type) = some (Ts.any fun T => isaD x T)
  | [], _ => L2.kitAny_nil
  | T :: Ts, h => by
    refine L2.kitAny_cons (kit_isa x (h T List.mem_cons_self)) (fun q => ?_) fun q => ?_
    · rw [List.any_cons, q, Bool.false_or]; exact kit_any x fun T hT => h T (List.mem_cons_of_mem _ hT)
    · rw [List.any_cons, q, Bool.true_or]
/-- isinstance(e, (T, U)) -/
theorem de_isiT2 (hK : X.K = K) {x : Str} {T U : String} {p p2 : Pos} {k} {t u : Expr} (hg : Gl X x) (hm : X.mg x = none) (hv : bootBuiltins x = some (.builtin "isinstance")) (ht : PE X t (tC (.ty T))) (hu : PE X u (tC (.ty U))) (hT : T ∈ tys6) (hU : U ∈ tys6) (ha : PE X e (simE K Ta))
    (hn : x ≠ "__name__" := by decide) (hdb : (x == ("__debug__" : Str)) = false := by decide)
    (he : starEach [e, .Tuple [t, u] k p2] X.env = (false, eval e X.env) :: starEach [.Tuple [t, u] k p2] X.env := by rfl) (he2 : starEach [.Tuple [t, u] k p2] X.env = (false, eval (.Tuple [t, u] k p2) X.env) :: starEach [] X.env := by rfl)
    (he3 : starEach [t, u] X.env = (false, eval t X.env) :: starEach [u] X.env := by rfl) (he4 : starEach [u] X.env = (false, eval u X.env) :: starEach [] X.env := by rfl)
    (hpl : (backTo pos (starEach [.Tuple [t, u] k p2] X.env)).any (·.1) = false := by rfl) :
    PE X (.Call (.Name x p) [e, .Tuple [t, u] k p2] [] pos) (simE K (dIsiT [T, U] Ta)) := by
  subst hK
  refine (pe_callB call_isiT hg hm hv (pa_cons ha (pa_cons (pe_tup (pa_cons ht (pa_cons hu pa_nil he4) he3)) pa_nil he2) he) hn hdb he hpl).imp fun σ H Q ⟨O0, H0, δ, O, R, rs, t, p⟩ => ?_
  refine ⟨O0, H0, δ, O, _, rs, t, fun d δ1 v O1 H1 n1 rs1 rv1 h1 => ⟨sz2, fun q n => ?_⟩⟩
  obtain ⟨y, cx, h1⟩ := vw_ok rv1 h1
  have e : Ex H1 (upd H1 q (.tup [.ty T, .ty U])) := Ex.new n
  exact ⟨v, q, _, _, [.type T, .type U], _, rfl, upd_same, .cons (.ty T) (.cons (.ty U) .nil), dq_ty (cx.dq.to e), kit_any (Ts := [T, U]) y (by simp [hT, hU]), (p.step (n1.trans (nx_grow e))).d (rs1.grow e) (.bl _) h1⟩
end
/-! promises of defs -/
abbrev DSp := List Dv → (Dv → Prop) → Prop
def RR (K : PySem.W.Frag) (O : List Addr) (H : Hp) (v : V) (H' : Hp) : Dv → Prop
  | .d x => Dq K (hd H' O) v x
  | .ow xs => ∃ p vs, v = .ref p ∧ H p = none ∧ H' p = some (.lst vs) ∧ DqAll K (hd H' (p :: O)) vs xs
  | .x o => o.φ (hd H' O) v
  | .bo _ _ => False
/-- from data to data: nothing that is told changes -/
def spD (K : PySem.W.Frag) (n : Nat) (T : DSp) : Sp := fun vs H Q _ => vs.length = n ∧ ∃ O ds R, (∀ a ∈ O, ∃ xs, H a = some (.lst xs)) ∧ DVs K (hd H O) ds vs ∧ T ds R ∧
  ∀ d v H', Ex H H' → RR K O H v H' d → R d → Q v H'
structure DEnds where
  nx : DSt → Prop
  rt : Dv → Prop
  bk : DSt → Prop := fun _ => False
  ct : DSt → Prop := fun _ => False
abbrev DTS := DEnds → DSt → Prop
structure PostS (K : PySem.W.Frag) (O0 : List Addr) (H0 : Hp) (O : List Addr) (H : Hp) (E : DEnds) (D : Ends) : Prop where
  nx : ∀ δ' σ' O' H', Ex (hd H O) (hd H' O') → RS K O0 H0 δ' σ' O' H' → E.nx δ' → D.nx σ' H'
  rt : ∀ d δ' σ' v O' H', Ex (hd H O) (hd H' O') → RS K O0 H0 δ' σ' O' H' → RV K H0 δ' σ' O' H' d v → (∀ i xs, d ≠ .bo i xs) → E.rt d → D.rt v H'
  bk : ∀ δ' σ' O' H', Ex (hd H O) (hd H' O') → RS K O0 H0 δ' σ' O' H' → E.bk δ' → D.bk σ' H'
  ct : ∀ δ' σ' O' H', Ex (hd H O) (hd H' O') → RS K O0 H0 δ' σ' O' H' → E.ct δ' → D.ct σ' H'
def simS (K : PySem.W.Frag) (T : DTS) : TS := fun D σ H => ∃ O0 H0 δ O E, RS K O0 H0 δ σ O H ∧ T E δ ∧ PostS K O0 H0 O H E D
def asl : Dv → Option Sl
  | .d x => some (.fz x)
  | .x o => some (.x o)
  | _ => none
/-- the slots at the entry -/
def dstart (n : Nat) (ds : List Dv) : DSt := ds.map asl ++ List.replicate (n - ds.length) none
theorem dvs_len {K : PySem.W.Frag} {Hf : Hp} : ∀ {ds : List Dv} {vs : List V}, DVs K Hf ds vs → ds.length = vs.length
  | [], _, h => by cases h; rfl
  | d :: ds, _, ⟨v, ws, e, _, h⟩ => by subst e; simp [dvs_len h]
theorem dvs_at {K : PySem.W.Frag} {O : List Addr} {H0 H : Hp} : ∀ {ds : List Dv} {vs : List V} (n : Nat) (i : Nat), DVs K (hd H O) ds vs →
    RSl K O H0 H (((ds.map asl ++ List.replicate n none)[i]?).getD none) (((vs.map some ++ List.replicate n none)[i]?).getD none)
  | [], _, n, i, h => by
    cases h
    simp only [List.map_nil, List.nil_append]
    cases q : (List.replicate n (none : Option Sl))[i]? with
    | none => exact trivial
    | some z => rw [List.getElem?_replicate] at q; split at q <;> cases q; exact trivial
  | d :: ds, _, n, 0, ⟨v, ws, e, h1, h⟩ => by
    subst e
    cases d with
    | d x => exact h1
    | x o => exact h1
    | ow _ => exact h1.elim
    | bo _ _ => exact h1.elim
  | d :: ds, _, n, i + 1, ⟨v, ws, e, h1, h⟩ => by
    subst e
    simpa using dvs_at n i h
theorem rs_start {K : PySem.W.Frag} {O : List Addr} {H : Hp} {ds : List Dv} {vs : List V} {N : List Str} (lo : ∀ a ∈ O, ∃ xs, H a = some (.lst xs)) (h : DVs K (hd H O) ds vs) : RS K O H (dstart N.length ds) (L2.start N vs) O H := by
  have l := dvs_len h
  refine ⟨lo, lo, Ex.refl _, fun _ h => h, by unfold dstart L2.start; simp [l], fun i => ?_, fun i j xs ys v ne e1 e2 e3 e4 => ?_⟩
  · unfold dstart L2.start
    rw [l]
    exact dvs_at _ i h
  · unfold dstart at e1
    rw [List.getElem?_append] at e1
    split at e1
    · rw [List.getElem?_map] at e1
      cases q : ds[i]? with
      | none => rw [q] at e1; cases e1
      | some z => rw [q] at e1; cases z <;> cases e1
    · rw [List.getElem?_replicate] at e1
      split at e1 <;> cases e1
section
variable {P : Program} {w : World} {K : PySem.W.Frag} {mg : Str → Option Value} {base : Heap}
theorem rr_of {O0 O : List Addr} {H0 H : Hp} {δ : DSt} {σ : L2.St} {d : Dv} {v : V} (r : RS K O0 H0 δ σ O H) (h : RV K H0 δ σ O H d v) (nb : ∀ i xs, d ≠ .bo i xs) : RR K O0 H0 v H d := by
  cases d with
  | d x => exact Dq.to (hd_sub r.sub) (show Dq K (hd H O) v x from h)
  | x o => exact o.up (hd_sub r.sub) h
  | ow xs =>
    obtain ⟨p, vs, rfl, hp, n, a, h1, h2⟩ := h
    refine ⟨p, vs, rfl, n, h1, h2.to (hd_sub fun a ha => ?_)⟩
    rcases List.mem_cons.mp ha with rfl | ha
    · exact hp
    · exact r.sub a ha
  | bo i xs => exact absurd rfl (nb i xs)
/-- what a def's body must keep -/
def dEnd (R : Dv → Prop) : DEnds := { nx := fun _ => R (.d .none), rt := R }
theorem post_end {O : List Addr} {H : Hp} {R : Dv → Prop} {Q : VK} (k : ∀ d v H', Ex H H' → RR K O H v H' d → R d → Q v H') :
    PostS K O H O H (dEnd R) { nx := fun _ H' => Q .non H', rt := Q } :=
  ⟨fun δ' σ' O' H' _ r h => k (.d .none) .non H' r.ex .non h, fun d δ' σ' v O' H' _ r rv nb h => k d v H' r.ex (rr_of r rv nb) h, fun _ _ _ _ _ _ h => h.elim, fun _ _ _ _ _ _ h => h.elim⟩
/-- a def's promise, from its body's reading -/
theorem okD {x qual : Str} {st : Stmt} {f : Addr} {fd : FuncData} {N ps : List Str} {k : Nat} {T : DSp} (F : Fun K x qual st f fd) (S : FnScope N ps (defScope st))
    (walk : ∀ (cdv : Value) (A : Around) (outer : List Env) (s : Shared) (H : Hp) (E : XK), Room k (A.deeper (envOfC qual (defScope st) s.heap.objs.size f cdv)) →
      ∃ TB : DTS, PSs (cxOf CX0 P w K mg base N qual (defScope st) f cdv A outer s H E).nox (defBody st) (simS K TB) ∧ ∀ ds R, ds.length = ps.length → T ds R → TB (dEnd R) (dstart N.length ds)) :
    FnOk P w K mg base CX0 (k + 1) f fd ps (spD K ps.length T) := by
  refine F.ok S (fun vs H Q E h => h.1) (fun cdv A outer s H vs Q E hr h => ?_)
  obtain ⟨TB, h1, h2⟩ := walk cdv A outer s H E hr
  obtain ⟨l, O, ds, R, lo, dv, t, kq⟩ := h
  exact ⟨_, h1, O, H, dstart N.length ds, O, _, rs_start lo dv, h2 ds R ((dvs_len dv).trans l) t, post_end kq⟩
/-- .. where no repr is under way -/
theorem okDQ {x qual : Str} {st : Stmt} {f : Addr} {fd : FuncData} {N ps : List Str} {k : Nat} {T : DSp} (F : Fun K x qual st f fd) (S : FnScope N ps (defScope st))
    (walk : ∀ (cdv : Value) (A : Around) (outer : List Env) (s : Shared) (H : Hp) (E : XK), Room k (A.deeper (envOfC qual (defScope st) s.heap.objs.size f cdv)) → Quiet (A.deeper (envOfC qual (defScope st) s.heap.objs.size f cdv)) →
      ∃ TB : DTS, PSs (cxOf CX0 P w K mg base N qual (defScope st) f cdv A outer s H E).nox (defBody st) (simS K TB) ∧ ∀ ds R, ds.length = ps.length → T ds R → TB (dEnd R) (dstart N.length ds)) :
    FnQ P w K mg base CX0 (k + 1) f fd ps (spD K ps.length T) := by
  refine fnq_ok F S (fun vs H Q E h => h.1) (fun cdv A outer s H vs Q E hr qu h => ?_)
  obtain ⟨TB, h1, h2⟩ := walk cdv A outer s H E hr qu
  obtain ⟨l, O, ds, R, lo, dv, t, kq⟩ := h
  exact ⟨_, h1, O, H, dstart N.length ds, O, _, rs_start lo dv, h2 ds R ((dvs_len dv).trans l) t, post_end kq⟩
end
section
variable {X : Cx} {K : PySem.W.Frag} {O0 O O' O1 : List Addr} {H0 H H' H1 : Hp} {δ δ' δ1 : DSt} {σ : L2.St}
variable {e : Expr} {es : List Expr} {x : Str} {p pos : Pos} {f : Addr} {fd : FuncData} {ps : List Str} {k : Nat} {T : DSp} {TA' : DTA}
/-- a call: what is handed in is given away -/
def dCall (T : DSp) (t : DTA) : DTE := fun δ R => t δ fun ds δ1 => frzL ds δ1 fun ds' δ2 => T ds' fun d => R d δ2
theorem Post.rr {R : Dv → DSt → Prop} {Q : VK} (p : Post K O0 H0 δ σ O H R Q) (r : RS K O0 H0 δ σ O H) {d : Dv} {v : V} {H' : Hp} (e : Ex H H') (h : RR K O H v H' d) (q : R d δ) : Q v H' := by
  cases d with
  | d x => exact p (.d x) _ _ _ _ (nx_grow e) (r.grow e) h q
  | x o => exact p (.x o) _ _ _ _ (nx_grow e) (r.grow e) h q
  | bo i xs => exact h.elim
  | ow xs =>
    obtain ⟨a, vs, rfl, n, h1, h2⟩ := h
    refine p (.ow xs) _ _ (a :: O) _ (nx_own e n) (r.own e n h1) ⟨a, vs, rfl, List.mem_cons_self, fresh_back r.ex n, fun i ys g1 g2 => ?_, h1, h2⟩ q
    obtain ⟨v, hv, a', us, e1, h3, _⟩ := r.get g1
    rw [g2] at hv; cases hv; cases e1
    obtain ⟨ws, q⟩ := r.lst _ h3
    rw [n] at q; cases q
/-- by the number of parameters -/
def sp0 (T : (Dv → Prop) → Prop) : DSp := fun ds R => match ds with
  | [] => T R
  | _ => False
def sp1 (T : Dv → (Dv → Prop) → Prop) : DSp := fun ds R => match ds with
  | [a] => T a R
  | _ => False
def sp2 (T : Dv → Dv → (Dv → Prop) → Prop) : DSp := fun ds R => match ds with
  | [a, b] => T a b R
  | _ => False
def sp3 (T : Dv → Dv → Dv → (Dv → Prop) → Prop) : DSp := fun ds R => match ds with
  | [a, b, c] => T a b c R
  | _ => False
def sp4 (T : Dv → Dv → Dv → Dv → (Dv → Prop) → Prop) : DSp := fun ds R => match ds with
  | [a, b, c, d] => T a b c d R
  | _ => False
abbrev HasLen (T : DSp) (n : Nat) : Prop := ∀ ds R, T ds R → ds.length = n
theorem sp0_len {T} : HasLen (sp0 T) 0 := fun ds R h => match ds, h with | [], _ => rfl
theorem sp1_len {T} : HasLen (sp1 T) 1 := fun ds R h => match ds, h with | [_], _ => rfl
theorem sp2_len {T} : HasLen (sp2 T) 2 := fun ds R h => match ds, h with | [_, _], _ => rfl
theorem sp3_len {T} : HasLen (sp3 T) 3 := fun ds R h => match ds, h with | [_, _, _], _ => rfl
theorem sp4_len {T} : HasLen (sp4 T) 4 := fun ds R h => match ds, h with | [_, _, _, _], _ => rfl
theorem sim_call {E : XK} {n : Nat} (hl : HasLen T n) : ∀ σ H Q, simE K (dCall T TA') σ H Q → tCall (spD K n T) [] E (simA K TA') σ H Q := by
  rintro σ H Q ⟨O0, H0, δ, O, R, rs, t, p⟩
  refine ⟨O0, H0, δ, O, _, rs, t, fun ds δ1 vs O1 H1 n1 rs1 rv1 h1 => ?_⟩
  obtain ⟨ds', δ2, O2, n2, r2, v2, z⟩ := frzL_ok rs1 rv1 h1
  rw [List.append_nil]
  exact ⟨(dvs_len v2).symm.trans (hl _ _ z), O2, ds', _, r2.lst, v2, z, fun d v H' e rr q => (p.step (n1.trans n2)).rr r2 e rr q⟩
theorem de_call {CX : CXT} {n : Nat} {E : XK} (hl : HasLen T n) (F : FnOk X.prog X.w X.K X.mg X.base CX k f fd ps (spD K n T)) (hr : Room k X.A) (hg : Gl X x) (hm : X.mg x = some (.ref f)) (hk : PySem.W.keepIn X.K (.ref f) = true) (hb : Binds X.K fd ps []) (hx : Passes CX X E)
    (ha : PA X (e :: es) (simA K TA')) (hdb : (x == ("__debug__" : Str)) = false := by decide) (he : starEach (e :: es) X.env = (false, eval e X.env) :: starEach es X.env := by rfl) (hpl : (backTo pos (starEach es X.env)).any (·.1) = false := by rfl) :
    PE X (.Call (.Name x p) (e :: es) [] pos) (simE K (dCall T TA')) := (pe_call F hr hg hm hk hb .nil hx ha hdb he hpl).imp (sim_call hl)
theorem de_call0 {CX : CXT} {E : XK} (hl : HasLen T 0) (F : FnOk X.prog X.w X.K X.mg X.base CX k f fd ps (spD K 0 T)) (hr : Room k X.A) (hg : Gl X x) (hm : X.mg x = some (.ref f)) (hk : PySem.W.keepIn X.K (.ref f) = true) (hb : Binds X.K fd ps []) (hx : Passes CX X E)
    (hdb : (x == ("__debug__" : Str)) = false := by decide) :
    PE X (.Call (.Name x p) [] [] pos) (simE K (dCall T dNil)) := (pe_call0 F hr hg hm hk hb .nil hx hdb).imp fun σ H Q z => by
  have y := sim_call (K := K) (E := E) hl σ H Q z
  obtain ⟨O0, H0, δ, O, R, rs, t, p⟩ := z
  obtain ⟨O0, H0, δ, O, R, rs, t, p⟩ := y
  exact p [] δ [] O H Nx.refl rs rfl t
theorem de_callQ {CX : CXT} {n : Nat} {E : XK} (hl : HasLen T n) (F : FnQ X.prog X.w X.K X.mg X.base CX k f fd ps (spD K n T)) (qu : Quiet X.A) (hr : Room k X.A) (hg : Gl X x) (hm : X.mg x = some (.ref f)) (hk : PySem.W.keepIn X.K (.ref f) = true) (hb : Binds X.K fd ps []) (hx : Passes CX X E)
    (ha : PA X (e :: es) (simA K TA')) (hdb : (x == ("__debug__" : Str)) = false := by decide) (he : starEach (e :: es) X.env = (false, eval e X.env) :: starEach es X.env := by rfl) (hpl : (backTo pos (starEach es X.env)).any (·.1) = false := by rfl) :
    PE X (.Call (.Name x p) (e :: es) [] pos) (simE K (dCall T TA')) := (pe_callQ F qu hr hg hm hk hb hx ha hdb he hpl).imp (sim_call hl)
/-! a call that tells data without lists: what a slot lends stays its own -/
def dvw : Dv → Dv
  | .bo _ xs => .d (.list xs)
  | d => d
def dCallB (T : DSp) (t : DTA) : DTE := fun δ R => t δ fun ds δ1 => T (ds.map dvw) fun d => match d with
  | .d x => flatD x = true ∧ R (.d x) δ1
  | _ => False
mutual
theorem flat_hd {H : Hp} {O O' : List Addr} (lo : ∀ a ∈ O', ∃ xs, H a = some (.lst xs)) : ∀ (d : PyData) (v : V), flatD d = true → Dq K (hd H O) v d → Dq K (hd H O') v d
  | .none, _, _, h => by cases h; exact .non
  | .bool b, _, _, h => by cases h; exact .bl b
  | .int i, _, _, h => by cases h; exact .int i
  | .str x, _, _, h => by cases h; exact .str x
  | .list ds, _, q, h => by simp [flatD] at q
  | .tuple ds, _, q, h => by
    cases h with
    | tup hs ha =>
      refine .tup ?_ (flat_hdAll lo ds _ (by simpa [flatD] using q) ha)
      rcases hs with hs | hs
      · refine .inl ?_
        rcases hs with hs | ⟨o, hs⟩
        · obtain ⟨h1, h2⟩ := hd_some hs
          exact .inl (by rw [hd_at fun z => by obtain ⟨xs, e⟩ := lo _ z; rw [h2] at e; cases e]; exact h2)
        · obtain ⟨h1, h2⟩ := hd_some hs
          exact .inr ⟨o, by rw [hd_at fun z => by obtain ⟨xs, e⟩ := lo _ z; rw [h2] at e; cases e]; exact h2⟩
      · exact .inr hs
  | .dict _, _, q, h => by simp [flatD] at q
theorem flat_hdAll {H : Hp} {O O' : List Addr} (lo : ∀ a ∈ O', ∃ xs, H a = some (.lst xs)) : ∀ (ds : List PyData) (vs : List V), flatDs ds = true → DqAll K (hd H O) vs ds → DqAll K (hd H O') vs ds
  | [], _, _, h => by cases h; exact .nil
  | d :: ds, _, q, h => by
    simp only [flatDs, Bool.and_eq_true] at q
    cases h with
    | cons h1 h2 => exact .cons (flat_hd lo d _ q.1 h1) (flat_hdAll lo ds _ q.2 h2)
end
/-- the places of what is lent -/
def lent (σ : L2.St) : List Dv → List Addr
  | [] => []
  | .bo i _ :: ds => (match σ[i]? with | some (some (.ref p)) => [p] | _ => []) ++ lent σ ds
  | _ :: ds => lent σ ds
theorem lent_dv (Hf : Hp) (O : List Addr) : ∀ {ds : List Dv} {vs : List V}, RVs K H0 δ σ O H ds vs → ∀ L : List Addr, (∀ a ∈ lent σ ds, a ∈ L) → DVs K (hd H (O.filter fun a => decide (a ∉ L))) (ds.map dvw) vs
  | [], _, h, _, _ => h
  | d :: ds, _, ⟨v, ws, e, h1, h2, h3⟩, L, hL => by
    subst e
    have sub : ∀ a ∈ O.filter (fun a => decide (a ∉ L)), a ∈ O := fun a h => (List.mem_filter.mp h).1
    cases d with
    | d x => exact ⟨v, ws, rfl, Dq.to (hd_sub sub) (show Dq K (hd H O) v x from h1), lent_dv Hf O h3 L hL⟩
    | x o => exact ⟨v, ws, rfl, o.up (hd_sub sub) h1, lent_dv Hf O h3 L hL⟩
    | ow xs => exact absurd rfl (h2 xs)
    | bo i xs =>
      obtain ⟨g1, p, vs, rfl, g2, g3⟩ := h1
      have hp : p ∈ L := hL p (by simp [lent, g1])
      refine ⟨_, ws, rfl, ?_, lent_dv Hf O h3 L fun a ha => hL a (by simp only [lent]; exact List.mem_append_right _ ha)⟩
      exact Dq.lst (SqL.of (by rw [hd_at fun z => (of_decide_eq_true (List.mem_filter.mp z).2) hp]; exact g2)) (g3.to (hd_sub sub))
theorem sim_callB {E : XK} {n : Nat} (hl : HasLen T n) : ∀ σ H Q, simE K (dCallB T TA') σ H Q → tCall (spD K n T) [] E (simA K TA') σ H Q := by
  rintro σ H Q ⟨O0, H0, δ, O, R, rs, t, p⟩
  refine ⟨O0, H0, δ, O, _, rs, t, fun ds δ1 vs O1 H1 n1 rs1 rv1 z => ?_⟩
  show spD K n T (vs ++ []) H1 Q E
  rw [List.append_nil]
  have v2 := lent_dv H1 O1 rv1 (lent σ ds) fun _ h => h
  refine ⟨(dvs_len v2).symm.trans (hl _ _ z), _, _, _, fun a ha => rs1.lst a (List.mem_filter.mp ha).1, v2, z, fun d v H' e rr q => ?_⟩
  cases d with
  | d x => exact (p.step n1) (.d x) _ _ _ _ (nx_grow e) (rs1.grow e) (flat_hd (fun a ha => let ⟨xs, q⟩ := rs1.lst a ha; ⟨xs, e _ _ q⟩) x v q.1 rr) q.2
  | x o => exact q.elim
  | ow xs => exact q.elim
  | bo i xs => exact q.elim
theorem de_callB' {CX : CXT} {n : Nat} {E : XK} (hl : HasLen T n) (F : FnOk X.prog X.w X.K X.mg X.base CX k f fd ps (spD K n T)) (hr : Room k X.A) (hg : Gl X x) (hm : X.mg x = some (.ref f)) (hk : PySem.W.keepIn X.K (.ref f) = true) (hb : Binds X.K fd ps []) (hx : Passes CX X E)
    (ha : PA X (e :: es) (simA K TA')) (hdb : (x == ("__debug__" : Str)) = false := by decide) (he : starEach (e :: es) X.env = (false, eval e X.env) :: starEach es X.env := by rfl) (hpl : (backTo pos (starEach es X.env)).any (·.1) = false := by rfl) :
    PE X (.Call (.Name x p) (e :: es) [] pos) (simE K (dCallB T TA')) := (pe_call F hr hg hm hk hb .nil hx ha hdb he hpl).imp (sim_callB hl)
theorem de_callBQ {CX : CXT} {n : Nat} {E : XK} (hl : HasLen T n) (F : FnQ X.prog X.w X.K X.mg X.base CX k f fd ps (spD K n T)) (qu : Quiet X.A) (hr : Room k X.A) (hg : Gl X x) (hm : X.mg x = some (.ref f)) (hk : PySem.W.keepIn X.K (.ref f) = true) (hb : Binds X.K fd ps []) (hx : Passes CX X E)
    (ha : PA X (e :: es) (simA K TA')) (hdb : (x == ("__debug__" : Str)) = false := by decide) (he : starEach (e :: es) X.env = (false, eval e X.env) :: starEach es X.env := by rfl) (hpl : (backTo pos (starEach es X.env)).any (·.1) = false := by rfl) :
    PE X (.Call (.Name x p) (e :: es) [] pos) (simE K (dCallB T TA')) := (pe_callQ F qu hr hg hm hk hb hx ha hdb he hpl).imp (sim_callB hl)
end
end Gx

set_option Elab.async false
set_option linter.all false
set_option maxRecDepth 100000
set_option maxHeartbeats 2000000
/-! The data layer: statements. -/
namespace Gx
open PySem PySem.Spec PyProof.Rows L2 Evl
theorem _root_.L2.PS.imp {X : Cx} {st : Stmt} {t t' : TS} (h : PS X st t) (f : ∀ D σ H, t' D σ H → t D σ H) : PS X st t' := ⟨fun p s σ H D I z => h.run p s σ H D I (f D σ H z)⟩
theorem _root_.L2.PSs.imp {X : Cx} {st : List Stmt} {t t' : TS} (h : PSs X st t) (f : ∀ D σ H, t' D σ H → t D σ H) : PSs X st t' := ⟨fun p s σ H D I z => h.run p s σ H D I (f D σ H z)⟩
section
variable {X : Cx} {K : PySem.W.Frag} {O0 O O' O1 : List Addr} {H0 H H' H1 : Hp} {δ δ' δ1 : DSt} {σ σ' : L2.St}
variable {e : Expr} {st : Stmt} {rest : List Stmt} {pos : Pos} {Ta : DTE} {T U : DTS} {E : DEnds} {D : Ends}
theorem PostS.step (p : PostS K O0 H0 O H E D) (a : Ex (hd H O) (hd H1 O1)) : PostS K O0 H0 O1 H1 E D :=
  ⟨fun δ' σ' O' H' n r h => p.nx δ' σ' O' H' (a.trans n) r h, fun d δ' σ' v O' H' n r rv nb h => p.rt d δ' σ' v O' H' (a.trans n) r rv nb h,
    fun δ' σ' O' H' n r h => p.bk δ' σ' O' H' (a.trans n) r h, fun δ' σ' O' H' n r h => p.ct δ' σ' O' H' (a.trans n) r h⟩
theorem PostS.wi {n : DSt → Prop} {n' : L2.St → Hp → Prop} (p : PostS K O0 H0 O H E D) (q : ∀ δ' σ' O' H', Ex (hd H O) (hd H' O') → RS K O0 H0 δ' σ' O' H' → n δ' → n' σ' H') :
    PostS K O0 H0 O H { E with nx := n } { D with nx := n' } := ⟨q, p.rt, p.bk, p.ct⟩
/-! blocks -/
def dNext : DTS := fun E δ => E.nx δ
def dSeq (T U : DTS) : DTS := fun E δ => T { E with nx := U E } δ
def dCut (T U : DTS) : DTS := fun E δ => ∃ Mid : DSt → Prop, T { E with nx := Mid } δ ∧ ∀ δ', Mid δ' → U E δ'
theorem ds_nil : PSs X [] (simS K dNext) := pss_nil.imp fun D σ H ⟨O0, H0, δ, O, E, rs, t, p⟩ => p.nx δ σ O H (Ex.refl _) rs t
theorem ds_cons (h1 : PS X st (simS K T)) (h2 : PSs X rest (simS K U)) : PSs X (st :: rest) (simS K (dSeq T U)) := (pss_cons h1 h2).imp fun D σ H ⟨O0, H0, δ, O, E, rs, t, p⟩ =>
  ⟨O0, H0, δ, O, _, rs, t, p.wi fun δ' σ' O' H' n r h => ⟨O0, H0, δ', O', E, r, h, p.step n⟩⟩
theorem ds_cut (h1 : PS X st (simS K T)) (h2 : PSs X rest (simS K U)) : PSs X (st :: rest) (simS K (dCut T U)) := (pss_cons h1 h2).imp fun D σ H ⟨O0, H0, δ, O, E, rs, ⟨M, t, u⟩, p⟩ =>
  ⟨O0, H0, δ, O, _, rs, t, p.wi fun δ' σ' O' H' n r h => ⟨O0, H0, δ', O', E, r, u δ' h, p.step n⟩⟩
theorem ds_one (h1 : PS X st (simS K T)) : PSs X [st] (simS K T) := pss_one h1
def dBreak : DTS := fun E δ => E.bk δ
def dCont : DTS := fun E δ => E.ct δ
theorem ds_pass : PS X (.Pass pos) (simS K dNext) := ps_pass.imp fun D σ H ⟨O0, H0, δ, O, E, rs, t, p⟩ => p.nx δ σ O H (Ex.refl _) rs t
theorem ds_break : PS X (.Break pos) (simS K dBreak) := ps_break.imp fun D σ H ⟨O0, H0, δ, O, E, rs, t, p⟩ => p.bk δ σ O H (Ex.refl _) rs t
theorem ds_continue : PS X (.Continue pos) (simS K dCont) := ps_continue.imp fun D σ H ⟨O0, H0, δ, O, E, rs, t, p⟩ => p.ct δ σ O H (Ex.refl _) rs t
def dNever : DTS := fun _ _ => False
theorem ds_never : PS X st (simS K dNever) := ps_never.imp fun D σ H ⟨O0, H0, δ, O, E, rs, t, p⟩ => t
theorem dss_never {sts : List Stmt} : PSs X sts (simS K dNever) := pss_never.imp fun D σ H ⟨O0, H0, δ, O, E, rs, t, p⟩ => t
def dDrop (Ta : DTE) : DTS := fun E δ => Ta δ fun _ δ1 => E.nx δ1
theorem ds_expr (he : PE X e (simE K Ta)) (hs : swapsWith e none pos.line X.env = pure false := by rfl) : PS X (.Expr e pos) (simS K (dDrop Ta)) := (ps_expr he hs).imp fun D σ H ⟨O0, H0, δ, O, E, rs, t, p⟩ =>
  ⟨O0, H0, δ, O, _, rs, t, fun d δ1 v O1 H1 n1 rs1 rv1 h1 => p.nx δ1 σ O1 H1 n1.hd rs1 h1⟩
def dIfS (c : DTT) (T U : DTS) : DTS := fun E δ => c δ fun b δ1 => if b = true then T E δ1 else U E δ1
theorem ds_if {c : Expr} {a b : List Stmt} {tc : DTT} (hc : PT X c (simT K tc)) (ha : PSs X a (simS K T)) (hb : PSs X b (simS K U)) : PS X (.If c a b pos) (simS K (dIfS tc T U)) :=
  (ps_if hc ha hb).imp fun D σ H ⟨O0, H0, δ, O, E, rs, t, p⟩ => ⟨O0, H0, δ, O, _, rs, t, fun b δ' O' H' n r h => by
    cases b with
    | true => exact ⟨O0, H0, δ', O', E, r, h, p.step n.hd⟩
    | false => exact ⟨O0, H0, δ', O', E, r, h, p.step n.hd⟩⟩
/-! return -/
theorem RS.forget (r : RS K O0 H0 δ σ O H) (i : Nat) : RS K O0 H0 (δ.set i none) σ O H := by
  refine ⟨r.old, r.lst, r.ex, r.sub, by rw [List.length_set]; exact r.len, fun j => ?_, fun j k ys zs v e ej ek vj vk => ?_⟩
  · rw [List.getElem?_set]
    by_cases e : i = j
    · rw [if_pos e]
      split
      · exact trivial
      · exact trivial
    · rw [if_neg e]; exact r.at_ j
  · rcases get_set ej with ⟨_, q⟩ | ⟨_, q⟩
    · cases q
    · rcases get_set ek with ⟨_, q'⟩ | ⟨_, q'⟩
      · cases q'
      · exact r.two j k ys zs v e q q' vj vk
def retD : Dv → DSt → (Dv → Prop) → Prop
  | .bo i _, δ, k => match δ[i]? with
    | some (some (.ow ys)) => k (.ow ys)
    | some (some (.fz y)) => k (.d y)
    | _ => False
  | d, _, k => k d
theorem ret_ok (r : RS K O0 H0 δ σ O H) {d : Dv} {v : V} {k : Dv → Prop} (h : RV K H0 δ σ O H d v) (z : retD d δ k) :
    ∃ d' δ', RS K O0 H0 δ' σ O H ∧ RV K H0 δ' σ O H d' v ∧ k d' ∧ (∀ i xs, d' ≠ .bo i xs) := by
  cases d with
  | d x => exact ⟨_, _, r, h, z, by simp⟩
  | x o => exact ⟨_, _, r, h, z, by simp⟩
  | ow xs => exact ⟨_, _, r, h, z, by simp⟩
  | bo i xs =>
    obtain ⟨e, p, vs, rfl, h1, h2⟩ := h
    simp only [retD] at z
    rcases q : δ[i]? with _ | s
    · rw [q] at z; exact z.elim
    · rw [q] at z
      match s, z with
      | some (.ow ys), z =>
        obtain ⟨v, hv, a, us, rfl, ha, n, g1, g2⟩ := r.get q
        rw [e] at hv; cases hv
        refine ⟨.ow ys, δ.set i none, r.forget i, ⟨_, us, rfl, ha, n, fun j zs g3 g4 => ?_, g1, g2⟩, z, by simp⟩
        rcases get_set g3 with ⟨_, w⟩ | ⟨ne, w⟩
        · cases w
        · exact r.two i j ys zs _ (Ne.symm ne) q w e g4
      | some (.fz y), z =>
        obtain ⟨v, hv, rl⟩ := r.get q
        rw [e] at hv; cases hv
        exact ⟨.d y, δ, r, rl, z, by simp⟩
def dRet (Ta : DTE) : DTS := fun E δ => Ta δ fun d δ1 => retD d δ1 E.rt
theorem ds_ret (he : PE X e (simE K Ta)) : PS X (.Return (some e) pos) (simS K (dRet Ta)) := (ps_ret he).imp fun D σ H ⟨O0, H0, δ, O, E, rs, t, p⟩ => by
  refine ⟨O0, H0, δ, O, _, rs, t, fun d δ1 v O1 H1 n1 rs1 rv1 h1 => ?_⟩
  obtain ⟨d', δ2, r2, rv2, z, nb⟩ := ret_ok rs1 rv1 h1
  exact p.rt d' δ2 σ v O1 H1 n1.hd r2 rv2 nb z
def dRetN : DTS := fun E _ => E.rt (.d .none)
theorem ds_retN : PS X (.Return none pos) (simS K dRetN) := ps_retN.imp fun D σ H ⟨O0, H0, δ, O, E, rs, t, p⟩ => p.rt (.d .none) δ σ .non O H (Ex.refl _) rs .non (by simp) t
/-! name = e -/
theorem RS.set (r : RS K O0 H0 δ σ O H) {i : Nat} {s : Option Sl} {v : V} (h : RSl K O H0 H s (some v)) (a : ∀ xs p, s = some (.ow xs) → v = .ref p → Ap (δ.set i none) σ p) : RS K O0 H0 (δ.set i s) (σ.set i (some v)) O H := by
  refine ⟨r.old, r.lst, r.ex, r.sub, by rw [List.length_set, List.length_set]; exact r.len, fun j => ?_, fun j k ys zs u e ej ek vj vk => ?_⟩
  · rw [List.getElem?_set, List.getElem?_set]
    by_cases e : i = j
    · subst e
      rw [if_pos rfl, if_pos rfl]
      by_cases hi : i < δ.length
      · rw [if_pos hi, if_pos (by rw [← r.len]; exact hi)]; exact h
      · rw [if_neg hi]; exact trivial
    · rw [if_neg e, if_neg e]; exact r.at_ j
  · have at_ : ∀ {j : Nat} {u : Option V}, j ≠ i → (σ.set i (some v))[j]? = some u → σ[j]? = some u := fun {j u} ne w => by
      rw [List.getElem?_set, if_neg (Ne.symm ne)] at w; exact w
    have me : ∀ {u : Option V}, (σ.set i (some v))[i]? = some u → u = some v := fun {u} w => by
      rcases get_set w with ⟨_, q⟩ | ⟨q, _⟩
      · exact q
      · exact absurd rfl q
    have key : ∀ {j : Nat} {xs zs : List PyData} {u : Option V}, j ≠ i → s = some (.ow xs) → (δ.set i s)[j]? = some (some (.ow zs)) → (σ.set i (some v))[j]? = some u → u = some v → False := fun {j xs zs u} ne es w w2 eu => by
      subst es
      obtain ⟨p, vs, ev, _⟩ := h
      subst ev
      refine a xs p rfl rfl j zs ?_ (by rw [← eu]; exact at_ ne w2)
      rw [List.getElem?_set, if_neg (Ne.symm ne)] at w ⊢
      exact w
    rcases get_set ej with ⟨rfl, q⟩ | ⟨nj, q⟩
    · rcases get_set ek with ⟨rfl, q'⟩ | ⟨nk, q'⟩
      · exact e rfl
      · exact key nk q.symm ek vk (me vj)
    · rcases get_set ek with ⟨rfl, q'⟩ | ⟨nk, q'⟩
      · exact key nj q'.symm ej vj (me vk)
      · exact r.two j k ys zs u e q q' (at_ nj vj) (at_ nk vk)
theorem RS.setd (r : RS K O0 H0 δ σ O H) {i : Nat} {x : PyData} {v : V} (h : Dq K (hd H O) v x) : RS K O0 H0 (δ.set i (some (.fz x))) (σ.set i (some v)) O H := r.set (s := some (.fz x)) h (by simp)
def asgD (i : Nat) (d : Dv) (δ : DSt) (k : DSt → Prop) : Prop := match d with
  | .ow xs => k (δ.set i (some (.ow xs)))
  | d => frz d δ fun d' δ' => k (δ'.set i (asl d'))
theorem asg_ok (r : RS K O0 H0 δ σ O H) {i : Nat} {d : Dv} {v : V} {k : DSt → Prop} (h : RV K H0 δ σ O H d v) (z : asgD i d δ k) :
    ∃ δ' O', Nx O H O' H δ δ' ∧ ∃ δ'', RS K O0 H0 δ'' (σ.set i (some v)) O' H ∧ k δ'' := by
  have fr : ∀ d : Dv, RV K H0 δ σ O H d v → (frz d δ fun d' δ' => k (δ'.set i (asl d'))) → ∃ δ' O', Nx O H O' H δ δ' ∧ ∃ δ'', RS K O0 H0 δ'' (σ.set i (some v)) O' H ∧ k δ'' := fun d h z => by
    obtain ⟨d', δ', O', n, r', rv, z, nb, no⟩ := frz_ok r h z
    refine ⟨δ', O', n, _, ?_, z⟩
    cases d' with
    | d x => exact r'.set (s := some (.fz x)) rv (by simp)
    | x o => exact r'.set (s := some (.x o)) rv (by simp)
    | ow xs => exact absurd rfl (no xs)
    | bo i xs => exact absurd rfl (nb i xs)
  cases d with
  | d x => exact fr _ h z
  | x o => exact fr _ h z
  | bo i xs => exact fr _ h z
  | ow xs =>
    obtain ⟨p, vs, rfl, hp, n, a, h1, h2⟩ := h
    refine ⟨δ, O, Nx.refl, _, r.set (s := some (.ow xs)) ⟨p, vs, rfl, hp, n, h1, h2⟩ fun ys q e1 e2 j zs g3 g4 => ?_, z⟩
    cases e2
    rcases get_set g3 with ⟨_, w⟩ | ⟨ne, w⟩
    · cases w
    · exact a j zs w g4
def dSet (i : Nat) (Ta : DTE) : DTS := fun E δ => Ta δ fun d δ1 => asgD i d δ1 E.nx
theorem ds_set {i : Nat} {x : Str} {pos' : Pos} (hN : X.N.Nodup) (hi : X.N[i]? = some x) (hx : Loc X.env.scope x) (he : PE X e (simE K Ta)) (hs : swapsWith e (some (.Name x pos')) pos.line X.env = pure false := by rfl) (hf : X.fn x = true ∨ X.env.scope.names.lookup x = some .local := by first | exact .inl rfl | exact .inr rfl | assumption) :
    PS X (.Assign [.Name x pos'] e pos) (simS K (dSet i Ta)) := (ps_set hN hi hx he hs hf).imp fun D σ H ⟨O0, H0, δ, O, E, rs, t, p⟩ => by
  refine ⟨O0, H0, δ, O, _, rs, t, fun d δ1 v O1 H1 n1 rs1 rv1 h1 => ?_⟩
  obtain ⟨δ2, O2, n2, δ3, r3, z⟩ := asg_ok rs1 rv1 h1
  exact p.nx δ3 _ O2 H1 (n1.trans n2).hd r3 z
/-! name op= e, of ints -/
def dAug (i : Nat) (g : Int → Int → Int) (Ta : DTE) : DTS := fun E δ => match δ[i]? with
  | some (some (.fz (.int n))) => Ta δ fun a δ1 => vw a fun x => match x with
    | .int m => E.nx (δ1.set i (some (.fz (.int (g n m)))))
    | _ => False
  | _ => False
theorem ds_aug {i : Nat} {x : Str} {op : Operator} {g : Int → Int → Int} {pos' : Pos} (hN : X.N.Nodup) (hi : X.N[i]? = some x) (hx : Loc X.env.scope x) (he : PE X e (simE K Ta)) (ho : PIp X op (ipI g)) (hf : X.fn x = true ∨ X.env.scope.names.lookup x = some .local := by first | exact .inl rfl | exact .inr rfl | assumption) :
    PS X (.AugAssign (.Name x pos') op e pos) (simS K (dAug i g Ta)) := (ps_aug hN hi hx he ho hf).imp fun D σ H ⟨O0, H0, δ, O, E, rs, t, p⟩ => by
  simp only [dAug] at t
  rcases q : δ[i]? with _ | s
  · rw [q] at t; exact t.elim
  · rw [q] at t
    match s, q, t with
    | some (.fz (.int n)), q, t =>
      obtain ⟨v, hv, rl⟩ := rs.get q
      refine ⟨v, hv, O0, H0, δ, O, _, rs, t, fun d δ1 v O1 H1 n1 rs1 rv1 h1 => ?_⟩
      obtain ⟨x, cx, h1⟩ := vw_ok rv1 h1
      match x, cx, h1 with
      | .int m, cx, h1 =>
        have e1 : v = .int m := cx.int
        have rl : Dq K (hd H O) _ (.int n) := rl
        cases rl
        exact ⟨n, m, rfl, e1, p.nx _ _ _ _ n1.hd (rs1.setd (.int _)) h1⟩
/-! a, b = x, y -/
def dPar (i j : Nat) (T : DTA) : DTS := fun E δ => T δ fun ds δ1 => frzL ds δ1 fun ds' δ2 => match ds' with
  | [a, b] => E.nx ((δ2.set i (asl a)).set j (asl b))
  | _ => False
theorem RS.seta (r : RS K O0 H0 δ σ O H) {i : Nat} {d : Dv} {v : V} (h : match d with | .d x => Dq K (hd H O) v x | .x o => o.φ (hd H O) v | _ => False) : RS K O0 H0 (δ.set i (asl d)) (σ.set i (some v)) O H := by
  cases d with
  | d x => exact r.set (s := some (.fz x)) h (by simp)
  | x o => exact r.set (s := some (.x o)) h (by simp)
  | ow xs => exact h.elim
  | bo i xs => exact h.elim
theorem ds_par {i j : Nat} {x y : Str} {a b : Expr} {Tp : DTA} {px py pt : Pos} {kt k2 pt2} (hc : X.calm = true) (hN : X.N.Nodup) (hi : X.N[i]? = some x) (hj : X.N[j]? = some y) (hij : i ≠ j)
    (hx : X.env.scope.names.lookup x = some .local) (hy : X.env.scope.names.lookup y = some .local) (ha : PA X [a, b] (simA K Tp))
    (hw : swappedStores [.Tuple [.Name x px, .Name y py] kt pt] (.Tuple [a, b] k2 pt2) X.env = pure (some [x, y]))
    (hs : swapsWithSole [.Tuple [.Name x px, .Name y py] kt pt] (.Tuple [a, b] k2 pt2) pos.line X.env = pure false := by rfl) :
    PS X (.Assign [.Tuple [.Name x px, .Name y py] kt pt] (.Tuple [a, b] k2 pt2) pos) (simS K (dPar i j Tp)) := (ps_par hc hN hi hj hij hx hy ha hw hs).imp fun D σ H ⟨O0, H0, δ, O, E, rs, t, p⟩ => by
  refine ⟨O0, H0, δ, O, _, rs, t, fun ds δ1 vs O1 H1 n1 rs1 rv1 h1 => ?_⟩
  obtain ⟨ds', δ2, O2, n2, r2, v2, z⟩ := frzL_ok rs1 rv1 h1
  match ds', v2, z with
  | [a, b], v2, z =>
    obtain ⟨v, ws, e1, g1, u, ws', e2, g2, e3⟩ := v2
    subst e1; subst e2
    obtain rfl : ws' = [] := e3
    exact ⟨v, u, rfl, p.nx _ _ _ _ (n1.trans n2).hd ((r2.seta g1).seta g2) z⟩
/-! targets -/
abbrev DTG := PyData → DSt → (DSt → Prop) → Prop
abbrev DTGs := List PyData → DSt → (DSt → Prop) → Prop
def simG (K : PySem.W.Frag) (T : DTG) : TG := fun v σ H Q => ∃ O0 H0 δ O d R, RS K O0 H0 δ σ O H ∧ Dq K (hd H O) v d ∧ T d δ R ∧ ∀ δ' σ', RS K O0 H0 δ' σ' O H → R δ' → Q σ' H
def simGs (K : PySem.W.Frag) (T : DTGs) : TGs := fun vs σ H Q => ∃ O0 H0 δ O ds R, RS K O0 H0 δ σ O H ∧ DqAll K (hd H O) vs ds ∧ T ds δ R ∧ ∀ δ' σ', RS K O0 H0 δ' σ' O H → R δ' → Q σ' H
theorem _root_.L2.PG.imp {tg : Expr} {t t' : TG} (h : PG X tg t) (f : ∀ v σ H Q, t' v σ H Q → t v σ H Q) : PG X tg t' := ⟨fun pins s σ H v u Q I r z => h.run pins s σ H v u Q I r (f v σ H Q z)⟩
theorem _root_.L2.PGs.imp {tg : List Expr} {t t' : TGs} (h : PGs X tg t) (f : ∀ v σ H Q, t' v σ H Q → t v σ H Q) : PGs X tg t' := ⟨fun pins s σ H v u Q I r z => h.run pins s σ H v u Q I r (f v σ H Q z)⟩
def dgName (i : Nat) : DTG := fun d δ k => k (δ.set i (some (.fz d)))
theorem dg_name {i : Nat} {x : Str} (h : PG X (.Name x pos) (gName i)) : PG X (.Name x pos) (simG K (dgName i)) := h.imp fun v σ H Q ⟨O0, H0, δ, O, d, R, rs, dq, t, p⟩ => p _ _ (rs.setd dq) t
def dgNil : DTGs := fun ds δ k => ds = [] ∧ k δ
def dgCons (T : DTG) (U : DTGs) : DTGs := fun ds δ k => match ds with
  | d :: r => T d δ fun δ1 => U r δ1 k
  | [] => False
theorem dgs_nil : PGs X [] (simGs K dgNil) := pgs_nil.imp fun vs σ H Q ⟨O0, H0, δ, O, ds, R, rs, dq, ⟨e, t⟩, p⟩ => by
  subst e
  cases dq
  exact ⟨rfl, p _ _ rs t⟩
theorem dgs_cons {es : List Expr} {T : DTG} {U : DTGs} (h1 : PG X e (simG K T)) (h2 : PGs X es (simGs K U))
    (hs : (assignEach (e :: es) X.env).map (·.2) = assign e X.env :: (assignEach es X.env).map (·.2) := by rfl) : PGs X (e :: es) (simGs K (dgCons T U)) := (pgs_cons h1 h2 hs).imp fun vs σ H Q ⟨O0, H0, δ, O, ds, R, rs, dq, t, p⟩ => by
  match ds, dq, t with
  | d :: r, .cons a b, t => exact ⟨_, _, rfl, O0, H0, δ, O, d, _, rs, a, t, fun δ1 σ1 rs1 h1 => ⟨O0, H0, δ1, O, r, R, rs1, b, h1, p⟩⟩
def dgTup (n : Nat) (T : DTGs) : DTG := fun d δ k => match d with
  | .tuple xs => xs.length = n ∧ T xs δ k
  | _ => False
theorem dg_tup (hK : X.K = K) {es : List Expr} {k : Nat} {T : DTGs} {n : Nat} (hc : X.calm = true) (h : PGs X es (simGs K T))
    (hn : (assignEach es X.env).length = n := by rfl) (hst : (assignEach es X.env).findIdx? (·.1) = none := by rfl) : PG X (.Tuple es k pos) (simG K (dgTup n T)) := by
  subst hK
  refine (pg_tup hc h hn hst).imp fun v σ H Q ⟨O0, H0, δ, O, d, R, rs, dq, t, p⟩ => ?_
  match d, dq, t with
  | .tuple xs, dq, t =>
    cases dq with
    | tup a b => exact ⟨_, _, rfl, ex_t (hd_ex _ _) a, by rw [b.len]; exact t.1, O0, H0, δ, O, xs, R, rs, b, t.2, p⟩
/-- target = e -/
def dAsg (Ta : DTE) (g : DTG) : DTS := fun E δ => Ta δ fun d δ1 => frz d δ1 fun d' δ2 => match d' with
  | .d x => g x δ2 E.nx
  | _ => False
theorem ds_asg {tg : Expr} {g : DTG} (he : PE X e (simE K Ta)) (hg : PG X tg (simG K g)) (hs : swapsWithSole [tg] e pos.line X.env = pure false := by rfl) (hw : swappedStores [tg] e X.env = pure none := by rfl)
    (h1 : (assignEach [tg] X.env).map (·.2) = [assign tg X.env] := by rfl) : PS X (.Assign [tg] e pos) (simS K (dAsg Ta g)) := (ps_asg he hg hs hw h1).imp fun D σ H ⟨O0, H0, δ, O, E, rs, t, p⟩ => by
  refine ⟨O0, H0, δ, O, _, rs, t, fun d δ1 v O1 H1 n1 rs1 rv1 h1 => ?_⟩
  obtain ⟨d', δ2, O2, n2, r2, v2, z, nb, no⟩ := frz_ok rs1 rv1 h1
  match d', v2, z with
  | .d x, v2, z => exact ⟨O0, H0, δ2, O2, x, _, r2, v2, z, fun δ3 σ3 r3 h3 => p.nx _ _ _ _ (n1.trans n2).hd r3 h3⟩
end
end Gx

set_option Elab.async false
set_option linter.all false
set_option maxRecDepth 100000
set_option maxHeartbeats 2000000
/-! The data layer: what is walked; for. -/
namespace Gx
open PySem PySem.Spec PyProof.Rows L2 Evl RZ
/-- J tells these items one after another, whatever stands beside what stood at first -/
def Feed (K : PySem.W.Frag) (J : It) (Hb : Hp) (items : List PyData) : Prop := ∀ (O : List Addr) (H : Hp), Ex Hb (hd H O) → (∀ a ∈ O, ∃ xs, H a = some (.lst xs)) →
  (∀ (i : Nat) (d : PyData), items[i]? = some d → J.go i H ∧ ∀ x H', J.yld i H x H' → Ex H H' ∧ Dq K (hd H' O) x d) ∧ J.stop items.length H
abbrev DTI := DSt → (List PyData → DSt → Prop) → Prop
def simI (K : PySem.W.Frag) (T : DTI) : TI := fun σ H R => ∃ O0 H0 δ O Rd, RS K O0 H0 δ σ O H ∧ T δ Rd ∧
  ∀ items δ' O' H' J, Nx O H O' H' δ δ' → RS K O0 H0 δ' σ O' H' → Feed K J (hd H' O') items → Rd items δ' → R J H'
theorem _root_.L2.PI.imp {X : Cx} {tg it : Expr} {t t' : TI} (h : PI X tg it t) (f : ∀ σ H R, t' σ H R → t σ H R) : PI X tg it t' := ⟨fun p s σ H R I z => h.run p s σ H R I (f σ H R z)⟩
section
variable {X : Cx} {K : PySem.W.Frag} {O0 O O' O1 : List Addr} {H0 H H' H1 : Hp} {δ δ' δ1 : DSt} {σ σ' : L2.St}
variable {e tg : Expr} {pos p : Pos} {Ta Tb : DTE}
theorem feed_l {Hb : Hp} {a : Addr} {vs : List V} {xs : List PyData} (h : SqL K Hb a vs) (q : DqAll K Hb vs xs) : Feed K (Itl K a) Hb xs := fun O H e lo => by
  have s : SqL K H a vs := ex_l (hd_ex H O) (ex_l e h)
  refine ⟨fun i d hi => ?_, vs, s, Nat.le_of_eq q.len⟩
  obtain ⟨v, hv, dv⟩ := q.get' hi
  refine ⟨⟨vs, v, s, hv⟩, fun x H' y => ?_⟩
  obtain ⟨rfl, y⟩ := y
  have := y vs s
  rw [hv] at this
  cases this
  exact ⟨Ex.refl _, dv.to e⟩
theorem feed_t {Hb : Hp} {a : Addr} {vs : List V} {xs : List PyData} (h : SqT K Hb a vs) (q : DqAll K Hb vs xs) : Feed K (Itt K a) Hb xs := fun O H e lo => by
  have s : SqT K H a vs := ex_t (hd_ex H O) (ex_t e h)
  refine ⟨fun i d hi => ?_, vs, s, Nat.le_of_eq q.len⟩
  obtain ⟨v, hv, dv⟩ := q.get' hi
  refine ⟨⟨vs, v, s, hv⟩, fun x H' y => ?_⟩
  obtain ⟨rfl, y⟩ := y
  have := y vs s
  rw [hv] at this
  cases this
  exact ⟨Ex.refl _, dv.to e⟩
/-- a list or a tuple -/
def diSeq (Ta : DTE) : DTI := fun δ R => Ta δ fun a δ1 => frz a δ1 fun a' δ2 => match a' with
  | .d x => ∃ xs, itemsD x = some xs ∧ R xs δ2
  | _ => False
theorem di_seq (hK : X.K = K) (he : PE X e (simE K Ta)) : PI X tg e (simI K (diSeq Ta)) := (pi_seq hK he).imp fun σ H R ⟨O0, H0, δ, O, Rd, rs, t, k⟩ => by
  refine ⟨O0, H0, δ, O, _, rs, t, fun d δ1 v O1 H1 n1 rs1 rv1 h1 => ?_⟩
  obtain ⟨d', δ2, O2, n2, r2, v2, z, nb, no⟩ := frz_ok rs1 rv1 h1
  match d', v2, z with
  | .d x, v2, ⟨xs, ex, z⟩ =>
    have v2 : Dq K (hd H1 O2) v x := v2
    match x, v2, ex with
    | .list ys, v2, ex =>
      cases ex
      cases v2 with
      | lst a b => exact ⟨_, false, _, rfl, ex_l (hd_ex _ _) a, k _ _ _ _ _ (n1.trans n2) r2 (feed_l a b) z⟩
    | .tuple ys, v2, ex =>
      cases ex
      cases v2 with
      | tup a b => exact ⟨_, true, _, rfl, ex_t (hd_ex _ _) a, k _ _ _ _ _ (n1.trans n2) r2 (feed_t a b) z⟩
/-- lo, lo + 1, .. -/
def rangeD (lo : Int) (n : Nat) : List PyData := (List.range n).map fun i => PyData.int (lo + (i : Nat))
theorem feed_r {Hb : Hp} {lo : Int} {n : Nat} : Feed K (Itr lo n) Hb (rangeD lo n) := fun O H e lo' => by
  unfold rangeD
  refine ⟨fun i d hi => ?_, by show n ≤ _; simp⟩
  rw [List.getElem?_map, Option.map_eq_some_iff] at hi
  obtain ⟨j, hj, rfl⟩ := hi
  obtain ⟨h1, h2⟩ := List.getElem?_eq_some_iff.mp hj
  rw [List.getElem_range] at h2
  subst h2
  refine ⟨by show i < n; simpa using h1, fun x H' y => ?_⟩
  obtain ⟨rfl, rfl⟩ := y
  exact ⟨Ex.refl _, .int _⟩
def diR1 (Ta : DTA) : DTI := fun δ R => Ta δ fun ds δ1 => match ds with
  | [.d (.int j)] => (-(2 ^ 62) ≤ j ∧ j < 2 ^ 62) ∧ R (rangeD 0 j.toNat) δ1
  | _ => False
def diR2 (Ta : DTA) : DTI := fun δ R => Ta δ fun ds δ1 => match ds with
  | [.d (.int i), .d (.int j)] => (-(2 ^ 62) ≤ i ∧ i < 2 ^ 62 ∧ -(2 ^ 62) ≤ j ∧ j < 2 ^ 62) ∧ R (rangeD i (j - i).toNat) δ1
  | _ => False
theorem di_r1 {a : Expr} {Tr : DTA} (hg : Gl X "range") (hm : X.mg "range" = none) (ha : PA X [a] (simA K Tr)) (hs : starEach [a] X.env = [(false, eval a X.env)] := by rfl) : PI X tg (.Call (.Name "range" p) [a] [] pos) (simI K (diR1 Tr)) :=
  (pi_range1 hg hm ha hs).imp fun σ H R ⟨O0, H0, δ, O, Rd, rs, t, k⟩ => by
    refine ⟨O0, H0, δ, O, _, rs, t, fun ds δ1 vs O1 H1 n1 rs1 rv1 h1 => ?_⟩
    split at h1
    · rename_i j
      obtain ⟨v, ws, rfl, g1, _, g2⟩ := rv1
      obtain rfl : ws = [] := g2
      have g1 : Dq K (hd H1 O1) v (.int j) := g1
      cases g1
      exact ⟨j, rfl, h1.1.1, h1.1.2, k _ _ _ _ _ n1 rs1 feed_r h1.2⟩
    · exact h1.elim
theorem di_r2 {a b : Expr} {Tr : DTA} (hg : Gl X "range") (hm : X.mg "range" = none) (ha : PA X [a, b] (simA K Tr)) (hs : starEach [a, b] X.env = [(false, eval a X.env), (false, eval b X.env)] := by rfl) (hs2 : starEach [b] X.env = [(false, eval b X.env)] := by rfl) :
    PI X tg (.Call (.Name "range" p) [a, b] [] pos) (simI K (diR2 Tr)) :=
  (pi_range2 hg hm ha hs hs2).imp fun σ H R ⟨O0, H0, δ, O, Rd, rs, t, k⟩ => by
    refine ⟨O0, H0, δ, O, _, rs, t, fun ds δ1 vs O1 H1 n1 rs1 rv1 h1 => ?_⟩
    split at h1
    · rename_i i j
      obtain ⟨v, ws, rfl, g1, _, u, ws', rfl, g2, _, g3⟩ := rv1
      obtain rfl : ws' = [] := g3
      have g1 : Dq K (hd H1 O1) v (.int i) := g1
      have g2 : Dq K (hd H1 O1) u (.int j) := g2
      cases g1
      cases g2
      exact ⟨i, j, rfl, h1.1, k _ _ _ _ _ n1 rs1 feed_r h1.2⟩
    · exact h1.elim
/-- with their places -/
def enumD (xs : List PyData) : List PyData := (List.range xs.length).zipWith (fun i x => PyData.tuple [.int (i : Nat), x]) xs
theorem enumD_at {xs : List PyData} {i : Nat} {d : PyData} (h : (enumD xs)[i]? = some d) : ∃ x, xs[i]? = some x ∧ d = .tuple [.int (i : Nat), x] := by
  unfold enumD at h
  rw [List.getElem?_zipWith] at h
  cases q : xs[i]? with
  | none => rw [q] at h; simp at h
  | some x =>
    rw [q] at h
    have hi := (List.getElem?_eq_some_iff.mp q).1
    rw [List.getElem?_range hi] at h
    cases h
    exact ⟨x, rfl, rfl⟩
theorem enumD_len (xs : List PyData) : (enumD xs).length = xs.length := by unfold enumD; simp
theorem pair_new {T : Addr} {v u : V} {x y : PyData} (lo : ∀ a ∈ O, ∃ xs, H a = some (.lst xs)) (n : H T = none) (a : Dq K (hd H O) v x) (b : Dq K (hd H O) u y) :
    Ex H (upd H T (.tup [v, u])) ∧ Dq K (hd (upd H T (.tup [v, u])) O) (.ref T) (.tuple [x, y]) := by
  have e : Ex H (upd H T (.tup [v, u])) := Ex.new n
  have nO : T ∉ O := fun z => by obtain ⟨xs, q⟩ := lo T z; rw [n] at q; cases q
  have e' : Ex (hd H O) (hd (upd H T (.tup [v, u])) O) := hd_to e fun _ h => .inl h
  exact ⟨e, .tup (SqT.of (by rw [hd_at nO]; exact upd_same)) (.cons (a.to e') (.cons (b.to e') .nil))⟩
theorem feed_el {Hb : Hp} {a : Addr} {vs : List V} {xs : List PyData} (h : SqL K Hb a vs) (q : DqAll K Hb vs xs) : Feed K (Ite K a) Hb (enumD xs) := fun O H e lo => by
  have s : SqL K H a vs := ex_l (hd_ex H O) (ex_l e h)
  refine ⟨fun i d hi => ?_, vs, s, by rw [enumD_len]; exact Nat.le_of_eq q.len⟩
  obtain ⟨y, hy, rfl⟩ := enumD_at hi
  obtain ⟨v, hv, dv⟩ := q.get' hy
  refine ⟨⟨vs, v, s, hv⟩, fun x H' z => ?_⟩
  obtain ⟨T, u, rfl, nT, rfl, w⟩ := z
  have := w vs s
  rw [hv] at this
  cases this
  exact pair_new lo nT (.int _) (dv.to e)
theorem feed_et {Hb : Hp} {a : Addr} {vs : List V} {xs : List PyData} (h : SqT K Hb a vs) (q : DqAll K Hb vs xs) : Feed K (Iet K a) Hb (enumD xs) := fun O H e lo => by
  have s : SqT K H a vs := ex_t (hd_ex H O) (ex_t e h)
  refine ⟨fun i d hi => ?_, vs, s, by rw [enumD_len]; exact Nat.le_of_eq q.len⟩
  obtain ⟨y, hy, rfl⟩ := enumD_at hi
  obtain ⟨v, hv, dv⟩ := q.get' hy
  refine ⟨⟨vs, v, s, hv⟩, fun x H' z => ?_⟩
  obtain ⟨T, u, rfl, nT, rfl, w⟩ := z
  have := w vs s
  rw [hv] at this
  cases this
  exact pair_new lo nT (.int _) (dv.to e)
/-- enumerate of a list (t = false) or a tuple -/
def diEnum (t : Bool) (Tr : DTA) : DTI := fun δ R => Tr δ fun ds δ1 => frzL ds δ1 fun ds' δ2 => match ds' with
  | [.d (.list xs)] => t = false ∧ R (enumD xs) δ2
  | [.d (.tuple xs)] => t = true ∧ R (enumD xs) δ2
  | _ => False
theorem di_enumL (hK : X.K = K) {Tr : DTA} {elts : List Expr} {kk : Nat} {tpos : Pos} (hg : Gl X "enumerate") (hm : X.mg "enumerate" = none) (ha : PA X [e] (simA K Tr)) (hs : starEach [e] X.env = [(false, eval e X.env)] := by rfl) :
    PI X (.Tuple elts kk tpos) (.Call (.Name "enumerate" p) [e] [] pos) (simI K (diEnum false Tr)) := by
  subst hK
  refine (pi_enum hg hm ha hs).imp fun σ H R ⟨O0, H0, δ, O, Rd, rs, t, k⟩ => ?_
  refine ⟨O0, H0, δ, O, _, rs, t, fun ds δ1 vs O1 H1 n1 rs1 rv1 h1 => ?_⟩
  obtain ⟨ds', δ2, O2, n2, r2, v2, z⟩ := frzL_ok rs1 rv1 h1
  split at z
  · rename_i xs
    obtain ⟨v, ws, e1, g1, e2⟩ := v2
    obtain rfl : ws = [] := e2
    subst e1
    have g1 : Dq X.K (hd H1 O2) v (.list xs) := g1
    cases g1 with
    | lst a b => exact ⟨_, _, rfl, ex_l (hd_ex _ _) a, k _ _ _ _ _ (n1.trans n2) r2 (feed_el a b) z.2⟩
  · exact absurd z.1 (by decide)
  · exact z.elim
theorem di_enumT (hK : X.K = K) {Tr : DTA} {elts : List Expr} {kk : Nat} {tpos : Pos} (hg : Gl X "enumerate") (hm : X.mg "enumerate" = none) (ha : PA X [e] (simA K Tr)) (hs : starEach [e] X.env = [(false, eval e X.env)] := by rfl) :
    PI X (.Tuple elts kk tpos) (.Call (.Name "enumerate" p) [e] [] pos) (simI K (diEnum true Tr)) := by
  subst hK
  refine (pi_enumT hg hm ha hs).imp fun σ H R ⟨O0, H0, δ, O, Rd, rs, t, k⟩ => ?_
  refine ⟨O0, H0, δ, O, _, rs, t, fun ds δ1 vs O1 H1 n1 rs1 rv1 h1 => ?_⟩
  obtain ⟨ds', δ2, O2, n2, r2, v2, z⟩ := frzL_ok rs1 rv1 h1
  split at z
  · exact absurd z.1 (by decide)
  · rename_i xs
    obtain ⟨v, ws, e1, g1, e2⟩ := v2
    obtain rfl : ws = [] := e2
    subst e1
    have g1 : Dq X.K (hd H1 O2) v (.tuple xs) := g1
    cases g1 with
    | tup a b => exact ⟨_, _, rfl, ex_t (hd_ex _ _) a, k _ _ _ _ _ (n1.trans n2) r2 (feed_et a b) z.2⟩
  · exact z.elim
/-- zip of two lists or two tuples -/
def zipD (xs ys : List PyData) : List PyData := xs.zipWith (fun x y => PyData.tuple [x, y]) ys
theorem zipD_at {xs ys : List PyData} {i : Nat} {d : PyData} (h : (zipD xs ys)[i]? = some d) : ∃ x y, xs[i]? = some x ∧ ys[i]? = some y ∧ d = .tuple [x, y] := by
  unfold zipD at h
  rw [List.getElem?_zipWith] at h
  cases q : xs[i]? with
  | none => rw [q] at h; simp at h
  | some x =>
    cases q' : ys[i]? with
    | none => rw [q, q'] at h; simp at h
    | some y => rw [q, q'] at h; cases h; exact ⟨x, y, rfl, rfl, rfl⟩
def diZip (Tr : DTA) : DTI := fun δ R => Tr δ fun ds δ1 => frzL ds δ1 fun ds' δ2 => match ds' with
  | [.d (.list xs), .d (.list ys)] => R (zipD xs ys) δ2
  | [.d (.tuple xs), .d (.tuple ys)] => R (zipD xs ys) δ2
  | _ => False
theorem feed_zl {Hb : Hp} {a b : Addr} {vs ws : List V} {xs ys : List PyData} (h : SqL K Hb a vs) (q : DqAll K Hb vs xs) (h' : SqL K Hb b ws) (q' : DqAll K Hb ws ys) : Feed K (Itz K a b) Hb (zipD xs ys) := fun O H e lo => by
  have s : SqL K H a vs := ex_l (hd_ex H O) (ex_l e h)
  have s' : SqL K H b ws := ex_l (hd_ex H O) (ex_l e h')
  refine ⟨fun i d hi => ?_, vs, ws, s, s', by unfold zipD; rw [List.length_zipWith, q.len, q'.len]; omega⟩
  obtain ⟨x, y, hx, hy, rfl⟩ := zipD_at hi
  obtain ⟨v, hv, dv⟩ := q.get' hx
  obtain ⟨u, hu, du⟩ := q'.get' hy
  refine ⟨⟨vs, ws, v, u, s, s', hv, hu⟩, fun x H' z => ?_⟩
  obtain ⟨T, v', u', rfl, nT, rfl, w, w'⟩ := z
  have e1 := w vs s
  have e2 := w' ws s'
  rw [hv] at e1
  rw [hu] at e2
  cases e1
  cases e2
  exact pair_new lo nT (dv.to e) (du.to e)
theorem feed_zt {Hb : Hp} {a b : Addr} {vs ws : List V} {xs ys : List PyData} (h : SqT K Hb a vs) (q : DqAll K Hb vs xs) (h' : SqT K Hb b ws) (q' : DqAll K Hb ws ys) : Feed K (ItzT K a b) Hb (zipD xs ys) := fun O H e lo => by
  have s : SqT K H a vs := ex_t (hd_ex H O) (ex_t e h)
  have s' : SqT K H b ws := ex_t (hd_ex H O) (ex_t e h')
  refine ⟨fun i d hi => ?_, vs, ws, s, s', by unfold zipD; rw [List.length_zipWith, q.len, q'.len]; omega⟩
  obtain ⟨x, y, hx, hy, rfl⟩ := zipD_at hi
  obtain ⟨v, hv, dv⟩ := q.get' hx
  obtain ⟨u, hu, du⟩ := q'.get' hy
  refine ⟨⟨vs, ws, v, u, s, s', hv, hu⟩, fun x H' z => ?_⟩
  obtain ⟨T, v', u', rfl, nT, rfl, w, w'⟩ := z
  have e1 := w vs s
  have e2 := w' ws s'
  rw [hv] at e1
  rw [hu] at e2
  cases e1
  cases e2
  exact pair_new lo nT (dv.to e) (du.to e)
theorem di_zip (hK : X.K = K) {Tr : DTA} {e2 : Expr} {elts : List Expr} {kk : Nat} {tpos : Pos} (hg : Gl X "zip") (hm : X.mg "zip" = none) (ha : PA X [e, e2] (simA K Tr))
    (hs : starEach [e, e2] X.env = (false, eval e X.env) :: starEach [e2] X.env := by rfl) (hpl : (backTo pos (starEach [e2] X.env)).any (·.1) = false := by rfl) :
    PI X (.Tuple elts kk tpos) (.Call (.Name "zip" p) [e, e2] [] pos) (simI K (diZip Tr)) := by
  subst hK
  refine (pi_zipA hg hm ha hs hpl).imp fun σ H R ⟨O0, H0, δ, O, Rd, rs, t, k⟩ => ?_
  refine ⟨O0, H0, δ, O, _, rs, t, fun ds δ1 vs O1 H1 n1 rs1 rv1 h1 => ?_⟩
  obtain ⟨ds', δ2, O2, n2, r2, v2, z⟩ := frzL_ok rs1 rv1 h1
  split at z
  · rename_i xs ys
    obtain ⟨v, ws, e1, g1, u, ws', e2, g2, e3⟩ := v2
    subst e1; subst e2
    obtain rfl : ws' = [] := e3
    have g1 : Dq X.K (hd H1 O2) v (.list xs) := g1
    have g2 : Dq X.K (hd H1 O2) u (.list ys) := g2
    cases g1 with
    | lst a b => cases g2 with
      | lst a' b' => exact ⟨_, _, _, _, rfl, .inl ⟨ex_l (hd_ex _ _) a, ex_l (hd_ex _ _) a', k _ _ _ _ _ (n1.trans n2) r2 (feed_zl a b a' b') z⟩⟩
  · rename_i xs ys
    obtain ⟨v, ws, e1, g1, u, ws', e2, g2, e3⟩ := v2
    subst e1; subst e2
    obtain rfl : ws' = [] := e3
    have g1 : Dq X.K (hd H1 O2) v (.tuple xs) := g1
    have g2 : Dq X.K (hd H1 O2) u (.tuple ys) := g2
    cases g1 with
    | tup a b => cases g2 with
      | tup a' b' => exact ⟨_, _, _, _, rfl, .inr ⟨ex_t (hd_ex _ _) a, ex_t (hd_ex _ _) a', k _ _ _ _ _ (n1.trans n2) r2 (feed_zt a b a' b') z⟩⟩
  · exact z.elim
/-! for -/
def forD (g : DTG) (body : DTS) (E : DEnds) : List PyData → DSt → Prop
  | [], δ => E.nx δ
  | d :: ds, δ => g d δ fun δ1 => body { nx := forD g body E ds, rt := E.rt, bk := E.nx, ct := forD g body E ds } δ1
def dFor (ti : DTI) (g : DTG) (body : DTS) : DTS := fun E δ => ti δ fun items δ1 => forD g body E items δ1
theorem ds_for {tgt iter : Expr} {body : List Stmt} {ti : DTI} {g : DTG} {tb : DTS} (h : PS X (.For tgt iter body [] pos) (tFor (simI K ti) (simG K g) (simS K tb))) : PS X (.For tgt iter body [] pos) (simS K (dFor ti g tb)) :=
  h.imp fun D σ H ⟨O0, H0, δ, O, E, rs, t, p⟩ => by
    refine ⟨O0, H0, δ, O, _, rs, t, fun items δ1 O1 H1 J n1 rs1 fd h1 => ?_⟩
    refine ⟨fun i m σ H => m = items.length - i ∧ i ≤ items.length ∧ ∃ δ O, RS K O0 H0 δ σ O H ∧ Ex (hd H1 O1) (hd H O) ∧ forD g tb E (items.drop i) δ, ⟨items.length, by simp, Nat.zero_le _, δ1, O1, rs1, Ex.refl _, h1⟩, ?_⟩
    rintro i m σ2 H2 ⟨rfl, hi, δ2, O2, rs2, e2, f⟩
    obtain ⟨f1, f2⟩ := fd O2 H2 e2 rs2.lst
    by_cases hlt : i < items.length
    · have ei : items[i]? = some items[i] := List.getElem?_eq_getElem hlt
      rw [List.drop_eq_getElem_cons hlt] at f
      obtain ⟨g1, g2⟩ := f1 i _ ei
      refine .inr ⟨g1, fun σ H => i + 1 ≤ items.length ∧ ∃ δ O, RS K O0 H0 δ σ O H ∧ Ex (hd H1 O1) (hd H O) ∧ forD g tb E (items.drop (i + 1)) δ, fun σ' H' q => ⟨_, by omega, rfl, q⟩, fun x H3 y => ?_⟩
      obtain ⟨e3, dq⟩ := g2 x H3 y
      have rs3 := rs2.grow e3
      have e23 : Ex (hd H2 O2) (hd H3 O2) := hd_to e3 fun _ h => .inl h
      refine ⟨O0, H0, δ2, O2, _, _, rs3, dq, f, fun δ4 σ4 rs4 h4 => ⟨O0, H0, δ4, O2, _, rs4, h4, ?_, ?_, ?_, ?_⟩⟩
      · intro δ' σ' O' H' n r h
        exact ⟨hlt, δ', O', r, (e2.trans e23).trans n, h⟩
      · intro d δ' σ' v O' H' n r rv nb h
        exact p.rt d δ' σ' v O' H' (((n1.hd.trans e2).trans e23).trans n) r rv nb h
      · intro δ' σ' O' H' n r h
        exact p.nx δ' σ' O' H' (((n1.hd.trans e2).trans e23).trans n) r h
      · intro δ' σ' O' H' n r h
        exact ⟨hlt, δ', O', r, (e2.trans e23).trans n, h⟩
    · have ei : i = items.length := by omega
      subst ei
      rw [List.drop_length] at f
      exact .inl ⟨f2, p.nx δ2 σ2 O2 H2 (n1.hd.trans e2) rs2 f⟩
/-! while -/
def dWhile (c : DTT) (tb : DTS) : DTS := fun E δ => ∃ W : Nat → DSt → Prop, (∃ m, W m δ) ∧ ∀ m δ, W m δ →
  c δ fun b δ1 => if b = true then tb { nx := fun δ' => ∃ m', m' < m ∧ W m' δ', rt := E.rt, bk := E.nx, ct := fun δ' => ∃ m', m' < m ∧ W m' δ' } δ1 else E.nx δ1
theorem ds_while {c : Expr} {body : List Stmt} {tc : DTT} {tb : DTS} (hp : PassesOwn (model X.prog X.w) X.A X.env X.xe) (hc : PT X c (simT K tc)) (hb : PSs X body (simS K tb)) : PS X (.While c body [] pos) (simS K (dWhile tc tb)) :=
  (ps_while hp hc hb).imp fun D σ H ⟨O0, H0, δ, O, E, rs, ⟨W, ⟨m0, w0⟩, t⟩, p⟩ => by
    refine ⟨fun m σ' H' => ∃ δ' O', RS K O0 H0 δ' σ' O' H' ∧ Ex (hd H O) (hd H' O') ∧ W m δ', ⟨m0, δ, O, rs, Ex.refl _, w0⟩, ?_⟩
    rintro m σ1 H1 ⟨δ1, O1, rs1, e1, w1⟩
    refine ⟨O0, H0, δ1, O1, _, rs1, t m δ1 w1, fun b δ2 O2 H2 n2 rs2 h2 => ?_⟩
    have e2 := e1.trans n2.hd
    cases b with
    | false => exact p.nx δ2 σ1 O2 H2 e2 rs2 h2
    | true =>
      refine ⟨fun σ' H' => ∃ m', m' < m ∧ ∃ δ' O', RS K O0 H0 δ' σ' O' H' ∧ Ex (hd H O) (hd H' O') ∧ W m' δ', fun σ' H' ⟨m', l, z⟩ => ⟨m', l, z⟩, O0, H0, δ2, O2, _, rs2, h2, ?_, ?_, ?_, ?_⟩
      · rintro δ' σ' O' H' n r ⟨m', l, h⟩
        exact ⟨m', l, δ', O', r, e2.trans n, h⟩
      · intro d δ' σ' v O' H' n r rv nb h
        exact p.rt d δ' σ' v O' H' (e2.trans n) r rv nb h
      · intro δ' σ' O' H' n r h
        exact p.nx δ' σ' O' H' (e2.trans n) r h
      · rintro δ' σ' O' H' n r ⟨m', l, h⟩
        exact ⟨m', l, δ', O', r, e2.trans n, h⟩
end
end Gx

set_option Elab.async false
set_option linter.all false
set_option maxRecDepth 100000
set_option maxHeartbeats 4000000
namespace Gx
open PySem PySem.Spec PyProof.Rows L2 Evl RZ
/-- the lists at a and b side by side, each pair in a new pair with its number -/
def Itez (K : PySem.W.Frag) (a b : Addr) : It where
  go := fun i H => ∃ (xs ys : List V) (x y : V), SqL K H a xs ∧ SqL K H b ys ∧ xs[i]? = some x ∧ ys[i]? = some y
  yld := fun i H v H' => ∃ T U x y, v = .ref U ∧ H T = none ∧ H U = none ∧ T ≠ U ∧ H' = upd (upd H T (.tup [x, y])) U (.tup [.int (i : Nat), .ref T]) ∧ (∀ xs, SqL K H a xs → xs[i]? = some x) ∧ ∀ ys, SqL K H b ys → ys[i]? = some y
  stop := fun i H => ∃ xs ys : List V, SqL K H a xs ∧ SqL K H b ys ∧ (xs.length ≤ i ∨ ys.length ≤ i)
theorem inv_two {X : Cx} {pins : List (Addr × Obj)} {σ : L2.St} {H : Hp} {s : Shared} {g : Heap} {t' : Nat} {ch : List Addr} {T U : Addr} {p q : HO} (I : L2.Inv X pins σ H s) (k : ∀ b o, b ∉ ch → s.heap.get? b = some o → g.get? b = some o)
    (hf : ∀ b ∈ ch, FpOk X pins H b) (hT : s.heap.objs.size ≤ T) (hU : s.heap.objs.size ≤ U) (okT : ObjOk X.prog X.w (upd (upd H T p) U q) g T p) (okU : ObjOk X.prog X.w (upd (upd H T p) U q) g U q) (ne : T ≠ U) :
    L2.Inv X pins σ (upd (upd H T p) U q) { s with heap := g, toks := t' } := by
  have nT : H T = none := I.hok.fresh hT
  have nU : H U = none := I.hok.fresh hU
  have out : ∀ b u, H b = some u → upd (upd H T p) U q b = some u := fun b u e => by
    rw [upd_ne (ne_of_none e nU), upd_ne (ne_of_none e nT)]; exact e
  have far : ∀ b u, H b = some u → b ∉ ch := fun b u e z => by
    have := (hf b z).1
    rw [this] at e; cases e
  refine I.step (g' := s.gens) (d' := s.drawn) (ch := ch) (fun b hb => ⟨(hf b hb).2.2.2.1, (hf b hb).2.1, (hf b hb).2.2.2.2.1, (hf b hb).2.2.2.2.2⟩) (fun b o _ _ hc e _ => k b o hc e)
    (fun b o _ _ hc e _ => ⟨o.slots, k b o hc e⟩) (fun b o _ e n => ?_) (fun b o hc e => ⟨o, k b o hc e⟩) (fun b xs e => out b _ e) (fun b o u e => out b _ e) (fun b ps e => ⟨#[], by rw [out b _ e]; simp⟩) (fun m hm => ?_) (fun b u e => ?_) I.bare
  · have l := Heap.lt_size e
    rw [upd_ne (Nat.ne_of_lt (Nat.lt_of_lt_of_le l hU)), upd_ne (Nat.ne_of_lt (Nat.lt_of_lt_of_le l hT))]; exact n
  · obtain ⟨o, es, ep, ho, r⟩ := hm
    exact ⟨o, es, ep, k _ o (fun z => (hf _ z).2.1 rfl) ho, r⟩
  · by_cases hb : b = U
    · subst hb
      rw [upd_same] at e
      cases e
      exact okU
    · rw [upd_ne hb] at e
      by_cases hb2 : b = T
      · subst hb2
        rw [upd_same] at e
        cases e
        exact okT
      · rw [upd_ne hb2] at e
        refine (I.hok b u e).stay (fun c v hc z => k c v ?_ z) (fun c z => out c _ z) fun c xs z => out c _ z
        rcases hc with z | z
        · rw [z]; exact far b u e
        · exact far c _ z
structure Apart5 (e z TI TO i1 i2 : Addr) : Prop where
  z : e ≠ z
  ti : e ≠ TI
  to : e ≠ TO
  i1 : e ≠ i1
  i2 : e ≠ i2
theorem turn_ez {P : Program} {w : World} {K : PySem.W.Frag} {elts : List Expr} {kk : Nat} {tpos : Pos} {a b e z TI TO i1 i2 : Addr} (D : ZipApart z TI TO i1 i2 a b) (N : Apart5 e z TI TO i1 i2) :
    Turn P w K (.Tuple elts kk tpos) (Itez K a b) [e, z, TI, TO, i1, i2] e
      (fun i h => (∃ old, IsEnum h e z ((i : Nat) : Int) old) ∧ Gz h z TI TO ∧ IsPair h TI (.ref i1) (.ref i2) ∧ (∃ x y, IsPair h TO x y) ∧ h.IsListIter i1 a i ∧ h.IsListIter i2 b i) := by
  refine ⟨by simp, fun i h st c hc => ?_, fun i h h' st k => ?_, ?_, ?_, fun A i s Q E st h => ?_⟩
  · obtain ⟨⟨old, he⟩, ⟨v, f, hv, hz⟩, hI, ⟨x, y, hO⟩, ⟨o1, e1, _, d1⟩, ⟨o2, e2, _, d2⟩⟩ := st
    have e' : c = e ∨ c = z ∨ c = TI ∨ c = TO ∨ c = i1 ∨ c = i2 := by simpa using hc
    rcases e' with q | q | q | q | q | q
    · rw [q]; exact ⟨_, he, fun v q => nomatch q⟩
    · rw [q]; exact ⟨_, hz, fun v q => nomatch q⟩
    · rw [q]; exact ⟨_, hI, fun v q => nomatch q⟩
    · rw [q]; exact ⟨_, hO, fun v q => nomatch q⟩
    · rw [q]; exact ⟨o1, e1, fun v q => by rw [d1] at q; cases q⟩
    · rw [q]; exact ⟨o2, e2, fun v q => by rw [d2] at q; cases q⟩
  · obtain ⟨⟨old, he⟩, ⟨v, f, hv, hz⟩, hI, ⟨x, y, hO⟩, h1, h2⟩ := st
    exact ⟨⟨old, k e (by simp) _ he⟩, ⟨v, f, hv, k z (by simp) _ hz⟩, k TI (by simp) _ hI, ⟨x, y, k TO (by simp) _ hO⟩, h1.at fun o q => k i1 (by simp) o q, h2.at fun o q => k i2 (by simp) o q⟩
  · intro X hP hw hK hc i pins s σ H E I hf st hg
    subst hP hw hK
    obtain ⟨⟨old, he⟩, hz, hI, hO, h1, h2⟩ := st
    obtain ⟨xs, ys, x, y, hqx, hqy, hx, hy⟩ := hg
    obtain ⟨its, rv, p, _⟩ := I.list hqx
    obtain ⟨its2, rv2, p2, _⟩ := I.list hqy
    obtain ⟨u, hu, ru⟩ := rv.get hx
    obtain ⟨u2, hu2, ru2⟩ := rv2.get hy
    have el : e < s.heap.objs.size := Heap.lt_size he
    refine ge_draw D he ⟨N.z, N.ti, N.to, N.i1, N.i2⟩ hz hI hO h1 h2 p.isList p2.isList (x := u) (y := u2) (by simpa using hu) (by simpa using hu2) fun g ho gz gO g1 g2 pT pU hk => ?_
    refine ⟨_, rfl, wpAny_letOwnedTupleGo_enum (s := { s with heap := g, toks := s.toks + 1 }) ho fun g' he' sb => ?_⟩
    replace sb : Heap.SameBut e g g' := sb
    have nT : H s.heap.objs.size = none := I.hok.fresh (Nat.le_refl _)
    have nU : H (s.heap.objs.size + 1) = none := I.hok.fresh (Nat.le_succ _)
    have ne : s.heap.objs.size + 1 ≠ s.heap.objs.size := Nat.succ_ne_self _
    have pT' : g'.get? s.heap.objs.size = some { cls := .type "tuple", data := .seq #[u, u2] } := (sb.2 _ (Nat.ne_of_gt el)).trans pT
    have pU' : g'.get? (s.heap.objs.size + 1) = some { cls := .type "tuple", data := .seq #[.int i s.toks, .ref s.heap.objs.size] } := (sb.2 _ (Nat.ne_of_gt (Nat.lt_succ_of_lt el))).trans pU
    have obT : ObjOk X.prog X.w (upd (upd H s.heap.objs.size (.tup [x, y])) (s.heap.objs.size + 1) (.tup [.int (i : Nat), .ref s.heap.objs.size])) g' s.heap.objs.size (.tup [x, y]) :=
      ⟨by show 2 ≤ sizeLine; decide, [u, u2], .cons ru (.cons ru2 .nil), ⟨_, pT', rfl, _, rfl⟩⟩
    have obU : ObjOk X.prog X.w (upd (upd H s.heap.objs.size (.tup [x, y])) (s.heap.objs.size + 1) (.tup [.int (i : Nat), .ref s.heap.objs.size])) g' (s.heap.objs.size + 1) (.tup [.int (i : Nat), .ref s.heap.objs.size]) :=
      ⟨by show 2 ≤ sizeLine; decide, [.int i s.toks, .ref s.heap.objs.size], .cons ⟨_, rfl⟩ (.cons rfl .nil), ⟨_, pU', rfl, _, rfl⟩⟩
    have kk' : ∀ b ob, b ∉ [e, z, TI, TO, i1, i2] → s.heap.get? b = some ob → g'.get? b = some ob := fun b ob hb q =>
      (sb.2 b fun q' => hb (by simp [q'])).trans (hk b ob (fun q' => hb (by simp [q'])) (fun q' => hb (by simp [q'])) (fun q' => hb (by simp [q'])) (fun q' => hb (by simp [q'])) (fun q' => hb (by simp [q'])) q)
    have I1 := inv_two (ch := [e, z, TI, TO, i1, i2]) (t' := s.toks + 1) I kk' hf (Nat.le_refl _) (Nat.le_succ _) obT obU (Ne.symm ne)
    have sk : ∀ c o, c ≠ e → g.get? c = some o → g'.get? c = some o := fun c o c1 q => (sb.2 c c1).trans q
    obtain ⟨v, f, hv, gz⟩ := gz
    obtain ⟨a1, b1, gO⟩ := gO
    refine ⟨.ref (s.heap.objs.size + 1), _, I1, rfl, ⟨s.heap.objs.size, s.heap.objs.size + 1, x, y, rfl, nT, nU, Ne.symm ne, rfl, fun l hl => by rw [I.list_inj hl hqx]; exact hx, fun l hl => by rw [I.list_inj hl hqy]; exact hy⟩,
      ⟨⟨.ref s.heap.objs.size, ?_⟩, ⟨v, f, hv, sk _ _ N.z.symm gz⟩, ?_, ⟨a1, b1, sk _ _ N.to.symm gO⟩, g1.at fun o q => sk _ _ N.i1.symm q, g2.at fun o q => sk _ _ N.i2.symm q⟩, fun c hc => ?_⟩
    · have e1 : ((i + 1 : Nat) : Int) = (i : Int) + 1 := by omega
      rw [e1]; exact he'
    · exact sk _ _ N.ti.symm (hk _ _ N.ti.symm D.TIz D.TITO D.TIi1 D.TIi2 hI)
    · have lt : c < s.heap.objs.size := by
        have e' : c = e ∨ c = z ∨ c = TI ∨ c = TO ∨ c = i1 ∨ c = i2 := by simpa using hc
        obtain ⟨_, _, _, hz⟩ := hz
        obtain ⟨_, _, hO⟩ := hO
        rcases e' with q | q | q | q | q | q
        · rw [q]; exact el
        · rw [q]; exact Heap.lt_size hz
        · rw [q]; exact Heap.lt_size hI
        · rw [q]; exact Heap.lt_size hO
        · rw [q]; obtain ⟨_, e1, _⟩ := h1; exact Heap.lt_size e1
        · rw [q]; obtain ⟨_, e2, _⟩ := h2; exact Heap.lt_size e2
      rw [upd_ne (Nat.ne_of_lt (Nat.lt_succ_of_lt lt)), upd_ne (Nat.ne_of_lt lt)]
      exact (hf c hc).1
  · intro X hP hw hK hc i pins s σ H E I hf st hg
    subst hP hw hK
    obtain ⟨⟨old, he⟩, hz, hI, hO, h1, h2⟩ := st
    obtain ⟨xs, ys, hqx, hqy, hend⟩ := hg
    obtain ⟨its, rv, p, _⟩ := I.list hqx
    obtain ⟨its2, rv2, p2, _⟩ := I.list hqy
    have w1 := rv.length
    have w2 := rv2.length
    have out : its.toArray[i]? = none ∨ its2.toArray[i]? = none := by
      rcases hend with q | q
      · exact .inl (by simp; omega)
      · exact .inr (by simp; omega)
    have hT : s.TypeIs (.ref e) "enumerate" := ⟨_, he, rfl⟩
    unfold pyNext
    refine wpAny_bind (wpAny_attempt (wpAny_callSpecial?_slot (name := Str.ofString "__next__") hT F.slot_enumerate_next
      (wpAny_call_entry F.slot_enumerate_next hT F.entry_enumerate_next ?_ (F.args_enumerate_next_1 _))))
    show wpAny _ _ (field (.ref e) 2 >>= _) _ _ _
    refine wpAny_bind (wpAny_field he rfl (x := .ref z) rfl ?_)
    refine wpAny_bind (gz_over (I.ok.hd hc) D hz hI hO h1 h2 p.isList p2.isList out fun g x hk ee => ?_)
    obtain ⟨o, ho, hcc⟩ := ee
    refine wpAny_bind (wpAny_isInstance (T := "StopIteration") (b := true) ⟨o, ho, hcc⟩ isSubtype_stop ?_)
    exact wpAny_pure ⟨rfl, I.turnedL (t' := s.toks) (ch := [e, z, TI, TO, i1, i2]) (fun c o hb q =>
      hk c o (fun q' => hb (by simp [q'])) (fun q' => hb (by simp [q'])) (fun q' => hb (by simp [q'])) (fun q' => hb (by simp [q'])) q) hf⟩
  · obtain ⟨⟨_, he⟩, _⟩ := st
    exact wpAny_pyIter_enum he h
theorem ez_in (n c : Nat) (h : 5 ≤ n) (e : c = n ∨ c = n - 1 ∨ c = n - 3 ∨ c = n - 2 ∨ c = n - 5 ∨ c = n - 4) : n - 5 ≤ c := by omega
theorem ez_apart (n a b : Nat) (h : 5 ≤ n) (ha : a < n - 5) (hb : b < n - 5) : ZipApart (n - 1) (n - 3) (n - 2) (n - 5) (n - 4) a b ∧ Apart5 n (n - 1) (n - 3) (n - 2) (n - 5) (n - 4) := by
  have f : ∀ i j : Nat, ¬ i = j → (i : Addr) ≠ j := fun _ _ z => z
  refine ⟨?_, ?_⟩ <;> constructor <;> (refine f _ _ ?_; omega)
def iEz (K : PySem.W.Frag) (ta : TA) : TI := fun σ H R => ta σ H fun vs H1 => ∃ a b xs ys, vs = [.ref a, .ref b] ∧ SqL K H1 a xs ∧ SqL K H1 b ys ∧ R (Itez K a b) H1
theorem pi_ez {X : Cx} {e e2 : Expr} {ta : TA} {p p2 pos pos2 tpos : Pos} {elts : List Expr} {kk : Nat} (hg : Gl X "enumerate") (hm : X.mg "enumerate" = none) (hg2 : Gl X "zip") (hm2 : X.mg "zip" = none) (ha : PA X [e, e2] ta)
    (hs : starEach [e, e2] X.env = (false, eval e X.env) :: starEach [e2] X.env := by rfl) (hpl : (backTo pos2 (starEach [e2] X.env)).any (·.1) = false := by rfl)
    (hs2 : starEach [.Call (.Name "zip" p2) [e, e2] [] pos2] X.env = [(false, eval (.Call (.Name "zip" p2) [e, e2] [] pos2) X.env)] := by rfl) :
    PI X (.Tuple elts kk tpos) (.Call (.Name "enumerate" p) [.Call (.Name "zip" p2) [e, e2] [] pos2] [] pos) (iEz X.K ta) := by
  constructor
  intro pins s σ H R I h
  have inner : wpAny (model X.prog X.w) X.A (eval (.Call (.Name "zip" p2) [e, e2] [] pos2) X.env) (fun v s1 => ∃ H1 a b xs ys, v = .ref (s1.heap.objs.size - 1) ∧ 5 ≤ s1.heap.objs.size ∧ L2.Inv X pins σ H1 s1 ∧ SqL X.K H1 a xs ∧ SqL X.K H1 b ys ∧ R (Itez X.K a b) H1 ∧
      a < s1.heap.objs.size - 5 ∧ b < s1.heap.objs.size - 5 ∧ GzAt s1.heap (s1.heap.objs.size - 1) (s1.heap.objs.size - 3) (s1.heap.objs.size - 2) .none false ∧
      IsPair s1.heap (s1.heap.objs.size - 3) (.ref (s1.heap.objs.size - 5)) (.ref (s1.heap.objs.size - 4)) ∧ IsPair s1.heap (s1.heap.objs.size - 2) .none .none ∧ s1.heap.IsListIter (s1.heap.objs.size - 5) a 0 ∧ s1.heap.IsListIter (s1.heap.objs.size - 4) b 0 ∧
      ∀ c, s1.heap.objs.size - 5 ≤ c → FpOk X pins H1 c) X.xe s := by
    refine Call_ (ld_blt I hg2 hm2 PyProof.Rows.boot_zip (PyProof.Rows.callWith_type1 (thn (ha.run pos2 pins s σ H _ I h) ?_) hs hpl))
    rintro us s1 ⟨vs, H1, I1, rv, a, b, xs, ys, rfl, hq, hq2, q⟩
    match us, rv with
    | [u, u'], .cons r (.cons r' .nil) =>
      obtain rfl : u = Value.ref a := r
      obtain rfl : u' = Value.ref b := r'
      obtain ⟨its, rv', tp, hz⟩ := I1.list hq
      obtain ⟨its2, rv2, tp2, hz2⟩ := I1.list hq2
      refine call_zip_2 tp.isList tp2.isList fun g gz gI gO g1 g2 sz hk => ?_
      have I2 : L2.Inv X pins σ H1 { s1 with heap := g } := I1.kept (t' := s1.toks) hk
      have al : a < s1.heap.objs.size := tp.lt
      have bl : b < s1.heap.objs.size := tp2.lt
      refine ⟨H1, a, b, xs, ys, ?_, ?_, I2, hq, hq2, q, ?_, ?_, ?_, ?_, ?_, ?_, ?_, fun c hc => ?_⟩
      all_goals have sz' : ({ s1 with heap := g } : Shared).heap.objs.size = s1.heap.objs.size + 5 := sz
      all_goals simp only [sz, Nat.add_sub_cancel] at *
      · exact congrArg _ (by omega)
      · omega
      · exact al
      · exact bl
      · exact gz
      · exact gI
      · exact gO
      · exact g1
      · exact g2
      · exact I1.fpOk hc (I1.hok.fresh hc)
  refine Call_ (ld_blt I hg hm boot_enumerate (PyProof.Rows.callWith_type1 ?_ (by rw [hs2]; rfl) rfl))
  rw [hs2]
  refine Calls.spliced_cons (thn inner ?_)
  rintro u s1 ⟨H1, a, b, xs, ys, rfl, l5, I1, hq, hq2, q, al, bl, gz, gI, gO, g1, g2, fp⟩
  refine Calls.spliced_nil ?_
  refine ge_call gz fun h' he hk => wpAny_pyIter_enum he ?_
  have I2 : L2.Inv X pins σ H1 { s1 with heap := h' } := I1.kept (t' := s1.toks) hk
  generalize hn : s1.heap.objs.size = n at *
  obtain ⟨D, N⟩ := ez_apart n a b l5 al bl
  refine ⟨n, [n, n - 1, n - 3, n - 2, n - 5, n - 4], _, _, H1, rfl, I2, turn_ez D N,
    ⟨⟨.none, he⟩, ⟨.none, false, .inl rfl, hk _ _ gz⟩, hk _ _ gI, ⟨_, _, hk _ _ gO⟩, g1.at fun o q => hk _ o q, g2.at fun o q => hk _ o q⟩, fun c hc => ?_, q⟩
  have e' : c = n ∨ c = n - 1 ∨ c = n - 3 ∨ c = n - 2 ∨ c = n - 5 ∨ c = n - 4 := by simpa using hc
  exact fp c (ez_in n c l5 e')
/-- of data -/
def enumZipD (xs ys : List PyData) : List PyData := enumD (zipD xs ys)
theorem zipD_len (xs ys : List PyData) : (zipD xs ys).length = min xs.length ys.length := by unfold zipD; rw [List.length_zipWith]
theorem feed_ez {K : PySem.W.Frag} {Hb : Hp} {a b : Addr} {vs ws : List V} {xs ys : List PyData} (h : SqL K Hb a vs) (q : DqAll K Hb vs xs) (h' : SqL K Hb b ws) (q' : DqAll K Hb ws ys) : Feed K (Itez K a b) Hb (enumZipD xs ys) := fun O H e lo => by
  have s : SqL K H a vs := ex_l (hd_ex H O) (ex_l e h)
  have s' : SqL K H b ws := ex_l (hd_ex H O) (ex_l e h')
  refine ⟨fun i d hi => ?_, vs, ws, s, s', by unfold enumZipD; rw [enumD_len, zipD_len, q.len, q'.len]; omega⟩
  obtain ⟨pr, hp, rfl⟩ := enumD_at hi
  obtain ⟨x, y, hx, hy, rfl⟩ := zipD_at hp
  obtain ⟨v, hv, dv⟩ := q.get' hx
  obtain ⟨u, hu, du⟩ := q'.get' hy
  refine ⟨⟨vs, ws, v, u, s, s', hv, hu⟩, fun x H' z => ?_⟩
  obtain ⟨T, U, v', u', rfl, nT, nU, ne, rfl, w, w'⟩ := z
  have e1 := w vs s
  have e2 := w' ws s'
  rw [hv] at e1
  rw [hu] at e2
  cases e1
  cases e2
  obtain ⟨eT, dT⟩ := pair_new lo nT (dv.to e) (du.to e)
  have nU' : upd H T (.tup [v, u]) U = none := by rw [upd_ne (Ne.symm ne)]; exact nU
  obtain ⟨eU, dU⟩ := pair_new (H := upd H T (.tup [v, u])) (fun a ha => let ⟨xs, q⟩ := lo a ha; ⟨xs, eT _ _ q⟩) nU' (.int (i : Nat)) dT
  exact ⟨eT.trans eU, dU⟩
def diEz (Tr : DTA) : DTI := fun δ R => Tr δ fun ds δ1 => frzL ds δ1 fun ds' δ2 => match ds' with
  | [.d (.list xs), .d (.list ys)] => R (enumZipD xs ys) δ2
  | _ => False
theorem di_ez {X : Cx} {K : PySem.W.Frag} (hK : X.K = K) {e e2 : Expr} {Tr : DTA} {p p2 pos pos2 tpos : Pos} {elts : List Expr} {kk : Nat} (hg : Gl X "enumerate") (hm : X.mg "enumerate" = none) (hg2 : Gl X "zip") (hm2 : X.mg "zip" = none) (ha : PA X [e, e2] (simA K Tr))
    (hs : starEach [e, e2] X.env = (false, eval e X.env) :: starEach [e2] X.env := by rfl) (hpl : (backTo pos2 (starEach [e2] X.env)).any (·.1) = false := by rfl)
    (hs2 : starEach [.Call (.Name "zip" p2) [e, e2] [] pos2] X.env = [(false, eval (.Call (.Name "zip" p2) [e, e2] [] pos2) X.env)] := by rfl) :
    PI X (.Tuple elts kk tpos) (.Call (.Name "enumerate" p) [.Call (.Name "zip" p2) [e, e2] [] pos2] [] pos) (simI K (diEz Tr)) := by
  subst hK
  refine (pi_ez hg hm hg2 hm2 ha hs hpl hs2).imp fun σ H R ⟨O0, H0, δ, O, Rd, rs, t, k⟩ => ?_
  refine ⟨O0, H0, δ, O, _, rs, t, fun ds δ1 vs O1 H1 n1 rs1 rv1 h1 => ?_⟩
  obtain ⟨ds', δ2, O2, n2, r2, v2, z⟩ := frzL_ok rs1 rv1 h1
  split at z
  · rename_i xs ys
    obtain ⟨v, ws, e1, g1, u, ws', e2, g2, e3⟩ := v2
    subst e1; subst e2
    obtain rfl : ws' = [] := e3
    have g1 : Dq X.K (hd H1 O2) v (.list xs) := g1
    have g2 : Dq X.K (hd H1 O2) u (.list ys) := g2
    cases g1 with
    | lst a b => cases g2 with
      | lst a' b' => exact ⟨_, _, _, _, rfl, ex_l (hd_ex _ _) a, ex_l (hd_ex _ _) a', k _ _ _ _ _ (n1.trans n2) r2 (feed_ez a b a' b') z⟩
  · exact z.elim
end Gx

set_option Elab.async false
set_option linter.all false
set_option maxRecDepth 100000
set_option maxHeartbeats 4000000
namespace K22
open PySem PySem.Spec PyProof.Rows L2 Evl Gx
abbrev s_is_when : Stmt := topS 8
theorem sc_is_when : FnScope ["condition", "index"] ["condition", "index"] (defScope s_is_when) := ⟨rfl, rfl, rfl, by decide +kernel, rfl, by decide +kernel, by decide +kernel⟩
abbrev s_plain_parts : Stmt := topS 9
theorem sc_plain_parts : FnScope ["condition", "plain", "below", "index"] ["condition", "plain"] (defScope s_plain_parts) := ⟨rfl, rfl, rfl, by decide +kernel, rfl, by decide +kernel, by decide +kernel⟩
def spIsWhen (K : PySem.W.Frag) : Sp := fun vs H Q _ => ∃ (v : V) (ws ts : List Cnd) (e : Cnd) (i : Nat), vs = [v, .int i] ∧ CndAt K H v (.case ws ts e) ∧ Q (.bl (whenB ws.length i)) H
def spPlainP (K : PySem.W.Frag) : Sp := fun vs H Q _ => ∃ (v : V) (c : Cnd) (ns : List Str) (p : Bool), vs = [v, .bl p] ∧ CndAt K H v c ∧ c.ok ns ∧ c.weight ≤ 6000000 ∧
  ∀ l H', Ex H H' → H l = none → H' l = some (.lst ((c.plains p).map V.bl)) → Q (.ref l) H'
section
variable {P : Program} {w : World} {K : PySem.W.Frag} {mg : Str → Option Value} {base : Heap} {a_NODES f_is_when f_parts f_plain_parts : Addr} {fd_is_when fd_parts fd_plain_parts : FuncData}
theorem ok_is_when {f : Addr} {fd : FuncData} (D : Def K mg "_is_when" s_is_when f fd ["condition", "index"]) (bi : Bi mg) : FnOk P w K mg base CX0 1 f fd ["condition", "index"] (spIsWhen K) := by
  refine D.fn.ok sc_is_when (fun vs H Q E h => ?_) (fun cdv A outer s0 H vs Q E hr h => ?_)
  · obtain ⟨v, ws, ts, e, i, rfl, _⟩ := h
    rfl
  · obtain ⟨v, ws, ts, e, i, rfl, hv, k⟩ := h
    simp only [CndAt] at hv
    obtain ⟨a, b, qs, xs, ys, y, rfl, ha, hb, hz, hw, ht, he⟩ := hv
    obtain ⟨q1, q2⟩ := zip3_len hz
    have xl := cnds_len hw
    refine ⟨_, (pss_one (ps_ret (pe_and (pe_cmpR op_eq (pe_op op_mod (pv 1) pe_int) pe_int (nomark _)) (pe_one (pe_cmpR op_lt (pv 1) (pe_op op_mul pe_int (pe_callB call_len_seq (by rfl) bi.len bt_len (pa_cons (pe_ix (ix_tupK (K := K) rfl) (pv 0) pe_int (fun _ _ => rfl)) pa_nil))) (nomark _)))))), ?_⟩
    refine ⟨_, rfl, i, 2, rfl, rfl, (by show (0 : Int) < 2; decide), rfl, _, rfl, ?_⟩
    have e2 : decide (V.int (((i : Nat) : Int) % 2) = V.int 0) = decide (i % 2 = 0) := by
      rw [Bool.eq_iff_iff, decide_eq_true_iff, decide_eq_true_iff, V.int.injEq]; omega
    show if decide (V.int (((i : Nat) : Int) % 2) = V.int 0) = true then _ else _
    have e3 : decide (((i : Nat) : Int) < 2 * (qs.map V.ref).length) = decide (i < 2 * ws.length) := by
      rw [List.length_map, Bool.eq_iff_iff, decide_eq_true_iff, decide_eq_true_iff]; omega
    unfold whenB at k
    rw [e2]
    cases hc : decide (i % 2 = 0) with
    | false =>
      rw [hc] at k
      exact if_f rfl k
    | true =>
      rw [hc, Bool.true_and, ← e3] at k
      exact if_t rfl ⟨_, rfl, _, rfl, a, _, 1, _, rfl, rfl, ha, rfl, b, _, rfl, .inr hb, 2, _, rfl, rfl, .inl ⟨by decide, by decide⟩, _, _, rfl, rfl, k⟩
theorem ok_plain_parts {f : Addr} {fd : FuncData} (D : Def K mg "plain_parts" s_plain_parts f fd ["condition", "plain"]) (bi : Bi mg)
    (C_NODES : ConT K mg "NODES" a_NODES [.str "all", .str "any"])
    (D_is_when : Def K mg "_is_when" s_is_when f_is_when fd_is_when ["condition", "index"])
    (G_is_when : FnOk P w K mg base CX0 1 f_is_when fd_is_when ["condition", "index"] (spIsWhen K))
    (D_parts : Def K mg "parts" s_parts f_parts fd_parts ["condition"])
    (G_parts : FnOk P w K mg base CX0 1 f_parts fd_parts ["condition"] (spParts K)) : FnOk P w K mg base CX0 2 f fd ["condition", "plain"] (spPlainP K) := by
  refine D.fn.ok sc_plain_parts (fun vs H Q E h => ?_) (fun cdv A outer s0 H vs Q E hr h => ?_)
  · obtain ⟨v, c, ns, p, rfl, _⟩ := h
    rfl
  · obtain ⟨v, c, ns, p, rfl, hv, ok, wt, k⟩ := h
    refine ⟨_, (pss_cons (ps_set (i := 2) sc_plain_parts.nd rfl (Or.inl rfl) (pe_call G_parts (hr.mono (by first | decide | omega)) rfl D_parts.mg D_parts.fn.kp D_parts.bd .nil pass0 (pa_cons (pv 0) pa_nil)))
  (pss_cons (ps_if (pt_cmpR op_eq (pe_ix (ix_tupK (K := K) rfl) (pv 0) pe_int (fun _ _ => rfl)) pe_str (nomark _))
    (pss_one (ps_ret (pe_lc (own := [("index", 3)]) rfl sc_plain_parts.nd (pi_range1 rfl bi.range (pa_cons (pe_callB call_len_seq (by rfl) bi.len bt_len (pa_cons (pv 2) pa_nil)) pa_nil)) (blkOk_by (N := ["condition", "plain", "below", "index"]) (sc := defScope s_plain_parts) (by decide +kernel)) (fun _ _ _ _ _ => (pg_name (i := 3) sc_plain_parts.nd rfl (Or.inl rfl))) (fun _ _ _ _ _ => pts_nil) (fun _ _ _ _ _ => (pe_or (pv 1) (pe_one (pe_call G_is_when (hr.mono (by first | decide | omega)) rfl D_is_when.mg D_is_when.fn.kp D_is_when.bd .nil pass0 (pa_cons (pv 0) (pa_cons (pv 3) pa_nil)))))))))
    pss_nil)
  (pss_one (ps_ret (pe_op op_repL (pe_lst (pa_cons (pe_and (pv 1) (pe_one (pe_cmpR op_in_seq (pe_ix (ix_tupK (K := K) rfl) (pv 0) pe_int (fun _ _ => rfl)) (pe_glob (v := .ref a_NODES) rfl C_NODES.mg rfl) (by rfl)))) pa_nil)) (pe_callB call_len_seq (by rfl) bi.len bt_len (pa_cons (pv 2) pa_nil))))))), ?_⟩
    obtain ⟨a, ys, rfl, ha, h0⟩ := cnd_kind hv
    refine ⟨_, rfl, .ref a, c, ns, rfl, hv, ok, by omega, fun l xs H1 e1 nl hl hc => ?_⟩
    have xl : xs.length = c.parts.length := cnds_len hc
    have pl := Cnd.parts_60 ok
    have ha1 := ex_t e1 ha
    refine ⟨_, rfl, a, ys, 0, _, rfl, rfl, ha1, h0, rfl, _, rfl, ?_⟩
    have other : c.kind ≠ "case" → c.plains p = List.replicate c.parts.length (p && decide (c.kind ∈ (["all", "any"] : List Str))) := fun n => by
      cases c <;> first | rfl | (exact absurd rfl n)
    refine if_d (fun hk => ?_) fun hk => ?_
    · have hk : c.kind = "case" := V.str.inj hk
      have case_ : ∃ ws ts e, c = .case ws ts e := by
        cases c with
        | case ws ts e => exact ⟨ws, ts, e, rfl⟩
        | not c => exact absurd hk (by show ¬ ("not" : Str) = "case"; decide +kernel)
        | node kd cs =>
          simp only [Cnd.ok] at ok
          have : ∀ x ∈ kinds, ¬ x = ("case" : Str) := by decide +kernel
          exact absurd hk (this kd ok.1)
        | leaf lf =>
          have : ∀ lf : Gx.Leaf, ¬ lf.kind = ("case" : Str) := by
            intro lf
            cases lf <;> (simp only [Leaf.kind]; decide +kernel)
          exact absurd hk (this lf)
      obtain ⟨ws, ts, e, rfl⟩ := case_
      have pw : (Cnd.parts (.case ws ts e)).length = 2 * ws.length + 1 := by
        simp only [Cnd.ok] at ok
        simp only [Cnd.parts, List.length_append, List.length_singleton, inter_len ok.1]
      refine ⟨_, rfl, l, xs, rfl, .inl (SqL.of hl), _, rfl, by omega, by omega, fun D nD => ?_⟩
      refine lc_range (lo := 0) (n := ((xs.length : Nat) : Int).toNat) (fun j G => Ex H1 G ∧ G D = some (.lst (((List.range j).map fun i => p || whenB ws.length i).map V.bl))) ?_ ?_ ?_
      · exact ⟨Ex.new nD, upd_same⟩
      · rintro j G hj ⟨eG, gD⟩
        have fin : ∀ b, b = (p || whenB ws.length j) → ∃ acc, G D = some (.lst acc) ∧ acc.length < sizeLine ∧ Ex H1 (upd G D (.lst (acc ++ [V.bl b]))) ∧ upd G D (.lst (acc ++ [V.bl b])) D = some (.lst (((List.range (j + 1)).map fun i => p || whenB ws.length i).map V.bl)) := fun b hb => by
          subst hb
          refine ⟨_, gD, by rw [List.length_map, List.length_map, List.length_range, sizeLine_eq]; omega, eG.mut nD, ?_⟩
          rw [upd_same, List.range_succ, List.map_append, List.map_append]
          rfl
        refine ⟨rfl, _, rfl, p, rfl, ?_⟩
        cases p with
        | true => exact if_t rfl (fin true rfl)
        | false => exact if_f rfl ⟨_, rfl, _, rfl, .ref a, ws, ts, e, j, by rw [Int.zero_add]; rfl, hv.to (e1.trans eG), fin _ rfl⟩
      · rintro G ⟨eG, gD⟩
        refine k D G (e1.trans eG) (fresh_back e1 nD) ?_
        rw [gD]
        show _ = some (HO.lst (((List.range (2 * ws.length + 1)).map fun i => p || whenB ws.length i).map V.bl))
        rw [show ((xs.length : Nat) : Int).toNat = 2 * ws.length + 1 by omega]
    · have hk : c.kind ≠ "case" := fun z => hk (by rw [z])
      have fin : ∀ b, b = (p && decide (c.kind ∈ (["all", "any"] : List Str))) → ∀ L, H1 L = none → ∀ R, upd H1 L (.lst [.bl b]) R = none →
          Q (.ref R) (upd (upd H1 L (.lst [.bl b])) R (.lst (List.replicate ((xs.length : Nat) : Int).toNat [V.bl b]).flatten)) := fun b hb L nL R nR => by
        have e2 := (e1.trans (Ex.new (o := .lst [.bl b]) nL)).trans (Ex.new (o := .lst (List.replicate ((xs.length : Nat) : Int).toNat [V.bl b]).flatten) nR)
        refine k R _ e2 (fresh_back (e1.trans (Ex.new nL)) nR) ?_
        rw [upd_same, other hk, ← hb, Int.toNat_natCast, xl]
        refine congrArg (some ∘ HO.lst) ?_
        induction c.parts.length with
        | zero => rfl
        | succ n ih => rw [List.replicate_succ, List.flatten_cons, ih, List.replicate_succ, List.map_cons]; rfl
      have last : ∀ b, b = (p && decide (c.kind ∈ (["all", "any"] : List Str))) → ∀ L, H1 L = none → ∃ (p' : Addr) (zs : List V), [V.ref l] = [V.ref p'] ∧ (SqL K (upd H1 L (.lst [.bl b])) p' zs ∨ SqT K (upd H1 L (.lst [.bl b])) p' zs) ∧
          ∃ (l' : Addr) (k' : Int) (ws : List V), V.ref L = .ref l' ∧ V.int zs.length = .int k' ∧ SqL K (upd H1 L (.lst [.bl b])) l' ws ∧ 0 ≤ k' ∧ k' ≤ 100000 ∧ ws.length ≤ 100 ∧
          ∀ R, upd H1 L (.lst [.bl b]) R = none → Q (.ref R) (upd (upd H1 L (.lst [.bl b])) R (.lst (List.replicate k'.toNat ws).flatten)) := fun b hb L nL =>
        ⟨l, xs, rfl, .inl (SqL.of ((Ex.new nL) _ _ hl)), L, xs.length, [.bl b], rfl, rfl, SqL.of upd_same, by omega, by omega, by show 1 ≤ 100; decide, fin b hb L nL⟩
      have iv : inV (.str c.kind) [V.str "all", V.str "any"] = decide (c.kind ∈ (["all", "any"] : List Str)) := by
        unfold inV
        rw [Bool.eq_iff_iff, List.any_eq_true, decide_eq_true_iff]
        constructor
        · rintro ⟨y, hy, e⟩
          simp only [List.mem_cons, List.not_mem_nil, or_false] at hy
          rcases hy with rfl | rfl
          · have e : (("all" : Str) == c.kind) = true := e
            rw [← eq_of_beq e]; exact List.mem_cons_self
          · have e : (("any" : Str) == c.kind) = true := e
            rw [← eq_of_beq e]; exact List.mem_cons_of_mem _ List.mem_cons_self
        · intro h
          simp only [List.mem_cons, List.not_mem_nil, or_false] at h
          rcases h with h | h
          · exact ⟨.str "all", List.mem_cons_self, by rw [h]; exact (beq_self_eq_true ("all" : Str) : (("all" : Str) == "all") = true)⟩
          · exact ⟨.str "any", List.mem_cons_of_mem _ List.mem_cons_self, by rw [h]; exact (beq_self_eq_true ("any" : Str) : (("any" : Str) == "any") = true)⟩
      refine ⟨_, rfl, p, rfl, ?_⟩
      cases p with
      | false => exact if_f rfl ⟨sz1, fun L nL => ⟨_, rfl, last false rfl L nL⟩⟩
      | true =>
        refine if_t rfl ⟨_, rfl, a, ys, 0, _, rfl, rfl, ha1, h0, a_NODES, _, rfl, .inr (C_NODES.at_ H1), rfl, by decide +kernel, ?_⟩
        rw [if_neg (by decide), iv]
        exact ⟨sz1, fun L nL => ⟨_, rfl, last _ rfl L nL⟩⟩
end
end K22

set_option Elab.async false
set_option linter.all false
set_option maxRecDepth 100000
set_option maxHeartbeats 4000000
/-! where the parts of a condition stand -/
namespace Gx
open PySem PySem.Spec PyProof.Rows L2 Evl
/-- a place: its address, the part, whether it stands plainly -/
abbrev Plc := List Nat × Cnd × Bool
def belowN (f : Cnd → Bool → List Plc) : List (Cnd × Bool) → Nat → List Plc
  | [], _ => []
  | q :: r, i => ((f q.1 q.2).map fun z => (i :: z.1, z.2)) ++ belowN f r (i + 1)
def Cnd.placesN : Nat → Cnd → Bool → List Plc
  | 0, c, p => [([], c, p)]
  | n + 1, c, p => ([], c, p) :: belowN (fun c p => Cnd.placesN n c p) (c.parts.zip (c.plains p)) 0
theorem below_snoc (f : Cnd → Bool → List Plc) (q : Cnd × Bool) : ∀ (L : List (Cnd × Bool)) (i : Nat), belowN f (L ++ [q]) i = belowN f L i ++ (f q.1 q.2).map fun z => ((i + L.length) :: z.1, z.2)
  | [], i => by simp [belowN]
  | x :: L, i => by
    have e : i + 1 + L.length = i + (x :: L).length := by rw [List.length_cons]; omega
    simp only [List.cons_append, belowN, below_snoc f q L (i + 1), List.append_assoc, e]
theorem below_take (f : Cnd → Bool → List Plc) {L : List (Cnd × Bool)} {j : Nat} {q : Cnd × Bool} (h : L[j]? = some q) : belowN f (L.take (j + 1)) 0 = belowN f (L.take j) 0 ++ (f q.1 q.2).map fun z => (j :: z.1, z.2) := by
  rw [takeS h, below_snoc]
  have l : j < L.length := (List.getElem?_eq_some_iff.mp h).1
  have e : 0 + (L.take j).length = j := by rw [List.length_take]; omega
  rw [e]
theorem below_len (f : Cnd → Bool → List Plc) (B : Cnd → Nat) : ∀ (L : List (Cnd × Bool)) (i : Nat), (∀ q ∈ L, 40 * (f q.1 q.2).length ≤ B q.1) → 40 * (belowN f L i).length ≤ (L.map fun q => B q.1).sum
  | [], _, _ => by simp [belowN]
  | x :: L, i, h => by
    have h1 := h x List.mem_cons_self
    have h2 := below_len f B L (i + 1) fun q hq => h q (List.mem_cons_of_mem _ hq)
    simp only [belowN, List.length_append, List.length_map, List.map_cons, List.sum_cons]
    omega
theorem weightL_sum : ∀ cs : List Cnd, (cs.map Cnd.weight).sum ≤ Cnd.weightL cs
  | [] => by simp [Cnd.weightL]
  | c :: cs => by
    have := weightL_sum cs
    simp only [List.map_cons, List.sum_cons, Cnd.weightL]
    omega
theorem inter_sum : ∀ {ws ts : List Cnd}, ((inter ws ts).map Cnd.weight).sum ≤ Cnd.weightL ws + Cnd.weightL ts
  | [], _ => by simp [inter]
  | _ :: _, [] => by simp [inter]
  | w :: ws, t :: ts => by
    have := inter_sum (ws := ws) (ts := ts)
    simp only [inter, List.map_cons, List.sum_cons, Cnd.weightL]
    omega
theorem Cnd.parts_weight (c : Cnd) : (c.parts.map Cnd.weight).sum + 40 ≤ c.weight := by
  cases c with
  | leaf l => simp [Cnd.parts, Cnd.weight]
  | not c => simp [Cnd.parts, Cnd.weight]
  | node k cs => have := weightL_sum cs; simp only [Cnd.parts, Cnd.weight]; omega
  | case ws ts e =>
    have := inter_sum (ws := ws) (ts := ts)
    simp only [Cnd.parts, Cnd.weight, List.map_append, List.sum_append, List.map_cons, List.map_nil, List.sum_cons, List.sum_nil]
    omega
theorem mem_sum {q : Cnd} : ∀ {cs : List Cnd}, q ∈ cs → q.weight ≤ (cs.map Cnd.weight).sum
  | c :: cs, h => by
    rw [List.map_cons, List.sum_cons]
    rcases List.mem_cons.mp h with h | h
    · rw [h]; omega
    · have := mem_sum h; omega
theorem zip_sum (B : Cnd → Nat) : ∀ (cs : List Cnd) (bs : List Bool), ((cs.zip bs).map fun q => B q.1).sum ≤ (cs.map B).sum
  | [], _ => by simp
  | _ :: _, [] => by simp
  | c :: cs, b :: bs => by
    have := zip_sum B cs bs
    simp only [List.zip_cons_cons, List.map_cons, List.sum_cons]
    omega
theorem Cnd.places_len : ∀ (n : Nat) (c : Cnd) (p : Bool), 40 * (Cnd.placesN n c p).length ≤ c.weight
  | 0, c, p => by have := c.weight_pos; simp [Cnd.placesN]; omega
  | n + 1, c, p => by
    have h1 := below_len (fun c p => Cnd.placesN n c p) Cnd.weight (c.parts.zip (c.plains p)) 0 fun q _ => Cnd.places_len n q.1 q.2
    have h2 := zip_sum Cnd.weight c.parts (c.plains p)
    have h3 := c.parts_weight
    simp only [Cnd.placesN, List.length_cons]
    omega
theorem below_part (f : Cnd → Bool → List Plc) (B : Cnd → Nat) {L : List (Cnd × Bool)} (j : Nat) (h : ∀ q ∈ L, 40 * (f q.1 q.2).length ≤ B q.1) : 40 * (belowN f (L.take j) 0).length ≤ (L.map fun q => B q.1).sum := by
  have h1 := below_len f B (L.take j) 0 fun q hq => h q (List.mem_of_mem_take hq)
  have h2 : ((L.take j).map fun q => B q.1).sum ≤ (L.map fun q => B q.1).sum := by
    conv => rhs; rw [← List.take_append_drop j L]
    rw [List.map_append, List.sum_append]
    omega
  omega
theorem Cnd.plains_len {ns : List Str} {c : Cnd} (h : c.ok ns) (p : Bool) : (c.plains p).length = c.parts.length := by
  cases c with
  | leaf l => simp [Cnd.plains]
  | not c => simp [Cnd.plains]
  | node k cs => simp [Cnd.plains]
  | case ws ts e =>
    simp only [Cnd.ok] at h
    simp only [Cnd.plains, Cnd.parts, List.length_map, List.length_range, List.length_append, List.length_singleton, inter_len h.1]
theorem below_mem {f : Cnd → Bool → List Plc} {z : Plc} : ∀ {L : List (Cnd × Bool)} {i : Nat}, z ∈ belowN f L i → ∃ q ∈ L, ∃ y ∈ f q.1 q.2, ∃ k, z = (k :: y.1, y.2)
  | [], _, h => by cases h
  | x :: L, i, h => by
    rcases List.mem_append.mp h with h | h
    · obtain ⟨y, hy, rfl⟩ := List.mem_map.mp h
      exact ⟨x, List.mem_cons_self, y, hy, i, rfl⟩
    · obtain ⟨q, hq, r⟩ := below_mem h
      exact ⟨q, List.mem_cons_of_mem _ hq, r⟩
theorem places_addr : ∀ (n : Nat) (c : Cnd) (p : Bool), ∀ z ∈ Cnd.placesN n c p, z.1.length ≤ n
  | 0, c, p, z, h => by
    rw [Cnd.placesN, List.mem_singleton] at h
    subst h; exact Nat.zero_le _
  | n + 1, c, p, z, h => by
    rcases List.mem_cons.mp h with h | h
    · subst h; exact Nat.zero_le _
    · obtain ⟨q, _, y, hy, k, rfl⟩ := below_mem h
      have := places_addr n q.1 q.2 y hy
      show y.1.length + 1 ≤ n + 1
      omega
/-! ### in the heap -/
def natP (n : Nat) : V := .int (n : Int)
def PlAt (K : PySem.W.Frag) (H : Hp) (v : V) (z : Plc) : Prop := ∃ (t ad : Addr) (x : V), v = .ref t ∧ SqT K H t [.ref ad, x, .bl z.2.2] ∧ SqT K H ad (z.1.map natP) ∧ CndAt K H x z.2.1
theorem PlAt.toI {K : PySem.W.Frag} {H H' : Hp} {v : V} {z : Plc} (h : PlAt K H v z) (e : ExI H H') : PlAt K H' v z := by
  obtain ⟨t, ad, x, h1, h2, h3, h4⟩ := h
  exact ⟨t, ad, x, h1, e.sq h2, e.sq h3, cndAt_toI e _ _ h4⟩
/-- a loop over enumerate(zip(..)) of two lists that the block leaves as they are -/
theorem for_ez {K : PySem.W.Frag} {a b : Addr} {xs ys : List V} {g : TG} {tb : TS} {D : Ends} {σ : L2.St} {H : Hp} (Pv : Nat → L2.St → Hp → Prop) (len : ys.length = xs.length) (h0 : Pv 0 σ H) (hl : ∀ i σ H, i ≤ xs.length → Pv i σ H → SqL K H a xs ∧ SqL K H b ys)
    (hs : ∀ i x y σ H T U, xs[i]? = some x → ys[i]? = some y → Pv i σ H → H T = none → H U = none → T ≠ U → g (.ref U) σ (upd (upd H T (.tup [x, y])) U (.tup [.int (i : Nat), .ref T])) fun σ2 H2 => tb { D with nx := Pv (i + 1), ct := Pv (i + 1), bk := D.nx } σ2 H2) (hd : ∀ σ H, Pv xs.length σ H → D.nx σ H) :
    ∃ W : Nat → Nat → L2.St → Hp → Prop, (∃ m, W 0 m σ H) ∧ ∀ i m σ H, W i m σ H →
      ((Itez K a b).stop i H ∧ D.nx σ H) ∨ ((Itez K a b).go i H ∧ ∃ N : L2.St → Hp → Prop, (∀ σ' H', N σ' H' → ∃ m', m' < m ∧ W (i + 1) m' σ' H') ∧ ∀ x H', (Itez K a b).yld i H x H' → g x σ H' fun σ2 H2 => tb { D with nx := N, ct := N, bk := D.nx } σ2 H2) := by
  refine ⟨fun i m σ H => m = xs.length - i ∧ i ≤ xs.length ∧ Pv i σ H, ⟨xs.length, by simp, Nat.zero_le _, h0⟩, ?_⟩
  rintro i m σ H ⟨rfl, le, p⟩
  obtain ⟨q1, q2⟩ := hl i σ H le p
  by_cases lt : i < xs.length
  · have gx : xs[i]? = some xs[i] := List.getElem?_eq_getElem lt
    have gy : ys[i]? = some (ys[i]'(by omega)) := List.getElem?_eq_getElem (by omega)
    refine .inr ⟨⟨xs, ys, _, _, q1, q2, gx, gy⟩, Pv (i + 1), fun σ' H' p' => ⟨xs.length - (i + 1), by omega, rfl, lt, p'⟩, ?_⟩
    rintro v H' ⟨T, U, x, y, rfl, nT, nU, ne, rfl, hx, hy⟩
    exact hs i x y σ H T U (hx xs q1) (hy ys q2) p nT nU ne
  · obtain rfl : i = xs.length := by omega
    exact .inl ⟨⟨xs, ys, q1, q2, .inl (Nat.le_refl _)⟩, hd σ H p⟩
end Gx

set_option Elab.async false
set_option linter.all false
set_option maxRecDepth 100000
set_option maxHeartbeats 4000000
namespace K22
open PySem PySem.Spec PyProof.Rows L2 Evl Gx
abbrev s_places : Stmt := topS 10
theorem sc_places : FnScope ["condition", "plain", "found", "index", "part", "truth", "address", "other", "here"] ["condition", "plain"] (defScope s_places) := ⟨rfl, rfl, rfl, by decide +kernel, rfl, by decide +kernel, by decide +kernel⟩
def spPlaces (K : PySem.W.Frag) (n : Nat) : Sp := fun vs H Q _ => ∃ (v : V) (c : Cnd) (ns : List Str) (p : Bool), vs = [v, .bl p] ∧ CndAt K H v c ∧ c.ok ns ∧ c.depth < n ∧ c.weight ≤ 6000000 ∧
  ∀ (l : Addr) (us : List V) (H' : Hp), Ex H H' → H l = none → H' l = some (.lst us) → Paired (PlAt K H') us (Cnd.placesN n c p) → Q (.ref l) H'
section
variable {P : Program} {w : World} {K : PySem.W.Frag} {mg : Str → Option Value} {base : Heap} {f_parts f_plain_parts f_places : Addr} {fd_parts fd_plain_parts fd_places : FuncData}
theorem ok_places_of {n : Nat} (n0 : n ≤ 1000000) (D_places : DefO K mg "places" s_places f_places fd_places ["condition", "plain"]) (bi : Bi mg)
    (D_parts : Def K mg "parts" s_parts f_parts fd_parts ["condition"])
    (G_parts : FnOk P w K mg base CX0 1 f_parts fd_parts ["condition"] (spParts K))
    (D_plain_parts : Def K mg "plain_parts" s_plain_parts f_plain_parts fd_plain_parts ["condition", "plain"])
    (G_plain_parts : FnOk P w K mg base CX0 2 f_plain_parts fd_plain_parts ["condition", "plain"] (spPlainP K))
    (G_places : FnOk P w K mg base CX0 (n + 3) f_places fd_places ["condition", "plain"] (spPlaces K n)) :
    FnOk P w K mg base CX0 (n + 4) f_places fd_places ["condition", "plain"] (spPlaces K (n + 1)) := by
  refine D_places.okN sc_places (fun vs H Q E h => ?_) (fun cdv A outer s0 H vs Q E hr h => ?_)
  · obtain ⟨v, c, ns, p, rfl, _⟩ := h
    rfl
  · obtain ⟨v, c, ns, p, rfl, hv, ok, dp, wt, k⟩ := h
    refine ⟨_, (pss_cons (ps_set (i := 2) sc_places.nd rfl (Or.inl rfl) (pe_lst (pa_cons (pe_tup (pa_cons (pe_tup pa_nil) (pa_cons (pv 0) (pa_cons (pv 1) pa_nil)))) pa_nil)))
  (pss_cons (ps_for PassesOwn.never rfl (pi_ez rfl bi.enumerate rfl bi.zip (pa_cons (pe_call G_parts (hr.mono (by first | decide | omega)) rfl D_parts.mg D_parts.fn.kp D_parts.bd .nil pass0 (pa_cons (pv 0) pa_nil)) (pa_cons (pe_call G_plain_parts (hr.mono (by first | decide | omega)) rfl D_plain_parts.mg D_plain_parts.fn.kp D_plain_parts.bd .nil pass0 (pa_cons (pv 0) (pa_cons (pv 1) pa_nil))) pa_nil))) (pg_tup rfl (pgs_cons (pg_name (i := 3) sc_places.nd rfl (Or.inr rfl)) (pgs_cons (pg_tup rfl (pgs_cons (pg_name (i := 4) sc_places.nd rfl (Or.inl rfl)) (pgs_cons (pg_name (i := 5) sc_places.nd rfl (Or.inl rfl)) pgs_nil))) pgs_nil)))
    (pss_one (ps_expr (pe_bm PySem.F.plainAttrs_list PySem.F.slot_list_extend PySem.F.type_list_extend mt_extend (pv 2) (pa_cons (pe_lc (own := [("address", 6), ("other", 7), ("here", 8)]) (g := gTup K 3 (gCons (gName 6) (gCons (gName 7) (gCons (gName 8) gNil)))) rfl sc_places.nd (pi_list (pe_call G_places (hr.mono (by first | decide | omega)) rfl D_places.mg D_places.fn.kp D_places.bd .nil pass0 (pa_cons (pv 4) (pa_cons (pv 5) pa_nil)))) (blkOk_by (N := ["condition", "plain", "found", "index", "part", "truth", "address", "other", "here"]) (sc := defScope s_places) (by decide +kernel)) (fun _ _ _ _ _ => (pg_tup rfl (pgs_cons (pg_name (i := 6) sc_places.nd rfl (Or.inl rfl)) (pgs_cons (pg_name (i := 7) sc_places.nd rfl (Or.inl rfl)) (pgs_cons (pg_name (i := 8) sc_places.nd rfl (Or.inl rfl)) pgs_nil))))) (fun _ _ _ _ _ => pts_nil) (fun _ _ _ _ _ => (pe_tup (pa_cons (pe_op (op_catAK (K := K) rfl) (pe_tup (pa_cons (pv 3) pa_nil)) (pv 6)) (pa_cons (pv 7) (pa_cons (pv 8) pa_nil)))))) pa_nil)))))
  (pss_one (ps_ret (pv 2))))), ?_⟩
    refine ⟨Nat.zero_le _, fun Em nEm => ?_⟩
    have X_H1 : Ex H (upd H Em (.tup [])) := Ex.new nEm
    have F_H1 : upd H Em (.tup []) Em = some (.tup []) := upd_same
    generalize upd H Em (.tup []) = H1 at X_H1 F_H1 ⊢
    refine ⟨_, rfl, _, rfl, sz3, fun T0 nT0 => ?_⟩
    have X_H2 : Ex H1 (upd H1 T0 (.tup [.ref Em, v, .bl p])) := Ex.new nT0
    have F_H2 : upd H1 T0 (.tup [.ref Em, v, .bl p]) T0 = some (.tup [.ref Em, v, .bl p]) := upd_same
    generalize upd H1 T0 (.tup [.ref Em, v, .bl p]) = H2 at X_H2 F_H2 ⊢
    refine ⟨sz1, fun F nF => ?_⟩
    have X_H3 : Ex H2 (upd H2 F (.lst [.ref T0])) := Ex.new nF
    have F_H3 : upd H2 F (.lst [.ref T0]) F = some (.lst [.ref T0]) := upd_same
    generalize upd H2 F (.lst [.ref T0]) = H3 at X_H3 F_H3 ⊢
    have x03 := (X_H1.trans X_H2).trans X_H3
    have nF0 : H F = none := fresh_back (X_H1.trans X_H2) nF
    refine ⟨_, rfl, v, c, ns, rfl, cndAt_toI (.of x03) _ _ hv, ok, by omega, fun l1 xs H4 e4 nl1 hl1 hc1 => ?_⟩
    refine ⟨_, rfl, _, rfl, v, c, ns, p, rfl, cndAt_toI (.of (x03.trans e4)) _ _ hv, ok, wt, fun l2 H5 e5 nl2 hl2 => ?_⟩
    have xl : xs.length = c.parts.length := cnds_len hc1
    have pl := Cnd.plains_len ok p
    have n1F : l1 ≠ F := fun z => by rw [z, F_H3] at nl1; cases nl1
    have n2F : l2 ≠ F := fun z => by rw [z, e4 _ _ F_H3] at nl2; cases nl2
    have hl15 := e5 _ _ hl1
    refine ⟨l1, l2, xs, (c.plains p).map V.bl, rfl, SqL.of hl15, SqL.of hl2, ?_⟩
    have x05 := (x03.trans e4).trans e5
    refine for_ez (xs := xs) (ys := (c.plains p).map V.bl) (fun j σ G => ∃ (x3 x4 x5 x6 x7 x8 : Option V) (us : List V), σ = [some v, some (.bl p), some (.ref F), x3, x4, x5, x6, x7, x8] ∧ Ex H G ∧ ExB F H5 G ∧ G F = some (.lst us) ∧
      Paired (PlAt K G) us (([], c, p) :: belowN (fun c p => Cnd.placesN n c p) ((c.parts.zip (c.plains p)).take j) 0)) (by rw [List.length_map, pl, xl]) ?_ (fun j σ G _ z => ?_) ?_ ?_
    · refine ⟨none, none, none, none, none, none, _, rfl, x05, .of (Ex.refl _), (e4.trans e5) _ _ F_H3, ?_⟩
      rw [List.take_zero]
      have x25 : Ex H2 H5 := (X_H3.trans e4).trans e5
      exact .cons ⟨T0, Em, v, rfl, SqT.of (x25 _ _ F_H2), SqT.of ((X_H2.trans x25) _ _ F_H1), cndAt_toI (.of x05) _ _ hv⟩ .nil
    · obtain ⟨_, _, _, _, _, _, _, _, _, e, _⟩ := z
      exact ⟨SqL.of (e _ _ n1F hl15), SqL.of (e _ _ n2F hl2)⟩
    · rintro j x y σ G T U hx hy ⟨x3, x4, x5, x6, x7, x8, us, rfl, eG, eB, gF, hp⟩ nT nU ne
      rw [List.getElem?_map] at hy
      obtain ⟨t, ht, rfl⟩ := Option.map_eq_some_iff.mp hy
      obtain ⟨q, hq, hqa⟩ := cnds_get hc1 hx
      have eG2 : Ex G (upd (upd G T (.tup [x, .bl t])) U (.tup [.int (j : Nat), .ref T])) := (Ex.new (o := .tup [x, .bl t]) nT).trans (Ex.new (by rw [upd_ne ne.symm]; exact nU))
      have hU : upd (upd G T (.tup [x, .bl t])) U (.tup [.int (j : Nat), .ref T]) U = some (.tup [.int (j : Nat), .ref T]) := upd_same
      have hT : upd (upd G T (.tup [x, .bl t])) U (.tup [.int (j : Nat), .ref T]) T = some (.tup [x, .bl t]) := by rw [upd_ne ne]; exact upd_same
      generalize upd (upd G T (.tup [x, .bl t])) U (.tup [.int (j : Nat), .ref T]) = G2 at eG2 hU hT ⊢
      have gF2 := eG2 _ _ gF
      refine ⟨U, _, rfl, SqT.of hU, rfl, _, _, rfl, _, _, rfl, ⟨T, _, rfl, SqT.of hT, rfl, _, _, rfl, _, _, rfl, rfl, rfl, ?_⟩⟩
      refine ⟨_, rfl, .inl ⟨rfl, _, SqL.of gF2⟩, ?_⟩
      have mq := List.mem_of_getElem? hq
      have dq := Cnd.parts_depth mq
      have wq : q.weight ≤ c.weight := by
        have h1 := c.parts_weight
        have h2 : q.weight ≤ (c.parts.map Cnd.weight).sum := mem_sum mq
        omega
      have eI := ((ExI.of e5).trans (eB.toI ((e4.trans e5) _ _ F_H3))).trans (.of eG2)
      have hqG : CndAt K G2 x q := cndAt_toI eI _ _ hqa
      refine ⟨_, rfl, _, rfl, x, q, ns, t, rfl, hqG, Cnd.parts_ok ok q mq, by omega, by omega, fun l3 us3 H6 e6 nl3 hl3 hp3 => ?_⟩
      refine ⟨l3, rfl, ⟨_, SqL.of hl3⟩, fun D nD => ?_⟩
      have u3 : us3.length = (Cnd.placesN n q t).length := Paired.length hp3
      have b3 := Cnd.places_len n q t
      refine lc_list (xs := us3) (fun m G' => Ex H6 G' ∧ ∃ zs : List V, G' D = some (.lst zs) ∧ Paired (PlAt K G') zs (((Cnd.placesN n q t).take m).map fun z => (j :: z.1, z.2))) ?_ (fun m G' _ z => SqL.of (z.1 _ _ hl3)) ?_ ?_
      · exact ⟨Ex.new nD, [], upd_same, .nil⟩
      · rintro m w G' hm ⟨eG', zs, hD, hz⟩
        obtain ⟨z, hzm, t4, ad, x4', rfl, h1, h2, h3⟩ := Gx.paired_get hp3 hm
        have al := places_addr n q t z (List.mem_of_getElem? hzm)
        refine ⟨t4, _, rfl, ex_t eG' h1, rfl, _, _, rfl, _, _, rfl, _, _, rfl, rfl, ?_⟩
        have zl : zs.length ≤ m := by
          have := Paired.length hz
          rw [List.length_map, List.length_take] at this
          omega
        have ml : m < us3.length := (List.getElem?_eq_some_iff.mp hm).1
        have step : ∀ (A : Addr) (G3 : Hp), Ex G' G3 → SqT K G3 A ((j :: z.1).map natP) → ∀ W, G3 W = none → ∃ acc, upd G3 W (.tup [.ref A, x4', .bl z.2.2]) D = some (.lst acc) ∧ acc.length < sizeLine ∧
            Ex H6 (upd (upd G3 W (.tup [.ref A, x4', .bl z.2.2])) D (.lst (acc ++ [.ref W]))) ∧ ∃ zs, upd (upd G3 W (.tup [.ref A, x4', .bl z.2.2])) D (.lst (acc ++ [.ref W])) D = some (.lst zs) ∧
            Paired (PlAt K (upd (upd G3 W (.tup [.ref A, x4', .bl z.2.2])) D (.lst (acc ++ [.ref W])))) zs (((Cnd.placesN n q t).take (m + 1)).map fun z => (j :: z.1, z.2)) := fun A G3 g3 hA W nW => by
          have eW : Ex G3 (upd G3 W (.tup [.ref A, x4', .bl z.2.2])) := Ex.new nW
          have hW : upd G3 W (.tup [.ref A, x4', .bl z.2.2]) W = some (.tup [.ref A, x4', .bl z.2.2]) := upd_same
          generalize upd G3 W (.tup [.ref A, x4', .bl z.2.2]) = G4 at eW hW ⊢
          have hD4 := eW _ _ (g3 _ _ hD)
          have fi : ExI G4 (upd G4 D (.lst (zs ++ [.ref W]))) := ExI.put hD4 rfl
          have fa : ExI G' (upd G4 D (.lst (zs ++ [.ref W]))) := (ExI.of (g3.trans eW)).trans fi
          refine ⟨zs, hD4, by rw [sizeLine_eq]; omega, (eG'.trans (g3.trans eW)).mut nD, zs ++ [.ref W], upd_same, ?_⟩
          rw [takeS hzm, List.map_append]
          refine paired_app (Paired.mapP hz fun _ _ y => y.toI fa) (.cons ⟨W, A, x4', rfl, fi.sq (SqT.of hW), ((ExI.of eW).trans fi).sq hA, cndAt_toI (((ExI.of eG').trans (ExI.of (g3.trans eW))).trans fi) _ _ h3⟩ .nil)
        refine ⟨rfl, _, rfl, sz1, fun A1 nA1 => ?_⟩
        have eA : Ex G' (upd G' A1 (.tup [natP j])) := Ex.new nA1
        have hA : upd G' A1 (.tup [natP j]) A1 = some (.tup [natP j]) := upd_same
        refine ⟨_, rfl, A1, ad, [natP j], z.1.map natP, rfl, rfl, SqT.of hA, ex_t (eG'.trans eA) h2, by rw [List.length_map, sizeLine_eq]; show 1 + _ ≤ _; omega, fun z => by (cases z), fun _ ze => ?_, fun _ ze A2 nA2 => ?_⟩
        · have z0 : z.1 = [] := List.map_eq_nil_iff.mp ze
          exact ⟨_, rfl, _, rfl, sz3, fun W nW => step A1 _ eA (by rw [z0]; exact SqT.of hA) W nW⟩
        · exact ⟨_, rfl, _, rfl, sz3, fun W nW => step A2 _ (eA.trans (Ex.new nA2)) (SqT.of upd_same) W nW⟩
      · rintro G' ⟨eG', zs, hD, hz⟩
        rw [u3, List.take_length] at hz
        have zl : zs.length = (Cnd.placesN n q t).length := by rw [Paired.length hz, List.length_map]
        have hzip : (c.parts.zip (c.plains p))[j]? = some (q, t) := by rw [List.getElem?_zip_eq_some]; exact ⟨hq, ht⟩
        have ul : us.length ≤ 160000 := by
          have h1 := below_part (fun c p => Cnd.placesN n c p) Cnd.weight (L := c.parts.zip (c.plains p)) j fun q _ => Cnd.places_len n q.1 q.2
          have h2 := zip_sum Cnd.weight c.parts (c.plains p)
          have h3 := c.parts_weight
          have := Paired.length hp
          rw [List.length_cons] at this
          omega
        have gF' := (e6.trans eG') _ _ gF2
        have eall := (eG2.trans e6).trans eG'
        refine ⟨F, D, us, zs, rfl, rfl, gF', hD, by rw [sizeLine_eq]; omega, ?_⟩
        refine ⟨_, _, _, _, _, _, us ++ zs, rfl, (eG.trans eall).mut nF0, (eB.trans (.of eall)).trans .put, upd_same, ?_⟩
        rw [below_take (fun c p => Cnd.placesN n c p) hzip, ← List.cons_append]
        have fi : ExI G' (upd G' F (.lst (us ++ zs))) := ExI.put gF' rfl
        exact paired_app (Paired.mapP hp fun _ _ y => y.toI ((ExI.of eall).trans fi)) (Paired.mapP hz fun _ _ y => y.toI fi)
    · rintro σ G ⟨x3, x4, x5, x6, x7, x8, us, rfl, eG, eB, gF, hp⟩
      rw [List.take_of_length_le (by rw [List.length_zip, xl]; omega)] at hp
      exact ⟨_, rfl, k F us G eG nF0 gF hp⟩
theorem ok_places (D_places : DefO K mg "places" s_places f_places fd_places ["condition", "plain"]) (bi : Bi mg)
    (D_parts : Def K mg "parts" s_parts f_parts fd_parts ["condition"])
    (G_parts : FnOk P w K mg base CX0 1 f_parts fd_parts ["condition"] (spParts K))
    (D_plain_parts : Def K mg "plain_parts" s_plain_parts f_plain_parts fd_plain_parts ["condition", "plain"])
    (G_plain_parts : FnOk P w K mg base CX0 2 f_plain_parts fd_plain_parts ["condition", "plain"] (spPlainP K)) :
    ∀ n : Nat, n ≤ 1000000 → FnOk P w K mg base CX0 (n + 3) f_places fd_places ["condition", "plain"] (spPlaces K n)
  | 0, _ => fn_never fun vs H Q E ⟨_, _, _, _, _, _, _, h, _⟩ => absurd h (Nat.not_lt_zero _)
  | n + 1, h => ok_places_of (by omega) D_places bi D_parts G_parts D_plain_parts G_plain_parts (ok_places D_places bi D_parts G_parts D_plain_parts G_plain_parts n (by omega))
end
end K22

set_option Elab.async false
set_option linter.all false
set_option maxRecDepth 100000
set_option maxHeartbeats 4000000
namespace K22
open PySem PySem.Spec PyProof.Rows L2 Evl Gx
abbrev s_addresses : Stmt := topS 11
theorem sc_addresses : FnScope ["condition", "address", "_"] ["condition"] (defScope s_addresses) := ⟨rfl, rfl, rfl, by decide +kernel, rfl, by decide +kernel, by decide +kernel⟩
abbrev s_nodes : Stmt := topS 12
theorem sc_nodes : FnScope ["condition", "address", "part", "_"] ["condition"] (defScope s_nodes) := ⟨rfl, rfl, rfl, by decide +kernel, rfl, by decide +kernel, by decide +kernel⟩
abbrev s_leaves : Stmt := topS 13
theorem sc_leaves : FnScope ["condition", "address", "part", "_"] ["condition"] (defScope s_leaves) := ⟨rfl, rfl, rfl, by decide +kernel, rfl, by decide +kernel, by decide +kernel⟩
abbrev s_depth : Stmt := topS 17
theorem sc_depth : FnScope ["condition", "address"] ["condition"] (defScope s_depth) := ⟨rfl, rfl, rfl, by decide +kernel, rfl, by decide +kernel, by decide +kernel⟩
theorem op_in_seqK {X : Cx} {K : PySem.W.Frag} (h : X.K = K) : OpR X (compareOp .In) (rIn K false) := by
  subst h
  exact op_in_seq
theorem call_len_seqK {X : Cx} {K : PySem.W.Frag} (h : X.K = K) : CallR X (.builtin "len") (fun xs H Q => ∃ p ys, xs = [.ref p] ∧ (SqL K H p ys ∨ SqT K H p ys) ∧ Q (.int ys.length) H) := by
  subst h
  exact call_len_seq
def AdAt (K : PySem.W.Frag) (H : Hp) (v : V) (ad : List Nat) : Prop := ∃ a, v = .ref a ∧ SqT K H a (ad.map natP)
theorem AdAt.toI {H H' : Hp} {K : PySem.W.Frag} {v : V} {ad : List Nat} (h : AdAt K H v ad) (e : ExI H H') : AdAt K H' v ad := by
  obtain ⟨a, h1, h2⟩ := h
  exact ⟨a, h1, e.sq h2⟩
def spAddrs (K : PySem.W.Frag) (n : Nat) (f : Plc → Bool) : Sp := fun vs H Q _ => ∃ (v : V) (c : Cnd) (ns : List Str), vs = [v] ∧ CndAt K H v c ∧ c.ok ns ∧ c.depth < n ∧ c.weight ≤ 6000000 ∧
  ∀ (l : Addr) (us : List V) (H' : Hp), Ex H H' → H l = none → H' l = some (.lst us) → Paired (AdAt K H') us (((Cnd.placesN n c true).filter f).map (·.1)) → Q (.ref l) H'
def kindIn (ks : List Str) (z : Plc) : Bool := decide (z.2.1.kind ∈ ks)
theorem iv_strs (ks : List Str) (z : Str) : inV (.str z) (ks.map V.str) = decide (z ∈ ks) := by
  unfold inV
  rw [Bool.eq_iff_iff, List.any_map, List.any_eq_true, decide_eq_true_iff]
  constructor
  · rintro ⟨y, hy, e⟩
    have e : (y == z) = true := e
    rw [← eq_of_beq e]; exact hy
  · intro h
    exact ⟨z, h, (beq_self_eq_true z : (z == z) = true)⟩
theorem take_filter {α : Type} {f : α → Bool} {xs : List α} {j : Nat} {x : α} (h : xs[j]? = some x) : (xs.take (j + 1)).filter f = (xs.take j).filter f ++ (if f x then [x] else []) := by
  rw [takeS h, List.filter_append]
  cases e : f x <;> simp [e]
def AdI (K : PySem.W.Frag) (H1 : Hp) (D : Addr) (ps : List Plc) (f : Plc → Bool) (j : Nat) (G : Hp) : Prop := Ex H1 G ∧ ∃ zs : List V, G D = some (.lst zs) ∧ zs.length ≤ j ∧ Paired (AdAt K G) zs (((ps.take j).filter f).map (·.1))
theorem ad_put {K : PySem.W.Frag} {H1 G : Hp} {D ad : Addr} {ps : List Plc} {f : Plc → Bool} {j : Nat} {z : Plc} (i : AdI K H1 D ps f j G) (nD : H1 D = none) (jl : j < ps.length) (pl : ps.length ≤ 1000000) (hz : ps[j]? = some z) (ft : f z = true) (h2 : SqT K H1 ad (z.1.map natP)) :
    ∃ acc, G D = some (.lst acc) ∧ acc.length < sizeLine ∧ AdI K H1 D ps f (j + 1) (upd G D (.lst (acc ++ [.ref ad]))) := by
  obtain ⟨eG, zs, hD, lz, hp⟩ := i
  refine ⟨zs, hD, by rw [sizeLine_eq]; omega, eG.mut nD, zs ++ [.ref ad], upd_same, by rw [List.length_append]; show _ + 1 ≤ _; omega, ?_⟩
  rw [take_filter hz, if_pos ft, List.map_append]
  have fi : ExI G (upd G D (.lst (zs ++ [.ref ad]))) := ExI.put hD rfl
  exact paired_app (Paired.mapP hp fun _ _ y => y.toI fi) (.cons ⟨ad, rfl, fi.sq (ex_t eG h2)⟩ .nil)
theorem ad_skip {K : PySem.W.Frag} {H1 G : Hp} {D : Addr} {ps : List Plc} {f : Plc → Bool} {j : Nat} {z : Plc} (i : AdI K H1 D ps f j G) (hz : ps[j]? = some z) (ft : f z = false) : AdI K H1 D ps f (j + 1) G := by
  obtain ⟨eG, zs, hD, lz, hp⟩ := i
  refine ⟨eG, zs, hD, by omega, ?_⟩
  rw [take_filter hz, ft, if_neg (by decide), List.append_nil]
  exact hp
theorem ad_zero {K : PySem.W.Frag} {H1 : Hp} {D : Addr} {ps : List Plc} {f : Plc → Bool} (nD : H1 D = none) : AdI K H1 D ps f 0 (upd H1 D (.lst [])) := ⟨Ex.new nD, [], upd_same, Nat.zero_le _, .nil⟩
section
variable {P : Program} {w : World} {K : PySem.W.Frag} {mg : Str → Option Value} {base : Heap} {a_NODES a_LEAVES f_places f_addresses : Addr} {fd_places fd_addresses : FuncData}
theorem ok_addresses {n : Nat} (n0 : n ≤ 1000000) {f : Addr} {fd : FuncData} (D : Def K mg "addresses" s_addresses f fd ["condition"]) (bi : Bi mg)
    (D_places : DefO K mg "places" s_places f_places fd_places ["condition", "plain"])
    (G_places : FnOk P w K mg base CX0 (n + 3) f_places fd_places ["condition", "plain"] (spPlaces K n)) :
    FnOk P w K mg base CX0 (n + 4) f fd ["condition"] (spAddrs K n fun _ => true) := by
  refine D.fn.ok sc_addresses (fun vs H Q E h => ?_) (fun cdv A outer s0 H vs Q E hr h => ?_)
  · obtain ⟨v, c, ns, rfl, _⟩ := h
    rfl
  · obtain ⟨v, c, ns, rfl, hv, ok, dp, wt, k⟩ := h
    refine ⟨_, (pss_one (ps_ret (pe_lc (own := [("address", 1), ("_", 2), ("_", 2)]) (g := gTup K 3 (gCons (gName 1) (gCons (gName 2) (gCons (gName 2) gNil)))) rfl sc_addresses.nd (pi_list (pe_call G_places (hr.mono (by first | decide | omega)) rfl D_places.mg D_places.fn.kp D_places.bd1 vd1 pass0 (pa_cons (pv 0) pa_nil))) (blkOk_by (N := ["condition", "address", "_"]) (sc := defScope s_addresses) (by decide +kernel)) (fun _ _ _ _ _ => (pg_tup rfl (pgs_cons (pg_name (i := 1) sc_addresses.nd rfl (Or.inl rfl)) (pgs_cons (pg_name (i := 2) sc_addresses.nd rfl (Or.inl rfl)) (pgs_cons (pg_name (i := 2) sc_addresses.nd rfl (Or.inl rfl)) pgs_nil))))) (fun _ _ _ _ _ => pts_nil) (fun _ _ _ _ _ => (pv 1))))), ?_⟩
    refine ⟨_, rfl, v, c, ns, true, rfl, hv, ok, dp, wt, fun l us H1 e1 nl hl hp => ?_⟩
    refine ⟨l, rfl, ⟨_, SqL.of hl⟩, fun D nD => ?_⟩
    have ul : us.length = (Cnd.placesN n c true).length := Paired.length hp
    have b := Cnd.places_len n c true
    refine lc_list (xs := us) (fun j G => AdI K H1 D (Cnd.placesN n c true) (fun _ => true) j G) (ad_zero nD) (fun j G _ z => SqL.of (z.1 _ _ hl)) ?_ ?_
    · rintro j w G hj i
      obtain ⟨z, hzm, t, ad, x, rfl, h1, h2, h3⟩ := Gx.paired_get hp hj
      have jl : j < us.length := (List.getElem?_eq_some_iff.mp hj).1
      refine ⟨t, _, rfl, ex_t i.1 h1, rfl, _, _, rfl, _, _, rfl, _, _, rfl, rfl, rfl, _, rfl, ?_⟩
      exact ad_put i nD (by omega) (by omega) hzm rfl h2
    · rintro G ⟨eG, zs, hD, lz, hz⟩
      rw [ul, List.take_length] at hz
      exact k D zs G (e1.trans eG) (fresh_back e1 nD) hD hz
theorem ok_nodes {n : Nat} (n0 : n ≤ 1000000) {f : Addr} {fd : FuncData} (D : Def K mg "nodes" s_nodes f fd ["condition"]) (bi : Bi mg)
    (C_NODES : ConT K mg "NODES" a_NODES ((["all", "any"] : List Str).map V.str))
    (D_places : DefO K mg "places" s_places f_places fd_places ["condition", "plain"])
    (G_places : FnOk P w K mg base CX0 (n + 3) f_places fd_places ["condition", "plain"] (spPlaces K n)) :
    FnOk P w K mg base CX0 (n + 4) f fd ["condition"] (spAddrs K n (kindIn (["all", "any"] : List Str))) := by
  refine D.fn.ok sc_nodes (fun vs H Q E h => ?_) (fun cdv A outer s0 H vs Q E hr h => ?_)
  · obtain ⟨v, c, ns, rfl, _⟩ := h
    rfl
  · obtain ⟨v, c, ns, rfl, hv, ok, dp, wt, k⟩ := h
    refine ⟨_, (pss_one (ps_ret (pe_lc (own := [("address", 1), ("part", 2), ("_", 3)]) (g := gTup K 3 (gCons (gName 1) (gCons (gName 2) (gCons (gName 3) gNil)))) rfl sc_nodes.nd (pi_list (pe_call G_places (hr.mono (by first | decide | omega)) rfl D_places.mg D_places.fn.kp D_places.bd1 vd1 pass0 (pa_cons (pv 0) pa_nil))) (blkOk_by (N := ["condition", "address", "part", "_"]) (sc := defScope s_nodes) (by decide +kernel)) (fun _ _ _ _ _ => (pg_tup rfl (pgs_cons (pg_name (i := 1) sc_nodes.nd rfl (Or.inl rfl)) (pgs_cons (pg_name (i := 2) sc_nodes.nd rfl (Or.inl rfl)) (pgs_cons (pg_name (i := 3) sc_nodes.nd rfl (Or.inl rfl)) pgs_nil))))) (fun _ _ _ _ _ => (pts_one (pt_cmpR (op_in_seqK (K := K) rfl) (pe_ix (ix_tupK (K := K) rfl) (pv 2) pe_int (fun _ _ => rfl)) (pe_glob (v := .ref a_NODES) rfl C_NODES.mg rfl) (by rfl)))) (fun _ _ _ _ _ => (pv 1))))), ?_⟩
    refine ⟨_, rfl, v, c, ns, true, rfl, hv, ok, dp, wt, fun l us H1 e1 nl hl hp => ?_⟩
    refine ⟨l, rfl, ⟨_, SqL.of hl⟩, fun D nD => ?_⟩
    have ul : us.length = (Cnd.placesN n c true).length := Paired.length hp
    have b := Cnd.places_len n c true
    refine lc_list (xs := us) (fun j G => AdI K H1 D (Cnd.placesN n c true) (kindIn (["all", "any"] : List Str)) j G) (ad_zero nD) (fun j G _ z => SqL.of (z.1 _ _ hl)) ?_ ?_
    · rintro j w G hj i
      obtain ⟨z, hzm, t, ad, x, rfl, h1, h2, h3⟩ := Gx.paired_get hp hj
      have jl : j < us.length := (List.getElem?_eq_some_iff.mp hj).1
      obtain ⟨xa, ys, rfl, hx, x0⟩ := cnd_kind h3
      refine ⟨t, _, rfl, ex_t i.1 h1, rfl, _, _, rfl, _, _, rfl, _, _, rfl, rfl, rfl, ?_⟩
      refine ⟨_, rfl, xa, ys, 0, _, rfl, rfl, ex_t i.1 hx, x0, a_NODES, _, rfl, .inr (C_NODES.at_ G), rfl, by decide +kernel, ?_⟩
      rw [if_neg (by decide), iv_strs]
      change ∃ k, V.bl (kindIn (["all", "any"] : List Str) z) = V.bl k ∧ _
      refine ⟨_, rfl, ?_⟩
      by_cases ft : kindIn (["all", "any"] : List Str) z = true
      · exact if_t ft ⟨_, rfl, ad_put i nD (by omega) (by omega) hzm ft h2⟩
      · exact if_f (by simpa using ft) (ad_skip i hzm (by simpa using ft))
    · rintro G ⟨eG, zs, hD, lz, hz⟩
      rw [ul, List.take_length] at hz
      exact k D zs G (e1.trans eG) (fresh_back e1 nD) hD hz
theorem ok_leaves {n : Nat} (n0 : n ≤ 1000000) {f : Addr} {fd : FuncData} (D : Def K mg "leaves" s_leaves f fd ["condition"]) (bi : Bi mg)
    (C_LEAVES : ConT K mg "LEAVES" a_LEAVES ((["always", "asks", "empty", "number"] : List Str).map V.str))
    (D_places : DefO K mg "places" s_places f_places fd_places ["condition", "plain"])
    (G_places : FnOk P w K mg base CX0 (n + 3) f_places fd_places ["condition", "plain"] (spPlaces K n)) :
    FnOk P w K mg base CX0 (n + 4) f fd ["condition"] (spAddrs K n (kindIn (["always", "asks", "empty", "number"] : List Str))) := by
  refine D.fn.ok sc_leaves (fun vs H Q E h => ?_) (fun cdv A outer s0 H vs Q E hr h => ?_)
  · obtain ⟨v, c, ns, rfl, _⟩ := h
    rfl
  · obtain ⟨v, c, ns, rfl, hv, ok, dp, wt, k⟩ := h
    refine ⟨_, (pss_one (ps_ret (pe_lc (own := [("address", 1), ("part", 2), ("_", 3)]) (g := gTup K 3 (gCons (gName 1) (gCons (gName 2) (gCons (gName 3) gNil)))) rfl sc_leaves.nd (pi_list (pe_call G_places (hr.mono (by first | decide | omega)) rfl D_places.mg D_places.fn.kp D_places.bd1 vd1 pass0 (pa_cons (pv 0) pa_nil))) (blkOk_by (N := ["condition", "address", "part", "_"]) (sc := defScope s_leaves) (by decide +kernel)) (fun _ _ _ _ _ => (pg_tup rfl (pgs_cons (pg_name (i := 1) sc_leaves.nd rfl (Or.inl rfl)) (pgs_cons (pg_name (i := 2) sc_leaves.nd rfl (Or.inl rfl)) (pgs_cons (pg_name (i := 3) sc_leaves.nd rfl (Or.inl rfl)) pgs_nil))))) (fun _ _ _ _ _ => (pts_one (pt_cmpR (op_in_seqK (K := K) rfl) (pe_ix (ix_tupK (K := K) rfl) (pv 2) pe_int (fun _ _ => rfl)) (pe_glob (v := .ref a_LEAVES) rfl C_LEAVES.mg rfl) (by rfl)))) (fun _ _ _ _ _ => (pv 1))))), ?_⟩
    refine ⟨_, rfl, v, c, ns, true, rfl, hv, ok, dp, wt, fun l us H1 e1 nl hl hp => ?_⟩
    refine ⟨l, rfl, ⟨_, SqL.of hl⟩, fun D nD => ?_⟩
    have ul : us.length = (Cnd.placesN n c true).length := Paired.length hp
    have b := Cnd.places_len n c true
    refine lc_list (xs := us) (fun j G => AdI K H1 D (Cnd.placesN n c true) (kindIn (["always", "asks", "empty", "number"] : List Str)) j G) (ad_zero nD) (fun j G _ z => SqL.of (z.1 _ _ hl)) ?_ ?_
    · rintro j w G hj i
      obtain ⟨z, hzm, t, ad, x, rfl, h1, h2, h3⟩ := Gx.paired_get hp hj
      have jl : j < us.length := (List.getElem?_eq_some_iff.mp hj).1
      obtain ⟨xa, ys, rfl, hx, x0⟩ := cnd_kind h3
      refine ⟨t, _, rfl, ex_t i.1 h1, rfl, _, _, rfl, _, _, rfl, _, _, rfl, rfl, rfl, ?_⟩
      refine ⟨_, rfl, xa, ys, 0, _, rfl, rfl, ex_t i.1 hx, x0, a_LEAVES, _, rfl, .inr (C_LEAVES.at_ G), rfl, by decide +kernel, ?_⟩
      rw [if_neg (by decide), iv_strs]
      change ∃ k, V.bl (kindIn (["always", "asks", "empty", "number"] : List Str) z) = V.bl k ∧ _
      refine ⟨_, rfl, ?_⟩
      by_cases ft : kindIn (["always", "asks", "empty", "number"] : List Str) z = true
      · exact if_t ft ⟨_, rfl, ad_put i nD (by omega) (by omega) hzm ft h2⟩
      · exact if_f (by simpa using ft) (ad_skip i hzm (by simpa using ft))
    · rintro G ⟨eG, zs, hD, lz, hz⟩
      rw [ul, List.take_length] at hz
      exact k D zs G (e1.trans eG) (fresh_back e1 nD) hD hz
def spDepth (K : PySem.W.Frag) (n : Nat) : Sp := fun vs H Q _ => ∃ (v : V) (c : Cnd) (ns : List Str), vs = [v] ∧ CndAt K H v c ∧ c.ok ns ∧ c.depth < n ∧ c.weight ≤ 6000000 ∧
  ∀ (m : Nat) (H' : Hp), Ex H H' → (∃ z ∈ Cnd.placesN n c true, z.1.length = m) → (∀ z ∈ Cnd.placesN n c true, z.1.length ≤ m) → Q (.int (m : Nat)) H'
theorem ok_depth {n : Nat} (n0 : n ≤ 1000000) {f : Addr} {fd : FuncData} (D : Def K mg "depth" s_depth f fd ["condition"]) (bi : Bi mg)
    (D_addresses : Def K mg "addresses" s_addresses f_addresses fd_addresses ["condition"])
    (G_addresses : FnOk P w K mg base CX0 (n + 4) f_addresses fd_addresses ["condition"] (spAddrs K n fun _ => true)) :
    FnOk P w K mg base CX0 (n + 5) f fd ["condition"] (spDepth K n) := by
  refine D.fn.ok sc_depth (fun vs H Q E h => ?_) (fun cdv A outer s0 H vs Q E hr h => ?_)
  · obtain ⟨v, c, ns, rfl, _⟩ := h
    rfl
  · obtain ⟨v, c, ns, rfl, hv, ok, dp, wt, k⟩ := h
    refine ⟨_, (pss_one (ps_ret (pe_callB (cr_max rfl) (by rfl) bi.max bt_max (pa_cons (pe_lc (own := [("address", 1)]) rfl sc_depth.nd (pi_list (pe_call G_addresses (hr.mono (by first | decide | omega)) rfl D_addresses.mg D_addresses.fn.kp D_addresses.bd .nil pass0 (pa_cons (pv 0) pa_nil))) (blkOk_by (N := ["condition", "address"]) (sc := defScope s_depth) (by decide +kernel)) (fun _ _ _ _ _ => (pg_name (i := 1) sc_depth.nd rfl (Or.inl rfl))) (fun _ _ _ _ _ => pts_nil) (fun _ _ _ _ _ => (pe_callB (call_len_seqK (K := K) rfl) (by rfl) bi.len bt_len (pa_cons (pv 1) pa_nil)))) pa_nil)))), ?_⟩
    refine ⟨_, rfl, v, c, ns, rfl, hv, ok, dp, wt, fun l us H1 e1 nl hl hp => ?_⟩
    rw [List.filter_eq_self.mpr (fun _ _ => rfl)] at hp
    refine ⟨l, rfl, ⟨_, SqL.of hl⟩, fun D nD => ?_⟩
    have ul : us.length = (Cnd.placesN n c true).length := by rw [Paired.length hp, List.length_map]
    have b := Cnd.places_len n c true
    refine lc_list (xs := us) (fun j G => Ex H1 G ∧ G D = some (.lst ((((Cnd.placesN n c true).take j).map fun z => (z.1.length : Int)).map V.int))) ?_ (fun j G _ z => SqL.of (z.1 _ _ hl)) ?_ ?_
    · exact ⟨Ex.new nD, upd_same⟩
    · rintro j w G hj ⟨eG, gD⟩
      obtain ⟨ad, hz, a, rfl, h2⟩ := Gx.paired_get hp hj
      rw [List.getElem?_map] at hz
      obtain ⟨z, hzm, rfl⟩ := Option.map_eq_some_iff.mp hz
      have jl : j < us.length := (List.getElem?_eq_some_iff.mp hj).1
      refine ⟨rfl, _, rfl, a, _, rfl, .inr (ex_t eG h2), _, gD, by rw [List.length_map, List.length_map, List.length_take, sizeLine_eq]; omega, eG.mut nD, ?_⟩
      rw [upd_same, takeS hzm, List.map_append, List.map_append, List.length_map]
      rfl
    · rintro G ⟨eG, gD⟩
      rw [ul, List.take_length] at gD
      refine ⟨D, _, rfl, SqL.of gD, ?_, fun m mem top => ?_⟩
      · have : 0 < (Cnd.placesN n c true).length := by cases n <;> simp [Cnd.placesN]
        rw [List.length_map]; omega
      · obtain ⟨z, hz, rfl⟩ := List.mem_map.mp mem
        refine k z.1.length G (e1.trans eG) ⟨z, hz, rfl⟩ fun y hy => ?_
        have := top _ (List.mem_map.mpr ⟨y, hy, rfl⟩)
        omega
end
end K22

set_option Elab.async false
set_option linter.all false
set_option maxRecDepth 100000
set_option maxHeartbeats 4000000
/-! xs.extend(a tuple) -/
namespace Gx
open PySem PySem.Spec PyProof.Rows L2 Evl
theorem extend_by_tuple (l b : Addr) (ys zs : Array Value) (n : Nat) (o : Obj) (kl : ¬(!ys.isEmpty && Builtin.List.listTooLong (ys.size + zs.size)) = true) (k1 : ys.size ≤ sizeLine) (k2 : ys.size + zs.size ≤ sizeLine + 1) (ht : o.cls = .type "tuple") (m : Nat) (hd : o.data = .seq zs m) :
    PySem.Meets (Builtin.«list.extend» ⟨[.ref l, .ref b], []⟩) (fun _ R s => s.heap.get? l = some { cls := .type "list", dict := none, data := .seq ys n, slots := #[] } ∧ s.heap.get? b = some o ∧
      R (.ok (.ret Value.none)) { s with heap := s.heap.update l (Obj.mapSeq fun x => x ++ zs), toks := s.toks }) := by
  cases o with
  | mk oc od oda os =>
    simp only at ht hd
    subst ht
    subst hd
    refine .of_wp fun prog w A R s h => ?_
    obtain ⟨hp, g, d, tk, oz⟩ := s
    obtain ⟨hl, hb, h⟩ := h
    have a1 := AutoSeq1.idx_int; have a2 := AutoSeq1.sub_tuple_tuple; have a3 := AutoSeq1.sub_list_list; have a4 := AutoSeq1.sub_tuple_list; have a5 := AutoSeq1.sub_list_tuple
    have k3 : (ys ++ zs).size ≤ sizeLine + 1 := by rw [Array.size_append]; exact k2
    wp_walk using (wpAny_updateSeq hl rfl (hz := k1) (_hz' := k3)), AutoSeq1.wpAny_loadPart' hl, AutoSeq1.wpAny_loadPart' hb
    exact ⟨_, rfl, h⟩
def rExtT (K : PySem.W.Frag) : V → List V → Hp → VK → Prop := fun x vs H Q => ∃ l b xs zs, x = .ref l ∧ vs = [.ref b] ∧ H l = some (.lst xs) ∧ SqT K H b zs ∧ xs.length + zs.length ≤ sizeLine ∧ Q .non (upd H l (.lst (xs ++ zs)))
theorem mt_extT {X : Cx} : MtM X "list.extend" (rExtT X.K) := by
  intro pins s σ H x vs v us Q I rx rv h
  obtain ⟨l, b, xs, zs, rfl, rfl, hH, hB, hz, q⟩ := h
  cases rx
  obtain ⟨u, rfl, ru⟩ := rv.one
  cases ru
  obtain ⟨z, its, n, r, hl, e⟩ := I.lstM hH
  obtain ⟨its2, r2, ⟨o, eo, oc, m, od⟩, z2⟩ := I.tuple hB
  have l2 : zs.length = its2.length := r2.length
  have sz : its.toArray.size + its2.toArray.size ≤ sizeLine := by rw [List.size_toArray, List.size_toArray]; omega
  refine call_meets F.slot_list_extend ⟨_, e, rfl⟩ F.entry_list_extend (F.args_list_extend_2 _ _) (extend_by_tuple l b its.toArray its2.toArray n o ?_ (by rw [List.size_toArray]; omega) (by omega) oc m od) ⟨e, eo, ?_⟩
  · rw [notLongL sz, Bool.and_false]; exact Bool.false_ne_true
  · refine ⟨.non, _, I.lset (its' := its ++ its2) hH e (by simp) (r.append r2) (by rw [List.length_append]; omega), rfl, q⟩
end Gx

set_option Elab.async false
set_option linter.all false
set_option maxRecDepth 100000
set_option maxHeartbeats 4000000
namespace K22
open PySem PySem.Spec PyProof.Rows L2 Evl Gx
abbrev s_all_tests : Stmt := topS 14
theorem sc_all_tests : FnScope ["condition", "found", "waiting", "part"] ["condition"] (defScope s_all_tests) := ⟨rfl, rfl, rfl, by decide +kernel, rfl, by decide +kernel, by decide +kernel⟩
def tests3 : List Str := ["asks", "empty", "number"]
def lists3 : List Str := ["all", "any", "first"]
def testsN : Nat → Cnd → List Cnd
  | 0, _ => []
  | n + 1, c => if c.kind ∈ tests3 then [c] else c.parts.flatMap (testsN n)
theorem testsN_more : ∀ (n : Nat) (c : Cnd), c.depth < n → testsN (n + 1) c = testsN n c
  | 0, c, h => absurd h (Nat.not_lt_zero _)
  | n + 1, c, h => by
    rw [testsN, testsN]
    by_cases t : c.kind ∈ tests3
    · rw [if_pos t, if_pos t]
    · rw [if_neg t, if_neg t]
      have : ∀ ps : List Cnd, (∀ p ∈ ps, p.depth < n) → ps.flatMap (testsN (n + 1)) = ps.flatMap (testsN n) := fun ps => by
        induction ps with
        | nil => intro _; rfl
        | cons p ps ih =>
          intro hp
          rw [List.flatMap_cons, List.flatMap_cons, testsN_more n p (hp p List.mem_cons_self), ih fun q hq => hp q (List.mem_cons_of_mem _ hq)]
      exact this _ fun p hp => by have := Cnd.parts_depth hp; omega
theorem testsN_parts {n : Nat} {c : Cnd} (h : c.depth < n) (t : c.kind ∉ tests3) : testsN n c = c.parts.flatMap (testsN n) := by
  rw [← testsN_more n c h, testsN, if_neg t]
theorem testsN_self {n : Nat} {c : Cnd} (h : c.depth < n) (t : c.kind ∈ tests3) : testsN n c = [c] := by
  rw [← testsN_more n c h, testsN, if_pos t]
def spAllTests (K : PySem.W.Frag) (n : Nat) : Sp := fun vs H Q _ => ∃ (v : V) (c : Cnd) (ns : List Str), vs = [v] ∧ CndAt K H v c ∧ c.ok ns ∧ c.depth < n ∧ c.weight ≤ 6000000 ∧
  ∀ (l : Addr) (us : List V) (ts : List Cnd) (H' : Hp), Ex H H' → H l = none → H' l = some (.lst us) → CndsAt K H' us ts → ts.Perm (testsN n c) → Q (.ref l) H'
theorem cnds_drop {K : PySem.W.Frag} {H : Hp} : ∀ {cs : List Cnd} {q : Cnd} {ws : List V}, CndsAt K H ws (cs ++ [q]) → ws.length = cs.length + 1 → CndsAt K H ws.dropLast cs
  | [], q, ws, h, l => by
    obtain ⟨x, r, rfl, _, hr⟩ := h
    have : r = [] := List.eq_nil_of_length_eq_zero (by simpa using l)
    subst this
    exact rfl
  | c :: cs, q, ws, h, l => by
    obtain ⟨x, r, rfl, hx, hr⟩ := h
    have l2 : r.length = cs.length + 1 := by simpa using l
    have := cnds_drop (cs := cs) hr l2
    rw [List.dropLast_cons_of_ne_nil (fun z => by rw [z] at l2; simp at l2)]
    exact ⟨x, _, rfl, hx, this⟩
theorem weight_40 : ∀ cs : List Cnd, 40 * cs.length ≤ (cs.map Cnd.weight).sum
  | [] => by simp
  | c :: cs => by
    have := weight_40 cs
    have := c.weight_pos
    simp only [List.length_cons, List.map_cons, List.sum_cons]; omega
theorem list_parts {K : PySem.W.Frag} {H : Hp} {a : Addr} {q : Cnd} (h : CndAt K H (.ref a) q) (t : q.kind ∈ lists3) : ∃ (b : Addr) (xs : List V), SqT K H a [.str q.kind, .ref b] ∧ SqT K H b xs ∧ CndsAt K H xs q.parts := by
  cases q with
  | leaf l => cases l <;> exact absurd t (by simp only [Cnd.kind, Leaf.kind]; decide +kernel)
  | not c => exact absurd t (by simp only [Cnd.kind]; decide +kernel)
  | case ws ts e => exact absurd t (by simp only [Cnd.kind]; decide +kernel)
  | node k cs =>
    simp only [CndAt] at h
    obtain ⟨a', b, xs, e, h1, h2, h3⟩ := h
    cases e
    exact ⟨b, xs, h1, h2, h3⟩
section
variable {P : Program} {w : World} {K : PySem.W.Frag} {mg : Str → Option Value} {base : Heap} {a_LISTS a_TESTS f_parts : Addr} {fd_parts : FuncData}
theorem ok_all_tests {n : Nat} {f : Addr} {fd : FuncData} (D : Def K mg "all_tests" s_all_tests f fd ["condition"]) (bi : Bi mg)
    (C_LISTS : ConT K mg "LISTS" a_LISTS (lists3.map V.str)) (C_TESTS : ConT K mg "TESTS" a_TESTS (tests3.map V.str))
    (D_parts : Def K mg "parts" s_parts f_parts fd_parts ["condition"])
    (G_parts : FnOk P w K mg base CX0 1 f_parts fd_parts ["condition"] (spParts K)) :
    FnOk P w K mg base CX0 2 f fd ["condition"] (spAllTests K n) := by
  refine D.fn.ok sc_all_tests (fun vs H Q E h => ?_) (fun cdv A outer s0 H vs Q E hr h => ?_)
  · obtain ⟨v, c, ns, rfl, _⟩ := h
    rfl
  · obtain ⟨v, c, ns, rfl, hv, ok, dp, wt, k⟩ := h
    refine ⟨_, (pss_cons (ps_par (i := 1) (j := 2) rfl sc_all_tests.nd rfl rfl (by decide) rfl rfl (pa_cons (pe_lst pa_nil) (pa_cons (pe_lst (pa_cons (pv 0) pa_nil)) pa_nil)) (by rfl))
  (pss_cons (ps_while PassesOwn.never (pt_cmpR op_gt (pe_callB call_len_seq (by rfl) bi.len bt_len (pa_cons (pv 2) pa_nil)) pe_int (nomark _))
    (pss_cons (ps_set (i := 3) sc_all_tests.nd rfl (Or.inl rfl) (pe_bm0 PySem.F.plainAttrs_list PySem.F.slot_list_pop PySem.F.type_list_pop mt_pop (pv 2)))
    (pss_one (ps_if (pt_cmpR op_in_seq (pe_ix (ix_tupK (K := K) rfl) (pv 3) pe_int (fun _ _ => rfl)) (pe_glob (v := .ref a_TESTS) rfl C_TESTS.mg rfl) (by rfl))
      (pss_one (ps_expr (pe_bm PySem.F.plainAttrs_list PySem.F.slot_list_append PySem.F.type_list_append mt_append (pv 1) (pa_cons (pv 3) pa_nil))))
      (pss_one (ps_if (pt_cmpR op_in_seq (pe_ix (ix_tupK (K := K) rfl) (pv 3) pe_int (fun _ _ => rfl)) (pe_glob (v := .ref a_LISTS) rfl C_LISTS.mg rfl) (by rfl))
        (pss_one (ps_expr (pe_bm PySem.F.plainAttrs_list PySem.F.slot_list_extend PySem.F.type_list_extend mt_extT (pv 2) (pa_cons (pe_ix (ix_tupK (K := K) rfl) (pv 3) pe_int (fun _ _ => rfl)) pa_nil))))
        (pss_one (ps_expr (pe_bm PySem.F.plainAttrs_list PySem.F.slot_list_extend PySem.F.type_list_extend mt_extend (pv 2) (pa_cons (pe_call G_parts (hr.mono (by first | decide | omega)) rfl D_parts.mg D_parts.fn.kp D_parts.bd .nil pass0 (pa_cons (pv 3) pa_nil)) pa_nil))))))))))
  (pss_one (ps_ret (pv 1))))), ?_⟩
    refine ⟨Nat.zero_le _, fun F nF => ?_⟩
    have X_H1 : Ex H (upd H F (.lst [])) := Ex.new nF
    have F_H1 : upd H F (.lst []) F = some (.lst []) := upd_same
    generalize upd H F (.lst []) = H1 at X_H1 F_H1 ⊢
    refine ⟨_, rfl, sz1, fun W nW => ?_⟩
    have X_H2 : Ex H1 (upd H1 W (.lst [v])) := Ex.new nW
    have F_H2 : upd H1 W (.lst [v]) W = some (.lst [v]) := upd_same
    generalize upd H1 W (.lst [v]) = H2 at X_H2 F_H2 ⊢
    have x02 := X_H1.trans X_H2
    have nW0 : H W = none := fresh_back X_H1 nW
    have FW : F ≠ W := fun z => by rw [z] at F_H1; rw [F_H1] at nW; cases nW
    refine ⟨_, _, rfl, ?_⟩
    refine ⟨fun m σ G => ∃ (x3 : Option V) (us ws : List V) (ts cs : List Cnd), m = (cs.map Cnd.weight).sum ∧ σ = [some v, some (.ref F), some (.ref W), x3] ∧ Ex H G ∧ G F = some (.lst us) ∧ CndsAt K G us ts ∧ G W = some (.lst ws) ∧ CndsAt K G ws cs ∧
      (ts ++ cs.flatMap (testsN n)).Perm (testsN n c) ∧ (∀ p ∈ cs, p.ok ns ∧ p.depth < n) ∧ 40 * ts.length + (cs.map Cnd.weight).sum ≤ c.weight, ⟨_, none, [], [v], [], [c], rfl, rfl, x02, X_H2 _ _ F_H1, rfl, F_H2, cnds_one (cndAt_toI (.of x02) _ _ hv), ?_, ?_, ?_⟩, ?_⟩
    · rw [List.nil_append, List.flatMap_cons, List.flatMap_nil, List.append_nil]
    · intro p hp
      rw [List.mem_singleton] at hp
      subst hp
      exact ⟨ok, dp⟩
    · simp
    · rintro m σ G ⟨x3, us, ws, ts, cs, rfl, rfl, eG, gF, ht, gW, hc, pm, al, le⟩
      have wl := cnds_len hc
      refine ⟨_, rfl, W, ws, rfl, .inl (SqL.of gW), ws.length, 0, rfl, rfl, _, rfl, ?_⟩
      rcases List.eq_nil_or_concat cs with rfl | ⟨cs', q, rfl⟩
      · have w0 : ws = [] := List.eq_nil_of_length_eq_zero (by simpa using wl)
        subst w0
        rw [if_neg (by decide)]
        rw [List.flatMap_nil, List.append_nil] at pm
        exact ⟨_, rfl, k F us ts G eG nF gF ht pm⟩
      · rw [List.concat_eq_append] at *
        have w1 : ws.length = cs'.length + 1 := by simpa using wl
        rw [if_pos (decide_eq_true (by omega))]
        obtain ⟨y, hy⟩ : ∃ y, ws[ws.length - 1]? = some y := ⟨_, List.getElem?_eq_getElem (by omega)⟩
        obtain ⟨q', hq', hqa⟩ := cnds_get hc hy
        obtain rfl : q = q' := by
          rw [w1, Nat.add_sub_cancel, List.getElem?_append_right (Nat.le_refl _), Nat.sub_self] at hq'
          exact Option.some.inj hq'
        have hc' : CndsAt K G ws.dropLast cs' := cnds_drop hc w1
        refine ⟨_, fun σ' H' z => z, ?_⟩
        obtain ⟨a, ys, rfl, ha, h0⟩ := cnd_kind hqa
        refine ⟨_, rfl, .inl ⟨rfl, _, SqL.of gW⟩, W, ws, .ref a, rfl, rfl, gW, hy, ?_⟩
        have i2 : ExI G (upd G W (.lst ws.dropLast)) := ExI.put gW rfl
        have e2 : Ex H (upd G W (.lst ws.dropLast)) := eG.mut nW0
        have gF2 : upd G W (.lst ws.dropLast) F = some (.lst us) := by rw [upd_ne FW]; exact gF
        have gW2 : upd G W (.lst ws.dropLast) W = some (.lst ws.dropLast) := upd_same
        generalize upd G W (.lst ws.dropLast) = G2 at i2 e2 gF2 gW2 ⊢
        have ha2 := i2.sq ha
        have ht2 := cndsAt_toI i2 _ _ ht
        have hc2 := cndsAt_toI i2 _ _ hc'
        have hq2 := cndAt_toI i2 _ _ hqa
        obtain ⟨okq, dq⟩ := al q (List.mem_append_right _ (List.mem_singleton.mpr rfl))
        have al' : ∀ p ∈ cs', p.ok ns ∧ p.depth < n := fun p hp => al p (List.mem_append_left _ hp)
        have ws' : ((cs' ++ [q]).map Cnd.weight).sum = (cs'.map Cnd.weight).sum + q.weight := by simp
        have wq := q.weight_pos
        have pw := q.parts_weight
        rw [List.flatMap_append, List.flatMap_cons, List.flatMap_nil, List.append_nil] at pm
        have dl : ws.dropLast.length = cs'.length := cnds_len hc2
        refine ⟨_, rfl, a, ys, 0, _, rfl, rfl, ha2, h0, a_TESTS, _, rfl, .inr (C_TESTS.at_ G2), rfl, by decide +kernel, ?_⟩
        rw [if_neg (by decide), iv_strs]
        refine ⟨_, rfl, if_d (fun t => ?_) fun t => ?_⟩
        · have ul := cnds_len ht
          refine ⟨_, rfl, .inl ⟨rfl, _, SqL.of gF2⟩, _, rfl, F, us, .ref a, rfl, rfl, gF2, by rw [sizeLine_eq]; omega, ?_⟩
          have fi : ExI G2 (upd G2 F (.lst (us ++ [.ref a]))) := ExI.put gF2 rfl
          refine ⟨(cs'.map Cnd.weight).sum, by omega, some (.ref a), us ++ [.ref a], ws.dropLast, ts ++ [q], cs', rfl, rfl, e2.mut nF, upd_same, cnds_app (cndsAt_toI fi _ _ ht2) (cnds_one (cndAt_toI fi _ _ hq2)), by rw [upd_ne FW.symm]; exact gW2, cndsAt_toI fi _ _ hc2, ?_, al', by rw [List.length_append]; show 40 * (_ + 1) + _ ≤ _; omega⟩
          rw [testsN_self dq t] at pm
          rw [List.append_assoc]
          exact (List.Perm.append_left ts List.perm_append_comm).trans pm
        · refine ⟨_, rfl, a, ys, 0, _, rfl, rfl, ha2, h0, a_LISTS, _, rfl, .inr (C_LISTS.at_ G2), rfl, by decide +kernel, ?_⟩
          rw [if_neg (by decide), iv_strs]
          refine ⟨_, rfl, if_d (fun t2 => ?_) fun t2 => ?_⟩
          · obtain ⟨b, xs, hb0, hb, hx⟩ := list_parts hq2 t2
            refine ⟨_, rfl, .inl ⟨rfl, _, SqL.of gW2⟩, _, rfl, a, _, 1, .ref b, rfl, rfl, hb0, rfl, W, b, ws.dropLast, xs, rfl, rfl, gW2, hb, ?_, ?_⟩
            · have := cnds_len hx
              have h1 := weight_40 cs'
              have h2 := weight_40 q.parts
              rw [sizeLine_eq]; omega
            · skip
              have fi : ExI G2 (upd G2 W (.lst (ws.dropLast ++ xs))) := ExI.put ((Ex.refl G2) _ _ gW2) rfl
              have fo : ExI G2 (upd G2 W (.lst (ws.dropLast ++ xs))) := (ExI.of (Ex.refl G2)).trans fi
              refine ⟨(cs'.map Cnd.weight).sum + (q.parts.map Cnd.weight).sum, by omega, some (.ref a), us, ws.dropLast ++ xs, ts, cs' ++ q.parts, by simp, rfl, (e2.trans (Ex.refl G2)).mut nW0, by rw [upd_ne FW]; exact (Ex.refl G2) _ _ gF2, cndsAt_toI fo _ _ ht2, upd_same, cnds_app (cndsAt_toI fo _ _ hc2) (cndsAt_toI fi _ _ hx), ?_, fun p hp => ?_, by rw [List.map_append, List.sum_append]; omega⟩
              · rw [testsN_parts dq t] at pm
                rw [List.flatMap_append]
                exact pm
              · rcases List.mem_append.mp hp with hp | hp
                · exact al' p hp
                · have := Cnd.parts_depth hp
                  exact ⟨Cnd.parts_ok okq p hp, by omega⟩
          · refine ⟨_, rfl, .inl ⟨rfl, _, SqL.of gW2⟩, _, rfl, .ref a, q, ns, rfl, hq2, okq, by omega, fun l xs G3 e3 nl hl hx => ?_⟩
            refine ⟨W, l, ws.dropLast, xs, rfl, rfl, e3 _ _ gW2, hl, ?_, ?_⟩
            · have := cnds_len hx
              have h1 := weight_40 cs'
              have h2 := weight_40 q.parts
              rw [sizeLine_eq]; omega
            · skip
              have fi : ExI G3 (upd G3 W (.lst (ws.dropLast ++ xs))) := ExI.put (e3 _ _ gW2) rfl
              have fo : ExI G2 (upd G3 W (.lst (ws.dropLast ++ xs))) := (ExI.of e3).trans fi
              refine ⟨(cs'.map Cnd.weight).sum + (q.parts.map Cnd.weight).sum, by omega, some (.ref a), us, ws.dropLast ++ xs, ts, cs' ++ q.parts, by simp, rfl, (e2.trans e3).mut nW0, by rw [upd_ne FW]; exact e3 _ _ gF2, cndsAt_toI fo _ _ ht2, upd_same, cnds_app (cndsAt_toI fo _ _ hc2) (cndsAt_toI fi _ _ hx), ?_, fun p hp => ?_, by rw [List.map_append, List.sum_append]; omega⟩
              · rw [testsN_parts dq t] at pm
                rw [List.flatMap_append]
                exact pm
              · rcases List.mem_append.mp hp with hp | hp
                · exact al' p hp
                · have := Cnd.parts_depth hp
                  exact ⟨Cnd.parts_ok okq p hp, by omega⟩
end
end K22

set_option Elab.async false
set_option linter.all false
set_option maxRecDepth 100000
set_option maxHeartbeats 4000000
namespace K22
open PySem PySem.Spec PyProof.Rows L2 Evl Gx
abbrev s_l_parts : Stmt := topS 30
theorem sc_l_parts : FnScope ["_law_condition", "_law_found_here", "_law_when", "_law_then"] ["_law_condition"] (defScope s_l_parts) := ⟨rfl, rfl, rfl, by decide +kernel, rfl, by decide +kernel, by decide +kernel⟩
abbrev s_l_spots : Stmt := topS 31
theorem sc_l_spots : FnScope ["_law_condition", "_law_spot", "_law_found_here", "_law_at", "_law_part"] ["_law_condition", "_law_spot"] (defScope s_l_spots) := ⟨rfl, rfl, rfl, by decide +kernel, rfl, by decide +kernel, by decide +kernel⟩
def spLParts (K : PySem.W.Frag) : Sp := fun vs H Q _ => ∃ v c ns, vs = [v] ∧ CndAt K H v c ∧ c.ok ns ∧ c.weight ≤ 16000000 ∧
  ∀ (l : Addr) (xs : List V) (H' : Hp), Ex H H' → H l = none → H' l = some (.lst xs) → CndsAt K H' xs c.parts → Q (.ref l) H'
theorem lkind_not (l : Gx.Leaf) : inV (.str l.kind) [.str "all", .str "any", .str "first"] = false ∧ decide (V.str l.kind = .str "not") = false ∧ decide (V.str l.kind = .str "case") = false := by
  have : ∀ x ∈ (["always", "asks", "empty", "number"] : List Str), inV (.str x) [.str "all", .str "any", .str "first"] = false ∧ decide (V.str x = .str "not") = false ∧ decide (V.str x = .str "case") = false := by decide +kernel
  exact this _ (by cases l <;> simp [Leaf.kind])
theorem kind_three {x : Str} (h : x ∈ kinds) : inV (.str x) [.str "all", .str "any", .str "first"] = true ∧ decide (V.str x = .str "not") = false ∧ decide (V.str x = .str "case") = false := by
  have : ∀ x ∈ kinds, inV (.str x) [.str "all", .str "any", .str "first"] = true ∧ decide (V.str x = .str "not") = false ∧ decide (V.str x = .str "case") = false := by decide +kernel
  exact this x h
/-- where each part stands, and the part -/
def spotG (pre : List Nat) (z : Plc) : List Nat × Cnd := (pre ++ z.1, z.2.1)
theorem below_spot {f : Cnd → Bool → List Plc} (pre : List Nat) : ∀ (L L' : List (Cnd × Bool)) (i : Nat), (∀ q ∈ L.map (·.1), ∀ t t' pre, (f q t).map (spotG pre) = (f q t').map (spotG pre)) → L.map (·.1) = L'.map (·.1) → (belowN f L i).map (spotG pre) = (belowN f L' i).map (spotG pre)
  | [], [], _, _, _ => rfl
  | [], _ :: _, _, _, h => by simp at h
  | _ :: _, [], _, _, h => by simp at h
  | x :: L, y :: L', i, hf, h => by
    simp only [List.map_cons, List.cons.injEq] at h
    have ih := below_spot pre L L' (i + 1) (fun q hq => hf q (by rw [List.map_cons]; exact List.mem_cons_of_mem _ hq)) h.2
    simp only [belowN, List.map_append, List.map_map, ih]
    congr 1
    have e := hf x.1 (by rw [List.map_cons]; exact List.mem_cons_self) x.2 y.2 (pre ++ [i])
    have g : ∀ zs : List Plc, zs.map (spotG pre ∘ fun z => (i :: z.1, z.2)) = zs.map (spotG (pre ++ [i])) := fun zs => List.map_congr_left fun z _ => by simp [spotG]
    rw [g, g, ← h.1]; exact e
theorem zip_fst {c : Cnd} {ns : List Str} (ok : c.ok ns) (t : Bool) : (c.parts.zip (c.plains t)).map (·.1) = c.parts := by
  rw [show (fun x : Cnd × Bool => x.1) = Prod.fst from rfl, List.map_fst_zip]
  rw [Cnd.plains_len ok t]; exact Nat.le_refl _
theorem places_spot : ∀ (n : Nat) (c : Cnd) (ns : List Str), c.ok ns → ∀ (t t' : Bool) (pre : List Nat), (Cnd.placesN n c t).map (spotG pre) = (Cnd.placesN n c t').map (spotG pre)
  | 0, c, ns, ok, t, t', pre => rfl
  | n + 1, c, ns, ok, t, t', pre => by
    simp only [Cnd.placesN, List.map_cons]
    refine congr (congrArg _ rfl) (below_spot pre _ _ 0 (fun q hq t t' pre => ?_) ?_)
    · rw [zip_fst ok] at hq
      exact places_spot n q ns (Cnd.parts_ok ok q hq) t t' pre
    · rw [zip_fst ok, zip_fst ok]
def SpAt (K : PySem.W.Frag) (H : Hp) (v : V) (q : List Nat × Cnd) : Prop := ∃ (t ad : Addr) (x : V), v = .ref t ∧ SqT K H t [.ref ad, x] ∧ SqT K H ad (q.1.map natP) ∧ CndAt K H x q.2
theorem SpAt.toI {K : PySem.W.Frag} {H H' : Hp} {v : V} {q : List Nat × Cnd} (h : SpAt K H v q) (e : ExI H H') : SpAt K H' v q := by
  obtain ⟨t, ad, x, h1, h2, h3, h4⟩ := h
  exact ⟨t, ad, x, h1, e.sq h2, e.sq h3, cndAt_toI e _ _ h4⟩
section
variable {P : Program} {w : World} {K : PySem.W.Frag} {mg : Str → Option Value} {base : Heap} {f_l_parts f_l_spots : Addr} {fd_l_parts fd_l_spots : FuncData}
theorem ok_lparts {f : Addr} {fd : FuncData} (D : Def K mg "_law_parts" s_l_parts f fd ["_law_condition"]) (bi : Bi mg) :
    FnOk P w K mg base CX0 1 f fd ["_law_condition"] (spLParts K) := by
  refine D.fn.ok sc_l_parts (fun vs H Q E h => ?_) (fun cdv A outer s0 H vs Q E hr h => ?_)
  · obtain ⟨v, c, ns, rfl, _⟩ := h
    rfl
  · obtain ⟨v, c, ns, rfl, hv, ok, wt, k⟩ := h
    refine ⟨_, (pss_cons (ps_if (pt_cmpR op_in_seq (pe_ix (ix_tupK (K := K) rfl) (pv 0) pe_int (fun _ _ => rfl)) (pe_tup (pa_cons pe_str (pa_cons pe_str (pa_cons pe_str pa_nil)))) (by rfl))
    (pss_one (ps_ret (pe_callTy call_list_of (by rfl) bi.list bt_list (pa_cons (pe_ix (ix_tupK (K := K) rfl) (pv 0) pe_int (fun _ _ => rfl)) pa_nil))))
    pss_nil)
  (pss_cons (ps_if (pt_cmpR op_eq (pe_ix (ix_tupK (K := K) rfl) (pv 0) pe_int (fun _ _ => rfl)) pe_str (nomark _))
    (pss_one (ps_ret (pe_lst (pa_cons (pe_ix (ix_tupK (K := K) rfl) (pv 0) pe_int (fun _ _ => rfl)) pa_nil))))
    pss_nil)
  (pss_cons (ps_set (i := 1) sc_l_parts.nd rfl (Or.inl rfl) (pe_lst pa_nil))
  (pss_cons (ps_if (pt_cmpR op_eq (pe_ix (ix_tupK (K := K) rfl) (pv 0) pe_int (fun _ _ => rfl)) pe_str (nomark _))
    (pss_cons (ps_for PassesOwn.never rfl (pi_tup (pe_ix (ix_tupK (K := K) rfl) (pv 0) pe_int (fun _ _ => rfl))) (pg_tup rfl (pgs_cons (pg_name (i := 2) sc_l_parts.nd rfl (Or.inl rfl)) (pgs_cons (pg_name (i := 3) sc_l_parts.nd rfl (Or.inl rfl)) pgs_nil)))
      (pss_one (ps_expr (pe_bm PySem.F.plainAttrs_list PySem.F.slot_list_extend PySem.F.type_list_extend mt_extend (pv 1) (pa_cons (pe_lst (pa_cons (pv 2) (pa_cons (pv 3) pa_nil))) pa_nil)))))
    (pss_one (ps_expr (pe_bm PySem.F.plainAttrs_list PySem.F.slot_list_append PySem.F.type_list_append mt_append (pv 1) (pa_cons (pe_ix (ix_tupK (K := K) rfl) (pv 0) pe_int (fun _ _ => rfl)) pa_nil)))))
    pss_nil)
  (pss_one (ps_ret (pv 1))))))), ?_⟩
    cases c with
    | leaf l =>
      obtain ⟨a, ys, rfl, ha, h0⟩ := cnd_kind hv
      obtain ⟨k1, k2, k3⟩ := lkind_not l
      refine ⟨_, rfl, a, _, 0, .str l.kind, rfl, rfl, ha, h0, sz3, fun t0 n0 => ⟨t0, _, rfl, .inr (SqT.of upd_same), rfl, by decide +kernel, _, rfl, if_f k1 ?_⟩⟩
      have x0 := Ex.new (o := .tup [.str "all", .str "any", .str "first"]) n0
      have ha1 := ex_t x0 ha
      refine ⟨_, rfl, a, _, 0, .str l.kind, rfl, rfl, ha1, h0, rfl, _, rfl, if_f k2 ⟨by decide, fun F nF => ?_⟩⟩
      have x1 := x0.trans (Ex.new (o := .lst []) nF)
      exact ⟨_, rfl, a, _, 0, .str l.kind, rfl, rfl, ex_t (Ex.new nF) ha1, h0, rfl, _, rfl, if_f k3 ⟨_, rfl, k F [] _ x1 (fresh_back x0 nF) upd_same rfl⟩⟩
    | not c =>
      obtain ⟨a, x, rfl, ha, hx⟩ := hv
      refine ⟨_, rfl, a, _, 0, _, rfl, rfl, ha, rfl, sz3, fun t0 n0 => ⟨t0, _, rfl, .inr (SqT.of upd_same), rfl, by decide +kernel, _, rfl, if_f (by decide +kernel) ?_⟩⟩
      have x0 := Ex.new (o := .tup [.str "all", .str "any", .str "first"]) n0
      have ha1 := ex_t x0 ha
      exact ⟨_, rfl, a, _, 0, _, rfl, rfl, ha1, rfl, rfl, _, rfl, if_t (by decide +kernel) ⟨_, rfl, a, _, 1, x, rfl, rfl, ha1, rfl, sz1, fun F nF =>
        k F [x] _ (x0.trans (Ex.new nF)) (fresh_back x0 nF) upd_same (cnds_one (hx.to (x0.trans (Ex.new nF))))⟩⟩
    | node kd cs =>
      obtain ⟨a, b, xs, rfl, ha, hb, hxs⟩ := hv
      rw [Cnd.ok] at ok
      obtain ⟨k1, _, _⟩ := kind_three ok.1
      refine ⟨_, rfl, a, _, 0, _, rfl, rfl, ha, rfl, sz3, fun t0 n0 => ⟨t0, _, rfl, .inr (SqT.of upd_same), rfl, by decide +kernel, _, rfl, if_t k1 ?_⟩⟩
      have x0 := Ex.new (o := .tup [.str "all", .str "any", .str "first"]) n0
      refine ⟨_, rfl, a, _, 1, _, rfl, rfl, ex_t x0 ha, rfl, ?_⟩
      exact ⟨b, xs, rfl, .inr (ex_t x0 hb), fun F nF => k F xs _ (x0.trans (Ex.new nF)) (fresh_back x0 nF) upd_same (hxs.to (x0.trans (Ex.new nF)))⟩
    | case ws ts e =>
      obtain ⟨a, b, qs, xs, ys, y, rfl, ha, hb, hz, hxs, hys, hy⟩ := hv
      rw [Cnd.ok] at ok
      rw [Cnd.weight] at wt
      obtain ⟨ok1, _⟩ := ok
      have wl := weightL_len ws
      have wl2 := weightL_len ts
      obtain ⟨z1, z2⟩ := zip3_len hz
      have xl := cnds_len hxs
      have yl := cnds_len hys
      refine ⟨_, rfl, a, _, 0, _, rfl, rfl, ha, rfl, sz3, fun t0 n0 => ⟨t0, _, rfl, .inr (SqT.of upd_same), rfl, by decide +kernel, _, rfl, if_f (by decide +kernel) ?_⟩⟩
      have x0 := Ex.new (o := .tup [.str "all", .str "any", .str "first"]) n0
      have ha1 := ex_t x0 ha
      refine ⟨_, rfl, a, _, 0, _, rfl, rfl, ha1, rfl, rfl, _, rfl, if_f (by decide +kernel) ⟨by decide, fun F nF => ?_⟩⟩
      have x1 := x0.trans (Ex.new (o := .lst []) nF)
      have nF0 : H F = none := fresh_back x0 nF
      refine ⟨_, rfl, a, _, 0, _, rfl, rfl, ex_t x1 ha, rfl, rfl, _, rfl, if_t (by decide +kernel) ?_⟩
      refine ⟨_, rfl, a, _, 1, .ref b, rfl, rfl, ex_t x1 ha, rfl, b, rfl, ⟨_, ex_t x1 hb⟩, for_tup (xs := qs.map V.ref) (fun i σ H' => ∃ (x2 x3 : Option V) (us : List V), σ = [some (.ref a), some (.ref F), x2, x3] ∧ Ex H H' ∧
        H' F = some (.lst us) ∧ CndsAt K H' us (inter (ws.take i) (ts.take i))) ?_ (fun i σ H' _ ⟨_, _, _, _, e, _⟩ => ex_t e hb) ?_ ?_⟩
      · exact ⟨none, none, [], rfl, x1, upd_same, rfl⟩
      · rintro i z σ H1 hi ⟨x2, x3, us, rfl, e1, hF, hus⟩
        obtain ⟨q, x, y', rfl, hx, hy', hq⟩ := zip3_get hz hi
        obtain ⟨c, hc, hca⟩ := cnds_get hxs hx
        obtain ⟨d, hd, hda⟩ := cnds_get hys hy'
        have il : i < ws.length := (List.getElem?_eq_some_iff.mp hc).1
        have ul := cnds_len hus
        rw [inter_len (by rw [List.length_take, List.length_take]; omega), List.length_take] at ul
        refine ⟨q, _, rfl, ex_t e1 hq, rfl, _, _, rfl, _, _, rfl, rfl, _, rfl, .inl ⟨rfl, _, SqL.of hF⟩, _, rfl, _, rfl, sz2, fun L nL => ⟨F, L, us, [x, y'], rfl, rfl, (Ex.new nL) _ _ hF, upd_same, ?_, ?_⟩⟩
        · exact Nat.le_trans (show us.length + 2 ≤ 10000000 by omega) (by decide)
        · have e2 := e1.trans (Ex.new (o := .lst [x, y']) nL)
          have ei : ExI (upd H1 L (.lst [x, y'])) (upd (upd H1 L (.lst [x, y'])) F (.lst (us ++ [x, y']))) := ExI.put ((Ex.new nL) _ _ hF) rfl
          refine ⟨_, _, us ++ [x, y'], rfl, e2.mut nF0, upd_same, ?_⟩
          rw [takeS hc, takeS hd, inter_app (by rw [List.length_take, List.length_take]; omega)]
          exact cnds_app (cndsAt_toI ei _ _ (hus.to (Ex.new nL))) ⟨x, [y'], rfl, cndAt_toI ei _ _ (hca.to e2), y', [], rfl, cndAt_toI ei _ _ (hda.to e2), rfl⟩
      · rintro σ H1 ⟨x2, x3, us, rfl, e1, hF, hus⟩
        rw [List.length_map, show ws.take qs.length = ws by rw [List.take_of_length_le (by omega)], show ts.take qs.length = ts by rw [List.take_of_length_le (by omega)]] at hus
        have ul := cnds_len hus
        rw [inter_len ok1] at ul
        refine ⟨_, rfl, .inl ⟨rfl, _, SqL.of hF⟩, _, rfl, a, _, 2, y, rfl, rfl, ex_t e1 ha, rfl, F, us, y, rfl, rfl, hF, ?_, _, rfl, ?_⟩
        · exact Nat.lt_of_le_of_lt (show us.length ≤ 10000000 by omega) (by decide)
        · have ei : ExI H1 (upd H1 F (.lst (us ++ [y]))) := ExI.put hF rfl
          exact k F (us ++ [y]) _ (e1.mut nF0) nF0 upd_same (cnds_app (cndsAt_toI ei _ _ hus) (cnds_one (cndAt_toI ei _ _ (hy.to e1))))
def spSpots (K : PySem.W.Frag) (n : Nat) : Sp := fun vs H Q _ => ∃ (v : V) (ad : Addr) (c : Cnd) (ns : List Str) (pre : List Nat), vs = [v, .ref ad] ∧ CndAt K H v c ∧ SqT K H ad (pre.map natP) ∧ c.ok ns ∧ c.depth < n ∧ c.weight ≤ 6000000 ∧ pre.length + n ≤ 2000000 ∧
  ∀ (l : Addr) (us : List V) (H' : Hp), Ex H H' → H l = none → H' l = some (.lst us) → Paired (SpAt K H') us ((Cnd.placesN n c true).map (spotG pre)) → Q (.ref l) H'
theorem ok_spots_of {n : Nat} (D_l_spots : Def K mg "_law_spots" s_l_spots f_l_spots fd_l_spots ["_law_condition", "_law_spot"]) (bi : Bi mg)
    (D_l_parts : Def K mg "_law_parts" s_l_parts f_l_parts fd_l_parts ["_law_condition"])
    (G_l_parts : FnOk P w K mg base CX0 1 f_l_parts fd_l_parts ["_law_condition"] (spLParts K))
    (G_l_spots : FnOk P w K mg base CX0 (n + 2) f_l_spots fd_l_spots ["_law_condition", "_law_spot"] (spSpots K n)) :
    FnOk P w K mg base CX0 (n + 3) f_l_spots fd_l_spots ["_law_condition", "_law_spot"] (spSpots K (n + 1)) := by
  refine D_l_spots.fn.ok sc_l_spots (fun vs H Q E h => ?_) (fun cdv A outer s0 H vs Q E hr h => ?_)
  · obtain ⟨v, ad, c, ns, pre, rfl, _⟩ := h
    rfl
  · obtain ⟨v, ad, c, ns, pre, rfl, hv, hpre, ok, dp, wt, pl, k⟩ := h
    refine ⟨_, (pss_cons (ps_set (i := 2) sc_l_spots.nd rfl (Or.inl rfl) (pe_lst (pa_cons (pe_tup (pa_cons (pv 1) (pa_cons (pv 0) pa_nil))) pa_nil)))
  (pss_cons (ps_for PassesOwn.never rfl (pi_enum rfl bi.enumerate (pa_cons (pe_call G_l_parts (hr.mono (by first | decide | omega)) rfl D_l_parts.mg D_l_parts.fn.kp D_l_parts.bd .nil pass0 (pa_cons (pv 0) pa_nil)) pa_nil)) (pg_tup rfl (pgs_cons (pg_name (i := 3) sc_l_spots.nd rfl (Or.inl rfl)) (pgs_cons (pg_name (i := 4) sc_l_spots.nd rfl (Or.inl rfl)) pgs_nil)))
    (pss_one (ps_expr (pe_bm PySem.F.plainAttrs_list PySem.F.slot_list_extend PySem.F.type_list_extend mt_extend (pv 2) (pa_cons (pe_call G_l_spots (hr.mono (by first | decide | omega)) rfl D_l_spots.mg D_l_spots.fn.kp D_l_spots.bd .nil pass0 (pa_cons (pv 4) (pa_cons (pe_op (op_catAK (K := K) rfl) (pv 1) (pe_tup (pa_cons (pv 3) pa_nil))) pa_nil))) pa_nil)))))
  (pss_one (ps_ret (pv 2))))), ?_⟩
    refine ⟨_, rfl, _, rfl, sz2, fun T0 nT0 => ?_⟩
    have X_H1 : Ex H (upd H T0 (.tup [.ref ad, v])) := Ex.new nT0
    have F_H1 : upd H T0 (.tup [.ref ad, v]) T0 = some (.tup [.ref ad, v]) := upd_same
    generalize upd H T0 (.tup [.ref ad, v]) = H1 at X_H1 F_H1 ⊢
    refine ⟨sz1, fun F nF => ?_⟩
    have X_H2 : Ex H1 (upd H1 F (.lst [.ref T0])) := Ex.new nF
    have F_H2 : upd H1 F (.lst [.ref T0]) F = some (.lst [.ref T0]) := upd_same
    generalize upd H1 F (.lst [.ref T0]) = H2 at X_H2 F_H2 ⊢
    have x02 := X_H1.trans X_H2
    have nF0 : H F = none := fresh_back X_H1 nF
    refine ⟨_, rfl, v, c, ns, rfl, cndAt_toI (.of x02) _ _ hv, ok, by omega, fun l1 xs H3 e3 nl1 hl1 hc1 => ?_⟩
    have xl : xs.length = c.parts.length := cnds_len hc1
    have n1F : l1 ≠ F := fun z => by rw [z, F_H2] at nl1; cases nl1
    have x03 := x02.trans e3
    refine ⟨l1, xs, rfl, SqL.of hl1, ?_⟩
    refine for_enumL (xs := xs) (fun j σ G => ∃ (x3 x4 : Option V) (us : List V), σ = [some v, some (.ref ad), some (.ref F), x3, x4] ∧ Ex H G ∧ ExB F H3 G ∧ G F = some (.lst us) ∧
      Paired (SpAt K G) us ((([], c, true) :: belowN (fun c p => Cnd.placesN n c p) ((c.parts.zip (c.plains true)).take j) 0).map (spotG pre))) ?_ (fun j σ G _ z => ?_) ?_ ?_
    · refine ⟨none, none, _, rfl, x03, .of (Ex.refl _), e3 _ _ F_H2, ?_⟩
      rw [List.take_zero]
      refine .cons ⟨T0, ad, v, rfl, SqT.of ((X_H2.trans e3) _ _ F_H1), ?_, cndAt_toI (.of x03) _ _ hv⟩ .nil
      simp only [spotG, List.append_nil]
      exact ex_t x03 hpre
    · obtain ⟨_, _, _, _, _, e, _⟩ := z
      exact SqL.of (e _ _ n1F hl1)
    · rintro j x T σ G hx ⟨x3, x4, us, rfl, eG, eB, gF, hp⟩ nT
      obtain ⟨q, hq, hqa⟩ := cnds_get hc1 hx
      have X_G2 : Ex G (upd G T (.tup [.int (j : Nat), x])) := Ex.new nT
      have F_G2 : upd G T (.tup [.int (j : Nat), x]) T = some (.tup [.int (j : Nat), x]) := upd_same
      generalize upd G T (.tup [.int (j : Nat), x]) = G2 at X_G2 F_G2 ⊢
      have gF2 := X_G2 _ _ gF
      have mq := List.mem_of_getElem? hq
      have dq := Cnd.parts_depth mq
      have okq := Cnd.parts_ok ok q mq
      have wq : q.weight ≤ c.weight := by
        have h1 := c.parts_weight
        have h2 : q.weight ≤ (c.parts.map Cnd.weight).sum := mem_sum mq
        omega
      have eI := ((ExI.of (Ex.refl H3)).trans (eB.toI (e3 _ _ F_H2))).trans (.of X_G2)
      have hqG : CndAt K G2 x q := cndAt_toI eI _ _ hqa
      have jl : j < xs.length := (List.getElem?_eq_some_iff.mp hx).1
      obtain ⟨t, ht⟩ : ∃ t, (c.plains true)[j]? = some t := ⟨_, List.getElem?_eq_getElem (by rw [Cnd.plains_len ok]; omega)⟩
      have hzip : (c.parts.zip (c.plains true))[j]? = some (q, t) := by rw [List.getElem?_zip_eq_some]; exact ⟨hq, ht⟩
      refine ⟨T, _, rfl, SqT.of F_G2, rfl, _, _, rfl, _, _, rfl, rfl, ?_⟩
      refine ⟨_, rfl, .inl ⟨rfl, _, SqL.of gF2⟩, ?_⟩
      refine ⟨_, rfl, _, rfl, _, rfl, sz1, fun A1 nA1 => ?_⟩
      have eA : Ex G2 (upd G2 A1 (.tup [.int (j : Nat)])) := Ex.new nA1
      have hA1 : upd G2 A1 (.tup [.int (j : Nat)]) A1 = some (.tup [.int (j : Nat)]) := upd_same
      generalize upd G2 A1 (.tup [.int (j : Nat)]) = G4 at eA hA1 ⊢
      have hp0 := ex_t ((eG.trans X_G2).trans eA) hpre
      refine ⟨ad, A1, pre.map natP, [natP j], rfl, rfl, hp0, SqT.of hA1, by rw [List.length_map, sizeLine_eq]; show _ + 1 ≤ _; omega, fun z => ?_, fun _ z => (by cases z), fun _ _ A2 nA2 => ?_⟩
      · have z0 : pre = [] := List.map_eq_nil_iff.mp z
        have hA : SqT K G4 A1 ((pre ++ [j]).map natP) := by rw [z0]; exact SqT.of hA1
        refine ⟨x, A1, q, ns, pre ++ [j], rfl, cndAt_toI (.of eA) _ _ hqG, hA, okq, by omega, by omega, by rw [List.length_append]; show _ + 1 + _ ≤ _; omega, fun l3 us3 H6 e6 nl3 hl3 hp3 => ?_⟩
        have u3 : us3.length = (Cnd.placesN n q true).length := by rw [Paired.length hp3, List.length_map]
        have b3 := Cnd.places_len n q true
        have ul : us.length ≤ 160000 := by
          have h1 := below_part (fun c p => Cnd.placesN n c p) Cnd.weight (L := c.parts.zip (c.plains true)) j fun q _ => Cnd.places_len n q.1 q.2
          have h2 := zip_sum Cnd.weight c.parts (c.plains true)
          have h3 := c.parts_weight
          have := Paired.length hp
          rw [List.length_map, List.length_cons] at this
          omega
        have gF' := e6 _ _ (eA _ _ gF2)
        have eall := (X_G2.trans eA).trans e6
        refine ⟨F, l3, us, us3, rfl, rfl, gF', hl3, by rw [sizeLine_eq]; omega, ?_⟩
        refine ⟨_, _, us ++ us3, rfl, (eG.trans eall).mut nF0, (eB.trans (.of eall)).trans .put, upd_same, ?_⟩
        have e9 : ((Cnd.placesN n q t).map fun z => (j :: z.1, z.2)).map (spotG pre) = (Cnd.placesN n q true).map (spotG (pre ++ [j])) := by
          rw [List.map_map, ← places_spot n q ns okq t true]
          exact List.map_congr_left fun z _ => by simp [spotG]
        rw [below_take (fun c p => Cnd.placesN n c p) hzip, ← List.cons_append, List.map_append, e9]
        have fi : ExI H6 (upd H6 F (.lst (us ++ us3))) := ExI.put gF' rfl
        exact paired_app (Paired.mapP hp fun _ _ y => y.toI ((ExI.of eall).trans fi)) (Paired.mapP hp3 fun _ _ y => y.toI fi)
      · have eA2 : Ex G2 (upd G4 A2 (.tup (pre.map natP ++ [natP j]))) := eA.trans (Ex.new nA2)
        have hA2 : upd G4 A2 (.tup (pre.map natP ++ [natP j])) A2 = some (.tup (pre.map natP ++ [natP j])) := upd_same
        generalize upd G4 A2 (.tup (pre.map natP ++ [natP j])) = G5 at eA2 hA2 ⊢
        have hA : SqT K G5 A2 ((pre ++ [j]).map natP) := by rw [List.map_append]; exact SqT.of hA2
        refine ⟨x, A2, q, ns, pre ++ [j], rfl, cndAt_toI (.of eA2) _ _ hqG, hA, okq, by omega, by omega, by rw [List.length_append]; show _ + 1 + _ ≤ _; omega, fun l3 us3 H6 e6 nl3 hl3 hp3 => ?_⟩
        have u3 : us3.length = (Cnd.placesN n q true).length := by rw [Paired.length hp3, List.length_map]
        have b3 := Cnd.places_len n q true
        have ul : us.length ≤ 160000 := by
          have h1 := below_part (fun c p => Cnd.placesN n c p) Cnd.weight (L := c.parts.zip (c.plains true)) j fun q _ => Cnd.places_len n q.1 q.2
          have h2 := zip_sum Cnd.weight c.parts (c.plains true)
          have h3 := c.parts_weight
          have := Paired.length hp
          rw [List.length_map, List.length_cons] at this
          omega
        have gF' := e6 _ _ (eA2 _ _ gF2)
        have eall := (X_G2.trans eA2).trans e6
        refine ⟨F, l3, us, us3, rfl, rfl, gF', hl3, by rw [sizeLine_eq]; omega, ?_⟩
        refine ⟨_, _, us ++ us3, rfl, (eG.trans eall).mut nF0, (eB.trans (.of eall)).trans .put, upd_same, ?_⟩
        have e9 : ((Cnd.placesN n q t).map fun z => (j :: z.1, z.2)).map (spotG pre) = (Cnd.placesN n q true).map (spotG (pre ++ [j])) := by
          rw [List.map_map, ← places_spot n q ns okq t true]
          exact List.map_congr_left fun z _ => by simp [spotG]
        rw [below_take (fun c p => Cnd.placesN n c p) hzip, ← List.cons_append, List.map_append, e9]
        have fi : ExI H6 (upd H6 F (.lst (us ++ us3))) := ExI.put gF' rfl
        exact paired_app (Paired.mapP hp fun _ _ y => y.toI ((ExI.of eall).trans fi)) (Paired.mapP hp3 fun _ _ y => y.toI fi)
    · rintro σ G ⟨x3, x4, us, rfl, eG, eB, gF, hp⟩
      rw [List.take_of_length_le (by rw [List.length_zip, xl]; omega)] at hp
      exact ⟨_, rfl, k F us G eG nF0 gF hp⟩
theorem ok_spots (D_l_spots : Def K mg "_law_spots" s_l_spots f_l_spots fd_l_spots ["_law_condition", "_law_spot"]) (bi : Bi mg)
    (D_l_parts : Def K mg "_law_parts" s_l_parts f_l_parts fd_l_parts ["_law_condition"])
    (G_l_parts : FnOk P w K mg base CX0 1 f_l_parts fd_l_parts ["_law_condition"] (spLParts K)) :
    ∀ n : Nat, FnOk P w K mg base CX0 (n + 2) f_l_spots fd_l_spots ["_law_condition", "_law_spot"] (spSpots K n)
  | 0 => fn_never fun vs H Q E ⟨_, _, _, _, _, _, _, _, _, h, _⟩ => absurd h (Nat.not_lt_zero _)
  | n + 1 => ok_spots_of D_l_spots bi D_l_parts G_l_parts (ok_spots D_l_spots bi D_l_parts G_l_parts n)
end
end K22

set_option Elab.async false
set_option linter.all false
set_option maxRecDepth 100000
set_option maxHeartbeats 1000000
/-! Stretches in the heap. -/
namespace Gx
open PySem PySem.Spec PyProof.Rows L2 Evl
def dO : Option Int → PyData
  | none => .none
  | some i => .int i
def vO : Option Int → V
  | none => .non
  | some i => .int i
def dSt (p : Sx) : PyData := .tuple [dO p.1, dO p.2]
section
variable {K : PySem.W.Frag} {H H' : Hp}
theorem dp_vO (o : Option Int) : Dp K H (vO o) (dO o) := by cases o; exact .non; exact .int _
theorem dp_vO_inv {o : Option Int} {v : V} (h : Dp K H v (dO o)) : v = vO o := by cases o <;> cases h <;> rfl
theorem dSt_mk {t : Addr} {p : Sx} (h : SqT K H t [vO p.1, vO p.2]) : Dp K H (.ref t) (dSt p) := .tup h (.cons (dp_vO _) (.cons (dp_vO _) .nil))
theorem dSt_inv {v : V} {p : Sx} (h : Dp K H v (dSt p)) : ∃ t, v = .ref t ∧ SqT K H t [vO p.1, vO p.2] := by
  obtain ⟨t, xs, rfl, hs, ha⟩ := h.tup_inv
  obtain ⟨x, y, rfl, h1, h2⟩ := ha.two
  rw [dp_vO_inv h1, dp_vO_inv h2] at hs
  exact ⟨t, rfl, hs⟩
theorem dSt_flat (p : Sx) : flatD (dSt p) = true := by
  obtain ⟨a, b⟩ := p
  cases a <;> cases b <;> rfl
theorem dSts_flat (s : List Sx) : flatDs (s.map dSt) = true := flatDs_all fun d hd => by
  obtain ⟨p, _, rfl⟩ := List.mem_map.mp hd
  exact dSt_flat p
/-- at a a list or a tuple of the stretches s -/
def StsB (t : Bool) (K : PySem.W.Frag) (H : Hp) (a : Addr) (s : List Sx) : Prop := ∃ xs, SqB t K H a xs ∧ DpAll K H xs (s.map dSt)
theorem StsB.to {t : Bool} {a : Addr} {s : List Sx} (h : StsB t K H a s) (e : Ex H H') : StsB t K H' a s := by
  obtain ⟨xs, h1, h2⟩ := h
  exact ⟨xs, h1.to e, h2.to e⟩
theorem sts_get {xs : List V} {s : List Sx} (h : DpAll K H xs (s.map dSt)) {i : Nat} {x : V} (e : xs[i]? = some x) : ∃ p t, s[i]? = some p ∧ x = .ref t ∧ SqT K H t [vO p.1, vO p.2] := by
  obtain ⟨d, h1, h2⟩ := h.get e
  rw [List.getElem?_map] at h1
  obtain ⟨p, hp, rfl⟩ := Option.map_eq_some_iff.mp h1
  obtain ⟨t, e1, e2⟩ := dSt_inv h2
  exact ⟨p, t, hp, e1, e2⟩
theorem sts_get' {xs : List V} {s : List Sx} (h : DpAll K H xs (s.map dSt)) {i : Nat} {p : Sx} (e : s[i]? = some p) : ∃ t, xs[i]? = some (.ref t) ∧ SqT K H t [vO p.1, vO p.2] := by
  obtain ⟨v, h1, h2⟩ := h.get' (i := i) (d := dSt p) (by rw [List.getElem?_map, e]; rfl)
  obtain ⟨t, e1, e2⟩ := dSt_inv h2
  exact ⟨t, by rw [h1, e1], e2⟩
theorem sts_len {xs : List V} {s : List Sx} (h : DpAll K H xs (s.map dSt)) : xs.length = s.length := by rw [h.len, List.length_map]
/-- what isinstance says of an end -/
theorem ty_vO (o : Option Int) : ∃ t, TyX K H (vO o) t ∧ PySem.W.kitOne K t (.type "int") = some o.isSome ∧ PySem.W.kitOne K t (.type "bool") = some false ∧ PySem.W.kitOne K t (.type "tuple") = some false := by
  cases o with
  | none => exact ⟨.type "NoneType", .base .non, kit_ty (by show _ = some false; decide +kernel), kit_ty (by show _ = some false; decide +kernel), kit_ty (by show _ = some false; decide +kernel)⟩
  | some i => exact ⟨.type "int", .base (.int i), kit_ty (by show _ = some true; decide +kernel), kit_ty (by show _ = some false; decide +kernel), kit_ty (by show _ = some false; decide +kernel)⟩
theorem ty_tup {a : Addr} {xs : List V} (h : SqT K H a xs) : TyX K H (.ref a) (.type "tuple") := by
  rcases h with (h | ⟨ob, h⟩) | ⟨o, its, n, hk, hc, _⟩
  · exact .base (.tup h)
  · exact .fTuple h
  · exact .kTuple hk hc
theorem ty_lst {a : Addr} {xs : List V} (h : SqL K H a xs) : TyX K H (.ref a) (.type "list") := by
  rcases h with (h | ⟨ob, h⟩) | ⟨o, its, n, hk, hc, _⟩
  · exact .base (.lst h)
  · exact .base (.frz h)
  · exact .kList hk hc
theorem ko_tt : PySem.W.kitOne K (.type "tuple") (.type "tuple") = some true := kit_ty (by show _ = some true; decide +kernel)
theorem ko_lt : PySem.W.kitOne K (.type "list") (.type "tuple") = some false := kit_ty (by show _ = some false; decide +kernel)
theorem ko_ll : PySem.W.kitOne K (.type "list") (.type "list") = some true := kit_ty (by show _ = some true; decide +kernel)
theorem ko_tl : PySem.W.kitOne K (.type "tuple") (.type "list") = some false := kit_ty (by show _ = some false; decide +kernel)
theorem exB_ex {F : Addr} {H4 : Hp} (e : ExB F H4 H') (e0 : Ex H H4) (n : H F = none) : Ex H H' := fun b o h => e b o (fun z => by subst z; rw [n] at h; cases h) (e0 b o h)
theorem exB_l {F a : Addr} {xs : List V} (e : ExB F H H') (h : H a = some (.lst xs)) (n : a ≠ F) : H' a = some (.lst xs) := e _ _ n h
theorem outs_bind {α : Type} (f : α → Option PyData) (s : List α) : outs (fun i => (s[i]?).bind f) s.length = s.filterMap f := by
  unfold outs
  have go : ∀ n, n ≤ s.length → (List.range n).filterMap (fun i => (s[i]?).bind f) = (s.take n).filterMap f := by
    intro n
    induction n with
    | zero => intro _; simp
    | succ n ih =>
      intro h
      rw [List.range_succ, List.filterMap_append, ih (by omega), List.take_add_one, List.filterMap_append]
      have : s[n]? = some (s[n]'(by omega)) := List.getElem?_eq_getElem (by omega)
      rw [this]
      congr 1
      simp only [Option.toList, List.filterMap_cons, List.filterMap_nil, this, Option.bind]
  have := go s.length (Nat.le_refl _)
  rwa [List.take_length] at this
theorem dpAll_zip {α : Type} (d : α → PyData) : ∀ (zs : List (V × α)), (∀ z ∈ zs, Dp K H z.1 (d z.2)) → DpAll K H (zs.map (·.1)) ((zs.map (·.2)).map d)
  | [], _ => .nil
  | z :: zs, h => .cons (h z List.mem_cons_self) (dpAll_zip d zs fun x hx => h x (List.mem_cons_of_mem _ hx))
theorem zip_dpAll {α : Type} (d : α → PyData) : ∀ {xs : List V} {s : List α}, DpAll K H xs (s.map d) → ∃ zs : List (V × α), zs.map (·.1) = xs ∧ zs.map (·.2) = s ∧ ∀ z ∈ zs, Dp K H z.1 (d z.2)
  | xs, [], h => by cases h; exact ⟨[], rfl, rfl, by simp⟩
  | xs, a :: s, h => by
    cases h with
    | cons h1 h2 =>
      obtain ⟨zs, e1, e2, e3⟩ := zip_dpAll d h2
      refine ⟨(_, a) :: zs, by rw [List.map_cons, e1], by rw [List.map_cons, e2], fun z hz => ?_⟩
      rcases List.mem_cons.mp hz with rfl | hz
      · exact h1
      · exact e3 z hz
/-- what sorted(.., key=_low) makes of stretches -/
theorem sorted_low {l : Addr} {ys : List V} {s : List Sx} {f : Addr} {Q : VK} (hl : SqL K H l ys) (hd : DpAll K H ys (s.map dSt)) (hs : ∀ p ∈ s, p.1.isSome = true)
    (q : ∀ p ws, H p = none → ws.length = s.length → DpAll K (upd H p (.lst ws)) ws ((s.mergeSort fun p q => decide (Spn.lowV p ≤ Spn.lowV q)).map dSt) → Q (.ref p) (upd H p (.lst ws))) :
    rSortedLow K f [.ref l] [.ref f] H Q := by
  obtain ⟨zs, e1, e2, e3⟩ := zip_dpAll dSt hd
  have em : (zs.map fun z => (z.1, Spn.lowV z.2)).map (·.1) = zs.map (·.1) := by rw [List.map_map]; rfl
  refine ⟨l, zs.map fun z => (z.1, Spn.lowV z.2), rfl, rfl, by rw [em, e1]; exact hl, fun p hp => ?_, fun p np => ?_⟩
  · obtain ⟨z, hz, rfl⟩ := List.mem_map.mp hp
    obtain ⟨t, h1, h2⟩ := dSt_inv (e3 z hz)
    have hm : z.2 ∈ s := by rw [← e2]; exact List.mem_map_of_mem hz
    have := hs _ hm
    obtain ⟨v, ⟨a, b⟩⟩ := z
    cases a with
    | none => cases this
    | some a => exact ⟨t, _, h1, h2⟩
  · have s1 : (zs.mergeSort fun x y => decide (Spn.lowV x.2 ≤ Spn.lowV y.2)).map (fun z => (z.1, Spn.lowV z.2)) = (zs.map fun z => (z.1, Spn.lowV z.2)).mergeSort fun x y => decide (x.2 ≤ y.2) :=
      PySem.W.sort_maps _ fun _ _ _ _ => rfl
    have s2 : (zs.mergeSort fun x y => decide (Spn.lowV x.2 ≤ Spn.lowV y.2)).map (·.2) = (zs.map (·.2)).mergeSort fun p q => decide (Spn.lowV p ≤ Spn.lowV q) :=
      PySem.W.sort_maps _ fun _ _ _ _ => rfl
    rw [← s1, List.map_map]
    have s3 : (zs.mergeSort fun x y => decide (Spn.lowV x.2 ≤ Spn.lowV y.2)).map ((fun x : V × Int => x.1) ∘ fun z => (z.1, Spn.lowV z.2)) = (zs.mergeSort fun x y => decide (Spn.lowV x.2 ≤ Spn.lowV y.2)).map (·.1) := rfl
    rw [s3]
    refine q p _ np ?_ ?_
    · rw [List.length_map, List.length_mergeSort, ← e2, List.length_map]
    · rw [← e2, ← s2]
      refine dpAll_zip dSt _ fun z hz => ?_
      exact (e3 z (List.mem_mergeSort.mp hz)).to (Ex.new np)
theorem StsB.toI {a : Addr} {s : List Sx} (h : StsB true K H a s) (e : ExI H H') : StsB true K H' a s := by
  obtain ⟨xs, h1, h2⟩ := h
  exact ⟨xs, e.sq h1, dpAll_exI e _ _ (dSts_flat s) h2⟩
theorem dO_eqv (a b : Option Int) : PyData.eqv (dO a) (dO b) = decide (a = b) := by
  cases a <;> cases b <;> simp [dO, PyData.eqv]
  rename_i x y
  by_cases h : x = y <;> simp [h]
theorem dSt_eqv (p q : Sx) : PyData.eqv (dSt p) (dSt q) = decide (p = q) := by
  obtain ⟨a, b⟩ := p
  obtain ⟨c, d⟩ := q
  simp only [dSt, PyData.eqv, PyData.eqvAll, dO_eqv, Bool.and_true, Prod.mk.injEq, Bool.decide_and]
theorem dSts_eqv : ∀ s r : List Sx, PyData.eqvAll (s.map dSt) (r.map dSt) = decide (s = r)
  | [], [] => rfl
  | [], _ :: _ => rfl
  | _ :: _, [] => rfl
  | p :: s, q :: r => by
    simp only [List.map_cons, PyData.eqvAll, dSt_eqv, dSts_eqv s r, List.cons.injEq, Bool.decide_and]
theorem dO_can (a : Option Int) : PyData.canLay0 (dO a) = true ∧ (dO a).depth = 0 := by cases a <;> exact ⟨rfl, rfl⟩
theorem dSts_can : ∀ s : List Sx, PyData.canLayAll0 (s.map dSt) = true ∧ PyData.depthAll (s.map dSt) ≤ 1
  | [] => ⟨rfl, Nat.zero_le _⟩
  | p :: s => by
    obtain ⟨h1, h2⟩ := dSts_can s
    obtain ⟨a, b⟩ := p
    cases a <;> cases b <;> (refine ⟨?_, ?_⟩ <;> simp_all [PyData.canLayAll0, PyData.canLay0, PyData.depthAll, PyData.depth, dSt, dO])
theorem dSts_shaped (s : List Sx) : SeqAt.shaped (.tuple (s.map dSt)) = true ∧ SeqAt.shaped (.list (s.map dSt)) = true := by
  obtain ⟨h1, h2⟩ := dSts_can s
  have e1 : PyData.canLay0 (.tuple (s.map dSt)) = true := by simpa [PyData.canLay0] using h1
  have e2 : PyData.canLay0 (.list (s.map dSt)) = true := by simpa [PyData.canLay0] using h1
  refine ⟨?_, ?_⟩
  · unfold SeqAt.shaped
    rw [e1, Bool.true_and]
    refine decide_eq_true ?_
    simp only [PyData.depth]
    omega
  · unfold SeqAt.shaped
    rw [e2, Bool.true_and]
    refine decide_eq_true ?_
    simp only [PyData.depth]
    omega
theorem sts_tup {a : Addr} {s : List Sx} (h : StsB true K H a s) : Dp K H (.ref a) (.tuple (s.map dSt)) := by
  obtain ⟨xs, h1, h2⟩ := h
  exact .tup h1 h2
theorem perm_lift {α β : Type} {ys xs : List α} (h : ys.Perm xs) : ∀ ps : List (α × β), ps.map (·.1) = xs → ∃ ps' : List (α × β), ps'.Perm ps ∧ ps'.map (·.1) = ys := by
  induction h with
  | nil => intro ps e; exact ⟨[], by cases ps with | nil => exact .refl _ | cons _ _ => simp at e, rfl⟩
  | cons x _ ih =>
    intro ps e
    cases ps with
    | nil => simp at e
    | cons p ps =>
      simp only [List.map_cons, List.cons.injEq] at e
      obtain ⟨ps', h1, h2⟩ := ih ps e.2
      exact ⟨p :: ps', .cons p h1, by rw [List.map_cons, h2, e.1]⟩
  | swap x y l =>
    intro ps e
    match ps, e with
    | p :: q :: ps, e =>
      simp only [List.map_cons, List.cons.injEq] at e
      exact ⟨q :: p :: ps, .swap p q ps, by rw [List.map_cons, List.map_cons, e.1, e.2.1, e.2.2]⟩
  | trans _ _ ih1 ih2 =>
    intro ps e
    obtain ⟨p1, a1, a2⟩ := ih2 ps e
    obtain ⟨p2, b1, b2⟩ := ih1 p1 a2
    exact ⟨p2, b1.trans a1, b2⟩
theorem dpAll_perm {α : Type} (d : α → PyData) {xs ys : List V} {s : List α} (h : DpAll K H xs (s.map d)) (p : ys.Perm xs) : ∃ s' : List α, s'.Perm s ∧ DpAll K H ys (s'.map d) := by
  obtain ⟨zs, e1, e2, e3⟩ := zip_dpAll d h
  obtain ⟨zs', p1, p2⟩ := perm_lift p zs e1
  refine ⟨zs'.map (·.2), by rw [← e2]; exact p1.map _, ?_⟩
  rw [← p2]
  exact dpAll_zip d zs' fun z hz => e3 z (p1.mem_iff.mp hz)
theorem ints_can : ∀ ns : List Int, PyData.canLayAll0 (ns.map PyData.int) = true ∧ PyData.depthAll (ns.map PyData.int) = 0
  | [] => ⟨rfl, rfl⟩
  | n :: ns => by
    obtain ⟨h1, h2⟩ := ints_can ns
    exact ⟨by simp [PyData.canLayAll0, PyData.canLay0, h1], by simp [PyData.depthAll, PyData.depth, h2]⟩
theorem ints_shaped (ns : List Int) : SeqAt.shaped (.list (ns.map PyData.int)) = true := by
  obtain ⟨h1, h2⟩ := ints_can ns
  unfold SeqAt.shaped
  have e2 : PyData.canLay0 (.list (ns.map PyData.int)) = true := by simpa [PyData.canLay0] using h1
  rw [e2, Bool.true_and]
  refine decide_eq_true ?_
  simp only [PyData.depth, h2]
  omega
theorem ints_nil (ns : List Int) : PyData.eqv (.list (ns.map PyData.int)) (.list []) = decide (ns = []) := by cases ns <;> simp [PyData.eqv, PyData.eqvAll]
end
end Gx

set_option Elab.async false
set_option linter.all false
set_option maxRecDepth 100000
set_option maxHeartbeats 4000000
/-! sorted(xs) of any data that can be compared. -/
namespace Gx
open PySem PySem.Spec PyProof.Rows L2 Evl
/-- ds may be sorted: alike, tuples of an item at least or neither None nor tuples -/
def Sorts (ds : List PyData) : Prop := PySem.W.AllAlike ds ∧ PySem.W.Sortable ds ∧ ∀ d ∈ ds, d.depth ≤ 50
abbrev leD (p q : V × PyData) : Bool := !PySem.W.dataLt q.2 p.2
def rSortedD (K : PySem.W.Frag) : List V → Hp → VK → Prop := fun vs H Q => ∃ (a : Addr) (ps : List (V × PyData)), vs = [.ref a] ∧ SqL K H a (ps.map (·.1)) ∧ (∀ p ∈ ps, Dp K H p.1 p.2) ∧ Sorts (ps.map (·.2)) ∧
  ∀ p, H p = none → Q (.ref p) (upd H p (.lst ((ps.mergeSort leD).map (·.1))))
theorem each_reads {X : Cx} {pins : List (Addr × Obj)} {σ : L2.St} {H : Hp} {s : Shared} (I : L2.Inv X pins σ H s) : ∀ {ps : List (V × PyData)} {us : List Value}, (∀ p ∈ ps, Dp X.K H p.1 p.2) → PySem.W.EachIs (fun u b => RelV b.1 u) us ps →
    PySem.W.EachIs (fun u (b : V × PyData) => ∃ as, Reads s.heap u b.2 as) us ps
  | [], _, _, h => by cases h; exact .nil
  | p :: ps, _, d, h => by
    cases h with
    | cons h1 h2 =>
      exact .cons (Dp.reads I _ _ _ (d p List.mem_cons_self) h1) (each_reads I (fun q hq => d q (List.mem_cons_of_mem _ hq)) h2)
theorem cr_sortedD {X : Cx} (hu : X.A.units + 60 < cLine) : CallR X (.builtin "sorted") (rSortedD X.K) := by
  intro pins s σ H vs us Q I r h
  obtain ⟨a, ps, rfl, hs, hd, ⟨s1, s2, s3⟩, q⟩ := h
  obtain rfl := Vals.ref1 r
  obtain ⟨its, rv, hl, hz⟩ := I.list hs
  have hz' : ps.length ≤ sizeLine := by simpa using hz
  have ev := each_vals (fun b : V × PyData => b.1) rv
  refine PySem.W.sorted_data (β := V × PyData) (R := fun u b => RelV b.1 u) (enc := fun b => b.2) hl.isList ev (each_reads I hd ev) s1 s2 hz' (fun b hb => ?_) fun out lo he => ?_
  · have := s3 b.2 (List.mem_map.mpr ⟨b, hb, rfl⟩)
    show X.A.units + 2 + b.2.depth < cLine
    omega
  · have hv := vals_each (fun b : V × PyData => b.1) he
    obtain ⟨e, le⟩ := sortedAll_at s.heap its (List.toArray out)
    have lb : PySem.W.dataLe false (fun b : V × PyData => b.2) = leD := rfl
    rw [lb] at hv
    have hL : ((ps.mergeSort leD).map (·.1)).length ≤ sizeLine := by simpa using hz'
    exact ⟨.ref _, upd H (s.heap.objs.size + 1) (.lst ((ps.mergeSort leD).map (·.1))), I.laid (t' := s.toks) (fun b o z => sortedAll_old z) (Nat.le_succ _) ⟨hL, out, e, hv, le⟩, rfl, q _ (I.hok.fresh (Nat.le_succ _))⟩
end Gx

set_option Elab.async false
set_option linter.all false
set_option maxRecDepth 100000
set_option maxHeartbeats 4000000
/-! sets whose members are tuples, nested, of ints, texts, truths and None: what a search among them asks; the search -/
namespace Gx
open PySem PySem.Spec PyProof.Rows L2 Evl
section
variable (P : Program) (w : World)
/-- v, n levels down, is of no class statement -/
def NoCls (n : Nat) (s : Shared) (v : Value) : Prop := ∀ (A : Around) (E : Value → Shared → Prop) (Q : Bool → Shared → Prop), Q false s → wpAny (model P w) A (ofAClassStatement n v) Q E s
/-- whether v's hash goes by its value is answered -/
def HashSaid (n : Nat) (s : Shared) (v : Value) : Prop := ∀ (A : Around) (E : Value → Shared → Prop) (Q : Bool → Shared → Prop), (∀ b, Q b s) → wpAny (model P w) A (hashByValue n v) Q E s
end
section
variable {P : Program} {w : World} {s : Shared}
theorem NoCls.tup {n : Nat} {a : Addr} {o : Obj} {vs : Array Value} {m : Nat} (ho : s.heap.get? a = some o) (hc : o.cls = .type "tuple") (hd : o.data = .seq vs m) (each : ∀ v ∈ vs.toList, NoCls P w n s v) : NoCls P w (n + 1) s (.ref a) := fun A E Q q => by
  unfold ofAClassStatement
  refine wpAny_bind (wpAny_typeOf (T := "tuple") ⟨o, ho, hc⟩ ?_); dsimp only
  rw [if_pos (show (("tuple" : String) == "tuple") = true by decide)]
  refine wpAny_bind (wpAny_pure ?_)
  rw [if_neg (by decide)]
  show wpAny _ _ (seqItems? (.ref a) >>= _) _ _ s
  refine wpAny_bind (wpAny_seqItems ho hd ?_); dsimp only
  refine wpAny_bind ?_
  show wpAny _ _ (forIn vs _ _) _ _ s
  rw [← Array.forIn_toList]
  refine wpAny_forIn_list _ (fun more r z => r.1 = none ∧ z = s ∧ ∀ v ∈ more, NoCls P w n s v) _ ?_ ?_ _ _ ⟨rfl, rfl, each⟩
  · rintro v more r z ⟨e, rfl, al⟩
    refine wpAny_bind (al v List.mem_cons_self _ _ _ ?_)
    rw [if_neg (by decide)]
    exact wpAny_pure ⟨rfl, rfl, fun u m => al u (List.mem_cons_of_mem _ m)⟩
  · rintro ⟨r1, r2⟩ z ⟨e, rfl, _⟩
    obtain rfl : r1 = none := e
    exact wpAny_pure q
theorem HashSaid.tup {n : Nat} {a : Addr} {o : Obj} {vs : Array Value} {m : Nat} (ho : s.heap.get? a = some o) (hc : o.cls = .type "tuple") (hd : o.data = .seq vs m) (each : ∀ v ∈ vs.toList, HashSaid P w n s v) : HashSaid P w (n + 1) s (.ref a) := fun A E Q q => by
  unfold hashByValue
  refine wpAny_bind (wpAny_specialOf (T := "tuple") ⟨o, ho, hc⟩ F.slot_tuple_hash.lookup ?_)
  show wpAny _ _ (seqItems? (.ref a) >>= _) _ _ s
  refine wpAny_bind (wpAny_seqItems ho hd (wpAny_bind ?_))
  show wpAny _ _ (forIn vs _ _) _ _ s
  rw [← Array.forIn_toList]
  refine wpAny_forIn_list _ (fun more r z => r.1 = none ∧ z = s ∧ ∀ v ∈ more, HashSaid P w n s v) _ ?_ ?_ _ _ ⟨rfl, rfl, each⟩
  · rintro v more r z ⟨e, rfl, al⟩
    refine wpAny_bind (al v List.mem_cons_self _ _ _ fun b => ?_)
    cases b with
    | true => exact wpAny_pure ⟨rfl, rfl, fun u m => al u (List.mem_cons_of_mem _ m)⟩
    | false => exact wpAny_pure (wpAny_pure (q false))
  · rintro ⟨r1, r2⟩ z ⟨e, rfl, _⟩
    obtain rfl : r1 = none := e
    exact wpAny_pure (q true)
mutual
theorem nocls_key : ∀ (k : NestedKey) (v : Value) (n : Nat) (s : Shared), NestedIs s.heap k v → k.depth ≤ n → NoCls P w n s v
  | .none, _, n, s, x, _ => by cases x; intro A E Q q; cases n <;> exact wpAny_pure q
  | .num i, _, n, s, x, _ => by cases x <;> (intro A E Q q; cases n <;> exact wpAny_pure q)
  | .text y, _, n, s, x, _ => by cases x; intro A E Q q; cases n <;> exact wpAny_pure q
  | .tup ks, _, n, s, x, d => by
    cases x with
    | tup a1 a2 a3 a4 =>
      simp only [NestedKey.depth] at d
      match n, d with
      | n + 1, d => exact .tup a1 a2 a3 (nocls_keys ks _ n s a4 (by omega))
theorem nocls_keys : ∀ (ks : List NestedKey) (vs : List Value) (n : Nat) (s : Shared), NestedAll s.heap ks vs → NestedKey.depthAll ks ≤ n → ∀ v ∈ vs, NoCls P w n s v
  | [], _, n, s, x, _, v, hv => by cases x; cases hv
  | k :: ks, _, n, s, x, d, v, hv => by
    simp only [NestedKey.depthAll] at d
    cases x with
    | cons x1 x2 =>
      cases hv with
      | head => exact nocls_key k _ n s x1 (by omega)
      | tail _ hv => exact nocls_keys ks _ n s x2 (by omega) v hv
end
mutual
theorem hashsaid_key : ∀ (k : NestedKey) (v : Value) (n : Nat) (s : Shared), NestedIs s.heap k v → k.depth ≤ n → HashSaid P w n s v
  | .none, _, n, s, x, _ => by cases x; intro A E Q q; cases n <;> exact wpAny_pure (q _)
  | .num i, _, n, s, x, _ => by cases x <;> (intro A E Q q; cases n <;> exact wpAny_pure (q _))
  | .text y, _, n, s, x, _ => by cases x; intro A E Q q; cases n <;> exact wpAny_pure (q _)
  | .tup ks, _, n, s, x, d => by
    cases x with
    | tup a1 a2 a3 a4 =>
      simp only [NestedKey.depth] at d
      match n, d with
      | n + 1, d => exact .tup a1 a2 a3 (hashsaid_keys ks _ n s a4 (by omega))
theorem hashsaid_keys : ∀ (ks : List NestedKey) (vs : List Value) (n : Nat) (s : Shared), NestedAll s.heap ks vs → NestedKey.depthAll ks ≤ n → ∀ v ∈ vs, HashSaid P w n s v
  | [], _, n, s, x, _, v, hv => by cases x; cases hv
  | k :: ks, _, n, s, x, d, v, hv => by
    simp only [NestedKey.depthAll] at d
    cases x with
    | cons x1 x2 =>
      cases hv with
      | head => exact hashsaid_key k _ n s x1 (by omega)
      | tail _ hv => exact hashsaid_keys ks _ n s x2 (by omega) v hv
end
/-- the tuple at a is the key k, at most eight deep -/
abbrev IsN (P : Program) (w : World) (h : Heap) (k : NestedKey) (a : Addr) : Prop := (nestedKind P w).is h k a
abbrev nh (w : World) (k : NestedKey) : Int := k.hash w
variable {A : Around} {E : Value → Shared → Prop}
theorem noseen {k : NestedKey} {b : Addr} {ys : List Value} {Q : Bool → Shared → Prop} (hk : IsN P w s.heap k b) (hy : ∀ y ∈ ys, ∃ k' c, y = Value.ref c ∧ IsN P w s.heap k' c) (q : Q false s) : wpAny (model P w) A (searchCouldBeSeen (.ref b) ys) Q E s := by
  unfold searchCouldBeSeen
  refine wpAny_bind (wpAny_forIn_list _ (fun more r z => r.1 = none ∧ z = s ∧ ∀ y ∈ more, ∃ k' c, y = Value.ref c ∧ IsN P w s.heap k' c) _ ?_ ?_ _ _ ⟨rfl, rfl, hy⟩)
  · rintro v more r z ⟨e, rfl, al⟩
    have al2 : ∀ y ∈ more, ∃ k' c, y = Value.ref c ∧ IsN P w z.heap k' c := fun u m => al u (List.mem_cons_of_mem _ m)
    obtain ⟨k', c, rfl, hc⟩ := al v List.mem_cons_self
    dsimp only
    split
    · exact wpAny_pure ⟨rfl, rfl, al2⟩
    · refine wpAny_bind ((nestedKind P w).quiet hk ?_)
      rw [if_neg (by decide)]
      refine wpAny_bind ((nestedKind P w).quiet hc ?_)
      rw [if_neg (by decide)]
      refine wpAny_bind (nocls_key k _ 8 z hk.1 hk.2 _ _ _ ?_)
      rw [if_neg (by decide)]
      refine wpAny_bind (nocls_key k' _ 8 z hc.1 hc.2 _ _ _ ?_)
      rw [if_neg (by decide)]
      exact wpAny_pure ⟨rfl, rfl, al2⟩
  · rintro ⟨r1, r2⟩ z ⟨e, rfl, _⟩
    obtain rfl : r1 = none := e
    exact wpAny_pure q
end
end Gx

set_option Elab.async false
set_option linter.all false
set_option maxRecDepth 100000
set_option maxHeartbeats 4000000
/-! < of tuples where the first place that differs can be compared; an order of nested keys -/
namespace Gx
open PySem PySem.Spec PyProof.Rows L2 Evl PySem.SeqAt
open AutoSeq1 (wpAny_loadPart')
open MeetsSeq MeetsSeq2 MeetsSeq3 SeqRoads2
section
theorem tup_lt_first (l b : Addr) (xs ys : Array Value) (n m : Nat) (d1 d2 : Option Addr) (s1 s2 : Array (Option Value)) (e r : Nat → Bool) :
    PySem.Meets (Builtin.«tuple.__lt__» ⟨[.ref l, .ref b], []⟩) fun A R s => s.heap.get? l = some { cls := .type "tuple", dict := d1, data := .seq xs n, slots := s1 } ∧ s.heap.get? b = some { cls := .type "tuple", dict := d2, data := .seq ys m, slots := s2 } ∧
      (∀ j (h1 : j < xs.size) (h2 : j < ys.size), EqAt A.in1 s xs[j] ys[j] (e j)) ∧ (∀ j (h1 : j < xs.size) (h2 : j < ys.size), (∀ i, i < j → e i = true) → e j = false → RcLt A.in1 s xs[j] ys[j] (r j)) ∧
      R (.ok (.ret (.bool (firstLt e r (decide (xs.size < ys.size)) (List.range (min xs.size ys.size)))))) s :=
  .of_wp fun prog w A R s z => by
    obtain ⟨hp, g, d, tk, os⟩ := s
    obtain ⟨hl, hb, eqs, lts, q⟩ := z
    have sub := AutoSeq1.sub_tuple_tuple
    have len : (xs.toList.zip ys.toList).length = min xs.size ys.size := by simp
    wp_walk using wpAny_loadPart' hl, wpAny_loadPart' hb, wpAny_forIn_list _ (fun more u s' => u.1 = none ∧ s' = ⟨hp, g, d, tk, os⟩ ∧ ∃ i, more = (xs.toList.zip ys.toList).drop i ∧ (∀ k, k < i → e k = true) ∧
      R (.ok (.ret (.bool (firstLt e r (decide (xs.size < ys.size)) ((List.range (min xs.size ys.size)).drop i))))) ⟨hp, g, d, tk, os⟩) _
    case turn =>
      rintro ⟨y, x⟩ more u s' ⟨u1, rfl, i, z, bef, q⟩
      have lt : i < (xs.toList.zip ys.toList).length := Nat.lt_of_not_le fun c => by rw [List.drop_of_length_le c] at z; cases z
      have lt2 : i < min xs.size ys.size := len ▸ lt
      have g1 : i < xs.size := Nat.lt_of_lt_of_le lt2 (Nat.min_le_left _ _)
      have g2 : i < ys.size := Nat.lt_of_lt_of_le lt2 (Nat.min_le_right _ _)
      rw [List.drop_eq_getElem_cons lt] at z
      injection z with z1 z2
      obtain ⟨rfl, rfl⟩ : y = xs[i] ∧ x = ys[i] := ⟨by simpa using congrArg Prod.fst z1, by simpa using congrArg Prod.snd z1⟩
      rw [show (List.range (min xs.size ys.size)).drop i = i :: (List.range (min xs.size ys.size)).drop (i + 1) by simp [List.drop_eq_getElem_cons, lt2]] at q
      refine wpAny_bind (eqs i g1 g2 prog w _ _ ?_)
      rcases ei : e i with _ | _
      · rw [firstLt_no ei] at q
        have L := lts i g1 g2 bef ei prog w
        wp_walk using L
        exact ⟨_, rfl, q⟩
      · rw [firstLt_yes ei] at q
        wp_walk
        exact ⟨rfl, rfl, i + 1, z2, fun k lk => (Nat.lt_succ_iff_lt_or_eq.mp lk).elim (bef k) fun c => by rw [c]; exact ei, q⟩
    case fin =>
      rintro ⟨u1, u2⟩ s' ⟨c, rfl, i, z, bef, q⟩
      obtain rfl : u1 = none := c
      have ge : min xs.size ys.size ≤ i := Nat.le_of_not_lt fun c => by
        rw [List.drop_eq_getElem_cons (by rw [len]; exact c)] at z; cases z
      rw [List.drop_of_length_le (by simpa using ge)] at q
      wp_walk
      exact ⟨_, rfl, by simpa [Builtin.Tuple.tupleCompareSizes, firstLt] using q⟩
    case h => exact ⟨rfl, rfl, 0, rfl, fun k lk => absurd lk (Nat.not_lt_zero k), by simpa using q⟩
theorem RcLt.first {A : Around} {s : Shared} {l b : Addr} {xs ys : Array Value} {e r : Nat → Bool} (hl : s.heap.IsTuple l xs) (hb : s.heap.IsTuple b ys) (hu : A.units < cLine)
    (eqs : ∀ j (h1 : j < xs.size) (h2 : j < ys.size), EqAt A.in1 s xs[j] ys[j] (e j)) (lts : ∀ j (h1 : j < xs.size) (h2 : j < ys.size), (∀ i, i < j → e i = true) → e j = false → RcLt A.in1 s xs[j] ys[j] (r j)) :
    RcLt A s (.ref l) (.ref b) (firstLt e r (decide (xs.size < ys.size)) (List.range (min xs.size ys.size))) := fun prog w E Q q => by
  obtain ⟨⟨c1, d1, a1, s1⟩, o1, e1, n1, f1⟩ := id hl
  obtain ⟨⟨c2, d2, a2, s2⟩, o2, e2, n2, f2⟩ := id hb
  simp only at e1 f1 e2 f2
  subst e1 f1 e2 f2
  exact richCompare_meets_room (op := .Lt) ⟨_, o1, rfl⟩ ⟨_, o2, rfl⟩ F.slot_tuple_lt F.entry_tuple_lt (F.args_tuple_lt_2 _ _) (tup_lt_first l b xs ys n1 n2 d1 d2 s1 s2 e r) ⟨o1, o2, eqs, lts, (fun z => nomatch z), q⟩ hu
end
end Gx
namespace Gx
open PySem PySem.Spec PyProof.Rows L2 Evl PySem.SeqAt PySem.W
/-! an order of nested keys: by a row of signs -/
mutual
def tk : NestedKey → List (Int ⊕ List Nat)
  | .none => [.inl 0]
  | .num i => [.inl 1, .inl i]
  | .text x => [.inl 2, .inr x.cps.toList]
  | .tup ks => .inl 3 :: tks ks
def tks : List NestedKey → List (Int ⊕ List Nat)
  | [] => [.inl 0]
  | k :: ks => .inl 1 :: (tk k ++ tks ks)
end
abbrev lxt (a b : List (Int ⊕ List Nat)) : Bool := PyProof.Rows.lexLt itemOrd a b
theorem lxt_same (p : Int ⊕ List Nat) (l m : List (Int ⊕ List Nat)) : lxt (p :: l) (p :: m) = lxt l m := lex_self (O := itemOrd) p l m
theorem lxt_pre (p a b : List (Int ⊕ List Nat)) : lxt (p ++ a) (p ++ b) = lxt a b := lex_pre p a b
theorem lxt_diff {p q : Int ⊕ List Nat} (h : p ≠ q) (l m : List (Int ⊕ List Nat)) : lxt (p :: l) (q :: m) = lxt [p] [q] := lex_atom h l m
/-- of unlike keys the rows differ before the one ends -/
def Early (a b : List (Int ⊕ List Nat)) : Prop := ∀ l m, lxt (a ++ l) (b ++ m) = lxt a b
theorem early_at {p q : Int ⊕ List Nat} (h : p ≠ q) (a b : List (Int ⊕ List Nat)) : Early (p :: a) (q :: b) := fun l m => (lxt_diff h _ _).trans (lxt_diff h _ _).symm
theorem Early.cons {a b : List (Int ⊕ List Nat)} (h : Early a b) (p : Int ⊕ List Nat) : Early (p :: a) (p :: b) := fun l m => (lxt_same _ _ _).trans ((h l m).trans (lxt_same _ _ _).symm)
theorem Early.pre {a b : List (Int ⊕ List Nat)} (h : Early a b) (p : List (Int ⊕ List Nat)) : Early (p ++ a) (p ++ b) := fun l m => by
  rw [List.append_assoc, List.append_assoc, lxt_pre, lxt_pre]; exact h l m
theorem Early.more {a b : List (Int ⊕ List Nat)} (h : Early a b) (c d : List (Int ⊕ List Nat)) : Early (a ++ c) (b ++ d) := fun l m => by
  rw [List.append_assoc, List.append_assoc, h, h]
mutual
theorem tk_early : ∀ x y : NestedKey, x ≠ y → Early (tk x) (tk y)
  | .none, .none, h => absurd rfl h
  | .none, .num _, _ | .none, .text _, _ | .none, .tup _, _ => early_at (by simp) _ _
  | .num _, .none, _ | .num _, .text _, _ | .num _, .tup _, _ => early_at (by simp) _ _
  | .text _, .none, _ | .text _, .num _, _ | .text _, .tup _, _ => early_at (by simp) _ _
  | .tup _, .none, _ | .tup _, .num _, _ | .tup _, .text _, _ => early_at (by simp) _ _
  | .num i, .num j, h => (early_at (p := .inl i) (q := .inl j) (fun e => h (by rw [Sum.inl.inj e])) [] []).cons _
  | .text x, .text y, h => (early_at (p := .inr x.cps.toList) (q := .inr y.cps.toList) (fun e => h (by rw [str_of_cps (Sum.inr.inj e)])) [] []).cons _
  | .tup a, .tup b, h => (tks_early a b fun e => h (by rw [e])).cons _
theorem tks_early : ∀ x y : List NestedKey, x ≠ y → Early (tks x) (tks y)
  | [], [], h => absurd rfl h
  | [], _ :: _, _ => early_at (by simp) _ _
  | _ :: _, [], _ => early_at (by simp) _ _
  | a :: x, b :: y, h => by
    rw [tks, tks]
    by_cases e : a = b
    · subst e
      exact ((tks_early x y fun q => h (by rw [q])).pre _).cons _
    · exact ((tk_early a b e).more _ _).cons _
end
theorem lxt_tup (a b : List NestedKey) : lxt (tk (.tup a)) (tk (.tup b)) = lxt (tks a) (tks b) := by rw [tk, tk]; exact lxt_same _ _ _
theorem lxt_cons_same (a : NestedKey) (x y : List NestedKey) : lxt (tks (a :: x)) (tks (a :: y)) = lxt (tks x) (tks y) := by rw [tks, tks]; exact (lxt_same _ _ _).trans (lxt_pre _ _ _)
theorem lxt_cons_ne {a b : NestedKey} (h : a ≠ b) (x y : List NestedKey) : lxt (tks (a :: x)) (tks (b :: y)) = lxt (tk a) (tk b) := by rw [tks, tks]; exact (lxt_same _ _ _).trans (tk_early a b h _ _)
theorem lxt_num (i j : Int) : lxt (tk (.num i)) (tk (.num j)) = decide (i < j) := by
  rw [tk, tk, lxt_same]; show PyProof.Rows.lexLt itemOrd [_] [_] = _; rw [lex_one]; rfl
theorem lxt_text (x y : Str) : lxt (tk (.text x)) (tk (.text y)) = decide (x.cps.toList < y.cps.toList) := by
  rw [tk, tk, lxt_same]; show PyProof.Rows.lexLt itemOrd [_] [_] = _; rw [lex_one]; rfl
mutual
/-- the two can be compared: where they first differ stand two numbers or two texts, or one of them ends -/
def cmpK : NestedKey → NestedKey → Bool
  | .num _, .num _ => true
  | .text _, .text _ => true
  | .tup a, .tup b => cmpKs a b
  | _, _ => false
def cmpKs : List NestedKey → List NestedKey → Bool
  | x :: xs, y :: ys => if NestedKey.beq x y then cmpKs xs ys else cmpK x y
  | [], _ => true
  | _ :: _, [] => true
end
theorem beq_ne {x y : NestedKey} (h : NestedKey.beq x y = false) : x ≠ y := fun e => by rw [e, NestedKey.beq_self] at h; cases h
theorem first_tk : ∀ xs ys : List NestedKey, firstLt (keyEqAt xs ys) (fun j => lxt (tk (xs.getD j .none)) (tk (ys.getD j .none))) (decide (xs.length < ys.length)) (List.range (min xs.length ys.length)) = lxt (tks xs) (tks ys)
  | [], [] => by simp [firstLt, tks, lex_irrefl]
  | [], y :: ys => by rw [tks, tks, lxt_diff (by simp)]; simp [firstLt]; decide +kernel
  | x :: xs, [] => by rw [tks, tks, lxt_diff (by simp)]; simp [firstLt]; decide +kernel
  | x :: xs, y :: ys => by
    have ih := first_tk xs ys
    rw [show min (x :: xs).length (y :: ys).length = min xs.length ys.length + 1 by simp only [List.length_cons]; omega,
      show decide ((x :: xs).length < (y :: ys).length) = decide (xs.length < ys.length) from decide_eq_decide.mpr (by simp only [List.length_cons]; omega), List.range_succ_eq_map]
    rcases e : NestedKey.beq x y with _ | _
    · rw [firstLt_no (show keyEqAt (x :: xs) (y :: ys) 0 = false from e), lxt_cons_ne (beq_ne e)]; rfl
    · rw [firstLt_yes (show keyEqAt (x :: xs) (y :: ys) 0 = true from e), firstLt_map, NestedKey.eq_of_beq _ _ e, lxt_cons_same, ← ih]; rfl
end Gx

set_option Elab.async false
set_option linter.all false
set_option maxRecDepth 100000
set_option maxHeartbeats 4000000
/-! sorting tuples that can be compared two by two -/
namespace Gx
open PySem PySem.Spec PyProof.Rows L2 Evl PySem.SeqAt PySem.W
mutual
/-- the value v is the key k, no truth in it -/
inductive IsD (h : Heap) : NestedKey → Value → Prop
  | none : IsD h .none .none
  | int (i t) : IsD h (.num i) (.int i t)
  | text (x t) : IsD h (.text x) (.str x t)
  | tup {a o vs n ks} : h.get? a = some o → o.cls = .type "tuple" → o.data = .seq vs n → IsDs h ks vs.toList → IsD h (.tup ks) (.ref a)
inductive IsDs (h : Heap) : List NestedKey → List Value → Prop
  | nil : IsDs h [] []
  | cons {k v ks vs} : IsD h k v → IsDs h ks vs → IsDs h (k :: ks) (v :: vs)
end
mutual
theorem IsD.nested {h : Heap} : ∀ (k : NestedKey) (v : Value), IsD h k v → NestedIs h k v
  | .none, _, x => by cases x; exact .none
  | .num i, _, x => by cases x; exact .int _ _
  | .text t, _, x => by cases x; exact .text _ _
  | .tup ks, _, x => by cases x with | tup a b c d => exact .tup a b c (IsDs.nested ks _ d)
theorem IsDs.nested {h : Heap} : ∀ (ks : List NestedKey) (vs : List Value), IsDs h ks vs → NestedAll h ks vs
  | [], _, x => by cases x; exact .nil
  | k :: ks, _, x => by cases x with | cons a b => exact .cons (IsD.nested k _ a) (IsDs.nested ks _ b)
end
mutual
theorem IsD.keep {h h' : Heap} (kp : ∀ b o, h.get? b = some o → h'.get? b = some o) : ∀ (k : NestedKey) (v : Value), IsD h k v → IsD h' k v
  | .none, _, x => by cases x; exact .none
  | .num i, _, x => by cases x; exact .int _ _
  | .text t, _, x => by cases x; exact .text _ _
  | .tup ks, _, x => by cases x with | tup a b c d => exact .tup (kp _ _ a) b c (IsDs.keep kp ks _ d)
theorem IsDs.keep {h h' : Heap} (kp : ∀ b o, h.get? b = some o → h'.get? b = some o) : ∀ (ks : List NestedKey) (vs : List Value), IsDs h ks vs → IsDs h' ks vs
  | [], _, x => by cases x; exact .nil
  | k :: ks, _, x => by cases x with | cons a b => exact .cons (IsD.keep kp k _ a) (IsDs.keep kp ks _ b)
end
theorem IsDs.len {h : Heap} : ∀ {ks : List NestedKey} {vs : List Value}, IsDs h ks vs → vs.length = ks.length
  | [], _, x => by cases x; rfl
  | _ :: ks, _, x => by cases x with | cons a b => simp [IsDs.len b]
section
variable {A : Around} {s : Shared}
mutual
theorem rcLt_key : ∀ (x y : NestedKey) (A : Around) (s : Shared) (a b : Value), IsD s.heap x a → IsD s.heap y b → cmpK x y = true → A.units + min x.depth y.depth < cLine → RcLt A s a b (lxt (tk x) (tk y))
  | .num i, .num j, A, s, a, b, ra, rb, _, _ => by
    cases ra; cases rb
    intro prog w E Q q
    rw [lxt_num] at q
    exact P.lt_int q
  | .text i, .text j, A, s, a, b, ra, rb, _, _ => by
    cases ra; cases rb
    intro prog w E Q q
    rw [lxt_text] at q
    exact P.lt_str q
  | .tup xs, .tup ys, A, s, a, b, ra, rb, c, hu => by
    have c : cmpKs xs ys = true := by simpa only [cmpK] using c
    cases ra with
    | @tup l o vs n _ h1 h2 h3 h4 =>
      cases rb with
      | @tup l' o' vs' n' _ k1 k2 k3 k4 =>
        have n1 : vs.size = xs.length := by simpa using h4.len
        have n2 : vs'.size = ys.length := by simpa using k4.len
        rw [lxt_tup, ← first_tk xs ys, ← n1, ← n2]
        have hu' := room_in hu
        refine RcLt.first ⟨_, h1, h2, _, h3⟩ ⟨_, k1, k2, _, k3⟩ (room_here hu) (fun j j1 j2 => ?_) fun j j1 j2 bef ne => ?_
        · have := eqAt_keys xs ys A.in1 s vs.toList vs'.toList (IsDs.nested _ _ h4) (IsDs.nested _ _ k4) hu' j (by simpa using j1) (by simpa using j2)
          simpa using this
        · have := rcLt_keys xs ys A.in1 s vs.toList vs'.toList h4 k4 c hu' j (by simpa using j1) (by simpa using j2) bef ne
          simpa using this
  | .none, _, _, _, _, _, _, _, c, _ => by simp [cmpK] at c
  | .num _, .none, _, _, _, _, _, _, c, _ | .num _, .text _, _, _, _, _, _, _, c, _ | .num _, .tup _, _, _, _, _, _, _, c, _ => by simp [cmpK] at c
  | .text _, .none, _, _, _, _, _, _, c, _ | .text _, .num _, _, _, _, _, _, _, c, _ | .text _, .tup _, _, _, _, _, _, _, c, _ => by simp [cmpK] at c
  | .tup _, .none, _, _, _, _, _, _, c, _ | .tup _, .num _, _, _, _, _, _, _, c, _ | .tup _, .text _, _, _, _, _, _, _, c, _ => by simp [cmpK] at c
theorem rcLt_keys : ∀ (xs ys : List NestedKey) (A : Around) (s : Shared) (vs ws : List Value), IsDs s.heap xs vs → IsDs s.heap ys ws → cmpKs xs ys = true → A.units + min (NestedKey.depthAll xs) (NestedKey.depthAll ys) < cLine →
    ∀ j (h1 : j < vs.length) (h2 : j < ws.length), (∀ i, i < j → keyEqAt xs ys i = true) → keyEqAt xs ys j = false → RcLt A s vs[j] ws[j] (lxt (tk (xs.getD j .none)) (tk (ys.getD j .none)))
  | [], _, _, _, _, _, ra, _, _, _, j, h1, _, _, _ => by cases ra; exact absurd h1 (Nat.not_lt_zero _)
  | _ :: _, [], _, _, _, _, _, rb, _, _, j, _, h2, _, _ => by cases rb; exact absurd h2 (Nat.not_lt_zero _)
  | x :: xs, y :: ys, A, s, _, _, ra, rb, c, hu, j, h1, h2, bef, ne => by
    cases ra with
    | cons r rs =>
      cases rb with
      | cons r' rs' =>
        rw [cmpKs] at c
        cases j with
        | zero =>
          rw [if_neg (by rw [show NestedKey.beq x y = false from ne]; decide)] at c
          exact rcLt_key x y A s _ _ r r' c (room_head hu)
        | succ j =>
          rw [if_pos (show NestedKey.beq x y = true from bef 0 (Nat.succ_pos j))] at c
          exact rcLt_keys xs ys A s _ _ rs rs' c (room_tail hu) j (Nat.lt_of_succ_lt_succ h1) (Nat.lt_of_succ_lt_succ h2) (fun i li => bef (i + 1) (Nat.succ_lt_succ li)) ne
end
end
section
variable {prog : Program} {w : World} {A : Around} {E : Value → Shared → Prop} {s : Shared}
/-- key against key as sorting asks; f: both are of one type -/
theorem oneLt_key {f : Bool} {x y : NestedKey} {a b : Value} {Q : Bool → Shared → Prop} (ra : IsD s.heap x a) (rb : IsD s.heap y b) (c : cmpK x y = true) (hu : A.units + min x.depth y.depth < cLine) (q : Q (lxt (tk x) (tk y)) s) :
    wpAny (model prog w) A (oneLt' f a b) Q E s := by
  cases f with
  | false =>
    rw [oneLt'_eq, if_neg (by decide)]
    exact wpAny_bind (rcLt_key x y A s a b ra rb c hu prog w E _ (wpAny_truthy_bool q))
  | true =>
    match x, y, ra, rb, c, hu, q with
    | .num i, .num j, ra, rb, c, hu, q =>
      cases ra; cases rb
      rw [lxt_num] at q
      exact oneLt_int q
    | .text i, .text j, ra, rb, c, hu, q =>
      cases ra; cases rb
      rw [lxt_text] at q
      exact oneLt_str q
    | .tup xs, .tup ys, ra, rb, c, hu, q =>
      have c : cmpKs xs ys = true := by simpa only [cmpK] using c
      cases ra with
      | @tup l o vs n _ h1 h2 h3 h4 =>
        cases rb with
        | @tup l' o' vs' n' _ k1 k2 k3 k4 =>
          have n1 : vs.size = xs.length := by simpa using h4.len
          have n2 : vs'.size = ys.length := by simpa using k4.len
          rw [lxt_tup, ← first_tk xs ys, ← n1, ← n2] at q
          have hu' := room_in hu
          have u0 := room_here hu
          rw [oneLt'_eq, if_pos rfl]
          refine wpAny_bind (wpAny_cRoomFor u0 ?_)
          obtain ⟨c1, d1, a1, s1⟩ := o
          obtain ⟨c2, d2, a2, s2⟩ := o'
          simp only at h2 h3 k2 k3
          subst h2 h3 k2 k3
          refine wpAny_bind (wpAny_callSpecialIfBound?_slot (T := "tuple") ⟨_, h1, rfl⟩ F.slot_tuple_lt (call_meets F.slot_tuple_lt (T := "tuple") ⟨_, h1, rfl⟩ F.entry_tuple_lt (F.args_tuple_lt_2 _ _)
            (tup_lt_first l l' vs vs' n n' d1 d2 s1 s2 (keyEqAt xs ys) fun j => lxt (tk (xs.getD j .none)) (tk (ys.getD j .none))) ⟨h1, k1, fun j j1 j2 => ?_, fun j j1 j2 bef ne => ?_, ?_⟩))
          · have := eqAt_keys xs ys A.in1 s vs.toList vs'.toList (IsDs.nested _ _ h4) (IsDs.nested _ _ k4) hu' j (by simpa using j1) (by simpa using j2)
            simpa using this
          · have := rcLt_keys xs ys A.in1 s vs.toList vs'.toList h4 k4 c hu' j (by simpa using j1) (by simpa using j2) bef ne
            simpa using this
          · exact wpAny_truthy_bool q
    | .none, _, _, _, c, _, _ => simp [cmpK] at c
    | .num _, .none, _, _, c, _, _ | .num _, .text _, _, _, c, _, _ | .num _, .tup _, _, _, c, _, _ => simp [cmpK] at c
    | .text _, .none, _, _, c, _, _ | .text _, .num _, _, _, c, _, _ | .text _, .tup _, _, _, c, _, _ => simp [cmpK] at c
    | .tup _, .none, _, _, c, _, _ | .tup _, .num _, _, _, c, _, _ | .tup _, .text _, _, _, c, _, _ => simp [cmpK] at c
theorem katLex_key {b fin : Bool} {Q : Bool → Shared → Prop} : ∀ (xs ys : List NestedKey) (i : Nat) (vs ws : List Value), IsDs s.heap xs vs → IsDs s.heap ys ws → cmpKs xs ys = true →
    A.units + min (NestedKey.depthAll xs) (NestedKey.depthAll ys) < cLine → fin = decide (xs.length < ys.length) → Q (lxt (tks xs) (tks ys)) s → KatLex prog w A b fin Q (vs.zip ws) i s
  | [], [], i, _, _, ra, rb, _, _, hf, q => by
    cases ra; cases rb
    rw [show lxt (tks []) (tks []) = false from lex_irrefl ..] at q
    rw [hf]; exact kat_nil q
  | [], y :: ys, i, _, _, ra, rb, _, _, hf, q => by
    cases ra
    rw [tks, tks, lxt_diff (by simp)] at q
    rw [hf, List.zip_nil_left]
    exact kat_nil q
  | x :: xs, [], i, _, _, ra, rb, _, _, hf, q => by
    cases rb
    rw [tks, tks, lxt_diff (by simp)] at q
    rw [hf, List.zip_nil_right]
    exact kat_nil q
  | x :: xs, y :: ys, i, _, _, ra, rb, c, hu, hf, q => by
    have hf' : fin = decide (xs.length < ys.length) := by rw [hf]; exact decide_eq_decide.mpr (by simp only [List.length_cons]; omega)
    cases ra with
    | cons r rs =>
      cases rb with
      | cons r' rs' =>
        rw [cmpKs] at c
        rw [List.zip_cons_cons]
        refine kat_cons (eqAt_key x y A s _ _ (IsD.nested _ _ r) (IsD.nested _ _ r') (room_head hu) prog w _ _ ?_)
        rcases e : NestedKey.beq x y with _ | _
        · rw [e, if_neg (by decide)] at c
          rw [lxt_cons_ne (beq_ne e)] at q
          exact kat_no (oneLt_key r r' c (room_head hu) q)
        · rw [e, if_pos rfl] at c
          rw [NestedKey.eq_of_beq _ _ e, lxt_cons_same] at q
          exact kat_yes (katLex_key xs ys (i + 1) _ _ rs rs' c (room_tail hu) hf' q)
end
end Gx

set_option Elab.async false
set_option linter.all false
set_option maxRecDepth 100000
set_option maxHeartbeats 4000000
/-! sorted(xs) of a list of tuples that can be compared -/
namespace Gx
open PySem PySem.Spec PyProof.Rows L2 Evl PySem.SeqAt PySem.W
def keyTy : NestedKey → Value
  | .none => .type "NoneType"
  | .num _ => .type "int"
  | .text _ => .type "str"
  | .tup _ => .type "tuple"
section
variable {M : Model} {A : Around} {E : Value → Shared → Prop} {s : Shared}
theorem looks_key {h : Heap} : ∀ {k : NestedKey} {v : Value}, IsD h k v → Looks M h (typeOf v) (keyTy k)
  | .none, _, x => by cases x; exact Looks.of_pure rfl
  | .num _, _, x => by cases x; exact Looks.of_pure rfl
  | .text _, _, x => by cases x; exact Looks.of_pure rfl
  | .tup ks, _, x => by
    cases x with
    | tup a b c d => show Looks M h (typeOf (Value.ref _)) (Value.type "tuple"); exact b ▸ (Looks.ld a).andThen .now
theorem mapM_two {α β : Type} {f : α → Sem β} {R : α → β → Prop} (h : ∀ v b, R v b → ∀ (Q' : β → Shared → Prop), Q' b s → wpAny M A (f v) Q' E s) : ∀ {l : List α} {bs : List β} {Q : List β → Shared → Prop}, EachIs R l bs → Q bs s → wpAny M A (l.mapM f) Q E s
  | _, _, _, .nil, q => by rw [List.mapM_nil]; exact wpAny_pure q
  | _, _, Q, .cons (b := b) r t, q => by
    rw [List.mapM_cons]
    exact wpAny_bind (h _ _ r _ (wpAny_bind (mapM_two h (Q := fun bs z => wpAny M A (pure (b :: bs)) Q E z) t (wpAny_pure q))))
/-- what the types of some values come to, as asked ahead of sorting -/
def oneTy (ts : List Value) : Option Value := match ts.toArray[0]? with
  | some t => if ts.toArray.all (fun x => x == t) = true then some t else none
  | none => none
theorem each_looks {h : Heap} : ∀ {vs : List Value} {ks : List NestedKey}, EachIs (fun v k => IsD h k v) vs ks → EachIs (fun v t => Looks M h (typeOf v) t) vs (ks.map keyTy)
  | _, _, .nil => .nil
  | _, _, .cons a t => .cons (looks_key a) (each_looks t)
theorem oneTy_asked {ks : List NestedKey} {vs : List Value} (r : EachIs (fun v k => IsD s.heap k v) vs ks) {Q : Option Value → Shared → Prop} (q : Q (oneTy (ks.map keyTy)) s) : wpAny M A (oneTypeOnly' vs.toArray) Q E s := by
  rw [oneTypeOnly'_eq, List.mapM_toArray, map_eq_pure_bind]
  refine wpAny_bind (wpAny_bind (mapM_two (fun v t l Q' q' => l.here q') (each_looks r) (wpAny_pure ?_)))
  unfold oneTy at q
  split
  · rename_i t e
    rw [e] at q
    exact wpAny_pure q
  · rename_i e
    rw [e] at q
    exact wpAny_pure q
/-- the first item of each tuple, as asked ahead of sorting -/
def FirstIs (h : Heap) (v : Value) (o : Option Value) : Prop := ∃ a ob xs n, v = .ref a ∧ h.get? a = some ob ∧ ob.cls = .type "tuple" ∧ ob.data = .seq xs n ∧ o = xs[0]?
theorem first_asked {v : Value} {o : Option Value} (x : FirstIs s.heap v o) {Q : Option Value → Shared → Prop} (q : Q o s) : wpAny M A (firstOfTuple' v) Q E s := by
  obtain ⟨a, ob, xs, n, rfl, h1, h2, h3, rfl⟩ := x
  rw [kas_first_eq]
  refine wpAny_bind (wpAny_typeOf (T := "tuple") ⟨ob, h1, h2⟩ ?_)
  rw [if_neg (by decide)]
  exact wpAny_bind (listItems_at h1 h3 (wpAny_pure q))
/-- the firsts of tuples: their keys, where each has one -/
theorem firsts_of {h : Heap} : ∀ {vs : List Value} {ks : List NestedKey}, EachIs (fun v k => IsD h k v) vs ks → (∀ k ∈ ks, ∃ l, k = .tup l) → ∃ os : List (Option Value), EachIs (FirstIs h) vs os ∧
    (os.all (·.isSome) = true → ∃ fs : List Value, ∃ hs : List NestedKey, os = fs.map some ∧ EachIs (fun v k => IsD h k v) fs hs)
  | _, _, .nil, _ => ⟨[], .nil, fun _ => ⟨[], [], rfl, .nil⟩⟩
  | _, _, .cons (b := k) a t, al => by
    obtain ⟨l, rfl⟩ := al k List.mem_cons_self
    obtain ⟨os, h1, h2⟩ := firsts_of t fun k m => al k (List.mem_cons_of_mem _ m)
    cases a with
    | @tup ad ob xs n _ g1 g2 g3 g4 =>
      refine ⟨xs[0]? :: os, .cons ⟨ad, ob, xs, n, rfl, g1, g2, g3, rfl⟩ h1, fun z => ?_⟩
      rw [List.all_cons, Bool.and_eq_true] at z
      obtain ⟨fs, hs, e, f⟩ := h2 z.2
      rw [← Array.getElem?_toList] at z ⊢
      generalize xs.toList = xl at g4 z
      cases g4 with
      | nil => simp at z
      | cons a b => exact ⟨_ :: fs, _ :: hs, by rw [e]; rfl, .cons a f⟩
/-- the kind of comparing that sorting takes -/
theorem kind_asked {ks : List NestedKey} {vs : List Value} (r : EachIs (fun v k => IsD s.heap k v) vs ks) (al : ∀ k ∈ ks, ∃ l, k = .tup l) :
    ∃ kd, (kd = general' ∨ kd = oneType' ∨ ∃ b, kd = tuples' b) ∧ ∀ (E : Value → Shared → Prop) {Q : SortKind → Shared → Prop}, Q kd s → wpAny M A (keyKind' vs.toArray) Q E s := by
  obtain ⟨os, h1, h2⟩ := firsts_of r al
  by_cases c : os.all (·.isSome) = true
  · obtain ⟨fs, hs, rfl, f⟩ := h2 c
    refine ⟨tuples' ((oneTy (hs.map keyTy)).any (· != .type "tuple")), .inr (.inr ⟨_, rfl⟩), fun E Q q => ?_⟩
    rw [kat_kind_eq, List.mapM_toArray, map_eq_pure_bind]
    refine wpAny_bind (wpAny_bind (mapM_two (f := firstOfTuple') (fun v o x Q' q' => first_asked x q') h1 (wpAny_pure ?_)))
    rw [if_pos (by simp)]
    refine wpAny_bind (wpAny_rule (wpAny_bind ?_))
    rw [show ((fs.map some).toArray.filterMap id) = fs.toArray by simp]
    exact oneTy_asked f (wpAny_pure q)
  · refine ⟨if (os.toArray[0]?.bind id).isSome then general' else if (oneTy (ks.map keyTy)).isSome then oneType' else general', ?_, fun E Q q => ?_⟩
    · split
      · exact .inl rfl
      · split
        · exact .inr (.inl rfl)
        · exact .inl rfl
    · rw [kat_kind_eq, List.mapM_toArray, map_eq_pure_bind]
      refine wpAny_bind (wpAny_bind (mapM_two (f := firstOfTuple') (fun v o x Q' q' => first_asked x q') h1 (wpAny_pure ?_)))
      rw [if_neg (by simpa using c)]
      split
      · rename_i z
        rw [if_pos z] at q
        exact wpAny_pure q
      · rename_i z
        rw [if_neg z] at q
        exact wpAny_bind (oneTy_asked r (wpAny_pure q))
end
/-- the keys of some tuples -/
noncomputable def keysN (h : Heap) (ks : List NestedKey) : PyProof.Rows.KeyKind where
  toKeyOrd := listOrd itemOrd
  keyOf v := open Classical in if q : ∃ k, k ∈ ks ∧ IsD h k v then some (tk q.choose) else none
  dflt := ([] : List (Int ⊕ List Nat))
theorem keysN_some {h : Heap} {ks : List NestedKey} {v : Value} {k : NestedKey} (m : k ∈ ks) (r : IsD h k v) : (keysN h ks).keyOf v = some (tk k) := by
  have q : ∃ k, k ∈ ks ∧ IsD h k v := ⟨k, m, r⟩
  have e : (keysN h ks).keyOf v = some (tk q.choose) := by
    show (open Classical in if q : ∃ k, k ∈ ks ∧ IsD h k v then some (tk q.choose) else none) = _
    rw [dif_pos q]
  rw [e, NestedIs.inj _ _ _ (IsD.nested _ _ q.choose_spec.2) (IsD.nested _ _ r)]
theorem keysN_inv {h : Heap} {ks : List NestedKey} {v : Value} {l : List (Int ⊕ List Nat)} (e : (keysN h ks).keyOf v = some l) : ∃ k, k ∈ ks ∧ IsD h k v ∧ l = tk k := by
  by_cases q : ∃ k, k ∈ ks ∧ IsD h k v
  · obtain ⟨k, m, r⟩ := q
    rw [keysN_some m r] at e
    exact ⟨k, m, r, (Option.some.inj e).symm⟩
  · have e2 : (keysN h ks).keyOf v = none := by
      show (open Classical in if q : ∃ k, k ∈ ks ∧ IsD h k v then some (tk q.choose) else none) = _
      rw [dif_neg q]; rfl
    rw [e2] at e; cases e
section
variable {prog : Program} {w : World} {A : Around} {s : Shared}
/-- tuples that can be compared two by two can be sorted -/
theorem SortsAt.keys {vs : List Value} {ks : List NestedKey} (r : EachIs (fun v k => IsD s.heap k v) vs ks) (al : ∀ k ∈ ks, ∃ l, k = .tup l) (cmp : ∀ k ∈ ks, ∀ k' ∈ ks, cmpK k k' = true) (hu : ∀ k ∈ ks, A.units + k.depth < cLine) :
    SortsAt prog w A s (keysN s.heap ks) vs := by
  refine ⟨fun v m => ?_, ?_⟩
  · obtain ⟨k, mk, x⟩ := r.left v m
    exact ⟨_, keysN_some mk x⟩
  · obtain ⟨kd, c, ask⟩ := kind_asked (M := model prog w) (A := A) (s := s) r al
    refine ⟨kd, fun E x y a b Q ha hb q => ?_, fun _ E Q q => ask E q⟩
    obtain ⟨k, mk, rk, rfl⟩ := keysN_inv ha
    obtain ⟨k', mk', rk', rfl⟩ := keysN_inv hb
    have room : A.units + min k.depth k'.depth < cLine := Nat.lt_of_le_of_lt (Nat.add_le_add_left (Nat.min_le_left _ _) _) (hu k mk)
    have c2 := cmp k mk k' mk'
    have q : Q (lxt (tk k) (tk k')) s := q
    rcases c with rfl | rfl | ⟨t, rfl⟩
    · exact oneLt_key (f := false) rk rk' c2 room q
    · rw [keyLt'_oneType]; exact oneLt_key rk rk' c2 room q
    · obtain ⟨l, rfl⟩ := al k mk
      obtain ⟨l', rfl⟩ := al k' mk'
      cases rk with
      | @tup a o xs n _ h1 h2 h3 h4 =>
        cases rk' with
        | @tup a' o' xs' n' _ g1 g2 g3 g4 =>
          have n1 : xs.size = l.length := by simpa using h4.len
          have n2 : xs'.size = l'.length := by simpa using g4.len
          rw [lxt_tup] at q
          exact kat_lt h1 h3 g1 g3 (katLex_key l l' 0 _ _ h4 g4 (by simpa only [cmpK] using c2) (by have q := SeqAt.room_in room; omega) (by rw [n1, n2]) q)
end
end Gx

set_option Elab.async false
set_option linter.all false
set_option maxRecDepth 100000
set_option maxHeartbeats 4000000
/-! sets of tuples, nested: the search, a member more -/
namespace Gx
open PySem PySem.Spec PyProof.Rows L2 Evl
abbrev Mem := List (Addr × NestedKey)
/-- the members as the set keeps them -/
def ents (w : World) (L : Mem) : List (Int × Value) := L.map fun p => (nh w p.2, Value.ref p.1)
abbrev hashes (w : World) (L : Mem) : List Int := L.map fun p => nh w p.2
/-- at a a set of the members L, each in its place -/
structure NSet (P : Program) (w : World) (h : Heap) (a : Addr) (L : Mem) (es : Array (Int × Value)) (ep : Nat) (t : SetTable) : Prop where
  ob : ∃ o, h.get? a = some o ∧ o.ExactSet ∧ o.data = .set es ep t
  rows : es.toList = ents w L
  tab : TabOk t (hashes w L)
  nd : (L.map (·.2)).Nodup
  tup : ∀ p ∈ L, IsN P w h p.2 p.1
  led : w.params.followText "set-order" = true ∨ t.led = true
  room : L.length * 5 < t.mask * 3
  few : L.length < 64
/-- the c-th step of the way of a hash -/
abbrev pth (t : SetTable) (h : Int) (c : Nat) : SetTable.Probe := nth t.mask (runAt t.mask (SetTable.bits h % (t.mask + 1)) (SetTable.bits h)) c
theorem nth_clear (m : Nat) : ∀ (n : Nat) (p : SetTable.Probe), p.dummy = none → (nth m p n).dummy = none
  | 0, _, h => h
  | n + 1, p, h => nth_clear m n (adv m p) (by unfold adv; split <;> exact h)
section
variable {P : Program} {w : World} {A : Around} {E : Value → Shared → Prop} {s : Shared} {a : Addr} {L : Mem} {es : Array (Int × Value)} {ep : Nat} {t : SetTable}
theorem NSet.sz (N : NSet P w s.heap a L es ep t) : es.size = L.length := by
  have q := congrArg List.length N.rows
  simpa only [ents, Array.length_toList, List.length_map] using q
theorem NSet.psz (N : NSet P w s.heap a L es ep t) : t.place.size = L.length := by
  have q := N.tab.sz
  simpa only [List.length_map] using q
theorem NSet.fit (N : NSet P w s.heap a L es ep t) : t.fits es.size = true := by
  have q1 := N.psz; have q2 := N.sz; have q3 := N.room
  simp only [SetTable.fits, SetTable.fill, N.tab.dm, Bool.and_eq_true, beq_iff_eq, decide_eq_true_eq]
  refine ⟨by omega, ?_⟩
  show t.place.size + 0 ≤ t.mask
  omega
theorem NSet.ent (N : NSet P w s.heap a L es ep t) {i : Nat} {p : Addr × NestedKey} (h : L[i]? = some p) : es[i]? = some (nh w p.2, Value.ref p.1) := by
  rw [← Array.getElem?_toList, N.rows, ents, List.getElem?_map, h]; rfl
theorem nset_gw (N : NSet P w s.heap a L es ep t) : ¬ t.gaveWay = true := by
  rw [SetTable.gaveWay, mask_odd N.tab.mok]; decide
set_option maxHeartbeats 8000000 in
/-- the search from the c-th step on: k is a member, or K is the first free place of its way -/
theorem nseek (N : NSet P w s.heap a L es ep t) {x : Addr} {k : NestedKey} (hx : IsN P w s.heap k x) (hu : A.units + 8 < cLine) {K : Nat} (Kf : K < 10 * SetTable.turns t.mask)
    (Kn : way t.mask (nh w k) K ∉ t.place.toList) (Kb : ∀ c, c < K → way t.mask (nh w k) c ∈ t.place.toList) {Q : SetFound → Shared → Prop}
    (there : k ∈ L.map (·.2) → Q (.there none) s) (free : k ∉ L.map (·.2) → Q (.free (way t.mask (nh w k) K) false) s) :
    ∀ (f c : Nat) (st : Option SetTable.Probe), st.getD (t.probeStart (nh w k)) = pth t (nh w k) c → c ≤ K → K - c < f →
      (∀ (i : Nat) p, L[i]? = some p → p.2 = k → ∃ d, c ≤ d ∧ d < K ∧ t.place.toList[i]? = some (way t.mask (nh w k) d)) → wpAny (model P w) A (setSearchFrom a (.ref x) (nh w k) true f st) Q E s
  | 0, _, _, _, _, bad, _ => absurd bad (Nat.not_lt_zero _)
  | f + 1, c, st, est, le, lf, ahead => by
    obtain ⟨o, ho, ex, hd⟩ := N.ob
    rw [setSearchFrom_succ]
    refine wpAny_bind (wpAny_setState_of ho hd N.fit ?_); dsimp only
    rw [if_neg (nset_gw N)]
    have hj : ∀ q, (nth t.mask (pth t (nh w k) c) q) = pth t (nh w k) (c + q) := fun q => (nth_add t.mask c _ q).symm
    have hjj : ∀ q, (nth t.mask (pth t (nh w k) c) q).j = way t.mask (nh w k) (c + q) := fun q => congrArg SetTable.Probe.j (hj q)
    have hAt : ∀ (i : Nat) p, L[i]? = some p → (es[i]?.map (·.1)).getD 0 = nh w p.2 := fun i p e => by rw [N.ent e]; rfl
    have spec := go_spec t N.tab.ris N.tab.dm (fun i => (es[i]?.map (·.1)).getD 0) (nh w k) (10 * SetTable.turns t.mask) (K - c) (pth t (nh w k) c) (nth_clear _ _ _ rfl) (by omega)
      (fun q lq => by rw [hjj]; exact Kb _ (by omega)) (by rw [hjj, show c + (K - c) = K by omega]; exact Kn)
    rcases spec with ⟨q, i, lq, hi, hh, no, pr⟩ | ⟨no, pr⟩
    · rw [show t.probe (fun i => (es[i]?.map (·.1)).getD 0) (nh w k) (st.getD (t.probeStart (nh w k))) = some (.candidate (way t.mask (nh w k) (c + q)) i (pth t (nh w k) (c + (q + 1)))) by rw [est, ← hjj, ← hj]; exact pr]
      dsimp only
      rw [hjj] at hi
      have il : i < L.length := by
        have z := (List.getElem?_eq_some_iff.mp hi).1
        have y := N.psz
        rw [Array.length_toList] at z
        omega
      obtain ⟨p, ep⟩ : ∃ p, L[i]? = some p := ⟨_, List.getElem?_eq_getElem il⟩
      have pm : p ∈ L := List.mem_of_getElem? ep
      have ends : wpAny (model P w) A (searchRest a (.ref x) (nh w k) true f es t (way t.mask (nh w k) (c + q)) i (pth t (nh w k) (c + (q + 1)))) Q E s := by
        unfold searchRest
        rw [N.ent ep]; dsimp only
        refine wpAny_bind (wpAny_holding ((nestedKind P w).eqBool hu (N.tup p pm) hx ?_))
        refine wpAny_bind (wpAny_setState_of ho hd N.fit ?_); dsimp only
        by_cases same : p.2 = k
        · rw [if_pos (by simp [same])]
          exact wpAny_pure (there (List.mem_map.mpr ⟨p, pm, same⟩))
        · rw [if_neg (by simp [same]), sameMem]; dsimp only
          have live : t.slot (way t.mask (nh w k) (c + q)) = .live i := slot_live N.tab.ris hi
          simp only [if_true, live, N.ent ep]
          refine wpAny_bind (wpAny_isSame_ref_self (wpAny_bind (wpAny_pure ?_)))
          simp only [if_true]
          rw [if_neg (by simp [same])]
          refine nseek N hx hu Kf Kn Kb there free f (c + (q + 1)) _ rfl (by omega) (by omega) fun i0 p0 e0 k0 => ?_
          obtain ⟨d, d1, d2, d3⟩ := ahead i0 p0 e0 k0
          refine ⟨d, ?_, d2, d3⟩
          rcases Nat.lt_trichotomy d (c + q) with lt | rfl | gt
          · exact absurd ((hAt i0 p0 e0).trans (congrArg (nh w) k0)) (no (d - c) i0 (by omega) (by rw [hjj, show c + (d - c) = d by omega]; exact d3))
          · have l2 := slot_live N.tab.ris d3
            rw [live] at l2
            injection l2 with l2
            rw [← l2, ep] at e0
            exact absurd ((congrArg Prod.snd (Option.some.inj e0)).trans k0) same
          · omega
      split
      · refine wpAny_bind (noseen hx (fun y hy => ?_) (by rw [if_neg (by decide)]; exact ends))
        obtain ⟨e, he, rfl⟩ := List.mem_map.mp hy
        have h1 : e ∈ es.toList := by
          have : e ∈ es ∧ e.1 = nh w k := by simpa using he
          simpa using this.1
        rw [N.rows] at h1
        obtain ⟨p2, m2, rfl⟩ := List.mem_map.mp h1
        exact ⟨_, _, rfl, N.tup p2 m2⟩
      · exact ends
    · rw [show t.probe (fun i => (es[i]?.map (·.1)).getD 0) (nh w k) (st.getD (t.probeStart (nh w k))) = some (.empty (way t.mask (nh w k) K) none) by
        rw [est, show way t.mask (nh w k) K = (nth t.mask (pth t (nh w k) c) (K - c)).j by rw [hjj, show c + (K - c) = K by omega]]; exact pr]
      dsimp only
      refine wpAny_pure (free fun m => ?_)
      obtain ⟨p0, m0, k0⟩ := List.mem_map.mp m
      obtain ⟨i0, l0, e0⟩ := List.getElem_of_mem m0
      have e00 : L[i0]? = some p0 := by rw [List.getElem?_eq_getElem l0, e0]
      obtain ⟨d, d1, d2, d3⟩ := ahead i0 p0 e00 k0
      exact no (d - c) i0 (by omega) (by rw [hjj, show c + (d - c) = d by omega]; exact d3) ((hAt i0 p0 e00).trans (congrArg (nh w) k0))
/-- the search as adding asks it -/
theorem nseek_at (N : NSet P w s.heap a L es ep t) {x : Addr} {k : NestedKey} (hx : IsN P w s.heap k x) (hu : A.units + 8 < cLine) {Q : SetFound → Shared → Prop} (there : k ∈ L.map (·.2) → Q (.there none) s)
    (free : ∀ K, k ∉ L.map (·.2) → way t.mask (nh w k) K ∉ t.place.toList → (∀ c, c < K → way t.mask (nh w k) c ∈ t.place.toList) → Q (.free (way t.mask (nh w k) K) false) s) :
    wpAny (model P w) A (setSearch a (.ref x) (nh w k) true) Q E s := by
  have rm := N.room
  obtain ⟨K, Kf, Kn, Kb⟩ := N.tab.first (by rw [List.length_map]; omega) (nh w k)
  have big : K < 100000 := by
    have : 10 * SetTable.turns t.mask ≤ 1420 := by
      unfold SetTable.turns
      rcases N.tab.mok with e | e | e <;> omega
    omega
  unfold setSearch
  refine nseek N hx hu Kf Kn Kb there (fun z => free K z Kn Kb) 100000 0 none rfl (Nat.zero_le _) (by omega) fun i p e k0 => ?_
  have il : i < t.place.toList.length := by
    have z := (List.getElem?_eq_some_iff.mp e).1
    rw [Array.length_toList, N.psz]; exact z
  have pj := List.getElem?_eq_getElem il
  obtain ⟨c, lc, ec⟩ := N.tab.before (h := nh w k) (i := i) Kn (by rw [List.getElem?_map, e, ← k0]; rfl) pj
  exact ⟨c, Nat.zero_le _, lc, by rw [pj, ec]⟩
end
end Gx

set_option Elab.async false
set_option linter.all false
set_option maxRecDepth 100000
set_option maxHeartbeats 4000000
/-! sets of tuples, nested: adding -/
namespace Gx
open PySem PySem.Spec PyProof.Rows L2 Evl
theorem put_in {α : Type} (L : List α) (p : Nat) (x : α) : (L.take p ++ x :: L.drop p).Perm (x :: L) :=
  List.perm_middle.trans (.of_eq (by rw [List.take_append_drop]))
theorem IsN.at_ {P : Program} {w : World} {h h' : Heap} {k : NestedKey} {b : Addr} (x : IsN P w h k b) (kp : ∀ c o vs n, h.get? c = some o → o.data = .seq vs n → h'.get? c = some o) : IsN P w h' k b := ⟨NestedIs.at kp _ _ x.1, x.2⟩
theorem IsN.keep {P : Program} {w : World} {h h' : Heap} {k : NestedKey} {b : Addr} (x : IsN P w h k b) (kp : ∀ c o, h.get? c = some o → h'.get? c = some o) : IsN P w h' k b := x.at_ fun c o _ _ e _ => kp c o e
theorem IsN.but {P : Program} {w : World} {h h' : Heap} {k : NestedKey} {a b : Addr} {o : Obj} {es : Array (Int × Value)} {ep : Nat} {t : SetTable} (x : IsN P w h k b) (ho : h.get? a = some o) (hd : o.data = .set es ep t) (sb : Heap.SameBut a h h') : IsN P w h' k b :=
  x.at_ fun c o' vs n e d => (sb.2 c fun z => by subst z; rw [ho] at e; cases e; rw [hd] at d; cases d).trans e
/-- what the order of laying anew makes of the members -/
theorem mem_order {w : World} {L : Mem} {es : Array (Int × Value)} {od : Array Nat} (hr : es.toList = ents w L) (hp : od.toList.Perm (List.range L.length)) :
    ∃ M : Mem, (od.filterMap (es[·]?)).toList = ents w M ∧ M.Perm L ∧ hashes w M = od.toList.map fun i => (es.map (·.1)).getD i 0 := by
  have at_ : ∀ i, es[i]? = (L[i]?).map (fun p : Addr × NestedKey => (nh w p.2, Value.ref p.1)) := fun i => by rw [← Array.getElem?_toList, hr, ents, List.getElem?_map]
  have fm : ∀ l : List Nat, (∀ i ∈ l, i < L.length) → l.filterMap (fun i => es[i]?) = ents w (l.filterMap fun i => L[i]?) ∧ hashes w (l.filterMap fun i => L[i]?) = l.map fun i => (es.map (·.1)).getD i 0 := by
    intro l
    induction l with
    | nil => intro _; exact ⟨rfl, rfl⟩
    | cons i l ih =>
      intro hl
      obtain ⟨p, e⟩ : ∃ p, L[i]? = some p := ⟨_, List.getElem?_eq_getElem (hl i List.mem_cons_self)⟩
      obtain ⟨h1, h2⟩ := ih fun j m => hl j (List.mem_cons_of_mem _ m)
      have e2 : es[i]? = some (nh w p.2, Value.ref p.1) := by rw [at_, e]; rfl
      rw [List.filterMap_cons_some e2, List.filterMap_cons_some e, h1, List.map_cons, ← h2]
      refine ⟨rfl, ?_⟩
      simp [hashes, Array.getD_eq_getD_getElem?, e2]
  obtain ⟨h1, h2⟩ := fm od.toList fun i m => List.mem_range.mp (hp.mem_iff.mp m)
  refine ⟨_, by simpa using h1, ?_, h2⟩
  have all : ∀ M : Mem, (List.range M.length).filterMap (fun i => M[i]?) = M := by
    intro M
    have up : ∀ n, n ≤ M.length → (List.range n).filterMap (fun i => M[i]?) = M.take n := by
      intro n
      induction n with
      | zero => intro _; rfl
      | succ n ih =>
        intro hn
        have e := List.getElem?_eq_getElem (show n < M.length from hn)
        rw [List.range_succ, List.filterMap_append, ih (Nat.le_of_lt hn), List.take_succ, e, List.filterMap_cons_some e]; rfl
    rw [up _ (Nat.le_refl _), List.take_length]
  exact (hp.filterMap _).trans (.of_eq (all L))
section
variable {P : Program} {w : World} {A : Around} {E : Value → Shared → Prop} {s : Shared} {a : Addr} {L : Mem} {es : Array (Int × Value)} {ep : Nat} {t : SetTable}
/-- laid anew, larger -/
theorem nrelay {o : Obj} (ho : s.heap.get? a = some o) (ex : o.ExactSet) (hd : o.data = .set es ep t) (hr : es.toList = ents w L) (pz : t.place.size = es.size) (dm : t.dummies = #[]) (fl : es.size ≤ t.mask)
    (nd : (L.map (·.2)).Nodup) (tup : ∀ p ∈ L, IsN P w s.heap p.2 p.1) (ld : w.params.followText "set-order" = true ∨ t.led = true) (few : L.length < 64) {n M : Nat}
    (hn : SetTable.sizeAbove n - 1 = M) (hM : MaskOk M) (h128 : SetTable.sizeAbove n ≤ 128) (rm : L.length * 5 < M * 3) {Q : Unit → Shared → Prop}
    (q : ∀ h' L' es' ep' t', Heap.SameBut a s.heap h' → NSet P w h' a L' es' ep' t' → L'.Perm L → Q () { s with heap := h' }) : wpAny (model P w) A (setRelay a n) Q E s := by
  have sl : es.size = L.length := by
    have z := congrArg List.length hr
    simpa only [ents, Array.length_toList, List.length_map] using z
  have fit : t.fits es.size = true := by
    simp only [SetTable.fits, SetTable.fill, dm, Bool.and_eq_true, beq_iff_eq, decide_eq_true_eq]
    exact ⟨pz, by show t.place.size + 0 ≤ t.mask; omega⟩
  obtain ⟨t', od, e, pm, T, em, el, _, ed⟩ := relaid_ok t (hs := es.map (·.1)) (wanted := n) hn hM (by rw [Array.size_map, sl]; omega)
  rw [Array.size_map, sl] at pm
  obtain ⟨M', r1, r2, r3⟩ := mem_order hr pm
  rw [← r3] at T
  have sz2 : (od.filterMap (es[·]?)).size = es.size := by
    have z := congrArg List.length r1
    simp only [ents, Array.length_toList, List.length_map, r2.length_eq] at z
    rw [z, sl]
  rw [setRelay_eq]
  refine wpAny_bind (wpAny_setState_of ho hd fit ?_); dsimp only
  rw [if_neg (by rw [sizeLine_eq]; omega), e]; dsimp only
  refine wpAny_bind ?_
  rw [if_neg (by rw [sz2]; simp)]
  refine wpAny_pure ?_; dsimp only
  have sb : Heap.SameBut a s.heap (s.heap.update a (Obj.putSet (od.filterMap (es[·]?)) t')) := Heap.SameBut.update ..
  refine wpAny_storeSet_of ho hd (q _ M' (od.filterMap (es[·]?)) (ep + 1) t' sb ?_ r2) (by rw [sz2, sl, sizeLine_eq]; omega)
  exact ⟨⟨_, store_at ho hd, ⟨ex.1, ex.2.1, ex.2.2⟩, rfl⟩, r1, T, (r2.map (·.2)).nodup_iff.mpr nd, fun p m => (tup p (r2.mem_iff.mp m)).but ho hd sb, by rw [el]; exact ld, by rw [r2.length_eq, em]; exact rm, by rw [r2.length_eq]; exact few⟩
set_option maxHeartbeats 8000000 in
/-- a member more, new or not -/
theorem nadd (N : NSet P w s.heap a L es ep t) {x : Addr} {k : NestedKey} (hx : IsN P w s.heap k x) (hu : A.units + 8 < cLine) (few : L.length + 1 < 64) {Q : Bool → Shared → Prop}
    (q : ∀ b h' L' es' ep' t', Heap.SameBut a s.heap h' → NSet P w h' a L' es' ep' t' → (k ∈ L.map (·.2) → L' = L) → (k ∉ L.map (·.2) → L'.Perm ((x, k) :: L)) → Q b { s with heap := h' }) :
    wpAny (model P w) A (setAddHashed a (.ref x) (nh w k)) Q E s := by
  obtain ⟨o, ho, ex, hd⟩ := N.ob
  have sl := N.sz
  have rm := N.room
  unfold setAddHashed
  refine wpAny_holding ?_
  rw [show (100000 : Nat) = 99999 + 1 from rfl, setAddHashedIn_succ]
  refine wpAny_bind (wpAny_setState_of ho hd N.fit ?_); dsimp only
  rw [if_neg (by simp [byScan, Value.scannable])]
  refine wpAny_bind (nseek_at N hx hu (fun m => ?_) fun K nm Kn Kb => ?_)
  · exact wpAny_pure (q false s.heap L es ep t (Heap.SameBut.refl a s.heap) N (fun _ => rfl) fun z => absurd m z)
  dsimp only
  refine wpAny_bind (wpAny_setState_of ho hd N.fit ?_); dsimp only
  obtain ⟨q1, q2, q3, q4, q5, q6, q7, q8, q9⟩ := N.tab.put Kn Kb
  generalize t.put (way t.mask (nh w k) K) = pt at q1 q3 q4 q5 q6 q7 q8 q9 ⊢
  obtain ⟨t1, p⟩ := pt
  dsimp only at q1 q3 q4 q5 q6 q7 q8 q9 ⊢
  obtain rfl := q1
  -- whatever is said of the hash, the table is t1 or t1 with plain untrue
  have rest : ∀ t2 : SetTable, t2.place = t1.place → t2.mask = t1.mask → t2.dummies = t1.dummies → t2.led = t1.led → t2.fill = t1.fill →
      wpAny (model P w) A (do
        storeSet a (SetTable.insertAt es (SetTable.below t.place (way t.mask (nh w k) K)) (nh w k, Value.ref x)) t2
        if !false && t2.tooFull then setRelay a (SetTable.grown (es.size + 1))
        return true) Q E s := by
    intro t2 p1 p2 p3 p4 p5
    have T2 : TabOk t2 ((hashes w L).take (SetTable.below t.place (way t.mask (nh w k) K)) ++ nh w k :: (hashes w L).drop (SetTable.below t.place (way t.mask (nh w k) K))) :=
      ⟨by rw [p1]; exact q3.ris, by rw [p3]; exact q3.dm, by rw [p1]; exact q3.sz, by rw [p2]; exact q3.mok, by rw [p1, p2]; exact q3.bd, by rw [p1, p2]; exact q3.reach⟩
    generalize SetTable.below t.place (way t.mask (nh w k) K) = b at q2 T2 ⊢
    have rows : (SetTable.insertAt es b (nh w k, Value.ref x)).toList = ents w (L.take b ++ (x, k) :: L.drop b) := by
      rw [SetTable.toList_insertAt, N.rows]; simp only [ents, List.map_append, List.map_cons, List.map_take, List.map_drop]
    have hh : hashes w (L.take b ++ (x, k) :: L.drop b) = (hashes w L).take b ++ nh w k :: (hashes w L).drop b := by simp only [hashes, List.map_append, List.map_cons, List.map_take, List.map_drop]
    rw [← hh] at T2
    have pm := put_in L b (x, k)
    have len : (L.take b ++ (x, k) :: L.drop b).length = L.length + 1 := pm.length_eq
    generalize L.take b ++ (x, k) :: L.drop b = L1 at rows T2 pm len
    have nd1 : (L1.map (·.2)).Nodup := (pm.map (·.2)).nodup_iff.mpr (by rw [List.map_cons]; exact List.nodup_cons.mpr ⟨nm, N.nd⟩)
    have z1 : (SetTable.insertAt es b (nh w k, Value.ref x)).size = L.length + 1 := by
      have z := congrArg List.length rows
      simpa only [ents, Array.length_toList, List.length_map, len] using z
    generalize SetTable.insertAt es b (nh w k, Value.ref x) = es1 at rows z1 ⊢
    refine wpAny_bind (wpAny_storeSet_of ho hd ?_ (by rw [z1, sizeLine_eq]; omega))
    have sb : Heap.SameBut a s.heap (s.heap.update a (Obj.putSet es1 t2)) := Heap.SameBut.update ..
    have ho1 := store_at (es' := es1) (t' := t2) ho hd
    generalize s.heap.update a (Obj.putSet es1 t2) = h1 at sb ho1 ⊢
    have tup1 : ∀ p ∈ L1, IsN P w h1 p.2 p.1 := fun p m => by
      rcases List.mem_cons.mp (pm.mem_iff.mp m) with rfl | m
      · exact hx.but ho hd sb
      · exact (N.tup p m).but ho hd sb
    have ld1 : w.params.followText "set-order" = true ∨ t2.led = true := by rw [p4, q5]; exact N.led
    have fill1 : t2.fill = L.length + 1 := by rw [p5, q9, List.length_map]
    by_cases full : t2.tooFull = true
    · dsimp only
      rw [if_pos (by simp [full])]
      refine wpAny_bind ?_
      have f5 : (L.length + 1) * 5 ≥ t2.mask * 3 := by
        have z := full
        unfold SetTable.tooFull at z
        rwa [decide_eq_true_eq, fill1] at z
      rw [p2, q4] at f5
      have pz1 : t2.place.size = es1.size := by
        have z := T2.sz
        rw [List.length_map, len] at z
        rw [z, z1]
      rw [sl]
      have two : (t.mask = 7 ∧ L.length = 4) ∨ (t.mask = 31 ∧ L.length = 18) := by
        rcases N.tab.mok with e | e | e <;> rw [e] at f5 rm
        · exact .inl ⟨e, by omega⟩
        · exact .inr ⟨e, by omega⟩
        · omega
      have go : ∀ M, SetTable.sizeAbove (SetTable.grown (L.length + 1)) - 1 = M → MaskOk M → SetTable.sizeAbove (SetTable.grown (L.length + 1)) ≤ 128 → (L.length + 1) * 5 < M * 3 → wpAny (model P w) A (setRelay a (SetTable.grown (L.length + 1))) (fun _ z => wpAny (model P w) A (pure true) Q E z) E { s with heap := h1 } := by
        intro M g1 g2 g3 g4
        refine nrelay (s := { s with heap := h1 }) ho1 ⟨ex.1, ex.2.1, ex.2.2⟩ rfl rows pz1 T2.dm (by rw [z1, p2, q4]; rcases two with ⟨e, e2⟩ | ⟨e, e2⟩ <;> omega) nd1 tup1 ld1 (by omega) g1 g2 g3 (by rw [len]; exact g4) fun h2 L2 es2 ep2 t2 sb2 N2 pm2 => ?_
        exact wpAny_pure (q true h2 L2 es2 ep2 t2 (sb.trans sb2) N2 (fun z => absurd z nm) fun _ => pm2.trans pm)
      rcases two with ⟨_, e⟩ | ⟨_, e⟩
      · exact go 31 (by rw [e, size_20]) (.inr (.inl rfl)) (by rw [e, size_20]; decide) (by omega)
      · exact go 127 (by rw [e, size_76]) (.inr (.inr rfl)) (by rw [e, size_76]; decide) (by omega)
    · dsimp only
      rw [if_neg (by simp [full])]
      refine wpAny_pure ((q true h1 L1 es1 (ep + 1) t2 sb ⟨⟨_, ho1, ⟨ex.1, ex.2.1, ex.2.2⟩, rfl⟩, rows, T2, nd1, tup1, ld1, ?_, by omega⟩ (fun z => absurd z nm) fun _ => pm))
      have z := full
      unfold SetTable.tooFull at z
      rw [decide_eq_true_eq, fill1] at z
      rw [len]
      omega
  by_cases pl : t1.plain = true
  · rw [if_pos pl]
    refine wpAny_bind (hashsaid_key k _ 8 s hx.1 hx.2 _ _ _ fun b => ?_)
    cases b with
    | true => exact rest t1 rfl rfl rfl rfl rfl
    | false => exact rest { t1 with plain := false } rfl rfl rfl rfl rfl
  · rw [if_neg pl]
    exact rest t1 rfl rfl rfl rfl rfl
end
end Gx

set_option Elab.async false
set_option linter.all false
set_option maxRecDepth 100000
set_option maxHeartbeats 4000000
/-! sorted(set(xs)) of a list of texts: the set as it grows -/
namespace Gx
open PySem PySem.Spec PyProof.Rows L2 Evl
def txOf (e : Int × Value) : Str := match e.2 with | .str k _ => k | _ => ""
/-- a set of the texts l, in some order, that can be walked -/
structure Txs (P : Program) (w : World) (h : Heap) (a : Addr) (D : Froz.SD) (l : List Str) : Prop where
  at_ : h.get? a = some (Froz.sObj "set" D)
  ok : Froz.TxOk P w D l
  each : (D.1.toList.map txOf).Perm l
  one : l.Nodup
  up : Ris D.2.2.place.toList
  led : w.params.followText "set-order" = true ∨ D.2.2.led = true
section
variable {P : Program} {w : World} {A : Around} {E : Value → Shared → Prop} {s : Shared}
theorem Txs.keep {h h' : Heap} {a : Addr} {D : Froz.SD} {l : List Str} (T : Txs P w h a D l) (k : ∀ o, h.get? a = some o → h'.get? a = some o) : Txs P w h' a D l :=
  ⟨k _ T.at_, T.ok, T.each, T.one, T.up, T.led⟩
theorem tail_perm (ep : Nat) (es : Array (Int × Value)) (t : SetTable) (b : Bool) : (Froz.tailTx ep es t b).1.toList.Perm es.toList := by
  unfold Froz.tailTx
  by_cases c : (!b && t.tooFull) = true
  · rw [if_pos c]; exact relayAll_perm _ _ _
  · rw [if_neg c]
theorem tail_ris (ep : Nat) (es : Array (Int × Value)) (t : SetTable) (b : Bool) (r : Ris t.place.toList) : Ris (Froz.tailTx ep es t b).2.2.place.toList := by
  unfold Froz.tailTx
  by_cases c : (!b && t.tooFull) = true
  · rw [if_pos c]; exact relayAll_ris _ _ _
  · rw [if_neg c]; exact r
theorem tail_led (ep : Nat) (es : Array (Int × Value)) (t : SetTable) (b : Bool) : (Froz.tailTx ep es t b).2.2.led = t.led := by
  unfold Froz.tailTx
  by_cases c : (!b && t.tooFull) = true
  · rw [if_pos c]; exact relayAll_led _ _ _
  · rw [if_neg c]
theorem addTx_perm (h : Int) (v : Value) (D : Froz.SD) : (Froz.addTx h v D).1.toList.Perm ((h, v) :: D.1.toList) := by
  obtain ⟨es, ep, t⟩ := D
  have p1 := layNew_perm t es h v
  rw [Array.toList_push] at p1
  exact (tail_perm _ _ _ _).trans (p1.trans (List.perm_append_singleton _ _))
theorem addTx_ris (h : Int) (v : Value) (D : Froz.SD) (r : Ris D.2.2.place.toList) : Ris (Froz.addTx h v D).2.2.place.toList := by
  obtain ⟨es, ep, t⟩ := D
  have r1 := layNew_ris t es h v r
  refine tail_ris _ _ _ _ ?_
  split
  · exact r1
  · exact r1
theorem addTx_led (h : Int) (v : Value) (D : Froz.SD) : (Froz.addTx h v D).2.2.led = D.2.2.led := by
  obtain ⟨es, ep, t⟩ := D
  have r1 := layNew_led t es h v
  refine (tail_led _ _ _ _).trans ?_
  split
  · exact r1
  · exact r1
/-- a text that is there already: nothing happens -/
theorem tx_old {a : Addr} {D : Froz.SD} {l : List Str} {k : Str} {u : Tok} {Q : Bool → Shared → Prop} (T : Txs P w s.heap a D l) (hk : k ∈ l) (few : l.length < scanBound) (q : Q false s) :
    wpAny (model P w) A (setAddHashed a (.str k u) (hashStr w k)) Q E s := by
  obtain ⟨es, ep, t⟩ := D
  have el : ElemsOf (strKind P w) es.toList := T.ok.el
  have fit : t.fits es.size = true := T.ok.fit
  have sz : es.size < scanBound := by rw [show es.size = l.length from T.ok.sz]; exact few
  have is : (strKind P w).is k (.str k u) = true := Froz.is_str k u
  have dat : (Froz.sObj "set" (es, ep, t)).data = .set es ep t := rfl
  have found : ∃ j, List.findIdx? (fun e => (strKind P w).is k e.2) es.toList = some j := by
    cases g : List.findIdx? (fun e => (strKind P w).is k e.2) es.toList with
    | some j => exact ⟨j, rfl⟩
    | none =>
      obtain ⟨e, he, z⟩ := (T.ok.mem k).mp hk
      have no := List.findIdx?_eq_none_iff.mp g e he
      rw [z] at no
      cases no
  obtain ⟨j, hj⟩ := found
  unfold setAddHashed setAddHashedIn
  refine wpAny_holding (wpAny_bind (wpAny_setState_of T.at_ dat fit ?_)); dsimp only
  rw [byScan_of (show (Value.str k u).scannable = true from rfl) sz el]; simp only [↓reduceIte]
  unfold setAddByScan
  refine wpAny_bind (wpAny_bind (wpAny_rule (wpAny_bind (wpAny_setScan_of (knd := strKind P w) (k := k) is T.at_ dat fit el ?_))))
  rw [hj]; dsimp only
  exact wpAny_pure (wpAny_pure q)
/-- a text more, new or not -/
theorem tx_add {a : Addr} {D : Froz.SD} {l : List Str} {k : Str} {u : Tok} {Q : Bool → Shared → Prop} (T : Txs P w s.heap a D l) (few : l.length + 1 < scanBound)
    (q : ∀ b h' D' l', Heap.SameBut a s.heap h' → Txs P w h' a D' l' → (∀ x, x ∈ l' ↔ x ∈ l ∨ x = k) → l'.length ≤ l.length + 1 → Q b { s with heap := h' }) :
    wpAny (model P w) A (setAddHashed a (.str k u) (hashStr w k)) Q E s := by
  by_cases hk : k ∈ l
  · exact tx_old T hk (by omega) (q false s.heap D l (Heap.SameBut.refl a s.heap) T (fun x => ⟨.inl, fun z => z.elim id fun e => by rw [e]; exact hk⟩) (Nat.le_succ _))
  · refine Froz.add_x (l := l) T.at_ T.ok hk few (q true _ (Froz.addTx (hashStr w k) (.str k u) D) (k :: l) (Heap.SameBut.update s.heap a _) ?_ (fun x => ?_) (Nat.le_refl _))
    · refine ⟨Froz.get_upd _ T.at_ rfl, Froz.add_ok u T.ok, ?_, List.nodup_cons.mpr ⟨hk, T.one⟩, addTx_ris _ _ _ T.up, T.led.imp id fun z => by rw [addTx_led]; exact z⟩
      have p1 := (addTx_perm (hashStr w k) (.str k u) D).map txOf
      exact p1.trans (T.each.cons k)
    · rw [List.mem_cons]; exact Or.comm
end
end Gx

set_option Elab.async false
set_option linter.all false
set_option maxRecDepth 100000
set_option maxHeartbeats 4000000
/-! sorted(set(xs)) of a list of texts: the set's making, its walk, its order -/
namespace Gx
open PySem PySem.Spec PyProof.Rows L2 Evl
section
variable {P : Program} {w : World} {A : Around} {E : Value → Shared → Prop} {s : Shared}
/-- the loop that fills the set -/
theorem tx_loop {it a : Addr} {fp wr : List Addr} {G : Array GenState → Array GenState → Prop} {n : Nat} {Y : Nat → Value → Prop} {St : Nat → Shared → Prop} {R : Result → Shared → Prop} (W : WalksS P w A.in1 it fp wr G n Y St)
    (off : a ∉ fp) (ks : List Str) (en : n = ks.length) (few : ks.length + 1 < scanBound) (txt : ∀ i v, Y i v → ∃ k u, ks[i]? = some k ∧ v = .str k u) :
    ∀ (m i : Nat) (s : Shared), n - i = m → i ≤ n → St i s → (∃ D l, Txs P w s.heap a D l ∧ (∀ x, x ∈ l ↔ x ∈ ks.take i) ∧ l.length ≤ i) →
      (∀ s' D l, Moved (a :: wr) G s s' → Txs P w s'.heap a D l → (∀ x, x ∈ l ↔ x ∈ ks) → l.length ≤ ks.length → R (.ok (.ret .none)) s') → codeAny (model P w) A (.builtin "set.update.loop" ⟨[.ref a, .ref it], []⟩) R s := by
  have offw : a ∉ wr := fun z => off (W.sub _ z)
  intro m
  induction m with
  | zero =>
    intro i s e le st ⟨D, l, T, me, ll⟩ k
    obtain rfl : i = n := by omega
    refine codeAny_builtin F.entry_set_update_loop ?_
    rw [Around.under_plainId F.plain_set_update_loop _]
    refine wpAny_bind (m := pyNext (.ref it)) (W.done s _ _ st fun t mv => ?_)
    refine wpAny_pure (k t D l (mv.mono fun b z => List.mem_cons_of_mem _ z) (T.keep fun o z => mv.heap a o offw z) (fun x => ?_) (by omega))
    rw [me, en, List.take_length]
  | succ m ih =>
    intro i s e le st ⟨D, l, T, me, ll⟩ k
    have lt : i < n := by omega
    refine codeAny_builtin F.entry_set_update_loop ?_
    rw [Around.under_plainId F.plain_set_update_loop _]
    refine wpAny_bind (m := pyNext (.ref it)) (W.item i s _ _ lt st fun v t hv st2 mv => ?_)
    obtain ⟨x, u, hx, rfl⟩ := txt i v hv
    have T2 : Txs P w t.heap a D l := T.keep fun o z => mv.heap a o offw z
    refine wpAny_bind (m := holding [Value.str x u] (setAdd a (.str x u))) (wpAny_holding ?_)
    unfold setAdd
    refine wpAny_holding (wpAny_bind ((strKind P w).pyHash (k := x) (Froz.is_str x u) ?_))
    refine tx_add (s := { t with toks := t.toks + 1 }) T2 (by omega) fun b h' D' l' same T3 me3 ll3 => ?_
    refine wpAny_pure ⟨plainId_quiet F.plain_set_update_loop _, ih (i + 1) _ (by omega) lt (W.frame _ t _ _ st2 (Nat.le_succ _) fun c hc o z => ?_) ⟨D', l', T3, fun y => ?_, by omega⟩ fun s' D2 l2 mv2 T4 me4 ll4 => ?_⟩
    · rw [same.2 c (fun q : c = a => off (by rw [← q]; exact hc))]; exact z
    · rw [me3, me, L2.take_next hx, List.mem_append, List.mem_singleton]
    · refine k s' D2 l2 (Moved.trans W.gtrans ((mv.mono fun b z => List.mem_cons_of_mem _ z).then_heap (Nat.le_succ _) fun c o hc z => ?_) mv2) T4 me4 ll4
      rw [same.2 c (fun q : c = a => hc (by rw [q]; exact List.mem_cons_self))]; exact z
/-- the empty set -/
theorem txs_fresh {h : Heap} {a : Addr} (at_ : h.get? a = some { cls := .type "set", dict := none, data := .set #[] 0 (.fresh 0 0 (!w.params.followText "set-order")) }) : Txs P w h a (#[], 0, .fresh 0 0 (!w.params.followText "set-order")) [] :=
  ⟨at_, Froz.TxOk.nil rfl, .refl _, List.nodup_nil, List.Pairwise.nil, by cases g : w.params.followText "set-order"; exact .inr rfl; exact .inl rfl⟩
/-- the set as it is made, in the model's words -/
abbrev newSet (w : World) : Obj := { cls := .type "set", dict := none, data := .set #[] 0 (.fresh 0 0 (!w.params.followText "set-order")) }
set_option maxHeartbeats 8000000 in
/-- set(xs), xs a list of texts -/
theorem set_texts {b : Addr} {its : Array Value} (ks : List Str) {Q : Value → Shared → Prop} (calm : A.handled = none) (hb : s.heap.IsList b its) (txt : ∀ (i : Nat) (v : Value), its[i]? = some v → ∃ k u, ks[i]? = some k ∧ v = Value.str k u) (en : its.size = ks.length)
    (few : ks.length + 1 < scanBound) (q : ∀ (h' : Heap) (tk : Nat) D l, Txs P w h' s.heap.objs.size D l → (∀ x, x ∈ l ↔ x ∈ ks) → l.length ≤ ks.length → (∀ c o, s.heap.get? c = some o → h'.get? c = some o) → Q (.ref s.heap.objs.size) { s with heap := h', toks := tk }) :
    wpAny (model P w) A (call (.type "set") [.ref b]) Q E s := by
  obtain ⟨_, _, mr⟩ := F.called_set.mro; have m1 := F.called_set.made; have m2 := F.called_set.sub
  refine wpAny_call (codeAny_of_tree (show wpAny _ _ (callAny (.type "set") _) _ _ _ from ?_))
  refine wpAny_pure ⟨Code.quiet_builtin _ (by decide +kernel), codeAny_builtin F.entry_type_call ?_⟩
  rw [Around.under_plain (weight_type_call_type "set" [.ref b] []) rfl]
  have m3 := F.called_set.notType; have m4 := F.called_set.canCreate; have m5 := F.typeCall_set_1 (.ref b)
  repeat (any_goals (first | assumption | wp_step))
  refine codeAny_mono (L2.code_set_led1 (.ref b) (E := E) (Q₁ := fun z s1 => z = .ref s.heap.objs.size ∧ s1 = { s with heap := s.heap.push (newSet w) }) ⟨rfl, rfl⟩) fun r s1 hr => ?_
  rcases r with _ | fl
  · exact hr
  cases fl <;> try exact hr.elim
  obtain ⟨rfl, rfl⟩ := hr
  have at_ : (s.heap.push (newSet w)).get? s.heap.objs.size = some (newSet w) := Heap.get?_push_size _ rfl
  have ty : Shared.TypeIs { s with heap := s.heap.push (newSet w) } (.ref s.heap.objs.size) "set" := ⟨_, at_, rfl⟩
  have m6 := F.called_set.init.lookup; have m7 := F.called_set.init.bind (.ref s.heap.objs.size)
  repeat (any_goals (first | assumption | wp_step))
  refine codeAny_mono (codeAny_call_builtin (R := wants (fun z s2 => z = .none ∧ ∃ h' tk D l, s2 = { s with heap := h', toks := tk } ∧ Txs P w h' s.heap.objs.size D l ∧ (∀ x, x ∈ l ↔ x ∈ ks) ∧ l.length ≤ ks.length ∧
    (∀ c o, s.heap.get? c = some o → h'.get? c = some o)) E) F.called_set.init.plain F.entry_set_init (check_set_init_1 ty ?_)) fun r s2 hr => ?_
  · obtain ⟨⟨oc, od, oa, os⟩, ho, hc, cap, hd⟩ := hb
    simp only at hc hd
    subst hc hd
    have ho2 : (s.heap.push (newSet w)).get? b = some { cls := .type "list", dict := od, data := .seq its cap, slots := os } := Heap.get?_push_of_some _ ho
    have m8 := F.sub_list_set; have m9 := F.sub_list_frozenset
    have m10 : (Value.type "list" == Value.type "dict") = false := by decide
    have isl : (s.heap.push (newSet w)).IsList b its := ⟨_, ho2, rfl, cap, rfl⟩
    unfold Builtin.«set.__init__» noKeywords Builtin.Frozenset.updateFrom
    generalize gg : pyIter = pit
    wp_walk
    subst gg
    refine wpAny_pyIter_list isl (wpAny_bind (wpAny_runValue ?_))
    have bl : b < s.heap.objs.size := Heap.lt_size ho
    have sz : (s.heap.push (newSet w)).objs.size = s.heap.objs.size + 1 := Heap.size_push ..
    have W := Walks.list (prog := P) (w := w) (A := A.in1.in1.in1) (by simp [calm]) (s.heap.push (newSet w)).objs.size b (by rw [sz]; exact Nat.ne_of_lt (Nat.lt_succ_of_lt bl)) its
    refine tx_loop W.toS (a := s.heap.objs.size) (fun z => ?_) ks en few txt (its.size - 0) 0 _ (by omega) (Nat.zero_le _) ⟨⟨_, Heap.get?_push_size _ rfl, rfl, rfl⟩, isl.push _⟩ ?_ ?_
    · rcases List.mem_cons.mp z with e | e
      · rw [sz] at e; exact absurd e (Nat.ne_of_lt (Nat.lt_succ_self _))
      · exact absurd (List.mem_singleton.mp e) (Nat.ne_of_gt bl)
    · exact ⟨_, [], txs_fresh (Heap.get?_push_of_some _ at_), fun x => by simp, Nat.zero_le _⟩
    · rintro ⟨h', g', d', t', o'⟩ D l mv T me ll
      obtain rfl : g' = s.gens := mv.gens
      obtain rfl : d' = s.drawn := mv.drawn
      obtain rfl : o' = s.os := mv.os
      refine wpAny_pure (wpAny_pure ⟨rfl, h', t', D, l, rfl, T, me, ll, fun c o hc => ?_⟩)
      have lt := Heap.lt_size hc
      refine mv.heap c o (fun z => ?_) (Heap.get?_push_of_some _ (Heap.get?_push_of_some _ hc))
      rcases List.mem_cons.mp z with e | e
      · rw [e] at lt; exact Nat.lt_irrefl _ lt
      · rw [List.mem_singleton.mp e, sz] at lt; exact absurd lt (Nat.not_lt.mpr (Nat.le_succ _))
  · rcases r with _ | fl
    · exact hr
    cases fl <;> try exact hr.elim
    obtain ⟨rfl, h', tk, D, l, rfl, T, me, ll, kp⟩ := hr
    repeat (any_goals (first | assumption | wp_step))
    exact q h' tk D l T me ll kp
end
end Gx

set_option Elab.async false
set_option linter.all false
set_option maxRecDepth 100000
set_option maxHeartbeats 4000000
/-! set(xs) of a list of tuples, nested -/
namespace Gx
open PySem PySem.Spec PyProof.Rows L2 Evl
/-- the members are what the first i items are -/
structure Fed (ks : Mem) (i : Nat) (L : Mem) : Prop where
  sub : ∀ p ∈ L, p ∈ ks
  mem : ∀ x, x ∈ L.map (·.2) ↔ x ∈ (ks.take i).map (·.2)
  len : L.length ≤ i
section
variable {P : Program} {w : World} {A : Around} {E : Value → Shared → Prop} {s : Shared} {a : Addr} {L : Mem} {es : Array (Int × Value)} {ep : Nat} {t : SetTable}
theorem NSet.stay {h h' : Heap} (N : NSet P w h a L es ep t) (ka : ∀ o, h.get? a = some o → h'.get? a = some o) (kt : ∀ p ∈ L, IsN P w h' p.2 p.1) : NSet P w h' a L es ep t := by
  obtain ⟨o, ho, z⟩ := N.ob
  exact { N with ob := ⟨o, ka o ho, z⟩, tup := kt }
theorem nset_new {h : Heap} (at_ : h.get? a = some (newSet w)) : NSet P w h a [] #[] 0 (.fresh 0 0 (!w.params.followText "set-order")) :=
  ⟨⟨_, at_, ⟨rfl, rfl, rfl⟩, rfl⟩, rfl, ⟨.nil, rfl, rfl, .inl rfl, fun x m => (by cases m), fun i h j e => (by simp at e)⟩, List.nodup_nil, fun p m => (by cases m),
    by cases g : w.params.followText "set-order"; exact .inr rfl; exact .inl rfl, by show 0 * 5 < 7 * 3; decide, by show 0 < 64; decide⟩
/-- the loop that fills the set -/
theorem n_loop {it : Addr} {fp wr : List Addr} {G : Array GenState → Array GenState → Prop} {n : Nat} {Y : Nat → Value → Prop} {St : Nat → Shared → Prop} {R : Result → Shared → Prop} (W : WalksS P w A.in1 it fp wr G n Y St)
    (off : a ∉ fp) (ks : Mem) (en : n = ks.length) (few : ks.length < 64) (vals : ∀ i v, Y i v → ∃ p, ks[i]? = some p ∧ v = .ref p.1) (h0 : Heap) (k0 : ∀ p ∈ ks, IsN P w h0 p.2 p.1) (a0 : h0.get? a = none) (w0 : ∀ b ∈ wr, h0.get? b = none) (hu : A.in1.units + 8 < cLine) :
    ∀ (m i : Nat) (s : Shared), n - i = m → i ≤ n → St i s → (∀ b o, h0.get? b = some o → s.heap.get? b = some o) → (∃ L es ep t, NSet P w s.heap a L es ep t ∧ Fed ks i L) →
      (∀ s' L es ep t, Moved (a :: wr) G s s' → NSet P w s'.heap a L es ep t → Fed ks n L → (∀ b o, h0.get? b = some o → s'.heap.get? b = some o) → R (.ok (.ret .none)) s') → codeAny (model P w) A (.builtin "set.update.loop" ⟨[.ref a, .ref it], []⟩) R s := by
  have offw : a ∉ wr := fun z => off (W.sub _ z)
  have wide : ∀ b ∈ wr, b ∈ a :: wr := fun b z => List.mem_cons_of_mem _ z
  have mvk : ∀ {s s' : Shared}, Moved wr G s s' → (∀ b o, h0.get? b = some o → s.heap.get? b = some o) → ∀ b o, h0.get? b = some o → s'.heap.get? b = some o := fun mv k b o e =>
    mv.heap b o (fun z => by rw [w0 b z] at e; cases e) (k b o e)
  intro m
  induction m with
  | zero =>
    intro i s e le st kp ⟨L, es, ep, t, N, g⟩ fin
    obtain rfl : i = n := by omega
    refine codeAny_builtin F.entry_set_update_loop ?_
    rw [Around.under_plainId F.plain_set_update_loop _]
    refine wpAny_bind (m := pyNext (.ref it)) (W.done s _ _ st fun z mv => ?_)
    exact wpAny_pure (fin z L es ep t (mv.mono wide) (N.stay (fun o y => mv.heap a o offw y) fun p pm => (k0 p (g.sub p pm)).keep (mvk mv kp)) g (mvk mv kp))
  | succ m ih =>
    intro i s e le st kp ⟨L, es, ep, t, N, g⟩ fin
    have lt : i < n := by omega
    refine codeAny_builtin F.entry_set_update_loop ?_
    rw [Around.under_plainId F.plain_set_update_loop _]
    refine wpAny_bind (m := pyNext (.ref it)) (W.item i s _ _ lt st fun v z hv st2 mv => ?_)
    obtain ⟨p, ep, rfl⟩ := vals i v hv
    have kp2 := mvk mv kp
    have N2 : NSet P w z.heap a L es _ t := N.stay (fun o y => mv.heap a o offw y) fun q qm => (k0 q (g.sub q qm)).keep kp2
    have hx : IsN P w z.heap p.2 p.1 := (k0 p (List.mem_of_getElem? ep)).keep kp2
    refine wpAny_bind (m := holding [Value.ref p.1] (setAdd a (.ref p.1))) (wpAny_holding ?_)
    unfold setAdd
    refine wpAny_holding (wpAny_bind ((nestedKind P w).pyHash hu hx ?_))
    refine nadd (s := { z with toks := z.toks + p.2.draws }) N2 hx hu (by have := g.len; omega) fun b h' L' es' ep' t' sb N3 c1 c2 => ?_
    have mt : p.2 ∈ (ks.take (i + 1)).map (·.2) := by rw [L2.take_next ep, List.map_append]; exact List.mem_append_right _ (List.mem_singleton.mpr rfl)
    have g2 : Fed ks (i + 1) L' := by
      have step : ∀ x, x ∈ (ks.take (i + 1)).map (·.2) ↔ x ∈ (ks.take i).map (·.2) ∨ x = p.2 := fun x => by rw [L2.take_next ep, List.map_append, List.mem_append, List.map_cons, List.map_nil, List.mem_singleton]
      by_cases c : p.2 ∈ L.map (·.2)
      · obtain rfl := c1 c
        exact ⟨g.sub, fun x => by rw [step, ← g.mem]; exact ⟨.inl, fun y => y.elim id fun y => y ▸ c⟩, Nat.le_succ_of_le g.len⟩
      · have pm := c2 c
        refine ⟨fun q qm => ?_, fun x => ?_, ?_⟩
        · rcases List.mem_cons.mp (pm.mem_iff.mp qm) with rfl | y
          · exact List.mem_of_getElem? ep
          · exact g.sub q y
        · rw [step, ← g.mem, (pm.map (·.2)).mem_iff, List.map_cons, List.mem_cons]; exact Or.comm
        · rw [pm.length_eq, List.length_cons]; exact Nat.succ_le_succ g.len
    have kp3 : ∀ b o, h0.get? b = some o → h'.get? b = some o := fun b o y => (sb.2 b (fun q => by rw [q, a0] at y; cases y)).trans (kp2 b o y)
    refine wpAny_pure ⟨plainId_quiet F.plain_set_update_loop _, ih (i + 1) _ (by omega) lt (W.frame _ z _ _ st2 (Nat.le_add_right _ _) fun c hc o y => ?_) kp3 ⟨L', es', ep', t', N3, g2⟩ fun s' L2 es2 ep2 t2 mv2 N4 g4 kp4 => ?_⟩
    · rw [sb.2 c (fun q : c = a => off (by rw [← q]; exact hc))]; exact y
    · refine fin s' L2 es2 ep2 t2 (Moved.trans W.gtrans ((mv.mono wide).then_heap (Nat.le_add_right _ _) fun c o hc y => ?_) mv2) N4 g4 kp4
      rw [sb.2 c (fun q : c = a => hc (by rw [q]; exact List.mem_cons_self))]; exact y
set_option maxHeartbeats 8000000 in
/-- set(xs), xs a list of tuples -/
theorem set_nested {b : Addr} {its : Array Value} (ks : Mem) {Q : Value → Shared → Prop} (calm : A.handled = none) (hb : s.heap.IsList b its) (vals : ∀ (i : Nat) (v : Value), its[i]? = some v → ∃ p, ks[i]? = some p ∧ v = Value.ref p.1) (en : its.size = ks.length)
    (k0 : ∀ p ∈ ks, IsN P w s.heap p.2 p.1) (few : ks.length < 64) (hu : A.units + 16 < cLine) (q : ∀ (h' : Heap) (tk : Nat) L es ep t, NSet P w h' s.heap.objs.size L es ep t → Fed ks ks.length L → (∀ c o, s.heap.get? c = some o → h'.get? c = some o) → Q (.ref s.heap.objs.size) { s with heap := h', toks := tk }) :
    wpAny (model P w) A (call (.type "set") [.ref b]) Q E s := by
  obtain ⟨_, _, mr⟩ := F.called_set.mro; have m1 := F.called_set.made; have m2 := F.called_set.sub
  refine wpAny_call (codeAny_of_tree (show wpAny _ _ (callAny (.type "set") _) _ _ _ from ?_))
  refine wpAny_pure ⟨Code.quiet_builtin _ (by decide +kernel), codeAny_builtin F.entry_type_call ?_⟩
  rw [Around.under_plain (weight_type_call_type "set" [.ref b] []) rfl]
  have m3 := F.called_set.notType; have m4 := F.called_set.canCreate; have m5 := F.typeCall_set_1 (.ref b)
  repeat (any_goals (first | assumption | wp_step))
  refine codeAny_mono (L2.code_set_led1 (.ref b) (E := E) (Q₁ := fun z s1 => z = .ref s.heap.objs.size ∧ s1 = { s with heap := s.heap.push (newSet w) }) ⟨rfl, rfl⟩) fun r s1 hr => ?_
  rcases r with _ | fl
  · exact hr
  cases fl <;> try exact hr.elim
  obtain ⟨rfl, rfl⟩ := hr
  have at_ : (s.heap.push (newSet w)).get? s.heap.objs.size = some (newSet w) := Heap.get?_push_size _ rfl
  have ty : Shared.TypeIs { s with heap := s.heap.push (newSet w) } (.ref s.heap.objs.size) "set" := ⟨_, at_, rfl⟩
  have m6 := F.called_set.init.lookup; have m7 := F.called_set.init.bind (.ref s.heap.objs.size)
  repeat (any_goals (first | assumption | wp_step))
  have gone : ∀ c, s.heap.objs.size ≤ c → s.heap.get? c = none := fun c lc => by
    cases z : s.heap.get? c with
    | none => rfl
    | some o => exact absurd (Nat.lt_of_lt_of_le (Heap.lt_size z) lc) (Nat.lt_irrefl _)
  refine codeAny_mono (codeAny_call_builtin (R := wants (fun z s2 => z = .none ∧ ∃ h' tk L es ep t, s2 = { s with heap := h', toks := tk } ∧ NSet P w h' s.heap.objs.size L es ep t ∧ Fed ks ks.length L ∧
    (∀ c o, s.heap.get? c = some o → h'.get? c = some o)) E) F.called_set.init.plain F.entry_set_init (check_set_init_1 ty ?_)) fun r s2 hr => ?_
  · obtain ⟨⟨oc, od, oa, os⟩, ho, hc, cap, hd⟩ := hb
    simp only at hc hd
    subst hc hd
    have ho2 : (s.heap.push (newSet w)).get? b = some { cls := .type "list", dict := od, data := .seq its cap, slots := os } := Heap.get?_push_of_some _ ho
    have m8 := F.sub_list_set; have m9 := F.sub_list_frozenset
    have m10 : (Value.type "list" == Value.type "dict") = false := by decide
    have isl : (s.heap.push (newSet w)).IsList b its := ⟨_, ho2, rfl, cap, rfl⟩
    unfold Builtin.«set.__init__» noKeywords Builtin.Frozenset.updateFrom
    generalize gg : pyIter = pit
    wp_walk
    subst gg
    refine wpAny_pyIter_list isl (wpAny_bind (wpAny_runValue ?_))
    have bl : b < s.heap.objs.size := Heap.lt_size ho
    have sz : (s.heap.push (newSet w)).objs.size = s.heap.objs.size + 1 := Heap.size_push ..
    have W := Walks.list (prog := P) (w := w) (A := A.in1.in1.in1) (by simp [calm]) (s.heap.push (newSet w)).objs.size b (by rw [sz]; exact Nat.ne_of_lt (Nat.lt_succ_of_lt bl)) its
    refine n_loop W.toS (a := s.heap.objs.size) (fun z => ?_) ks en few vals s.heap k0 (gone _ (Nat.le_refl _)) (fun c z => gone c (by rw [List.mem_singleton.mp z, sz]; exact Nat.le_succ _)) (by show A.units + 1 + 1 + 1 + 8 < cLine; omega) (its.size - 0) 0 _ (by omega) (Nat.zero_le _)
      ⟨⟨_, Heap.get?_push_size _ rfl, rfl, rfl⟩, isl.push _⟩ (fun c o z => Heap.get?_push_of_some _ (Heap.get?_push_of_some _ z)) ?_ ?_
    · rcases List.mem_cons.mp z with e | e
      · rw [sz] at e; exact absurd e (Nat.ne_of_lt (Nat.lt_succ_self _))
      · exact absurd (List.mem_singleton.mp e) (Nat.ne_of_gt bl)
    · exact ⟨[], #[], 0, _, nset_new (Heap.get?_push_of_some _ at_), fun p m => (by cases m), fun x => by simp, Nat.zero_le _⟩
    · rintro ⟨h', g', d', t', o'⟩ L es ep t mv N g kp
      obtain rfl : g' = s.gens := mv.gens
      obtain rfl : d' = s.drawn := mv.drawn
      obtain rfl : o' = s.os := mv.os
      rw [en] at g
      exact wpAny_pure (wpAny_pure ⟨rfl, h', t', L, es, ep, t, rfl, N, g, kp⟩)
  · rcases r with _ | fl
    · exact hr
    cases fl <;> try exact hr.elim
    obtain ⟨rfl, h', tk, L, es, ep, t, rfl, N, g, kp⟩ := hr
    repeat (any_goals (first | assumption | wp_step))
    exact q h' tk L es ep t N g kp
end
end Gx

set_option Elab.async false
set_option linter.all false
set_option maxRecDepth 100000
set_option maxHeartbeats 4000000
/-! sorted(set(xs)) of a list of texts, as rules -/
namespace Gx
open PySem PySem.Spec PyProof.Rows L2 Evl
section
variable {P : Program} {w : World} {A : Around} {E : Value → Shared → Prop} {s : Shared}
/-- the texts l, each once, in their order -/
def sortTx (l : List Str) : List Str := l.mergeSort fun a b => decide (a.cps.toList ≤ b.cps.toList)
/-- sorted(the set) -/
theorem sorted_texts {a : Addr} {D : Froz.SD} {l : List Str} {Q : Value → Shared → Prop} (T : Txs P w s.heap a D l) (calm : A.handled = none) (few : l.length < scanBound) (room : A.units + 60 < cLine)
    (q : ∀ s' p (out : Array Value) (c : Nat) (r : List Str), (∀ b o, s.heap.get? b = some o → s'.heap.get? b = some o) → s'.gens = s.gens → s'.os = s.os → s.heap.objs.size ≤ p →
      s'.heap.get? p = some (seqObj "list" out c) → PySem.W.EachIs (fun v (k : Str) => ∃ u, v = Value.str k u) out.toList (sortTx r) → r.Perm l → Q (.ref p) s') : wpAny (model P w) A (call (.builtin "sorted") [.ref a]) Q E s := by
  obtain ⟨es, ep, t⟩ := D
  refine Calls.call_function_entry kind_sorted plain_sorted entry_sorted (args_sorted1 _) ?_
  unfold Builtin.«sorted»
  refine wpAny_bind (m := checkCount "sorted" 1 1 _) (wpAny_pure (wpAny_bind ?_))
  have szl : es.size = l.length := T.ok.sz
  refine collect_set (A := A.in1) calm ⟨_, T.at_, rfl, rfl⟩ T.ok.fit (by rw [szl]; exact few) T.up T.led fun s1 vs kp zs gs os pm => ?_
  have lv : vs.length = l.length := by rw [pm.length_eq, List.length_map, Array.length_toList]; exact szl
  have sline : scanBound ≤ sizeLine := by rw [sizeLine_eq]; decide
  refine wpAny_bind (wpAny_newList ?_ (by rw [lv]; exact Nat.le_of_lt (Nat.lt_of_lt_of_le few sline)))
  have oL : (s1.heap.push (seqObj "list" vs.toArray 0)).get? s1.heap.objs.size = some (seqObj "list" vs.toArray 0) := Heap.get?_push_size _ rfl
  -- what stands in the list: texts
  obtain ⟨r, er, pr⟩ : ∃ r : List Str, PySem.W.EachIs (fun v (k : Str) => ∃ u, v = Value.str k u) vs r ∧ r.Perm l := by
    have ev : ∀ vs : List Value, (∀ v ∈ vs, ∃ k u, v = Value.str k u) → PySem.W.EachIs (fun v (k : Str) => ∃ u, v = Value.str k u) vs (vs.map fun v => txOf (0, v)) := by
      intro vs
      induction vs with
      | nil => intro _; exact .nil
      | cons v vs ih =>
        intro h
        obtain ⟨k, u, rfl⟩ := h v List.mem_cons_self
        exact .cons ⟨u, rfl⟩ (ih fun x hx => h x (List.mem_cons_of_mem _ hx))
    refine ⟨_, ev vs fun v hv => ?_, ?_⟩
    · obtain ⟨e, he, rfl⟩ := List.mem_map.mp (pm.mem_iff.mp hv)
      obtain ⟨⟨k, z, _⟩, _⟩ := T.ok.el e he
      obtain ⟨eh, v⟩ := e
      cases v <;> simp [PySem.strKind, Value.isStrOf] at z
      exact ⟨_, _, rfl⟩
    · have p2 := (pm.map fun v => txOf (0, v)).trans (.of_eq (List.map_map ..))
      exact p2.trans T.each
  have alike : PySem.W.AllAlike (r.map PyData.str) := PySem.W.AllAlike.of (enc := PyData.str) fun _ _ => rfl
  have able : PySem.W.Sortable (r.map PyData.str) := PySem.W.Sortable.others (enc := PyData.str) fun _ => ⟨fun z => (by cases z), fun _ z => (by cases z)⟩
  refine wpAny_bind (wpAny_holding (PySem.W.list_sort_data (s := { s1 with heap := s1.heap.push (seqObj "list" vs.toArray 0) }) (β := Str) (R := fun v (k : Str) => ∃ u, v = Value.str k u) (enc := PyData.str) oL er
    (er.mono fun v k ⟨u, e⟩ => ⟨[], by rw [e]; exact .str k u, List.not_mem_nil⟩) alike able (by rw [pr.length_eq]; exact Nat.le_of_lt (Nat.lt_of_lt_of_le few sline)) (fun k _ => by show A.units + 1 + 1 + 0 < cLine; omega) fun out lo eo => ?_))
  obtain ⟨c, hc⟩ := sortedHeap_at (vs := vs) (out := out.toArray) oL
  have le : PySem.W.dataLe false (fun k : Str => PyData.str k) = fun a b => decide (a.cps.toList ≤ b.cps.toList) := PySem.W.dataLe_str fun k => k
  rw [show PySem.W.dataLe false PyData.str = PySem.W.dataLe false (fun k : Str => PyData.str k) from rfl, le] at eo
  refine wpAny_pure ⟨_, rfl, q _ s1.heap.objs.size out.toArray c r (fun b o e => ?_) gs os zs hc eo pr⟩
  have z := kp b o e
  have lt := Heap.lt_size z
  exact (sortedHeap_old (Nat.ne_of_lt lt) (by rw [size_push']; exact Nat.lt_succ_of_lt lt)).trans (Heap.get?_push_of_some _ z)
end
end Gx

set_option Elab.async false
set_option linter.all false
set_option maxRecDepth 100000
set_option maxHeartbeats 4000000
/-! set(xs) and sorted of it, xs a list of texts -/
namespace Gx
open PySem PySem.Spec PyProof.Rows L2 Evl
/-- r: the texts of S, each once, in their order -/
structure Ords (r : List Str) (S : Str → Prop) : Prop where
  up : r.Pairwise fun a b => a.cps.toList < b.cps.toList
  mem : ∀ x, x ∈ r ↔ S x
theorem str_ext {a b : Str} (h : a.cps.toList = b.cps.toList) : a = b := by
  obtain ⟨x⟩ := a
  obtain ⟨y⟩ := b
  have : x = y := Array.toList_inj.mp h
  rw [this]
theorem ords_one : ∀ {r t : List Str}, r.Pairwise (fun a b : Str => a.cps.toList < b.cps.toList) → t.Pairwise (fun a b : Str => a.cps.toList < b.cps.toList) → (∀ x, x ∈ r ↔ x ∈ t) → r = t
  | [], [], _, _, _ => rfl
  | [], b :: t, _, _, m => absurd ((m b).mpr List.mem_cons_self) (by simp)
  | a :: r, [], _, _, m => absurd ((m a).mp List.mem_cons_self) (by simp)
  | a :: r, b :: t, h1, h2, m => by
    obtain ⟨g1, k1⟩ := List.pairwise_cons.mp h1
    obtain ⟨g2, k2⟩ := List.pairwise_cons.mp h2
    have e : a = b := by
      rcases List.mem_cons.mp ((m a).mp List.mem_cons_self) with z | z
      · exact z
      · rcases List.mem_cons.mp ((m b).mpr List.mem_cons_self) with y | y
        · exact y.symm
        · exact absurd (List.lt_trans (g1 b y) (g2 a z)) (List.lt_irrefl _)
    subst e
    refine congrArg (a :: ·) (ords_one k1 k2 fun x => ⟨fun hx => ?_, fun hx => ?_⟩)
    · rcases List.mem_cons.mp ((m x).mp (List.mem_cons_of_mem _ hx)) with z | z
      · subst z; exact absurd (g1 x hx) (List.lt_irrefl _)
      · exact z
    · rcases List.mem_cons.mp ((m x).mpr (List.mem_cons_of_mem _ hx)) with z | z
      · subst z; exact absurd (g2 x hx) (List.lt_irrefl _)
      · exact z
theorem Ords.one {r t : List Str} {S : Str → Prop} (h : Ords r S) (h' : Ords t S) : r = t := ords_one h.up h'.up fun x => (h.mem x).trans (h'.mem x).symm
theorem sortTx_ords {l r : List Str} (p : r.Perm l) (one : l.Nodup) : Ords (sortTx r) (· ∈ l) := by
  have pm : (sortTx r).Perm r := List.mergeSort_perm _ _
  have nd : (sortTx r).Nodup := pm.nodup_iff.mpr (p.nodup_iff.mpr one)
  have le : (sortTx r).Pairwise fun a b => decide (a.cps.toList ≤ b.cps.toList) = true := List.pairwise_mergeSort (fun a b c h1 h2 => by
      simp only [decide_eq_true_eq] at *; exact List.le_trans h1 h2) (fun a b => by
      simp only [Bool.or_eq_true, decide_eq_true_eq]; exact List.le_total _ _) r
  refine ⟨?_, fun x => pm.mem_iff.trans p.mem_iff⟩
  refine (le.and nd).imp fun {a b} ⟨h1, h2⟩ => ?_
  have h1 := of_decide_eq_true h1
  exact Std.lt_of_le_of_ne h1 fun e => h2 (str_ext e)
/-- a set of the texts l -/
def SetTx (P : Program) (w : World) (a : Addr) (l : List Str) : HO := .ext fun h => ∃ D, Txs P w h a D l
theorem setTx_ok {P : Program} {w : World} {H : Hp} {h : Heap} {a : Addr} {D : Froz.SD} {l : List Str} (T : Txs P w h a D l) : ObjOk P w H h a (SetTx P w a l) :=
  ⟨⟨D, T⟩, ⟨_, T.at_⟩, fun h1 h2 ⟨D', T'⟩ k => ⟨D', T'.keep fun o z => k o z⟩⟩
def rSetTx (K : PySem.W.Frag) (P : Program) (w : World) : List V → Hp → VK → Prop := fun xs H Q => ∃ (b : Addr) (ks : List Str), xs = [.ref b] ∧ SqL K H b (ks.map V.str) ∧ ks.length ≤ 4000 ∧
  ∀ a l, H a = none → (∀ x, x ∈ l ↔ x ∈ ks) → l.length ≤ ks.length → Q (.ref a) (upd H a (SetTx P w a l))
theorem strs_at : ∀ {ks : List Str} {us : List Value}, Vals (ks.map V.str) us → ∀ (i : Nat) (v : Value), us[i]? = some v → ∃ k u, ks[i]? = some k ∧ v = Value.str k u
  | [], _, .nil, i, v, h => by simp at h
  | k :: ks, _, .cons r t, 0, v, h => by
    obtain ⟨u, e⟩ := r
    simp at h
    exact ⟨k, u, rfl, by rw [← h, e]⟩
  | k :: ks, _, .cons r t, i + 1, v, h => strs_at t i v (by simpa using h)
theorem strs_back : ∀ {ks : List Str} {us : List Value}, PySem.W.EachIs (fun v (k : Str) => ∃ u, v = Value.str k u) us ks → Vals (ks.map V.str) us
  | [], _, .nil => .nil
  | k :: ks, _, .cons ⟨u, e⟩ t => .cons ⟨u, e⟩ (strs_back t)
section
variable {X : Cx}
theorem cr_setTx (calm : X.calm = true) : CallR X (.type "set") (rSetTx X.K X.prog X.w) := by
  rintro pins s σ H xs us Q I r ⟨b, ks, rfl, hb, few, q⟩
  obtain rfl := Vals.ref1 r
  obtain ⟨its, rv, pl, hz⟩ := I.list hb
  have lv : its.length = ks.length := by have := rv.length; rw [List.length_map] at this; exact this.symm
  refine set_texts (P := X.prog) (w := X.w) ks (I.ok.hd calm) pl.isList (fun i v h => strs_at rv i v (by simpa using h)) (by simpa using lv) (by unfold scanBound; omega) fun h' tk D l T me ll kp => ?_
  exact ⟨.ref s.heap.objs.size, _, I.laid (t' := tk) (o := SetTx X.prog X.w s.heap.objs.size l) kp (Nat.le_refl _) (setTx_ok T), rfl, q _ l (I.hok.fresh (Nat.le_refl _)) me ll⟩
/-- sorted(set of texts) -/
def rSortedTx (P : Program) (w : World) : List V → Hp → VK → Prop := fun vs H Q => ∃ (a : Addr) (l : List Str), vs = [.ref a] ∧ H a = some (SetTx P w a l) ∧ l.length ≤ 4000 ∧
  ∀ p r, H p = none → Ords r (· ∈ l) → r.length = l.length → Q (.ref p) (upd H p (.lst (r.map V.str)))
theorem cr_sortedTx (calm : X.calm = true) (room : X.A.units + 60 < cLine) : CallR X (.builtin "sorted") (rSortedTx X.prog X.w) := by
  rintro pins s σ H vs us Q I r ⟨a, l, rfl, ha, few, q⟩
  obtain rfl := Vals.ref1 r
  obtain ⟨D, T⟩ := (show ObjOk X.prog X.w H s.heap a (SetTx X.prog X.w a l) from I.hok a _ ha).1
  refine sorted_texts T (I.ok.hd calm) (by unfold scanBound; omega) room fun t p out c rr kp gs os zs at_ each pm => ?_
  have nw : H p = none := I.hok.fresh zs
  have len : (sortTx rr).length = l.length := (List.mergeSort_perm _ _).length_eq.trans pm.length_eq
  have vals := strs_back each
  have J : L2.Inv X pins σ (upd H p (.lst ((sortTx rr).map V.str))) { s with heap := t.heap, gens := t.gens, drawn := t.drawn, toks := t.toks } :=
    I.call (ch := []) (Un.laid kp zs nw) (I.hok.laid kp zs ⟨by rw [List.length_map, len, sizeLine_eq]; omega, out.toList, c, vals, at_⟩) (by rw [gs]; exact I.bare) fun _ z => nomatch z
  have e : t = { s with heap := t.heap, gens := t.gens, drawn := t.drawn, toks := t.toks } := by cases t; cases s; cases os; rfl
  rw [e]
  exact ⟨.ref p, _, J, rfl, q p _ nw (sortTx_ords pm T.one) len⟩
end
end Gx

set_option Elab.async false
set_option linter.all false
set_option maxRecDepth 100000
set_option maxHeartbeats 4000000
/-! sorted(xs), set(xs), sorted(set(xs)), xs a list of tuples of data that can be compared: as rules -/
namespace Gx
open PySem PySem.Spec PyProof.Rows L2 Evl
mutual
/-- data that may be a key: no truths, lists, dicts -/
def keyable : PyData → Bool
  | .none => true
  | .int _ => true
  | .str _ => true
  | .tuple ds => keyables ds
  | _ => false
def keyables : List PyData → Bool
  | [] => true
  | d :: ds => keyable d && keyables ds
end
mutual
def toKey : PyData → NestedKey
  | .none => .none
  | .int i => .num i
  | .str x => .text x
  | .tuple ds => .tup (toKeys ds)
  | _ => .none
def toKeys : List PyData → List NestedKey
  | [] => []
  | d :: ds => toKey d :: toKeys ds
end
mutual
theorem toKey_inj : ∀ a b : PyData, keyable a = true → keyable b = true → toKey a = toKey b → a = b
  | .none, b, _, hb, e => by cases b <;> simp_all [toKey, keyable]
  | .int i, b, _, hb, e => by cases b <;> simp_all [toKey, keyable]
  | .str x, b, _, hb, e => by cases b <;> simp_all [toKey, keyable]
  | .tuple ds, b, ha, hb, e => by
    cases b with
    | tuple es =>
      simp only [toKey, NestedKey.tup.injEq] at e
      simp only [keyable] at ha hb
      rw [toKeys_inj ds es ha hb e]
    | _ => simp_all [toKey, keyable]
  | .bool _, _, ha, _, _ | .list _, _, ha, _, _ | .dict _, _, ha, _, _ => by simp [keyable] at ha
theorem toKeys_inj : ∀ a b : List PyData, keyables a = true → keyables b = true → toKeys a = toKeys b → a = b
  | [], [], _, _, _ => rfl
  | [], _ :: _, _, _, e => by simp [toKeys] at e
  | _ :: _, [], _, _, e => by simp [toKeys] at e
  | a :: as, b :: bs, ha, hb, e => by
    simp only [toKeys, List.cons.injEq] at e
    simp only [keyables, Bool.and_eq_true] at ha hb
    rw [toKey_inj a b ha.1 hb.1 e.1, toKeys_inj as bs ha.2 hb.2 e.2]
end
mutual
theorem toKey_depth : ∀ d : PyData, (toKey d).depth ≤ d.depth
  | .none | .int _ | .str _ | .bool _ | .list _ | .dict _ => by simp [toKey, NestedKey.depth]
  | .tuple ds => by
    simp only [toKey, NestedKey.depth, PyData.depth]
    have := toKeys_depth ds
    omega
theorem toKeys_depth : ∀ ds : List PyData, NestedKey.depthAll (toKeys ds) ≤ PyData.depthAll ds
  | [] => by simp [toKeys, NestedKey.depthAll]
  | d :: ds => by
    simp only [toKeys, NestedKey.depthAll, PyData.depthAll]
    have := toKey_depth d
    have := toKeys_depth ds
    omega
end
mutual
theorem reads_isD {h : Heap} : ∀ (d : PyData) (u : Value) (as : List Addr), Reads h u d as → keyable d = true → IsD h (toKey d) u
  | .none, _, _, r, _ => by cases r; exact .none
  | .int _, _, _, r, _ => by cases r; exact .int _ _
  | .str _, _, _, r, _ => by cases r; exact .text _ _
  | .tuple ds, _, _, r, k => by
    cases r with
    | tuple a b c e => exact .tup a b c (reads_isDs ds _ _ e (by simpa only [keyable] using k))
  | .bool _, _, _, _, k | .list _, _, _, _, k | .dict _, _, _, _, k => by simp [keyable] at k
theorem reads_isDs {h : Heap} : ∀ (ds : List PyData) (us : List Value) (as : List Addr), ReadsAll h us ds as → keyables ds = true → IsDs h (toKeys ds) us
  | [], _, _, r, _ => by cases r; exact .nil
  | d :: ds, _, _, r, k => by
    simp only [keyables, Bool.and_eq_true] at k
    cases r with
    | cons a b => exact .cons (reads_isD d _ _ a k.1) (reads_isDs ds _ _ b k.2)
end
/-- the order of data as keys -/
def ltD (a b : PyData) : Bool := lxt (tk (toKey a)) (tk (toKey b))
abbrev leT (p q : V × PyData) : Bool := !ltD q.2 p.2
/-- tuples that can be compared two by two -/
structure Cmps (ds : List PyData) : Prop where
  tup : ∀ d ∈ ds, ∃ xs, d = .tuple xs
  key : ∀ d ∈ ds, keyable d = true
  cmp : ∀ d ∈ ds, ∀ e ∈ ds, cmpK (toKey d) (toKey e) = true
  deep : ∀ d ∈ ds, d.depth ≤ 8
theorem Cmps.sub {ds es : List PyData} (h : Cmps ds) (s : ∀ d ∈ es, d ∈ ds) : Cmps es :=
  ⟨fun d m => h.tup d (s d m), fun d m => h.key d (s d m), fun d m e n => h.cmp d (s d m) e (s e n), fun d m => h.deep d (s d m)⟩
def rSortedT (K : PySem.W.Frag) : List V → Hp → VK → Prop := fun vs H Q => ∃ (a : Addr) (ps : List (V × PyData)), vs = [.ref a] ∧ SqL K H a (ps.map (·.1)) ∧ (∀ p ∈ ps, Dp K H p.1 p.2) ∧ Cmps (ps.map (·.2)) ∧
  ∀ p, H p = none → Q (.ref p) (upd H p (.lst ((ps.mergeSort leT).map (·.1))))
section
variable {X : Cx}
theorem each_isD {pins : List (Addr × Obj)} {σ : L2.St} {H : Hp} {s : Shared} (I : L2.Inv X pins σ H s) : ∀ {ps : List (V × PyData)} {us : List Value}, (∀ p ∈ ps, Dp X.K H p.1 p.2) → (∀ p ∈ ps, keyable p.2 = true) → PySem.W.EachIs (fun u b => RelV b.1 u) us ps →
    PySem.W.EachIs (fun u (b : V × PyData) => IsD s.heap (toKey b.2) u) us ps
  | [], _, _, _, h => by cases h; exact .nil
  | p :: ps, _, d, k, h => by
    cases h with
    | cons h1 h2 =>
      obtain ⟨as, r⟩ := Dp.reads I _ _ _ (d p List.mem_cons_self) h1
      exact .cons (reads_isD _ _ _ r (k p List.mem_cons_self)) (each_isD I (fun q hq => d q (List.mem_cons_of_mem _ hq)) (fun q hq => k q (List.mem_cons_of_mem _ hq)) h2)
theorem each_keyed {h : Heap} : ∀ {ps : List (V × PyData)} {us : List Value}, PySem.W.EachIs (fun u (b : V × PyData) => IsD h (toKey b.2) u) us ps → PySem.W.EachIs (fun u k => IsD h k u) us (ps.map fun b => toKey b.2)
  | _, _, .nil => .nil
  | _, _, .cons a t => .cons a (each_keyed t)
theorem each_some {h : Heap} {ks : List NestedKey} : ∀ {ps : List (V × PyData)} {us : List Value}, PySem.W.EachIs (fun u (b : V × PyData) => IsD h (toKey b.2) u) us ps → (∀ b ∈ ps, toKey b.2 ∈ ks) →
    PySem.W.EachIs (fun u (b : V × PyData) => (keysN h ks).keyOf u = some (tk (toKey b.2))) us ps
  | _, _, .nil, _ => .nil
  | _, _, .cons a t, m => .cons (keysN_some (m _ List.mem_cons_self) a) (each_some t fun b hb => m b (List.mem_cons_of_mem _ hb))
theorem Cmps.keyed {ps : List (V × PyData)} (c : Cmps (ps.map (·.2))) : (∀ k ∈ ps.map fun b => toKey b.2, ∃ l, k = .tup l) ∧ (∀ k ∈ ps.map fun b => toKey b.2, ∀ k' ∈ ps.map fun b => toKey b.2, cmpK k k' = true) ∧ ∀ k ∈ ps.map fun b => toKey b.2, k.depth ≤ 8 := by
  have at_ : ∀ k ∈ ps.map fun b => toKey b.2, ∃ d ∈ ps.map (·.2), k = toKey d := fun k m => by
    obtain ⟨b, mb, rfl⟩ := List.mem_map.mp m
    exact ⟨_, List.mem_map.mpr ⟨b, mb, rfl⟩, rfl⟩
  refine ⟨fun k m => ?_, fun k m k' m' => ?_, fun k m => ?_⟩
  · obtain ⟨d, md, rfl⟩ := at_ k m
    obtain ⟨xs, rfl⟩ := c.tup d md
    exact ⟨_, rfl⟩
  · obtain ⟨d, md, rfl⟩ := at_ k m
    obtain ⟨d', md', rfl⟩ := at_ k' m'
    exact c.cmp d md d' md'
  · obtain ⟨d, md, rfl⟩ := at_ k m
    exact Nat.le_trans (toKey_depth d) (c.deep d md)
theorem cr_sortedT (hu : X.A.units + 60 < cLine) : CallR X (.builtin "sorted") (rSortedT X.K) := by
  intro pins s σ H vs us Q I r h
  obtain ⟨a, ps, rfl, hs, hd, c, q⟩ := h
  obtain rfl := Vals.ref1 r
  obtain ⟨its, rv, hl, hz⟩ := I.list hs
  have hz' : ps.length ≤ sizeLine := by simpa using hz
  have ev := each_vals (fun b : V × PyData => b.1) rv
  have ed := each_isD I hd (fun p m => c.key _ (List.mem_map.mpr ⟨p, m, rfl⟩)) ev
  obtain ⟨c1, c2, c3⟩ := c.keyed
  have ed2 : PySem.W.EachIs (fun u (b : V × PyData) => IsD (PySem.W.sortingHeap (PySem.W.copyHeap s.heap its) (s.heap.objs.size + 1) its) (toKey b.2) u) its ps := ed.mono fun u b x => IsD.keep (fun _ _ => PySem.W.sorting_copy_old) _ _ x
  refine PySem.W.sorted_vals (κ := keysN (PySem.W.sortingHeap (PySem.W.copyHeap s.heap its) (s.heap.objs.size + 1) its) (ps.map fun b => toKey b.2)) hl.isList (SortsAt.keys (s := { s with heap := PySem.W.sortingHeap (PySem.W.copyHeap s.heap its) (s.heap.objs.size + 1) its }) (each_keyed ed2) c1 c2 fun k m => ?_) (by rw [ev.length]; exact hz') ?_
  · have := c3 k m
    show X.A.units + 1 + 1 + k.depth < cLine
    omega
  · have es := PySem.W.sortVals_each (κ := keysN (PySem.W.sortingHeap (PySem.W.copyHeap s.heap its) (s.heap.objs.size + 1) its) (ps.map fun b => toKey b.2)) (rev := false) (fun b : V × PyData => tk (toKey b.2)) ev (each_some ed2 fun b m => List.mem_map.mpr ⟨b, m, rfl⟩)
    have hv := vals_each (fun b : V × PyData => b.1) es
    obtain ⟨e, le⟩ := sortedAll_at s.heap its (List.toArray (PySem.W.sortVals (keysN (PySem.W.sortingHeap (PySem.W.copyHeap s.heap its) (s.heap.objs.size + 1) its) (ps.map fun b => toKey b.2)) false its its))
    have lb : PySem.W.sortLe (keysN (PySem.W.sortingHeap (PySem.W.copyHeap s.heap its) (s.heap.objs.size + 1) its) (ps.map fun b => toKey b.2)).toKeyOrd false (fun b : V × PyData => tk (toKey b.2)) = leT := rfl
    rw [lb] at hv
    have hL : ((ps.mergeSort leT).map (·.1)).length ≤ sizeLine := by simpa using hz'
    exact ⟨.ref _, upd H (s.heap.objs.size + 1) (.lst ((ps.mergeSort leT).map (·.1))), I.laid (t' := s.toks) (fun b o z => sortedAll_old z) (Nat.le_succ _) ⟨hL, _, e, hv, le⟩, rfl, q _ (I.hok.fresh (Nat.le_succ _))⟩
end
end Gx
namespace Gx
open PySem PySem.Spec PyProof.Rows L2 Evl
def ad : V → Addr
  | .ref a => a
  | _ => 0
/-- the members in the raw heap's words -/
abbrev memD (L : List (V × PyData)) : Mem := L.map fun p => (ad p.1, toKey p.2)
/-- the set itself, its members' own tuples left out -/
structure NSet0 (P : Program) (w : World) (h : Heap) (a : Addr) (L : Mem) : Prop where
  ex : ∃ es ep t, (∃ o, h.get? a = some o ∧ o.ExactSet ∧ o.data = .set es ep t) ∧ es.toList = ents w L ∧ TabOk t (hashes w L) ∧ (w.params.followText "set-order" = true ∨ t.led = true) ∧ L.length * 5 < t.mask * 3
  nd : (L.map (·.2)).Nodup
  few : L.length < 64
theorem NSet.zero {P : Program} {w : World} {h : Heap} {a : Addr} {L : Mem} {es ep t} (N : NSet P w h a L es ep t) : NSet0 P w h a L := ⟨⟨es, ep, t, N.ob, N.rows, N.tab, N.led, N.room⟩, N.nd, N.few⟩
theorem NSet0.full {P : Program} {w : World} {h : Heap} {a : Addr} {L : Mem} (N : NSet0 P w h a L) (t : ∀ p ∈ L, IsN P w h p.2 p.1) : ∃ es ep t, NSet P w h a L es ep t := by
  obtain ⟨⟨es, ep, tb, ob, rows, tab, led, room⟩, nd, few⟩ := N
  exact ⟨es, ep, tb, ob, rows, tab, nd, t, led, room, few⟩
/-- a set of the data L -/
def SetD (P : Program) (w : World) (a : Addr) (L : List (V × PyData)) : HO := .ext fun h => NSet0 P w h a (memD L)
theorem setD_ok {P : Program} {w : World} {H : Hp} {h : Heap} {a : Addr} {L : List (V × PyData)} (N : NSet0 P w h a (memD L)) : ObjOk P w H h a (SetD P w a L) := by
  refine ⟨N, ?_, fun h1 h2 N1 k => ?_⟩
  · obtain ⟨es, ep, t, ⟨o, e, _⟩, _⟩ := N.ex
    exact ⟨o, e⟩
  · obtain ⟨es, ep, t, ⟨o, e, z⟩, y⟩ := N1.ex
    exact ⟨⟨es, ep, t, ⟨o, k o e, z⟩, y⟩, N1.nd, N1.few⟩
def rSetD (K : PySem.W.Frag) (P : Program) (w : World) : List V → Hp → VK → Prop := fun xs H Q => ∃ (b : Addr) (ps : List (V × PyData)), xs = [.ref b] ∧ SqL K H b (ps.map (·.1)) ∧ (∀ p ∈ ps, Dp K H p.1 p.2) ∧
  (∀ p ∈ ps, ∃ ds, p.2 = .tuple ds) ∧ (∀ p ∈ ps, keyable p.2 = true) ∧ (∀ p ∈ ps, p.2.depth ≤ 8) ∧ ps.length < 64 ∧
  ∀ a L, H a = none → (∀ p ∈ L, p ∈ ps) → (∀ d, d ∈ L.map (·.2) ↔ d ∈ ps.map (·.2)) → (L.map (·.2)).Nodup → Q (.ref a) (upd H a (SetD P w a L))
section
variable {X : Cx}
theorem dp_ref {K : PySem.W.Frag} {H : Hp} {v : V} {ds : List PyData} (h : Dp K H v (.tuple ds)) : v = .ref (ad v) := by cases h; rfl
theorem isNk_of {pins : List (Addr × Obj)} {σ : L2.St} {H : Hp} {s : Shared} (I : L2.Inv X pins σ H s) {p : V × PyData} (hd : Dp X.K H p.1 p.2) (ht : ∃ ds, p.2 = .tuple ds) (hk : keyable p.2 = true) (h8 : p.2.depth ≤ 8) : IsN X.prog X.w s.heap (toKey p.2) (ad p.1) := by
  obtain ⟨ds, e⟩ := ht
  have r : p.1 = .ref (ad p.1) := dp_ref (by rw [← e]; exact hd)
  obtain ⟨as, rd⟩ := Dp.reads I p.2 p.1 (Value.ref (ad p.1)) hd (by rw [r]; rfl)
  exact ⟨IsD.nested _ _ (reads_isD _ _ _ rd hk), Nat.le_trans (toKey_depth _) h8⟩
theorem mem_back {ps : List (V × PyData)} (hk : ∀ p ∈ ps, keyable p.2 = true) (ht : ∀ p ∈ ps, p.1 = .ref (ad p.1)) : ∀ {M : Mem}, (∀ q ∈ M, q ∈ memD ps) → ∃ L : List (V × PyData), memD L = M ∧ ∀ p ∈ L, p ∈ ps
  | [], _ => ⟨[], rfl, fun _ m => (by cases m)⟩
  | q :: M, s => by
    obtain ⟨L, e, sub⟩ := mem_back hk ht (M := M) fun x m => s x (List.mem_cons_of_mem _ m)
    obtain ⟨p, mp, rfl⟩ := List.mem_map.mp (s q List.mem_cons_self)
    exact ⟨p :: L, by show (ad p.1, toKey p.2) :: memD L = _; rw [e], fun x m => by rcases List.mem_cons.mp m with rfl | m; exact mp; exact sub x m⟩
theorem cr_setD (calm : X.calm = true) (hu : X.A.units + 60 < cLine) : CallR X (.type "set") (rSetD X.K X.prog X.w) := by
  rintro pins s σ H xs us Q I r ⟨b, ps, rfl, hb, hd, ht, hk, h8, few, q⟩
  obtain rfl := Vals.ref1 r
  obtain ⟨its, rv, pl, hz⟩ := I.list hb
  have ev := each_vals (fun b : V × PyData => b.1) rv
  have href : ∀ p ∈ ps, p.1 = .ref (ad p.1) := fun p m => by
    obtain ⟨ds, e⟩ := ht p m
    exact dp_ref (by rw [← e]; exact hd p m)
  have lv : its.length = ps.length := ev.length
  have at_ : ∀ (i : Nat) (v : Value), its[i]? = some v → ∃ p, (memD ps)[i]? = some p ∧ v = Value.ref p.1 := by
    clear q few hd ht hk h8 hb pl hz rv lv
    induction ev with
    | nil => intro i v e; simp at e
    | @cons u p us ps' a t ih =>
      intro i v e
      cases i with
      | zero =>
        simp at e
        subst e
        refine ⟨_, rfl, ?_⟩
        have z : RelV p.1 u := a
        rw [href p List.mem_cons_self] at z
        exact z
      | succ i => simpa using ih (fun p m => href p (List.mem_cons_of_mem _ m)) i v (by simpa using e)
  refine set_nested (P := X.prog) (w := X.w) (memD ps) (I.ok.hd calm) pl.isList (fun i v h => at_ i v (by simpa using h)) (by simpa using lv) (fun p m => ?_) (by simpa using few) (by omega) fun h' tk' M es ep t N g kp => ?_
  · obtain ⟨p', m', rfl⟩ := List.mem_map.mp m
    exact isNk_of I (hd p' m') (ht p' m') (hk p' m') (h8 p' m')
  · obtain ⟨L, e, sub⟩ := mem_back hk href g.sub
    subst e
    refine ⟨.ref s.heap.objs.size, _, I.laid (t' := tk') (o := SetD X.prog X.w s.heap.objs.size L) kp (Nat.le_refl _) (setD_ok N.zero), rfl, q _ L (I.hok.fresh (Nat.le_refl _)) sub (fun d => ?_) ?_⟩
    · have nn := g.mem
      rw [List.take_of_length_le (Nat.le_refl _)] at nn
      constructor
      · intro m
        obtain ⟨p, mp, rfl⟩ := List.mem_map.mp m
        exact List.mem_map.mpr ⟨p, sub p mp, rfl⟩
      · intro m
        obtain ⟨p, mp, rfl⟩ := List.mem_map.mp m
        have z := (nn (toKey p.2)).mpr (by rw [List.map_map]; exact List.mem_map.mpr ⟨p, mp, rfl⟩)
        rw [List.map_map] at z
        obtain ⟨p2, m2, e2⟩ := List.mem_map.mp z
        exact List.mem_map.mpr ⟨p2, m2, toKey_inj _ _ (hk _ (sub p2 m2)) (hk _ mp) e2⟩
    · have nd := N.nd
      rw [List.map_map] at nd
      exact List.Pairwise.of_map (S := fun a b : NestedKey => a ≠ b) toKey (fun a b h e => h (by rw [e])) (by rw [List.map_map]; exact nd)
end
theorem tk_inj {x y : NestedKey} (h : tk x = tk y) : x = y := Classical.byContradiction fun ne => by
  have e := tk_early x y ne [.inl 0] [.inl 1]
  rw [h, lxt_pre] at e
  rw [show lxt (tk y) (tk y) = false from lex_irrefl ..] at e
  revert e; decide +kernel
theorem ltD_total {a b : PyData} (ha : keyable a = true) (hb : keyable b = true) (ne : a ≠ b) (h : ltD b a = false) : ltD a b = true := by
  rcases e : ltD a b with _ | _
  · exact absurd (toKey_inj a b ha hb (tk_inj ((listOrd itemOrd).total (tk (toKey a)) (tk (toKey b)) e h))) ne
  · rfl
theorem leT_trans (a b c : V × PyData) (h1 : leT a b = true) (h2 : leT b c = true) : leT a c = true := by
  simp only [leT, Bool.not_eq_true'] at *
  rcases e : ltD c.2 a.2 with _ | _
  · rfl
  · rcases (listOrd itemOrd).negTrans (tk (toKey c.2)) (tk (toKey b.2)) (tk (toKey a.2)) e with z | z
    · rw [show ltD c.2 b.2 = true from z] at h2; cases h2
    · rw [show ltD b.2 a.2 = true from z] at h1; cases h1
theorem leT_total (a b : V × PyData) : (leT a b || leT b a) = true := by
  simp only [leT]
  rcases e : ltD b.2 a.2 with _ | _
  · rfl
  · rcases f : ltD a.2 b.2 with _ | _
    · rfl
    · have z := (listOrd itemOrd).trans _ _ _ e f
      rw [(listOrd itemOrd).irrefl] at z; cases z
/-- unlike tuples, sorted: strictly rising -/
theorem sorted_up {r : List (V × PyData)} (nd : (r.map (·.2)).Nodup) (hk : ∀ p ∈ r, keyable p.2 = true) : ((r.mergeSort leT).map (·.2)).Pairwise fun a b => ltD a b = true := by
  have pm := List.mergeSort_perm r leT
  have nd2 : ((r.mergeSort leT).map (·.2)).Nodup := (pm.map (·.2)).nodup_iff.mpr nd
  have le := List.pairwise_mergeSort (le := leT) leT_trans leT_total r
  rw [List.pairwise_map]
  have nd3 := List.pairwise_map.mp nd2
  refine List.Pairwise.imp_of_mem (fun {a b} ma mb h => ?_) (le.and nd3)
  exact ltD_total (hk a (pm.mem_iff.mp ma)) (hk b (pm.mem_iff.mp mb)) h.2 (by simpa [leT] using h.1)
def rSortedSet (K : PySem.W.Frag) (P : Program) (w : World) : List V → Hp → VK → Prop := fun vs H Q => ∃ (a : Addr) (L : List (V × PyData)), vs = [.ref a] ∧ H a = some (SetD P w a L) ∧ (∀ p ∈ L, Dp K H p.1 p.2) ∧ Cmps (L.map (·.2)) ∧
  ∀ p (r : List (V × PyData)), H p = none → r.Perm L → (r.map (·.2)).Pairwise (fun a b => ltD a b = true) → Q (.ref p) (upd H p (.lst (r.map (·.1))))
section
variable {X : Cx}
theorem cr_sortedSet (calm : X.calm = true) (hu : X.A.units + 60 < cLine) : CallR X (.builtin "sorted") (rSortedSet X.K X.prog X.w) := by
  rintro pins s σ H vs us Q I r ⟨a, L, rfl, ha, hd, c, q⟩
  obtain rfl := Vals.ref1 r
  have N0 : NSet0 X.prog X.w s.heap a (memD L) := (show ObjOk X.prog X.w H s.heap a (SetD X.prog X.w a L) from I.hok a _ ha).1
  have mem2 : ∀ p ∈ L, p.2 ∈ L.map (·.2) := fun p m => List.mem_map.mpr ⟨p, m, rfl⟩
  have tup : ∀ p ∈ memD L, IsN X.prog X.w s.heap p.2 p.1 := fun p m => by
    obtain ⟨p', m', rfl⟩ := List.mem_map.mp m
    exact isNk_of I (hd p' m') (c.tup _ (mem2 p' m')) (c.key _ (mem2 p' m')) (c.deep _ (mem2 p' m'))
  obtain ⟨es, ep, t, N⟩ := N0.full tup
  have few : L.length < 64 := by simpa using N0.few
  refine Calls.call_function_entry kind_sorted plain_sorted entry_sorted (args_sorted1 _) ?_
  unfold Builtin.«sorted»
  refine wpAny_bind (m := checkCount "sorted" 1 1 _) (wpAny_pure (wpAny_bind ?_))
  obtain ⟨o, ho, ex, hdt⟩ := N.ob
  have szl : es.size = L.length := by simpa using N.sz
  refine collect_set (A := X.A.in1) (I.ok.hd calm) ⟨o, ho, ex.1, hdt⟩ N.fit (by rw [szl]; unfold scanBound; omega) N.tab.ris N.led fun s1 vs kp zs gs os pm => ?_
  -- what stands in the list that sorted makes
  obtain ⟨r, er, pr⟩ : ∃ r : List (V × PyData), PySem.W.EachIs (fun u (b : V × PyData) => RelV b.1 u) vs r ∧ r.Perm L := by
    have e1 : es.toList.map (·.2) = L.map fun p => Value.ref (ad p.1) := by rw [N.rows]; simp [ents, memD, List.map_map, Function.comp_def]
    rw [e1] at pm
    have back : ∀ {vs : List Value} {L : List (V × PyData)}, vs.Perm (L.map fun p => Value.ref (ad p.1)) → (∀ p ∈ L, p.1 = .ref (ad p.1)) → ∃ r : List (V × PyData), PySem.W.EachIs (fun u (b : V × PyData) => RelV b.1 u) vs r ∧ r.Perm L := by
      intro vs
      induction vs with
      | nil =>
        intro L pm _
        have := pm.length_eq
        cases L with
        | nil => exact ⟨[], .nil, .refl _⟩
        | cons _ _ => simp at this
      | cons v vs ih =>
        intro L pm hr
        obtain ⟨p, mp, e⟩ := List.mem_map.mp (pm.mem_iff.mp List.mem_cons_self)
        obtain ⟨A1, A2, eL⟩ := List.append_of_mem mp
        subst eL
        have pm2 : vs.Perm ((A1 ++ A2).map fun p => Value.ref (ad p.1)) := by
          have z : (v :: vs).Perm (v :: (A1 ++ A2).map fun p => Value.ref (ad p.1)) := by
            refine pm.trans ?_
            rw [List.map_append, List.map_cons, List.map_append, ← e]
            exact List.perm_middle
          exact List.Perm.cons_inv z
        obtain ⟨r, er, pr⟩ := ih pm2 fun x m => hr x (by
          rcases List.mem_append.mp m with m | m
          · exact List.mem_append_left _ m
          · exact List.mem_append_right _ (List.mem_cons_of_mem _ m))
        refine ⟨p :: r, .cons ?_ er, (pr.cons p).trans List.perm_middle.symm⟩
        rw [hr p (List.mem_append_right _ List.mem_cons_self), ← e]; rfl
    exact back pm fun p m => by
      obtain ⟨ds, e⟩ := c.tup _ (mem2 p m)
      exact dp_ref (by rw [← e]; exact hd p m)
  have lv : vs.length = L.length := by rw [er.length]; exact pr.length_eq
  have sline : 64 ≤ sizeLine := by rw [sizeLine_eq]; decide
  refine wpAny_bind (wpAny_newList ?_ (by rw [lv]; omega))
  have oL : (s1.heap.push (seqObj "list" vs.toArray 0)).get? s1.heap.objs.size = some (seqObj "list" vs.toArray 0) := Heap.get?_push_size _ rfl
  have inr : ∀ p ∈ r, p ∈ L := fun p m => pr.mem_iff.mp m
  have c' : Cmps (r.map (·.2)) := c.sub fun d m => by
    obtain ⟨p, mp, rfl⟩ := List.mem_map.mp m
    exact mem2 p (inr p mp)
  have ed := each_isD I (fun p m => hd p (inr p m)) (fun p m => c.key _ (mem2 p (inr p m))) er
  obtain ⟨c1, c2, c3⟩ := c'.keyed
  have lt_old : ∀ b o, s.heap.get? b = some o → b ≠ s1.heap.objs.size := fun b o e z => by
    rw [z] at e
    exact absurd (Nat.lt_of_lt_of_le (Heap.lt_size e) zs) (Nat.lt_irrefl _)
  have ed2 : PySem.W.EachIs (fun u (b : V × PyData) => IsD (PySem.W.sortingHeap (s1.heap.push (seqObj "list" vs.toArray 0)) s1.heap.objs.size vs) (toKey b.2) u) vs r :=
    ed.mono fun u b x => IsD.keep (fun b o e => PySem.W.sortingHeap_old (lt_old b o e) (Heap.get?_push_of_some _ (kp b o e))) _ _ x
  refine wpAny_bind (wpAny_holding (wpAny_call_entry slot_list_sort ⟨_, oL, rfl⟩ entry_list_sort (PySem.W.list_sort_vals (s := { s1 with heap := s1.heap.push (seqObj "list" vs.toArray 0) })
    (κ := keysN (PySem.W.sortingHeap (s1.heap.push (seqObj "list" vs.toArray 0)) s1.heap.objs.size vs) (r.map fun b => toKey b.2)) oL
    (SortsAt.keys (s := { s1 with heap := PySem.W.sortingHeap (s1.heap.push (seqObj "list" vs.toArray 0)) s1.heap.objs.size vs }) (each_keyed ed2) c1 c2 fun k m => ?_) (by rw [lv]; omega) ⟨.none, rfl, ?_⟩) (args_list_sort _)))
  · have := c3 k m
    show X.A.units + 1 + 1 + k.depth < cLine
    omega
  · have es := PySem.W.sortVals_each (κ := keysN (PySem.W.sortingHeap (s1.heap.push (seqObj "list" vs.toArray 0)) s1.heap.objs.size vs) (r.map fun b => toKey b.2)) (rev := false) (fun b : V × PyData => tk (toKey b.2)) er (each_some ed2 fun b m => List.mem_map.mpr ⟨b, m, rfl⟩)
    have hv := vals_each (fun b : V × PyData => b.1) es
    obtain ⟨cap, hc⟩ := sortedHeap_at (vs := vs) (out := (PySem.W.sortVals (keysN (PySem.W.sortingHeap (s1.heap.push (seqObj "list" vs.toArray 0)) s1.heap.objs.size vs) (r.map fun b => toKey b.2)) false vs vs).toArray) oL
    have lb : PySem.W.sortLe (keysN (PySem.W.sortingHeap (s1.heap.push (seqObj "list" vs.toArray 0)) s1.heap.objs.size vs) (r.map fun b => toKey b.2)).toKeyOrd false (fun b : V × PyData => tk (toKey b.2)) = leT := rfl
    rw [lb] at hv
    have pm2 : (r.mergeSort leT).Perm r := List.mergeSort_perm _ _
    have hL : ((r.mergeSort leT).map (·.1)).length ≤ sizeLine := by rw [List.length_map, pm2.length_eq, pr.length_eq]; omega
    have ndL : (L.map (·.2)).Nodup := by
      have nd := N0.nd
      rw [List.map_map] at nd
      exact List.Pairwise.of_map (S := fun a b : NestedKey => a ≠ b) toKey (fun a b h e => h (by rw [e])) (by rw [List.map_map]; exact nd)
    have up := sorted_up ((pr.map (·.2)).nodup_iff.mpr ndL) fun p m => c.key _ (mem2 p (inr p m))
    have kp2 : ∀ b o, s.heap.get? b = some o → (sortedHeap (s1.heap.push (seqObj "list" vs.toArray 0)) s1.heap.objs.size vs (PySem.W.sortVals (keysN (PySem.W.sortingHeap (s1.heap.push (seqObj "list" vs.toArray 0)) s1.heap.objs.size vs) (r.map fun b => toKey b.2)) false vs vs).toArray).get? b = some o := fun b o e =>
      (sortedHeap_old (lt_old b o e) (by rw [size_push']; exact Nat.lt_succ_of_lt (Heap.lt_size (kp b o e)))).trans (Heap.get?_push_of_some _ (kp b o e))
    have nw : H s1.heap.objs.size = none := I.hok.fresh zs
    refine wpAny_pure ⟨_, rfl, ?_⟩
    have J : L2.Inv X pins σ (upd H s1.heap.objs.size (.lst ((r.mergeSort leT).map (·.1)))) { s with heap := _, gens := s1.gens, drawn := s1.drawn, toks := s1.toks } :=
      I.call (ch := []) (Un.laid kp2 zs nw) (I.hok.laid kp2 zs ⟨hL, _, cap, hv, hc⟩) (by rw [gs]; exact I.bare) fun _ z => nomatch z
    have e : ({ s1 with heap := sortedHeap (s1.heap.push (seqObj "list" vs.toArray 0)) s1.heap.objs.size vs (PySem.W.sortVals (keysN (PySem.W.sortingHeap (s1.heap.push (seqObj "list" vs.toArray 0)) s1.heap.objs.size vs) (r.map fun b => toKey b.2)) false vs vs).toArray } : Shared) =
      { s with heap := sortedHeap (s1.heap.push (seqObj "list" vs.toArray 0)) s1.heap.objs.size vs (PySem.W.sortVals (keysN (PySem.W.sortingHeap (s1.heap.push (seqObj "list" vs.toArray 0)) s1.heap.objs.size vs) (r.map fun b => toKey b.2)) false vs vs).toArray, gens := s1.gens, drawn := s1.drawn, toks := s1.toks } := by cases s1; cases s; cases os; rfl
    exact ⟨.ref s1.heap.objs.size, _, e ▸ J, rfl, q _ _ nw (pm2.trans pr) up⟩
end
end Gx

set_option Elab.async false
set_option linter.all false
set_option maxRecDepth 100000
set_option maxHeartbeats 4000000
/-! tests as keys: they can be compared two by two -/
namespace Gx
open PySem PySem.Spec PyProof.Rows L2 Evl
theorem cmpKs_of : ∀ {xs ys : List NestedKey}, (∀ x ∈ xs, ∀ y ∈ ys, x ≠ y → cmpK x y = true) → cmpKs xs ys = true
  | [], _, _ => by rw [cmpKs]
  | _ :: _, [], _ => by rw [cmpKs]
  | x :: xs, y :: ys, h => by
    rw [cmpKs]
    rcases e : NestedKey.beq x y with _ | _
    · rw [if_neg (by decide)]; exact h x List.mem_cons_self y List.mem_cons_self (beq_ne e)
    · rw [if_pos rfl]; exact cmpKs_of fun a ma b mb => h a (List.mem_cons_of_mem _ ma) b (List.mem_cons_of_mem _ mb)
theorem cmpKs_head {x y : NestedKey} {xs ys : List NestedKey} (h : x ≠ y → cmpK x y = true) (t : x = y → cmpKs xs ys = true) : cmpKs (x :: xs) (y :: ys) = true := by
  rw [cmpKs]
  rcases e : NestedKey.beq x y with _ | _
  · rw [if_neg (by decide)]; exact h (beq_ne e)
  · rw [if_pos rfl]; exact t (NestedKey.eq_of_beq _ _ e)
theorem cmp_text (a b : Str) (xs ys : List NestedKey) (t : a = b → cmpKs xs ys = true) : cmpKs (.text a :: xs) (.text b :: ys) = true := cmpKs_head (fun _ => rfl) fun e => t (by injection e)
theorem cmp_num (a b : Int) (xs ys : List NestedKey) (t : a = b → cmpKs xs ys = true) : cmpKs (.num a :: xs) (.num b :: ys) = true := cmpKs_head (fun _ => rfl) fun e => t (by injection e)
theorem toKeys_map : ∀ ds : List PyData, toKeys ds = ds.map toKey
  | [] => rfl
  | d :: ds => by rw [toKeys, List.map_cons, toKeys_map ds]
theorem keyables_all : ∀ {ds : List PyData}, (∀ d ∈ ds, keyable d = true) → keyables ds = true
  | [], _ => rfl
  | d :: ds, h => by rw [keyables, h d List.mem_cons_self, keyables_all fun x m => h x (List.mem_cons_of_mem _ m)]; rfl
def Stp.key : Stp → NestedKey
  | .plus k => .tup [.text "plus", .num k]
  | .times k => .tup [.text "times", .num k]
  | .into k => .tup [.text "into", .num k]
  | .over k => .tup [.text "over", .num k]
  | .found ps => .tup [.text "found", .tup (ps.map fun p => .tup [.num p.1, .num p.2])]
theorem stp_key (s : Stp) : toKey s.data = s.key := by
  cases s with
  | found ps =>
    simp only [Stp.data, Stp.key, toKey, toKeys, NestedKey.tup.injEq, List.cons.injEq, and_true, true_and]
    rw [toKeys_map, List.map_map]; rfl
  | _ => rfl
theorem pairs_cmp (ps qs : List (Int × Int)) : cmpKs (ps.map fun p => NestedKey.tup [.num p.1, .num p.2]) (qs.map fun p => NestedKey.tup [.num p.1, .num p.2]) = true := cmpKs_of fun x mx y my _ => by
  obtain ⟨p, _, rfl⟩ := List.mem_map.mp mx
  obtain ⟨q, _, rfl⟩ := List.mem_map.mp my
  simp only [cmpK]
  exact cmp_num _ _ _ _ fun _ => cmp_num _ _ _ _ fun _ => rfl
def Stp.word : Stp → Str
  | .plus _ => "plus" | .times _ => "times" | .into _ => "into" | .over _ => "over" | .found _ => "found"
theorem stp_cmp (s t : Stp) : cmpK s.key t.key = true := by
  have dif : ∀ {a b : Str} {x y : NestedKey}, a ≠ b → cmpK (.tup [.text a, x]) (.tup [.text b, y]) = true := fun ne => by
    simp only [cmpK]; exact cmp_text _ _ _ _ fun e => absurd e ne
  have num : ∀ {a : Str} {i j : Int}, cmpK (.tup [.text a, .num i]) (.tup [.text a, .num j]) = true := by
    intro a i j; simp only [cmpK]; exact cmp_text _ _ _ _ fun _ => cmp_num _ _ _ _ fun _ => rfl
  have tbl : ∀ x ∈ (["plus", "times", "into", "over", "found"] : List Str), ∀ y ∈ (["plus", "times", "into", "over", "found"] : List Str), x = y ∨ x ≠ y := fun x _ y _ => Classical.em _
  cases s <;> cases t <;> simp only [Stp.key]
  case plus.plus => exact num
  case times.times => exact num
  case into.into => exact num
  case over.over => exact num
  case found.found ps qs =>
    simp only [cmpK]
    exact cmp_text _ _ _ _ fun _ => cmpKs_head (fun _ => by simp only [cmpK]; exact pairs_cmp _ _) fun _ => rfl
  all_goals exact dif (by decide +kernel)
theorem stp_keyable (s : Stp) : keyable s.data = true := by
  cases s with
  | found ps =>
    simp only [Stp.data, keyable, keyables, Bool.true_and, Bool.and_true]
    exact keyables_all fun d m => by
      obtain ⟨p, _, rfl⟩ := List.mem_map.mp m
      rfl
  | _ => rfl
def Leaf.key : Leaf → NestedKey
  | .always w => .tup [.text "always", .text w]
  | .empty n => .tup [.text "empty", .text n]
  | .number n => .tup [.text "number", .text n]
  | .asks n ss sg k => .tup [.text "asks", .text n, .tup (ss.map Stp.key), .text sg, .num k]
theorem leaf_key (l : Leaf) : toKey l.data = l.key := by
  cases l with
  | asks n ss sg k =>
    simp only [Leaf.data, Leaf.key, toKey, toKeys, NestedKey.tup.injEq, List.cons.injEq, and_true, true_and]
    rw [toKeys_map, List.map_map]
    exact List.map_congr_left fun s _ => stp_key s
  | _ => rfl
theorem leaf_keyable (l : Leaf) : keyable l.data = true := by
  cases l with
  | asks n ss sg k =>
    simp only [Leaf.data, keyable, keyables, Bool.true_and, Bool.and_true]
    exact keyables_all fun d m => by
      obtain ⟨s, _, rfl⟩ := List.mem_map.mp m
      exact stp_keyable s
  | _ => rfl
theorem leaf_tup (l : Leaf) : ∃ xs, l.data = .tuple xs := by cases l <;> exact ⟨_, rfl⟩
theorem leaf_cmp (l m : Leaf) : cmpK (toKey l.data) (toKey m.data) = true := by
  rw [leaf_key, leaf_key]
  have dif : ∀ {a b : Str} {xs ys : List NestedKey}, a ≠ b → cmpK (.tup (.text a :: xs)) (.tup (.text b :: ys)) = true := fun ne => by
    simp only [cmpK]; exact cmp_text _ _ _ _ fun e => absurd e ne
  have two : ∀ {a b c : Str}, cmpK (.tup [.text a, .text b]) (.tup [.text a, .text c]) = true := by
    intro a b c; simp only [cmpK]; exact cmp_text _ _ _ _ fun _ => cmp_text _ _ _ _ fun _ => rfl
  cases l <;> cases m <;> simp only [Leaf.key]
  case always.always => exact two
  case empty.empty => exact two
  case number.number => exact two
  case asks.asks n ss sg k n' ss' sg' k' =>
    simp only [cmpK]
    refine cmp_text _ _ _ _ fun _ => cmp_text _ _ _ _ fun _ => cmpKs_head (fun _ => ?_) fun _ => cmp_text _ _ _ _ fun _ => cmp_num _ _ _ _ fun _ => rfl
    simp only [cmpK]
    exact cmpKs_of fun x mx y my _ => by
      obtain ⟨s, _, rfl⟩ := List.mem_map.mp mx
      obtain ⟨t, _, rfl⟩ := List.mem_map.mp my
      exact stp_cmp s t
  all_goals exact dif (by decide +kernel)
theorem pairs_deep : ∀ ps : List (Int × Int), PyData.depthAll (ps.map pairD) ≤ 1
  | [] => by simp [PyData.depthAll]
  | p :: ps => by
    have := pairs_deep ps
    simp only [List.map_cons, PyData.depthAll, pairD, PyData.depth]; omega
theorem stp_deep (s : Stp) : s.data.depth ≤ 3 := by
  cases s with
  | found ps =>
    have := pairs_deep ps
    simp only [Stp.data, PyData.depth, PyData.depthAll]; omega
  | _ => simp [Stp.data, PyData.depth, PyData.depthAll]
theorem stps_deep : ∀ ss : List Stp, PyData.depthAll (ss.map Stp.data) ≤ 3
  | [] => by simp [PyData.depthAll]
  | s :: ss => by
    have := stps_deep ss
    have := stp_deep s
    simp only [List.map_cons, PyData.depthAll]; omega
theorem leaf_deep {ns : List Str} {l : Leaf} (_ : l.ok ns) : l.data.depth ≤ 8 := by
  cases l with
  | asks n ss sg k =>
    have := stps_deep ss
    simp only [Leaf.data, PyData.depth, PyData.depthAll]; omega
  | _ => simp [Leaf.data, PyData.depth, PyData.depthAll]
theorem nodup_le {α : Type} : ∀ {l D : List α}, l.Nodup → (∀ x ∈ l, x ∈ D) → l.length ≤ D.length
  | [], _, _, _ => Nat.zero_le _
  | x :: l, D, n, s => by
    obtain ⟨h1, h2⟩ := List.nodup_cons.mp n
    obtain ⟨A, B, rfl⟩ := List.append_of_mem (s x List.mem_cons_self)
    have := nodup_le (l := l) (D := A ++ B) h2 fun y m => by
      rcases List.mem_append.mp (s y (List.mem_cons_of_mem _ m)) with z | z
      · exact List.mem_append_left _ z
      · rcases List.mem_cons.mp z with rfl | z
        · exact absurd m h1
        · exact List.mem_append_right _ z
    simp only [List.length_append, List.length_cons] at *; omega
theorem ltD_ne {a b : PyData} (h : ltD a b = true) : a ≠ b := fun e => by
  subst e
  rw [show ltD a a = false from (listOrd itemOrd).irrefl _] at h; cases h
/-- rising lists with the same members are one -/
theorem up_one : ∀ {a b : List PyData}, a.Pairwise (fun x y => ltD x y = true) → b.Pairwise (fun x y => ltD x y = true) → (∀ d, d ∈ a ↔ d ∈ b) → a = b
  | [], [], _, _, _ => rfl
  | [], y :: b, _, _, m => absurd ((m y).mpr List.mem_cons_self) (by simp)
  | x :: a, [], _, _, m => absurd ((m x).mp List.mem_cons_self) (by simp)
  | x :: a, y :: b, h1, h2, m => by
    obtain ⟨g1, k1⟩ := List.pairwise_cons.mp h1
    obtain ⟨g2, k2⟩ := List.pairwise_cons.mp h2
    have no : ∀ p q : PyData, ltD p q = true → ltD q p = true → False := fun p q u v => by
      have z := (listOrd itemOrd).trans _ _ _ u v
      rw [(listOrd itemOrd).irrefl] at z; cases z
    have e : x = y := by
      rcases List.mem_cons.mp ((m x).mp List.mem_cons_self) with z | z
      · exact z
      · rcases List.mem_cons.mp ((m y).mpr List.mem_cons_self) with u | u
        · exact u.symm
        · exact (no _ _ (g1 y u) (g2 x z)).elim
    subst e
    refine congrArg (x :: ·) (up_one k1 k2 fun d => ⟨fun hd => ?_, fun hd => ?_⟩)
    · rcases List.mem_cons.mp ((m d).mp (List.mem_cons_of_mem _ hd)) with z | z
      · subst z; exact absurd rfl (ltD_ne (g1 d hd))
      · exact z
    · rcases List.mem_cons.mp ((m d).mpr (List.mem_cons_of_mem _ hd)) with z | z
      · subst z; exact absurd rfl (ltD_ne (g2 d hd))
      · exact z
end Gx

set_option Elab.async false
set_option linter.all false
set_option maxRecDepth 100000
set_option maxHeartbeats 4000000
/-! set comprehensions: of any kind of set that can be begun and added to; of texts -/
namespace Gx
open PySem PySem.Spec PyProof.Rows L2 Evl PpSet
/-- a kind of sets: what stands for one, what is added to it -/
structure SKind (P : Program) (w : World) where
  α : Type
  obj : Addr → α → HO
  nil : α
  adm : α → V → Prop
  to : α → V → α → Prop
  new : ∀ {H : Hp} {h : Heap} {a : Addr}, h.get? a = some (newSet w) → ObjOk P w H h a (obj a nil)
  mu : ∀ a t, Mut (some (obj a t))
  add : ∀ {A : Around} {E : Value → Shared → Prop} {s : Shared} {H : Hp} {a : Addr} {t : α} {y : V} {u : Value} {Q : Value → Shared → Prop}, ObjOk P w H s.heap a (obj a t) → adm t y → RelV y u →
    (∀ h' t' k, Heap.SameBut a s.heap h' → (∃ o, h'.get? a = some o) → to t y t' → (∀ H', ObjOk P w H' h' a (obj a t')) → Q .none { s with heap := h', toks := k }) → wpAny (model P w) A (call (.builtin "set.add") [.ref a, u]) Q E s
def tScK {P : Program} {w : World} (G : SKind P w) (wi : TI) (g : TG) (tt : TT) (te : TE) (vs : List Nat) : TE := fun σ H Q => wi σ H fun J H1 => ∀ D, H1 D = none → ∃ W : Nat → Nat → Hp → Prop, (∃ m, W 0 m (upd H1 D (G.obj D G.nil))) ∧ ∀ i m H, W i m H →
  (J.stop i H ∧ Q (.ref D) H) ∨ (J.go i H ∧ ∃ Nx : Hp → Prop, (∀ H', Nx H' → ∃ m', m' < m ∧ W (i + 1) m' H') ∧ ∀ x H', J.yld i H x H' → g x (wipe σ vs) H' fun σ2 H2 => wipe σ2 vs = wipe σ vs ∧ tt σ2 H2 fun b H3 =>
    if b = true then te σ2 H3 fun y H4 => ∃ t, H4 D = some (G.obj D t) ∧ G.adm t y ∧ ∀ t', G.to t y t' → Nx (upd H4 D (G.obj D t')) else Nx H3)
section
variable {X : Cx}
theorem scK_core {pins : List (Addr × Obj)} {s : Shared} {σ : L2.St} {H : Hp} {Q : VK} (G : SKind X.prog X.w) {elt tgt it0 : Expr} {cs : List Expr} {sc : Scope} {own : List (PySem.Str × Nat)} {ps ps' : Pos} {wi : TI} {g : TG} {tt : TT} {te : TE} {use : Option (Value → Sem Unit)} {Qf : Value → Shared → Prop}
    (calm : X.calm = true) (nod : X.N.Nodup) (I : L2.Inv X pins σ H s) (ri : PI X tgt it0 wi) (ok : BlkOk X.N X.env.scope sc own)
    (rg : ∀ (s : Shared) (H : Hp) (C : Addr) (cl : List (PySem.Str × Addr)) (fp : List Addr), PG (X.blk s H sc (compEnvC sc cl C X.env) fp) tgt g) (rt : ∀ (s : Shared) (H : Hp) (C : Addr) (cl : List (PySem.Str × Addr)) (fp : List Addr), PTs (X.blk s H sc (compEnvC sc cl C X.env) fp) cs tt)
    (re : ∀ (s : Shared) (H : Hp) (C : Addr) (cl : List (PySem.Str × Addr)) (fp : List Addr), PE (X.blk s H sc (compEnvC sc cl C X.env) fp) elt te) (fold : ∀ x, foldedSetIterable it0 X.env x = pure x) (z : tScK G wi g tt te (own.map (·.2)) σ H Q)
    (fin : ∀ D C s' m H', L2.Inv X pins σ H' s' → Q (.ref D) H' → s'.heap.Ns C m → FpOk X pins H' C → compPost (model X.prog X.w) X.A X.xe use Qf (.ref D) C (.ok .next) s') :
    wpAny (model X.prog X.w) X.A (comprehension (.SetComp elt [⟨tgt, it0, cs, 0⟩] sc ps) sc X.env ps' (PySem.newSet (.type "set")) false (eval it0 X.env) use) Qf X.xe s := by
  have clo : ∀ y ∈ sc.names, y.2 = .free → ∃ c, X.env.cells.lookup y.1 = some c := fun y m e => (ok.free y m e).elim (fun k => I.ok.has _ (.inl k)) fun k => I.ok.has _ (.inr k)
  refine wpAny_comprehension_free (use := use) rfl fold (closure_ok clo) ok.kind (fun y m e => by rw [ok.uniq y m, e]) (thn (ri.run pins s σ H _ I z) fun v1 t1 y1 => thn y1 fun v2 t2 y2 => ?_)
  obtain ⟨iter, foot, tn, J, Ha, rfl, Ia, W, at0, fa, q⟩ := y2
  refine newSet_ok (newEnv_comp ?_)
  generalize eD : t2.heap.objs.size = D
  have nD : Ha D = none := Ia.hok.fresh (Nat.le_of_eq eD)
  obtain ⟨Inv', ⟨m0, i0⟩, turn⟩ := q D nD
  generalize e3 : ({ t2 with heap := t2.heap.push (newSet X.w) } : Shared) = t3
  have I3 : L2.Inv X pins σ (upd Ha D (G.obj D G.nil)) t3 := by
    subst e3
    exact Ia.laid (t' := t2.toks) (fun b o e => Heap.get?_push_of_some _ e) (Nat.le_of_eq eD) (by subst eD; exact G.new (Heap.get?_push_size _ rfl))
  have h3 : t3.heap = t2.heap.push (newSet X.w) := by rw [← e3]
  have below : ∀ b ∈ foot, b < t2.heap.objs.size := fun b m => let ⟨o, e, _⟩ := W.obj _ _ at0 b m; Heap.lt_size e
  have f3 : ∀ b ∈ foot, FpOk X pins (upd Ha D (G.obj D G.nil)) b ∧ b < t3.heap.objs.size := fun b m => by
    have lt := below b m
    refine ⟨⟨?_, (fa b m).2⟩, by rw [h3, Heap.size_push]; exact Nat.lt_succ_of_lt lt⟩
    rw [upd_ne (by rw [← eD]; exact Nat.ne_of_lt lt)]; exact (fa b m).1
  have at3 : tn 0 t3.heap := W.keep _ _ _ at0 fun b _ o e => by rw [h3]; exact Heap.get?_push_of_some _ e
  have I4 := block_start I3 ok nod f3
  have pg := rg t3 (upd Ha D (G.obj D G.nil)) t3.heap.objs.size (cellsFrom (t3.heap.objs.size + 1) sc.names (cloFrom X.env.cells sc.names [])) foot
  have pt := rt t3 (upd Ha D (G.obj D G.nil)) t3.heap.objs.size (cellsFrom (t3.heap.objs.size + 1) sc.names (cloFrom X.env.cells sc.names [])) foot
  have pe := re t3 (upd Ha D (G.obj D G.nil)) t3.heap.objs.size (cellsFrom (t3.heap.objs.size + 1) sc.names (cloFrom X.env.cells sc.names [])) foot
  show codeAny _ _ (.compStart (.SetComp elt [⟨tgt, it0, cs, 0⟩] sc ps) 0 (.ref iter) (.ref D) (compEnvC sc (cellsFrom (t3.heap.objs.size + 1) sc.names (cloFrom X.env.cells sc.names [])) t3.heap.objs.size X.env)) (compPost (model X.prog X.w) X.A X.xe use Qf (.ref D) t3.heap.objs.size) { t3 with heap := pushCells (t3.heap.push { cls := .type "dict", data := .dict #[] }) sc.names }
  have nf : ∀ b ∈ foot, (upd Ha D (G.obj D G.nil)) b = none := fun b m => (f3 b m).1.1
  generalize ee : compEnvC sc (cellsFrom (t3.heap.objs.size + 1) sc.names (cloFrom X.env.cells sc.names [])) t3.heap.objs.size X.env = env at I4 pg pt pe ⊢
  have el : env.locals = t3.heap.objs.size := by subst ee; rfl
  generalize eH : upd Ha D (G.obj D G.nil) = Hb at I3 I4 pg pt pe i0 nf f3
  generalize e4 : ({ t3 with heap := pushCells (t3.heap.push { cls := .type "dict", data := .dict #[] }) sc.names } : Shared) = t4 at I4 ⊢
  have at4 : tn 0 t4.heap := W.keep _ _ _ at3 fun b _ o e => by rw [← e4]; exact pushCells_keeps _ _ _ _ (Heap.get?_push_of_some _ e)
  have still : ∀ {σ' : L2.St} {H' : Hp} {s' : Shared}, L2.Inv (X.blk t3 Hb sc env foot) [] σ' H' s' → (∀ b ∈ foot, H' b = none) → ∀ b ∈ foot, FpOk (X.blk t3 Hb sc env foot) [] H' b := fun {σ' H' s'} Ix n b m =>
    ⟨n b m, (Ix.ok.exf b m).1, Ix.ok.exfs b m, .inl m, fun x c e => (Ix.ok.exf b m).2 x c e, fun p hp => absurd (show p ∈ ([] : List (Addr × Obj)) ++ [] from hp) (by simp)⟩
  have loop : codeAny (model X.prog X.w) X.A (.compLoop (.SetComp elt [⟨tgt, it0, cs, 0⟩] sc ps) 0 (.ref iter) (.ref D) env) (compPost (model X.prog X.w) X.A X.xe use Qf (.ref D) t3.heap.objs.size) t4 := by
    refine compLoopS_any (fun n s' => ∃ i H', L2.Inv (X.blk t3 Hb sc env foot) [] (wipe σ (own.map (·.2))) H' s' ∧ tn i s'.heap ∧ (∀ b ∈ foot, H' b = none) ∧ Inv' i n H') ?_ m0 ⟨0, Hb, I4, at4, nf, i0⟩
    rintro n t5 ⟨i, H5, I5, at5, n5, w5⟩
    rcases turn i n H5 w5 with ⟨stop, qq⟩ | ⟨go, Nx, hNx, step⟩
    · refine thnF (W.done (X.blk t3 Hb sc env foot) rfl rfl rfl calm i [] t5 _ H5 (fun _ _ => False) I5 (still I5 n5) at5 stop) fun r t6 ⟨er, I6⟩ => ?_
      subst er
      have I7 : L2.Inv X pins σ H5 t6 := I3.call' (ch := foot) I6.os I6.base I6.hok I6.bare fun b m => ⟨(f3 b m).1.2.2.2.1, (f3 b m).1.2.1, (f3 b m).1.2.2.2.2.1, (f3 b m).1.2.2.2.2.2⟩
      have free : H5 t3.heap.objs.size = none := by rw [← el]; exact I6.free
      obtain ⟨m, ns, _⟩ := I6.loc
      have ns : t6.heap.Ns env.locals m := ns
      rw [el] at ns
      exact fin D t3.heap.objs.size t6 m H5 I7 qq ns (I3.fpOk (Nat.le_refl _) free)
    · refine thnF (W.item (X.blk t3 Hb sc env foot) rfl rfl rfl calm i [] t5 _ H5 (fun _ _ => False) I5 (still I5 n5) at5 go) fun r t6 ⟨u, er, y6⟩ => ?_
      subst er
      refine thnF y6 fun _ t7 ⟨x, H7, I7, r7, y7, at7, n7⟩ => ?_
      refine thnF (pg.run _ t7 _ H7 x u _ (I7.pinned (still I7 n7) (W.obj _ _ at7)) r7 (step x H7 y7)) fun _ t8 ⟨σ8, H8, I8, w8, q8⟩ => ?_
      refine thnF (pt.run _ t8 σ8 H8 _ I8 q8) fun b t9 ⟨H9, I9, q9⟩ => ?_
      have over : ∀ {s' : Shared} {H' : Hp}, L2.Inv (X.blk t3 Hb sc env foot) ([] ++ pinsAt foot t7.heap) σ8 H' s' → Nx H' → ∃ m, m < n ∧ ∃ i H', L2.Inv (X.blk t3 Hb sc env foot) [] (wipe σ (own.map (·.2))) H' s' ∧ tn i s'.heap ∧ (∀ b ∈ foot, H' b = none) ∧ Inv' i m H' := fun {s' H'} Ix nx => by
        obtain ⟨m', lm, w'⟩ := hNx H' nx
        have held : ∀ b ∈ foot, ∀ o, t7.heap.get? b = some o → s'.heap.get? b = some o ∧ H' b = none := fun b m o e =>
          let z := Ix.pin (b, o) (List.mem_append_right _ (List.mem_append_right _ (mem_pinsAt m e))); ⟨z.1, z.2.1⟩
        refine ⟨m', lm, i + 1, H', (Ix.unpinned (pins := [])).weak (by rw [← w8, wipe_length]) (fun j v e => ?_), W.keep _ _ _ at7 fun b m o e => (held b m o e).1, fun b m => ?_, w'⟩
        · rw [← w8] at e; exact (wipe_some e).1
        · obtain ⟨o, e, _⟩ := W.obj _ _ at7 b m; exact (held b m o e).2
      cases b with
      | false => simp only [Bool.false_eq_true, if_false] at q9 ⊢; exact over I9 q9
      | true =>
        simp only [if_true] at q9 ⊢
        refine thnF (pe.run _ t9 σ8 H9 _ I9 q9) fun v t10 ⟨yv, H10, I10, r10, t, eD10, adm, nx⟩ => ?_
        refine G.add (show ObjOk X.prog X.w H10 t10.heap D (G.obj D t) from I10.hok D _ eD10) adm r10 fun h' t' k sb there to new => ?_
        exact over (I10.write (e := D) (t' := k) (by rw [eD10]; exact G.mu D t) (.inl rfl) (fun b u hb hu => (sb.2 b hb).trans hu) there (new _)) (nx t' to)
  exact codeAny_compStart_set loop (W.self X.A 0 _ _ _ at4 loop)
theorem pe_scK {elt tgt it0 : Expr} {cs : List Expr} {sc : Scope} {own : List (PySem.Str × Nat)} {pos : Pos} {wi : TI} {g : TG} {tt : TT} {te : TE} (G : SKind X.prog X.w) (calm : X.calm = true) (nod : X.N.Nodup) (ri : PI X tgt it0 wi) (ok : BlkOk X.N X.env.scope sc own)
    (rg : ∀ (s : Shared) (H : Hp) (C : Addr) (cl : List (PySem.Str × Addr)) (fp : List Addr), PG (X.blk s H sc (compEnvC sc cl C X.env) fp) tgt g) (rt : ∀ (s : Shared) (H : Hp) (C : Addr) (cl : List (PySem.Str × Addr)) (fp : List Addr), PTs (X.blk s H sc (compEnvC sc cl C X.env) fp) cs tt)
    (re : ∀ (s : Shared) (H : Hp) (C : Addr) (cl : List (PySem.Str × Addr)) (fp : List Addr), PE (X.blk s H sc (compEnvC sc cl C X.env) fp) elt te) (fold : ∀ x, foldedSetIterable it0 X.env x = pure x := by intro _; rfl) :
    PE X (.SetComp elt [⟨tgt, it0, cs, 0⟩] sc pos) (tScK G wi g tt te (own.map (·.2))) := by
  constructor
  intro pins s σ H Q I z
  rw [eval_SetComp]
  refine scK_core G calm nod I ri ok rg rt re fold z fun D C s' m H' Ix q ns f => ⟨m, ns, fun h'' sb => ?_⟩
  obtain ⟨f0, f1, f2, f3, f4, f5⟩ := f
  exact ⟨.ref D, H', Ix.turned (t' := s'.toks) (fun b o hb e => (sb.2 b hb).trans e) f0 f1 f3 f4 f5, rfl, q⟩
end
/-- sets of texts -/
def txKind (P : Program) (w : World) : SKind P w where
  α := List Str
  obj := SetTx P w
  nil := []
  adm := fun t y => t.length + 1 < 4000 ∧ ∃ x, y = .str x
  to := fun t y t' => (∀ z, z ∈ t' ↔ z ∈ t ∨ V.str z = y) ∧ t'.length ≤ t.length + 1
  new := fun e => setTx_ok (txs_fresh e)
  mu := fun a t => trivial
  add := fun {A E s H a t y u Q} ok adm r q => by
    obtain ⟨few, x, rfl⟩ := adm
    obtain ⟨tk, rfl⟩ := r
    obtain ⟨⟨D, T⟩, _⟩ := ok
    refine wpAny_call_entry F.slot_set_add (T := "set") ⟨_, T.at_, rfl⟩ F.entry_set_add ?_ (F.args_set_add_2 _ _)
    unfold Builtin.«set.add» Builtin.Frozenset.oneOther
    simp only [List.isEmpty_nil, bind_assoc]
    unfold Builtin.Frozenset.addrOf setAdd
    refine wpAny_bind (wpAny_pure ?_)
    try dsimp only
    refine wpAny_bind (wpAny_pure ?_)
    try dsimp only
    refine wpAny_bind (wpAny_holding (wpAny_bind ((strKind P w).pyHash (k := x) (Froz.is_str x tk) ?_)))
    refine tx_add (s := { s with toks := s.toks + 1 }) T (by unfold scanBound; omega) fun b h' D' l' sb T2 me le => ?_
    refine wpAny_pure ⟨_, rfl, q h' l' (s.toks + 1) sb ⟨_, T2.at_⟩ ⟨fun z => ?_, le⟩ fun H' => setTx_ok T2⟩
    rw [me]
    exact or_congr Iff.rfl ⟨fun e => by rw [e], fun e => by injection e⟩
end Gx
namespace Gx
open PySem PySem.Spec PyProof.Rows L2 Evl
/-- over a list that the block leaves as it is -/
theorem scK_list {P : Program} {w : World} (G : SKind P w) {K : PySem.W.Frag} {a : Addr} {xs : List V} {g : TG} {tt : TT} {te : TE} {vs : List Nat} {σ : L2.St} {H1 : Hp} {D : Addr} {Qd : Hp → Prop} (Pv : Nat → Hp → Prop) (z0 : Pv 0 (upd H1 D (G.obj D G.nil))) (zl : ∀ i H, i ≤ xs.length → Pv i H → SqL K H a xs)
    (zs : ∀ i x H, xs[i]? = some x → Pv i H → g x (wipe σ vs) H fun σ2 H2 => wipe σ2 vs = wipe σ vs ∧ tt σ2 H2 fun b H3 => if b = true then te σ2 H3 fun y H4 => ∃ t, H4 D = some (G.obj D t) ∧ G.adm t y ∧ ∀ t', G.to t y t' → Pv (i + 1) (upd H4 D (G.obj D t')) else Pv (i + 1) H3) (ze : ∀ H, Pv xs.length H → Qd H) :
    ∃ W : Nat → Nat → Hp → Prop, (∃ m, W 0 m (upd H1 D (G.obj D G.nil))) ∧ ∀ i m H, W i m H →
      ((Itl K a).stop i H ∧ Qd H) ∨ ((Itl K a).go i H ∧ ∃ Nx : Hp → Prop, (∀ H', Nx H' → ∃ m', m' < m ∧ W (i + 1) m' H') ∧ ∀ x H', (Itl K a).yld i H x H' → g x (wipe σ vs) H' fun σ2 H2 => wipe σ2 vs = wipe σ vs ∧ tt σ2 H2 fun b H3 =>
        if b = true then te σ2 H3 fun y H4 => ∃ t, H4 D = some (G.obj D t) ∧ G.adm t y ∧ ∀ t', G.to t y t' → Nx (upd H4 D (G.obj D t')) else Nx H3) := by
  refine ⟨fun i m H => xs.length - i = m ∧ i ≤ xs.length ∧ Pv i H, ⟨xs.length, by simp, Nat.zero_le _, z0⟩, ?_⟩
  rintro i m H ⟨rfl, le, p⟩
  have q := zl i H le p
  rcases Nat.lt_or_ge i xs.length with lt | ge
  · refine .inr ⟨⟨xs, xs[i], q, by simp [lt]⟩, Pv (i + 1), fun H' p' => ⟨xs.length - (i + 1), by omega, rfl, lt, p'⟩, ?_⟩
    rintro x H' ⟨rfl, y⟩
    exact zs i x _ (y xs q) p
  · obtain rfl : i = xs.length := by omega
    exact .inl ⟨⟨xs, q, Nat.le_refl _⟩, ze H p⟩
end Gx

set_option Elab.async false
set_option linter.all false
set_option maxRecDepth 100000
set_option maxHeartbeats 4000000
namespace K22
open PySem PySem.Spec PyProof.Rows L2 Evl Gx
abbrev s_column_of : Stmt := topS 1
theorem sc_column_of : FnScope ["test"] ["test"] (defScope s_column_of) := ⟨rfl, rfl, rfl, by decide +kernel, rfl, by decide +kernel, by decide +kernel⟩
abbrev s_tests_in : Stmt := topS 15
theorem sc_tests_in : FnScope ["condition"] ["condition"] (defScope s_tests_in) := ⟨rfl, rfl, rfl, by decide +kernel, rfl, by decide +kernel, by decide +kernel⟩
abbrev s_columns_in : Stmt := topS 16
theorem sc_columns_in : FnScope ["condition", "test"] ["condition"] (defScope s_columns_in) := ⟨rfl, rfl, rfl, by decide +kernel, rfl, by decide +kernel, by decide +kernel⟩
def colOf : Gx.Leaf → Option Str
  | .always _ => none
  | .empty n => some n
  | .number n => some n
  | .asks n _ _ _ => some n
def spCol (K : PySem.W.Frag) : Sp := fun vs H Q _ => ∃ v l n, vs = [v] ∧ LeafAt K H v l ∧ colOf l = some n ∧ Q (.str n) H
theorem leaf_test {l : Gx.Leaf} (h : l.kind ∈ tests3) : ∃ n, colOf l = some n := by
  cases l with
  | always w => exact absurd h (by simp only [Leaf.kind]; decide +kernel)
  | empty n => exact ⟨_, rfl⟩
  | number n => exact ⟨_, rfl⟩
  | asks n ss sg k => exact ⟨_, rfl⟩
theorem col_data {l m : Gx.Leaf} (h : l.data = m.data) : colOf l = colOf m := by
  cases l <;> cases m <;> simp_all [Leaf.data, colOf]
  all_goals exact absurd h.1 (by decide +kernel)
theorem testsN_mem : ∀ (n : Nat) (c : Cnd) (ns : List Str), c.ok ns → ∀ t ∈ testsN n c, ∃ l x, t = .leaf l ∧ colOf l = some x ∧ l.ok ns
  | 0, _, _, _, t, m => by cases m
  | n + 1, c, ns, ok, t, m => by
    rw [testsN] at m
    by_cases z : c.kind ∈ tests3
    · rw [if_pos z, List.mem_singleton] at m
      subst m
      cases t with
      | leaf l =>
        obtain ⟨x, h⟩ := leaf_test (show l.kind ∈ tests3 from z)
        exact ⟨l, x, rfl, h, ok⟩
      | not c => exact absurd z (by simp only [Cnd.kind]; decide +kernel)
      | case ws ts e => exact absurd z (by simp only [Cnd.kind]; decide +kernel)
      | node k cs =>
        rw [Cnd.ok] at ok
        have : ∀ k ∈ kinds, k ∉ tests3 := by decide +kernel
        exact absurd z (this k ok.1)
    · rw [if_neg z] at m
      obtain ⟨p, mp, mt⟩ := List.mem_flatMap.mp m
      exact testsN_mem n p ns (Cnd.parts_ok ok p mp) t mt
theorem testsN_w {ns : List Str} : ∀ (n : Nat) (c : Cnd), c.ok ns → 200000 * (testsN n c).length ≤ c.weight
  | 0, c, _ => by simp [testsN]
  | n + 1, c, ok => by
    rw [testsN]
    by_cases z : c.kind ∈ tests3
    · rw [if_pos z]
      cases c with
      | leaf l => rw [Cnd.weight]; simp
      | not c => exact absurd z (by simp only [Cnd.kind]; decide +kernel)
      | case ws ts e => exact absurd z (by simp only [Cnd.kind]; decide +kernel)
      | node k cs =>
        rw [Cnd.ok] at ok
        have : ∀ k ∈ kinds, k ∉ tests3 := by decide +kernel
        exact absurd z (this k ok.1)
    · rw [if_neg z]
      have pw := c.parts_weight
      have fl : ∀ ps : List Cnd, (∀ p ∈ ps, p.ok ns) → 200000 * (ps.flatMap (testsN n)).length ≤ (ps.map Cnd.weight).sum := fun ps => by
        induction ps with
        | nil => intro _; simp
        | cons p ps ih =>
          intro h
          have h1 := testsN_w n p (h p List.mem_cons_self)
          have h2 := ih fun q m => h q (List.mem_cons_of_mem _ m)
          simp only [List.flatMap_cons, List.length_append, List.map_cons, List.sum_cons]; omega
      have := fl c.parts (Cnd.parts_ok ok)
      omega
/-- the tests of a condition, each once, in their order -/
structure TestsOf (n : Nat) (c : Cnd) (ls : List Gx.Leaf) : Prop where
  up : (ls.map Leaf.data).Pairwise fun a b => ltD a b = true
  mem : ∀ d, d ∈ ls.map Leaf.data ↔ d ∈ (testsN n c).map Cnd.data
  sub : ∀ l ∈ ls, .leaf l ∈ testsN n c
def spTestsIn (K : PySem.W.Frag) (n : Nat) : Sp := fun vs H Q _ => ∃ (v : V) (c : Cnd) (ns : List Str), vs = [v] ∧ CndAt K H v c ∧ c.ok ns ∧ c.depth < n ∧ c.weight ≤ 6000000 ∧
  ∀ (l : Addr) (us : List V) (ls : List Gx.Leaf) (H' : Hp), Ex H H' → H l = none → H' l = some (.lst us) → CndsAt K H' us (ls.map Cnd.leaf) → TestsOf n c ls → Q (.ref l) H'
def spColumnsIn (K : PySem.W.Frag) (n : Nat) : Sp := fun vs H Q _ => ∃ (v : V) (c : Cnd) (ns : List Str), vs = [v] ∧ CndAt K H v c ∧ c.ok ns ∧ c.depth < n ∧ c.weight ≤ 6000000 ∧
  ∀ (l : Addr) (r : List Str) (H' : Hp), Ex H H' → H l = none → H' l = some (.lst (r.map V.str)) → Ords r (fun x => ∃ d, .leaf d ∈ testsN n c ∧ colOf d = some x) → Q (.ref l) H'
section
variable {K : PySem.W.Frag} {H : Hp}
theorem cnds_pairs : ∀ {us : List V} {ts : List Cnd}, CndsAt K H us ts → ∃ ps : List (V × PyData), ps.map (·.1) = us ∧ ps.map (·.2) = ts.map Cnd.data ∧ ∀ p ∈ ps, ∃ t ∈ ts, CndAt K H p.1 t ∧ p.2 = t.data
  | _, [], h => by obtain rfl : _ = [] := h; exact ⟨[], rfl, rfl, fun _ m => by cases m⟩
  | _, t :: ts, ⟨x, r, e, hx, hr⟩ => by
    subst e
    obtain ⟨ps, e1, e2, h⟩ := cnds_pairs hr
    refine ⟨(x, t.data) :: ps, by rw [List.map_cons, e1], by rw [List.map_cons, List.map_cons, e2], fun p m => ?_⟩
    rcases List.mem_cons.mp m with rfl | m
    · exact ⟨t, List.mem_cons_self, hx, rfl⟩
    · obtain ⟨t', m', z⟩ := h p m
      exact ⟨t', List.mem_cons_of_mem _ m', z⟩
theorem pairs_leaves {ts : List Cnd} (lf : ∀ t ∈ ts, ∃ l, t = .leaf l) : ∀ {r : List (V × PyData)}, (∀ p ∈ r, ∃ t ∈ ts, CndAt K H p.1 t ∧ p.2 = t.data) → ∃ ls : List Gx.Leaf, CndsAt K H (r.map (·.1)) (ls.map Cnd.leaf) ∧ r.map (·.2) = ls.map Leaf.data ∧ ∀ l ∈ ls, .leaf l ∈ ts
  | [], _ => ⟨[], rfl, rfl, fun _ m => by cases m⟩
  | p :: r, h => by
    obtain ⟨ls, h1, h2, h3⟩ := pairs_leaves lf (r := r) fun q m => h q (List.mem_cons_of_mem _ m)
    obtain ⟨t, mt, ht, e⟩ := h p List.mem_cons_self
    obtain ⟨l, rfl⟩ := lf t mt
    refine ⟨l :: ls, ⟨p.1, _, rfl, ht, h1⟩, by rw [List.map_cons, List.map_cons, h2, e]; rfl, fun x m => ?_⟩
    rcases List.mem_cons.mp m with rfl | m
    · exact mt
    · exact h3 x m
end
section
variable {P : Program} {w : World} {K : PySem.W.Frag} {mg : Str → Option Value} {base : Heap} {f_all_tests f_tests_in f_column_of : Addr} {fd_all_tests fd_tests_in fd_column_of : FuncData}
theorem ok_column_of {f : Addr} {fd : FuncData} (D : Def K mg "column_of" s_column_of f fd ["test"]) (bi : Bi mg) :
    FnOk P w K mg base CX0 1 f fd ["test"] (spCol K) := by
  refine D.fn.ok sc_column_of (fun vs H Q E h => ?_) (fun cdv A outer s0 H vs Q E hr h => ?_)
  · obtain ⟨v, l, n, rfl, _⟩ := h
    rfl
  · obtain ⟨v, l, n, rfl, hv, hc, k⟩ := h
    refine ⟨_, (pss_one (ps_ret (pe_ix (ix_tupK (K := K) rfl) (pv 0) pe_int (fun _ _ => rfl)))), ?_⟩
    cases l with
    | always w => cases hc
    | empty n => cases hc; obtain ⟨a, rfl, ha⟩ := hv; exact ⟨_, rfl, a, _, 1, _, rfl, rfl, ha, rfl, k⟩
    | number n => cases hc; obtain ⟨a, rfl, ha⟩ := hv; exact ⟨_, rfl, a, _, 1, _, rfl, rfl, ha, rfl, k⟩
    | asks n ss sg kk => cases hc; obtain ⟨a, b, ws, rfl, ha, _⟩ := hv; exact ⟨_, rfl, a, _, 1, _, rfl, rfl, ha, rfl, k⟩
theorem ok_tests_in {n : Nat} {f : Addr} {fd : FuncData} (D : Def K mg "tests_in" s_tests_in f fd ["condition"]) (bi : Bi mg)
    (D_all_tests : Def K mg "all_tests" s_all_tests f_all_tests fd_all_tests ["condition"])
    (G_all_tests : FnOk P w K mg base CX0 2 f_all_tests fd_all_tests ["condition"] (spAllTests K n)) :
    FnOk P w K mg base CX0 3 f fd ["condition"] (spTestsIn K n) := by
  refine D.fn.ok sc_tests_in (fun vs H Q E h => ?_) (fun cdv A outer s0 H vs Q E hr h => ?_)
  · obtain ⟨v, c, ns, rfl, _⟩ := h
    rfl
  · obtain ⟨v, c, ns, rfl, hv, ok, dp, wt, k⟩ := h
    have hu60 := Nat.lt_of_le_of_lt (Nat.add_le_add_left (by decide : 60 ≤ 64) _) hr.units
    refine ⟨_, (pss_one (ps_ret (pe_callB (cr_sortedSet rfl hu60) (by rfl) bi.sorted bt_sorted (pa_cons (pe_callTy (cr_setD rfl hu60) (by rfl) bi.set bt_set (pa_cons (pe_call G_all_tests (hr.mono (by first | decide | omega)) rfl D_all_tests.mg D_all_tests.fn.kp D_all_tests.bd .nil pass0 (pa_cons (pv 0) pa_nil)) pa_nil)) pa_nil)))), ?_⟩
    refine ⟨_, rfl, v, c, ns, rfl, hv, ok, dp, wt, fun l us ts H1 e1 nl hl ht pm => ?_⟩
    have few : ts.length < 64 := by
      have := testsN_w n c ok
      have := pm.length_eq
      omega
    have lf : ∀ t ∈ ts, ∃ l x, t = .leaf l ∧ colOf l = some x ∧ l.ok ns := fun t m => testsN_mem n c ns ok t (pm.mem_iff.mp m)
    obtain ⟨ps, p1, p2, p3⟩ := cnds_pairs ht
    have pl : ps.length = ts.length := by have := congrArg List.length p2; simpa using this
    have p4 : ∀ p ∈ ps, ∃ l, CndAt K H1 p.1 (.leaf l) ∧ p.2 = l.data ∧ l.ok ns := fun p m => by
      obtain ⟨t, mt, ha, e⟩ := p3 p m
      obtain ⟨l, x, rfl, _, lok⟩ := lf t mt
      exact ⟨l, ha, e, lok⟩
    have p5 : ∀ {r : List (V × PyData)}, (∀ p ∈ r, p ∈ ps) → Cmps (r.map (·.2)) := fun {r} sub => by
      have at_ : ∀ d ∈ r.map (·.2), ∃ l : Gx.Leaf, d = l.data ∧ l.ok ns := fun d m => by
        obtain ⟨p, mp, rfl⟩ := List.mem_map.mp m
        obtain ⟨l, _, e, lok⟩ := p4 p (sub p mp)
        exact ⟨l, e, lok⟩
      refine ⟨fun d m => ?_, fun d m => ?_, fun d m d' m' => ?_, fun d m => ?_⟩
      · obtain ⟨l, rfl, _⟩ := at_ d m; exact leaf_tup l
      · obtain ⟨l, rfl, _⟩ := at_ d m; exact leaf_keyable l
      · obtain ⟨l, rfl, _⟩ := at_ d m
        obtain ⟨l', rfl, _⟩ := at_ d' m'
        exact leaf_cmp l l'
      · obtain ⟨l, rfl, lok⟩ := at_ d m; exact leaf_deep lok
    have c0 := p5 (r := ps) fun _ m => m
    have m2 : ∀ p ∈ ps, p.2 ∈ ps.map (·.2) := fun p m => List.mem_map.mpr ⟨p, m, rfl⟩
    refine ⟨l, ps, rfl, by rw [p1]; exact SqL.of hl, fun p m => ?_, fun p m => c0.tup _ (m2 p m), fun p m => c0.key _ (m2 p m), fun p m => c0.deep _ (m2 p m), by rw [pl]; exact few, fun a L na sub mem nd => ?_⟩
    · obtain ⟨t, mt, ha, e⟩ := p3 p m
      rw [e]; exact ha.dp
    refine ⟨a, L, rfl, upd_same, ?_⟩
    generalize eG : upd H1 a _ = H2
    have x2 : Ex H1 H2 := by rw [← eG]; exact Ex.new na
    refine ⟨fun p m => ?_, p5 sub, fun q r nq pr up => ?_⟩
    · obtain ⟨t, mt, ha, e⟩ := p3 p (sub p m)
      rw [e]; exact (ha.to x2).dp
    have x3 := x2.trans (Ex.new (o := .lst (r.map (·.1))) nq)
    obtain ⟨ls, q1, q2, q3⟩ := pairs_leaves (K := K) (ts := ts) (H := upd H2 q (.lst (r.map (·.1)))) (fun t m => let ⟨l, _, e, _⟩ := lf t m; ⟨l, e⟩) (r := r) fun p m => by
      obtain ⟨t, mt, ha, e⟩ := p3 p (sub p (pr.mem_iff.mp m))
      exact ⟨t, mt, ha.to x3, e⟩
    refine k q (r.map (·.1)) ls _ (e1.trans x3) (fresh_back (e1.trans x2) nq) upd_same q1 ⟨by rw [← q2]; exact up, fun d => ?_, fun l m => pm.mem_iff.mp (q3 l m)⟩
    rw [← q2, (pr.map (·.2)).mem_iff, mem, p2, (pm.map Cnd.data).mem_iff]
theorem ok_columns_in {n : Nat} {f : Addr} {fd : FuncData} (D : Def K mg "columns_in" s_columns_in f fd ["condition"]) (bi : Bi mg)
    (D_column_of : Def K mg "column_of" s_column_of f_column_of fd_column_of ["test"])
    (D_tests_in : Def K mg "tests_in" s_tests_in f_tests_in fd_tests_in ["condition"])
    (G_column_of : FnOk P w K mg base CX0 1 f_column_of fd_column_of ["test"] (spCol K))
    (G_tests_in : FnOk P w K mg base CX0 3 f_tests_in fd_tests_in ["condition"] (spTestsIn K n)) :
    FnOk P w K mg base CX0 4 f fd ["condition"] (spColumnsIn K n) := by
  refine D.fn.ok sc_columns_in (fun vs H Q E h => ?_) (fun cdv A outer s0 H vs Q E hr h => ?_)
  · obtain ⟨v, c, ns, rfl, _⟩ := h
    rfl
  · obtain ⟨v, c, ns, rfl, hv, ok, dp, wt, k⟩ := h
    have hu60 := Nat.lt_of_le_of_lt (Nat.add_le_add_left (by decide : 60 ≤ 64) _) hr.units
    refine ⟨_, (pss_one (ps_ret (pe_callB (cr_sortedTx rfl hu60) (by rfl) bi.sorted bt_sorted (pa_cons (pe_scK (own := [("test", 1)]) (txKind _ _) rfl sc_columns_in.nd (pi_list (pe_call G_tests_in (hr.mono (by first | decide | omega)) rfl D_tests_in.mg D_tests_in.fn.kp D_tests_in.bd .nil pass0 (pa_cons (pv 0) pa_nil))) (blkOk_by (N := ["condition", "test"]) (sc := defScope s_columns_in) (by decide +kernel)) (fun _ _ _ _ _ => (pg_name (i := 1) sc_columns_in.nd rfl (Or.inl rfl))) (fun _ _ _ _ _ => pts_nil) (fun _ _ _ _ _ => (pe_call G_column_of (hr.mono (by first | decide | omega)) rfl D_column_of.mg D_column_of.fn.kp D_column_of.bd .nil pass0 (pa_cons (pv 1) pa_nil)))) pa_nil)))), ?_⟩
    refine ⟨_, rfl, v, c, ns, rfl, hv, ok, dp, wt, fun l us ls H1 e1 nl hl ht T => ?_⟩
    refine ⟨l, rfl, ⟨us, SqL.of hl⟩, fun D nD => ?_⟩
    have ul : us.length = ls.length := by have := cnds_len ht; simpa using this
    have wl := testsN_w n c ok
    have few : ls.length ≤ 30 := by
      have h1 : (ls.map Gx.Leaf.data).length ≤ ((testsN n c).map Cnd.data).length := nodup_le (T.up.imp ltD_ne) fun d m => (T.mem d).mp m
      rw [List.length_map, List.length_map] at h1
      omega
    have lf : ∀ d ∈ ls, ∃ x, colOf d = some x := fun d m => by
      obtain ⟨l', x, e, h, _⟩ := testsN_mem n c ns ok _ (T.sub d m)
      cases e
      exact ⟨x, h⟩
    refine scK_list (xs := us) (txKind P w) (fun i H' => Ex H1 H' ∧ ∃ t : List Str, H' D = some (SetTx P w D t) ∧ t.length ≤ i ∧ ∀ x, x ∈ t ↔ ∃ d ∈ ls.take i, colOf d = some x) ?_ ?_ ?_ ?_
    · exact ⟨Ex.new nD, [], upd_same, Nat.le_refl _, fun x => ⟨fun m => (by cases m), fun ⟨d, m, _⟩ => (by simp at m)⟩⟩
    · intro i H' _ p
      exact SqL.of (p.1 _ _ hl)
    · rintro i x H' hi ⟨e2, t, hD, tl, mem⟩
      obtain ⟨q, hq, hqa⟩ := cnds_get ht hi
      rw [List.getElem?_map] at hq
      obtain ⟨d, hd, rfl⟩ : ∃ d, ls[i]? = some d ∧ q = Cnd.leaf d := by
        cases z : ls[i]? with
        | none => rw [z] at hq; cases hq
        | some d => rw [z] at hq; exact ⟨d, rfl, (Option.some.inj hq).symm⟩
      obtain ⟨col, hc⟩ := lf d (List.mem_of_getElem? hd)
      have il : i < us.length := (List.getElem?_eq_some_iff.mp hi).1
      refine ⟨rfl, _, rfl, x, d, col, rfl, (hqa.to e2), hc, t, hD, ⟨by omega, col, rfl⟩, fun t' ⟨m1, m2⟩ => ⟨e2.mut nD, t', upd_same, by omega, fun y => ?_⟩⟩
      rw [m1, mem, takeS hd]
      constructor
      · rintro (⟨d', m', e'⟩ | e')
        · exact ⟨d', List.mem_append_left _ m', e'⟩
        · injection e' with e'
          exact ⟨d, List.mem_append_right _ (List.mem_singleton.mpr rfl), by rw [e']; exact hc⟩
      · rintro ⟨d', m', e'⟩
        rcases List.mem_append.mp m' with m' | m'
        · exact .inl ⟨d', m', e'⟩
        · rw [List.mem_singleton.mp m', hc] at e'
          exact .inr (by rw [Option.some.inj e'])
    · rintro H' ⟨e2, t, hD, tl, mem⟩
      refine ⟨D, t, rfl, hD, by omega, fun p r np od rl => ?_⟩
      have e3 := (e1.trans e2).trans (Ex.new (o := .lst (r.map V.str)) np)
      refine k p r _ e3 (fresh_back (e1.trans e2) np) upd_same ⟨od.up, fun x => (od.mem x).trans ((mem x).trans ?_)⟩
      rw [ul, List.take_length]
      constructor
      · rintro ⟨d, m, e⟩
        exact ⟨d, T.sub d m, e⟩
      · rintro ⟨d, m, e⟩
        have z := (T.mem d.data).mpr (List.mem_map.mpr ⟨_, m, rfl⟩)
        obtain ⟨d', m', e'⟩ := List.mem_map.mp z
        exact ⟨d', m', by rw [← e]; exact col_data e'⟩
end
end K22

set_option Elab.async false
set_option linter.all false
set_option maxRecDepth 100000
set_option maxHeartbeats 2000000
/-! The data layer: lists of one's own that change; comprehensions. -/
namespace Gx
open PySem PySem.Spec PyProof.Rows L2 Evl
section
variable {X : Cx} {K : PySem.W.Frag} {O0 O O' O1 : List Addr} {H0 H H' H1 : Hp} {δ δ' δ1 : DSt} {σ σ' : L2.St}
variable {e tg : Expr} {pos p : Pos} {Ta Tb : DTE}
/-- a slot's own list is written -/
theorem RS.put (r : RS K O0 H0 δ σ O H) {i : Nat} {xs ys : List PyData} {a : Addr} {vs : List V} (h : δ[i]? = some (some (.ow xs))) (hv : σ[i]? = some (some (.ref a))) (ha : a ∈ O) (n : H0 a = none)
    (q : DqAll K (hd H O) vs ys) : RS K O0 H0 (δ.set i (some (.ow ys))) σ O (upd H a (.lst vs)) ∧ Ex (hd H O) (hd (upd H a (.lst vs)) O) := by
  have ee : hd (upd H a (.lst vs)) O = hd H O := hd_put ha
  have hil : i < δ.length := (List.getElem?_eq_some_iff.mp h).1
  refine ⟨⟨r.old, fun b hb => ?_, r.ex.mut n, r.sub, by rw [List.length_set]; exact r.len, fun j => ?_, fun j k us zs v e ej ek vj vk => ?_⟩, by rw [ee]; exact Ex.refl _⟩
  · by_cases z : b = a
    · subst z; exact ⟨vs, upd_same⟩
    · rw [upd_ne z]; exact r.lst b hb
  · rw [List.getElem?_set]
    by_cases z : i = j
    · subst z
      rw [if_pos rfl, if_pos hil, hv]
      exact ⟨a, vs, rfl, ha, n, upd_same, by rw [ee]; exact q⟩
    · rw [if_neg z]
      have w := r.at_ j
      rcases q1 : δ[j]? with _ | s
      · exact trivial
      · rw [q1] at w
        rcases q2 : σ[j]? with _ | v
        · rw [q2] at w
          match s, w with
          | none, _ => exact trivial
        · rw [q2] at w
          match s, v, w, q1, q2 with
          | none, _, _, _, _ => exact trivial
          | some (.fz d), some v, w, _, _ => show Dq K (hd _ _) v d; rw [ee]; exact w
          | some (.x o), some v, w, _, _ => show o.φ (hd _ _) v; rw [ee]; exact w
          | some (.ow us), some v, w, q1, q2 =>
            obtain ⟨b, ws, rfl, g1, g2, g3, g4⟩ := w
            have nb : b ≠ a := fun z' => by subst z'; exact r.two i j xs us _ z h q1 hv q2
            exact ⟨b, ws, rfl, g1, g2, by rw [upd_ne nb]; exact g3, by rw [ee]; exact g4⟩
  · rcases get_set ej with ⟨rfl, _⟩ | ⟨nj, q1⟩
    · rcases get_set ek with ⟨rfl, _⟩ | ⟨nk, q2⟩
      · exact e rfl
      · exact r.two j k xs zs v e h q2 vj vk
    · rcases get_set ek with ⟨rfl, _⟩ | ⟨nk, q2⟩
      · exact r.two j k us xs v e q1 h vj vk
      · exact r.two j k us zs v e q1 q2 vj vk
theorem RS.own_at (r : RS K O0 H0 δ σ O H) {i : Nat} {xs : List PyData} (h : δ[i]? = some (some (.ow xs))) : ∃ a vs, σ[i]? = some (some (.ref a)) ∧ a ∈ O ∧ H0 a = none ∧ H a = some (.lst vs) ∧ DqAll K (hd H O) vs xs := by
  obtain ⟨v, hv, a, vs, rfl, h1, h2, h3, h4⟩ := r.get h
  exact ⟨a, vs, hv, h1, h2, h3, h4⟩
def own (δ : DSt) (i : Nat) (k : List PyData → Prop) : Prop := match δ[i]? with
  | some (some (.ow xs)) => k xs
  | _ => False
theorem own_ok {i : Nat} {k : List PyData → Prop} (h : own δ i k) : ∃ xs, δ[i]? = some (some (.ow xs)) ∧ k xs := by
  unfold own at h
  rcases q : δ[i]? with _ | s
  · rw [q] at h; exact h.elim
  · rw [q] at h
    match s, h with
    | some (.ow xs), h => exact ⟨xs, rfl, h⟩
def atomD (d : Dv) (δ : DSt) (k : PyData → DSt → Prop) : Prop := frz d δ fun d' δ' => match d' with
  | .d x => k x δ'
  | _ => False
theorem atom_ok (r : RS K O0 H0 δ σ O H) {d : Dv} {v : V} {k : PyData → DSt → Prop} (h : RV K H0 δ σ O H d v) (z : atomD d δ k) :
    ∃ x δ' O', Nx O H O' H δ δ' ∧ RS K O0 H0 δ' σ O' H ∧ Dq K (hd H O') v x ∧ k x δ' := by
  obtain ⟨d', δ', O', n, r', rv, z, nb, no⟩ := frz_ok r h z
  match d', rv, z with
  | .d x, rv, z => exact ⟨x, δ', O', n, r', rv, z⟩
/-- xs.append(e) -/
def dApp (i : Nat) (Ta : DTE) : DTS := fun E δ => own δ i fun _ => Ta δ fun d δ1 => atomD d δ1 fun x δ2 => own δ2 i fun xs => xs.length < 100000 ∧ E.nx (δ2.set i (some (.ow (xs ++ [x]))))
theorem ds_app {o : Expr} {apos cpos : Pos} {i : Nat} (h : PS X (.Expr (.Call (.Attribute o "append" apos) [e] [] cpos) pos) (tDrop (tBM X.K "list" rAppend (tVar i) (tCons (simE K Ta) tNil)))) :
    PS X (.Expr (.Call (.Attribute o "append" apos) [e] [] cpos) pos) (simS K (dApp i Ta)) := h.imp fun D σ H ⟨O0, H0, δ, O, E, rs, t, p⟩ => by
  obtain ⟨xs0, h0, t⟩ := own_ok t
  obtain ⟨a, vs, hv, ha, n, g1, g2⟩ := rs.own_at h0
  refine ⟨_, hv, .inl ⟨rfl, _, SqL.of g1⟩, O0, H0, δ, O, _, rs, t, fun d δ1 v O1 H1 n1 rs1 rv1 h1 => ?_⟩
  obtain ⟨x, δ2, O2, n2, r2, dx, z⟩ := atom_ok rs1 rv1 h1
  obtain ⟨xs, h2, l, z⟩ := own_ok z
  obtain ⟨a', vs', hv', ha', n', g1', g2'⟩ := r2.own_at h2
  rw [hv] at hv'
  cases hv'
  obtain ⟨r3, e3⟩ := r2.put h2 hv ha' n' (g2'.app (.one dx))
  exact ⟨a, vs', v, rfl, rfl, g1', by rw [g2'.len]; exact small (by omega), p.nx _ _ _ _ ((n1.trans n2).hd.trans e3) r3 z⟩
/-- xs.extend(e), e a list just made -/
def dExt (i : Nat) (Ta : DTE) : DTS := fun E δ => own δ i fun _ => Ta δ fun d δ1 => match d with
  | .ow ys => own δ1 i fun xs => xs.length + ys.length ≤ 100000 ∧ E.nx (δ1.set i (some (.ow (xs ++ ys))))
  | _ => False
theorem ds_ext {o : Expr} {apos cpos : Pos} {i : Nat} (h : PS X (.Expr (.Call (.Attribute o "extend" apos) [e] [] cpos) pos) (tDrop (tBM X.K "list" rExtend (tVar i) (tCons (simE K Ta) tNil)))) :
    PS X (.Expr (.Call (.Attribute o "extend" apos) [e] [] cpos) pos) (simS K (dExt i Ta)) := h.imp fun D σ H ⟨O0, H0, δ, O, E, rs, t, p⟩ => by
  obtain ⟨xs0, h0, t⟩ := own_ok t
  obtain ⟨a, vs, hv, ha, n, g1, g2⟩ := rs.own_at h0
  refine ⟨_, hv, .inl ⟨rfl, _, SqL.of g1⟩, O0, H0, δ, O, _, rs, t, fun d δ1 v O1 H1 n1 rs1 rv1 h1 => ?_⟩
  match d, rv1, h1 with
  | .ow ys, rv1, h1 =>
    obtain ⟨b, us, rfl, hb, nb, ab, g3, g4⟩ := rv1
    obtain ⟨xs, h2, l, z⟩ := own_ok h1
    obtain ⟨a', vs', hv', ha', n', g1', g2'⟩ := rs1.own_at h2
    rw [hv] at hv'
    cases hv'
    obtain ⟨r3, e3⟩ := rs1.put h2 hv ha' n' (g2'.app g4)
    exact ⟨a, b, vs', us, rfl, rfl, g1', g3, by rw [g2'.len, g4.len]; exact Nat.le_of_lt (small l), p.nx _ _ _ _ (n1.hd.trans e3) r3 z⟩
/-- xs.insert(i, e) -/
def insD (xs : List PyData) (i : Int) (x : PyData) : List PyData := xs.take i.toNat ++ [x] ++ xs.drop i.toNat
/-- x = xs.pop() -/
def dPop (j i : Nat) : DTS := fun E δ => own δ i fun xs => ∃ ys x, xs = ys ++ [x] ∧ E.nx ((δ.set i (some (.ow ys))).set j (some (.fz x)))
theorem ds_pop {st : Stmt} {i j : Nat} (hij : i ≠ j) (h : PS X st (tAsg (tBM0 X.K "list" rPop (tVar i)) (gName j))) : PS X st (simS K (dPop j i)) := h.imp fun D σ H ⟨O0, H0, δ, O, E, rs, t, p⟩ => by
  obtain ⟨xs, h0, ys, x, rfl, z⟩ := own_ok t
  obtain ⟨a, vs, hv, ha, n, g1, g2⟩ := rs.own_at h0
  have hl := g2.len
  rw [List.length_append, List.length_singleton] at hl
  obtain ⟨v, e1, dv⟩ := g2.get' (i := vs.length - 1) (d := x) (by rw [hl]; simp)
  have g3 : DqAll K (hd H O) vs.dropLast ys := by
    have := g2.take ys.length
    rw [List.take_left'] at this
    · have e2 : vs.dropLast = vs.take ys.length := by rw [List.dropLast_eq_take, hl]; simp
      rw [e2]; exact this
    · rfl
  obtain ⟨r3, e3⟩ := rs.put h0 hv ha n g3
  refine ⟨_, hv, .inl ⟨rfl, _, SqL.of g1⟩, a, vs, v, rfl, rfl, g1, e1, p.nx _ _ _ _ e3 (r3.setd (dv.to e3)) z⟩
/-- xs[i] = e -/
def dSetI (i : Nat) (Ta Tb : DTE) : DTS := fun E δ => Ta δ fun d δ1 => atomD d δ1 fun x δ2 => own δ2 i fun _ => Tb δ2 fun d2 δ3 => vw d2 fun y => match y with
  | .int k => own δ3 i fun xs => ∃ j, ixN xs.length k = some j ∧ E.nx (δ3.set i (some (.ow (xs.set j x))))
  | _ => False
theorem ds_setI {st : Stmt} {i : Nat} (h : PS X st (tAsg (simE K Ta) (gSub (tVar i) (simE K Tb) rSetL))) : PS X st (simS K (dSetI i Ta Tb)) := h.imp fun D σ H ⟨O0, H0, δ, O, E, rs, t, p⟩ => by
  refine ⟨O0, H0, δ, O, _, rs, t, fun d δ1 v O1 H1 n1 rs1 rv1 h1 => ?_⟩
  obtain ⟨x, δ2, O2, n2, r2, dx, z⟩ := atom_ok rs1 rv1 h1
  obtain ⟨xs0, h0, z⟩ := own_ok z
  obtain ⟨a, vs, hv, ha, n, g1, g2⟩ := r2.own_at h0
  refine ⟨_, hv, O0, H0, δ2, O2, _, r2, z, fun d2 δ3 u O3 H3 n3 rs3 rv3 h3 => ?_⟩
  obtain ⟨y, cy, h3⟩ := vw_ok rv3 h3
  match y, cy, h3 with
  | .int k, cy, h3 =>
    obtain ⟨xs, h4, j, e4, z⟩ := own_ok h3
    obtain ⟨a', vs', hv', ha', n', g1', g2'⟩ := rs3.own_at h4
    rw [hv] at hv'
    cases hv'
    obtain ⟨r5, e5⟩ := rs3.put h4 hv ha' n' (g2'.set j (dx.to n3.hd))
    exact ⟨a, vs', k, j, rfl, cy.int, g1', by rw [g2'.len]; exact e4, p.nx _ _ _ _ (((n1.trans n2).trans n3).hd.trans e5) r5 z⟩
/-- xs[i] op= e, of ints -/
def dAugI (i : Nat) (g : Int → Int → Int) (Tb Ta : DTE) : DTS := fun E δ => own δ i fun _ => Tb δ fun d δ1 => vw d fun y => match y with
  | .int k => (0 ≤ k ∧ k < 1000000) ∧ own δ1 i fun xs => match xs[k.toNat]? with
    | some (.int n) => Ta δ1 fun d2 δ2 => vw d2 fun z => match z with
      | .int m => own δ2 i fun ys => ∃ j, ixN ys.length k = some j ∧ E.nx (δ2.set i (some (.ow (ys.set j (.int (g n m))))))
      | _ => False
    | _ => False
  | _ => False
theorem ds_augI {st : Stmt} {i : Nat} {g : Int → Int → Int} (h : PS X st (tAugS (tVar i) (simE K Tb) (simE K Ta) (rGetL X.K) (ipI g) rSetL)) : PS X st (simS K (dAugI i g Tb Ta)) := h.imp fun D σ H ⟨O0, H0, δ, O, E, rs, t, p⟩ => by
  obtain ⟨xs0, h0, t⟩ := own_ok t
  obtain ⟨a, vs, hv, ha, n, g1, g2⟩ := rs.own_at h0
  refine ⟨_, hv, O0, H0, δ, O, _, rs, t, fun d δ1 v O1 H1 n1 rs1 rv1 h1 => ?_⟩
  obtain ⟨y, cy, h1⟩ := vw_ok rv1 h1
  match y, cy, h1 with
  | .int k, cy, h1 =>
    obtain ⟨⟨k0, k1'⟩, h1⟩ := h1
    obtain ⟨xs, h2, h1⟩ := own_ok h1
    obtain ⟨a', vs', hv', ha', n', g1', g2'⟩ := rs1.own_at h2
    rw [hv] at hv'
    cases hv'
    cases q : xs[k.toNat]? with
    | none => rw [q] at h1; exact h1.elim
    | some w =>
      rw [q] at h1
      match w, q, h1 with
      | .int m, q, h1 =>
        obtain ⟨u, e1, du⟩ := g2'.get' q
        cases du
        refine ⟨a, vs', k, .int m, rfl, cy.int, SqL.of g1', k0, k1', e1, O0, H0, δ1, O1, _, rs1, h1, fun d2 δ2 u2 O2 H2 n2 rs2 rv2 h2' => ?_⟩
        obtain ⟨z, cz, h3⟩ := vw_ok rv2 h2'
        match z, cz, h3 with
        | .int m2, cz, h3 =>
          obtain ⟨ys, h4, j, e4, z⟩ := own_ok h3
          obtain ⟨a2, vs2, hv2, ha2, nn2, k1, k2⟩ := rs2.own_at h4
          rw [hv] at hv2
          cases hv2
          obtain ⟨r5, e5⟩ := rs2.put h4 hv ha2 nn2 (k2.set j (.int (g m m2)))
          exact ⟨m, m2, rfl, cz.int, a, vs2, k, j, rfl, cy.int, k1, by rw [k2.len]; exact e4, p.nx _ _ _ _ ((n1.trans n2).hd.trans e5) r5 z⟩
/-! comprehensions -/
def wipeD (δ : DSt) : List Nat → DSt
  | [] => δ
  | i :: is => (wipeD δ is).set i none
theorem wipe_rs (r : RS K O0 H0 δ σ O H) : ∀ is, RS K O0 H0 (wipeD δ is) (wipe σ is) O H := by
  intro is
  induction is with
  | nil => exact r
  | cons i is ih =>
    have r := ih
    refine ⟨r.old, r.lst, r.ex, r.sub, by unfold wipeD wipe; rw [List.length_set, List.length_set]; exact r.len, fun j => ?_, fun j k us zs v e ej ek vj vk => ?_⟩
    · unfold wipeD wipe
      rw [List.getElem?_set, List.getElem?_set]
      by_cases z : i = j
      · rw [if_pos z]
        split
        · exact trivial
        · exact trivial
      · rw [if_neg z, if_neg z]; exact r.at_ j
    · unfold wipeD at ej ek
      unfold wipe at vj vk
      rcases get_set ej with ⟨_, q⟩ | ⟨nj, q1⟩
      · cases q
      · rcases get_set ek with ⟨_, q⟩ | ⟨nk, q2⟩
        · cases q
        · rw [List.getElem?_set, if_neg (Ne.symm nj)] at vj
          rw [List.getElem?_set, if_neg (Ne.symm nk)] at vk
          exact r.two j k us zs v e q1 q2 vj vk
theorem wipeD_no : ∀ {is : List Nat} {j : Nat} {s : Sl}, (wipeD δ is)[j]? = some (some s) → j ∉ is
  | [], _, _, _ => by simp
  | i :: is, j, s, h => by
    unfold wipeD at h
    rcases get_set h with ⟨_, q⟩ | ⟨n, q⟩
    · cases q
    · simp [n, wipeD_no q]
theorem wipe_no : ∀ {is : List Nat} {j : Nat}, j ∉ is → (wipe σ is)[j]? = σ[j]?
  | [], _, _ => rfl
  | i :: is, j, h => by
    unfold wipe
    rw [List.getElem?_set, if_neg fun e => h (by simp [e])]
    exact wipe_no fun q => h (by simp [q])
theorem unwipe {is : List Nat} (r : RS K O0 H0 (wipeD δ is) (wipe σ is) O H) : RS K O0 H0 (wipeD δ is) σ O H := by
  refine ⟨r.old, r.lst, r.ex, r.sub, by rw [r.len, wipe_length], fun j => ?_, fun j k us zs v e ej ek vj vk => ?_⟩
  · have w := r.at_ j
    rcases q : (wipeD δ is)[j]? with _ | s
    · exact trivial
    · cases s with
      | none => exact trivial
      | some s => rw [q, wipe_no (wipeD_no q)] at w; exact w
  · exact r.two j k us zs v e ej ek (by rw [wipe_no (wipeD_no ej)]; exact vj) (by rw [wipe_no (wipeD_no ek)]; exact vk)
theorem nx_wipe : ∀ is, Nx O H O H δ (wipeD δ is)
  | [] => Nx.refl
  | i :: is => by
    refine (nx_wipe is).trans ⟨Ex.refl _, fun _ h => .inl h, by simp [wipeD], fun j s h => ?_⟩
    unfold wipeD
    rw [List.getElem?_set]
    by_cases z : i = j
    · rw [if_pos z]
      subst z
      rw [if_pos (List.getElem?_eq_some_iff.mp h).1]
      exact .inr (.inr rfl)
    · rw [if_neg z]; exact .inl h
theorem wipe_wipe (is : List Nat) : wipe (wipe σ is) is = wipe σ is := by
  refine List.ext_getElem? fun j => ?_
  by_cases h : j ∈ is
  · have key : ∀ (is : List Nat) (τ : L2.St), τ.length = σ.length → j ∈ is → (wipe τ is)[j]? = if j < σ.length then some none else none := by
      intro is
      induction is with
      | nil => intro τ _ z; cases z
      | cons i is ih =>
        intro τ hl z
        unfold wipe
        rw [List.getElem?_set, wipe_length]
        by_cases e : i = j
        · subst e
          rw [if_pos rfl, hl]
        · rw [if_neg e]
          rcases List.mem_cons.mp z with z | z
          · exact absurd z.symm e
          · exact ih τ hl z
    rw [key is _ (by rw [wipe_length]) h, key is σ rfl h]
  · rw [wipe_no h]
theorem wipeD_out : ∀ {is : List Nat} {j : Nat}, j ∉ is → (wipeD δ is)[j]? = δ[j]?
  | [], _, _ => rfl
  | i :: is, j, h => by
    unfold wipeD
    rw [List.getElem?_set, if_neg fun e => h (by simp [e])]
    exact wipeD_out fun q => h (by simp [q])
theorem wipeD_len : ∀ is : List Nat, (wipeD δ is).length = δ.length
  | [] => rfl
  | i :: is => by unfold wipeD; rw [List.length_set, wipeD_len is]
theorem wipeD_in : ∀ {is : List Nat} {j : Nat}, j ∈ is → j < δ.length → (wipeD δ is)[j]? = some none
  | i :: is, j, h, l => by
    unfold wipeD
    rw [List.getElem?_set, wipeD_len]
    by_cases e : i = j
    · rw [if_pos e, if_pos (by rw [e]; exact l)]
    · rw [if_neg e]
      rcases List.mem_cons.mp h with q | q
      · exact absurd q.symm e
      · exact wipeD_in q l
theorem wipeD_wipeD (is : List Nat) : wipeD (wipeD δ is) is = wipeD δ is := by
  refine List.ext_getElem? fun j => ?_
  by_cases h : j ∈ is
  · by_cases l : j < δ.length
    · rw [wipeD_in h (by rw [wipeD_len]; exact l), wipeD_in h l]
    · rw [List.getElem?_eq_none (by rw [wipeD_len, wipeD_len]; omega), List.getElem?_eq_none (by rw [wipeD_len]; omega)]
  · rw [wipeD_out h]
theorem Nx.wiped (a : Nx O H O' H' δ δ') (is : List Nat) : Nx O H O' H' (wipeD δ is) (wipeD δ' is) := by
  refine ⟨a.ex, a.new, by rw [wipeD_len, wipeD_len, a.len], fun i s h => ?_⟩
  by_cases z : i ∈ is
  · have l := (List.getElem?_eq_some_iff.mp h).1
    rw [wipeD_len, ← a.len] at l
    exact .inr (.inr (wipeD_in z l))
  · rw [wipeD_out z] at h ⊢
    exact a.slot i s h
/-- a list that is being made stands with what the def found -/
theorem RS.rebase (r : RS K O0 H0 δ σ O H) {D : Addr} {us : List V} (hD : D ∈ O) (n : H0 D = none) (a : Ap δ σ D) (h : H D = some (.lst us)) : RS K (D :: O0) (upd H0 D (.lst us)) δ σ O H := by
  refine ⟨fun b hb => ?_, r.lst, fun b o q => ?_, fun b hb => ?_, r.len, fun i => ?_, r.two⟩
  · by_cases z : b = D
    · subst z; exact ⟨us, upd_same⟩
    · rw [upd_ne z]
      rcases List.mem_cons.mp hb with q | q
      · exact absurd q z
      · exact r.old b q
  · by_cases z : b = D
    · subst z; rw [upd_same] at q; cases q; exact h
    · rw [upd_ne z] at q; exact r.ex b o q
  · rcases List.mem_cons.mp hb with rfl | q
    · exact hD
    · exact r.sub b q
  · have w := r.at_ i
    rcases q1 : δ[i]? with _ | s
    · exact trivial
    · rw [q1] at w
      rcases q2 : σ[i]? with _ | v
      · rw [q2] at w
        match s, w with
        | none, _ => exact trivial
      · rw [q2] at w
        match s, v, w, q1, q2 with
        | none, _, _, _, _ => exact trivial
        | some (.fz d), some v, w, _, _ => exact w
        | some (.x o), some v, w, _, _ => exact w
        | some (.ow ws), some v, w, q1, q2 =>
          obtain ⟨b, us', rfl, g1, g2, g3⟩ := w
          exact ⟨b, us', rfl, g1, by rw [upd_ne fun z => a i ws q1 (by rw [q2, z])]; exact g2, g3⟩
theorem RS.back (r : RS K (D :: O0) (upd H0 D (.lst us)) δ σ O H) (n : H0 D = none) (o : ∀ a ∈ O0, ∃ xs, H0 a = some (.lst xs)) : RS K O0 H0 δ σ O H ∧ D ∈ O ∧ H D = some (.lst us) := by
  have hn : ∀ b, upd H0 D (.lst us) b = none → H0 b = none := fun b q => by
    by_cases z : b = D
    · subst z; exact n
    · rw [upd_ne z] at q; exact q
  refine ⟨⟨o, r.lst, fun b ob q => r.ex b ob (by rw [upd_ne fun z => by subst z; rw [n] at q; cases q]; exact q), fun b hb => r.sub b (List.mem_cons_of_mem _ hb), r.len, fun i => ?_, r.two⟩, r.sub D List.mem_cons_self, r.ex D _ upd_same⟩
  have w := r.at_ i
  rcases q1 : δ[i]? with _ | s
  · exact trivial
  · rw [q1] at w
    rcases q2 : σ[i]? with _ | v
    · rw [q2] at w
      match s, w with
      | none, _ => exact trivial
    · rw [q2] at w
      match s, v, w with
      | none, _, _ => exact trivial
      | some (.fz d), some v, w => exact w
      | some (.x o), some v, w => exact w
      | some (.ow ws), some v, w =>
        obtain ⟨b, us', rfl, g1, g2, g3⟩ := w
        exact ⟨b, us', rfl, g1, hn b g2, g3⟩
/-- the turns of [e for t in .. if c] -/
def lcD (g : DTG) (tt : DTT) (te : DTE) (vs : List Nat) (R : Dv → DSt → Prop) : List PyData → List PyData → DSt → Prop
  | [], acc, δ => R (.ow acc) δ
  | d :: ds, acc, δ => g d δ fun δ1 => tt δ1 fun b δ2 => if b = true then te δ2 fun x δ3 => atomD x δ3 fun y δ4 => lcD g tt te vs R ds (acc ++ [y]) (wipeD δ4 vs) else lcD g tt te vs R ds acc (wipeD δ2 vs)
def dLc (ti : DTI) (g : DTG) (tt : DTT) (te : DTE) (vs : List Nat) : DTE := fun δ R => ti δ fun items δ1 => items.length < 100000 ∧ lcD g tt te vs R items [] (wipeD δ1 vs)
def dYes : DTT := fun δ R => R true δ
/-- a target that touches its own names alone -/
def OwnTg (g : TG) (vs : List Nat) : Prop := ∀ v σ H (Q : L2.St → Hp → Prop), g v σ H Q → g v σ H fun σ' H' => wipe σ' vs = wipe σ vs ∧ Q σ' H'
theorem RS.putFree (r : RS K O0 H0 δ σ O H) {D : Addr} {ws : List V} (hD : D ∈ O) (n : H0 D = none) (a : Ap δ σ D) : RS K O0 H0 δ σ O (upd H D (.lst ws)) := by
  have ee : hd (upd H D (.lst ws)) O = hd H O := hd_put hD
  refine ⟨r.old, fun b hb => ?_, r.ex.mut n, r.sub, r.len, fun i => ?_, r.two⟩
  · by_cases z : b = D
    · subst z; exact ⟨ws, upd_same⟩
    · rw [upd_ne z]; exact r.lst b hb
  · have w := r.at_ i
    rcases q1 : δ[i]? with _ | s
    · exact trivial
    · rw [q1] at w
      rcases q2 : σ[i]? with _ | v
      · rw [q2] at w
        match s, w with
        | none, _ => exact trivial
      · rw [q2] at w
        match s, v, w, q1, q2 with
        | none, _, _, _, _ => exact trivial
        | some (.fz d), some v, w, _, _ => show Dq K (hd _ _) v d; rw [ee]; exact w
        | some (.x o), some v, w, _, _ => show o.φ (hd _ _) v; rw [ee]; exact w
        | some (.ow us), some v, w, q1, q2 =>
          obtain ⟨b, vs', rfl, g1, g2, g3, g4⟩ := w
          have nb : b ≠ D := fun z' => a i us q1 (by rw [q2, z'])
          exact ⟨b, vs', rfl, g1, g2, by rw [upd_ne nb]; exact g3, by rw [ee]; exact g4⟩
theorem Nx.put (a : Nx O H O' H' δ δ') {D : Addr} {o : HO} (n : H D = none) : Nx O H O' (upd H' D o) δ δ' := ⟨a.ex.mut n, a.new, a.len, a.slot⟩
def MonoG (g : TG) : Prop := ∀ v σ H (Q Q' : L2.St → Hp → Prop), (∀ σ' H', Q σ' H' → Q' σ' H') → g v σ H Q → g v σ H Q'
theorem sim_lc {ti : DTI} {g : DTG} {tt : DTT} {te : DTE} {vs : List Nat} {g0 : TG} (hg : ∀ v σ H Q, simG K g v σ H Q → g0 v σ H Q) (hm : MonoG g0) (ho : OwnTg g0 vs) (hod : ∀ d δ k, g d δ k → g d δ fun δ' => wipeD δ' vs = wipeD δ vs ∧ k δ') :
    ∀ σ H Q, simE K (dLc ti g tt te vs) σ H Q → tLc (simI K ti) g0 (simT K tt) (simE K te) vs σ H Q := by
  rintro σ H Q ⟨O0, H0, δ, O, R, rs, t, p⟩
  refine ⟨O0, H0, δ, O, _, rs, t, fun items δ1 O1 H1 J n1 rs1 fd h1 => fun D nD => ?_⟩
  obtain ⟨lz, h1⟩ := h1
  have eD : Ex H1 (upd H1 D (.lst [])) := Ex.new nD
  have nDO : D ∉ O1 := fun z => by obtain ⟨xs, q⟩ := rs1.lst D z; rw [nD] at q; cases q
  have rsD : RS K O0 H0 δ1 σ (D :: O1) (upd H1 D (.lst [])) := rs1.own eD nD upd_same
  have h0D : H0 D = none := fresh_back rs1.ex nD
  have apart : ∀ {O' H' δ'}, Nx O1 H1 O' H' δ1 δ' → ∀ is, Ap δ' (wipe σ is) D := fun {O' H' δ'} n is j ys w1 w2 => by
    obtain ⟨a, us, g1, _, _, g2, _⟩ := rs1.own_at (n.own w1)
    by_cases hj : j ∈ is
    · have key : ∀ (is : List Nat), j ∈ is → (wipe σ is)[j]? ≠ some (some (.ref D)) := by
        intro is
        induction is with
        | nil => intro z; cases z
        | cons i is ih =>
          intro z q
          unfold wipe at q
          rcases get_set q with ⟨_, q⟩ | ⟨ne, q⟩
          · cases q
          · rcases List.mem_cons.mp z with z | z
            · exact ne z
            · exact ih z q
      exact key is hj w2
    · rw [wipe_no hj, g1] at w2
      cases w2
      rw [nD] at g2
      cases g2
  -- between the turns
  refine ⟨fun i m H' => m = items.length - i ∧ i ≤ items.length ∧ ∃ δ' O' us acc, RS K O0 H0 (wipeD δ' vs) (wipe σ vs) O' H' ∧ Nx O1 H1 O' H' δ1 (wipeD δ' vs) ∧ D ∈ O' ∧ H' D = some (.lst us) ∧ DqAll K (hd H' O') us acc ∧ acc.length ≤ i ∧
    lcD g tt te vs R (items.drop i) acc (wipeD δ' vs), ⟨items.length, by simp, Nat.zero_le _, δ1, D :: O1, [], [], wipe_rs rsD vs, (nx_own eD nD).trans (nx_wipe vs), List.mem_cons_self, upd_same, .nil, Nat.zero_le _, h1⟩, ?_⟩
  rintro i m H' ⟨rfl, hi, δ', O', us, acc, rs', nx', hDO, hD, dq, hl, f⟩
  obtain ⟨f1, f2⟩ := fd O' H' nx'.hd rs'.lst
  by_cases hlt : i < items.length
  · have ei : items[i]? = some items[i] := List.getElem?_eq_getElem hlt
    rw [List.drop_eq_getElem_cons hlt] at f
    obtain ⟨y1, y2⟩ := f1 i _ ei
    refine .inr ⟨y1, fun H' => i + 1 ≤ items.length ∧ ∃ δ' O' us acc, RS K O0 H0 (wipeD δ' vs) (wipe σ vs) O' H' ∧ Nx O1 H1 O' H' δ1 (wipeD δ' vs) ∧ D ∈ O' ∧ H' D = some (.lst us) ∧ DqAll K (hd H' O') us acc ∧ acc.length ≤ i + 1 ∧
      lcD g tt te vs R (items.drop (i + 1)) acc (wipeD δ' vs), fun H' q => ⟨_, by omega, rfl, q⟩, fun x H2 y => ?_⟩
    obtain ⟨e2, dx⟩ := y2 x H2 y
    have rb := (rs'.grow e2).rebase hDO h0D (apart nx' vs) (e2 _ _ hD)
    refine hm x (wipe σ vs) H2 _ _ ?_ (ho x (wipe σ vs) H2 _ (hg x (wipe σ vs) H2 (fun σ2 H3 => H3 = H2 ∧ ∃ δ2, RS K (D :: O0) (upd H0 D (.lst us)) δ2 σ2 O' H2 ∧ wipeD δ2 vs = wipeD δ' vs ∧ tt δ2 fun b δ2 => if b = true then te δ2 fun x δ3 => atomD x δ3 fun y δ4 => lcD g tt te vs R (items.drop (i + 1)) (acc ++ [y]) (wipeD δ4 vs) else lcD g tt te vs R (items.drop (i + 1)) acc (wipeD δ2 vs))
      ⟨D :: O0, _, wipeD δ' vs, O', _, _, rb, dx, hod _ _ _ f, fun δ2 σ2 rs2 h2 => ⟨rfl, δ2, rs2, by rw [h2.1, wipeD_wipeD], h2.2⟩⟩))
    rintro σ2 H3 ⟨ws, rfl, δ2, rs2, wd, h2⟩
    have nx2 : Nx O1 H1 O' H3 δ1 (wipeD δ' vs) := nx'.trans (nx_grow e2)
    rw [wipe_wipe] at ws
    refine ⟨ws, D :: O0, _, δ2, O', _, rs2, h2, fun b δ3 O3 H4 n3 rs3 h3 => ?_⟩
    have n3w : Nx O' H3 O3 H4 (wipeD δ' vs) (wipeD δ3 vs) := by rw [← wd]; exact n3.wiped vs
    cases b with
    | false =>
      obtain ⟨rs4, dO, dH⟩ := rs3.back h0D rs1.old
      refine ⟨hlt, δ3, O3, us, acc, by rw [← ws]; exact wipe_rs rs4 vs, nx2.trans n3w, dO, dH, (dq.to (nx_grow e2 (δ := δ)).hd).to n3.hd, by omega, h3⟩
    | true =>
      refine ⟨D :: O0, _, δ3, O3, _, rs3, h3, fun d4 δ4 v O4 H5 n4 rs4 rv4 h4 => ?_⟩
      obtain ⟨y, δ5, O5, n5, rs5, dy, h5⟩ := atom_ok rs4 rv4 h4
      obtain ⟨rs6, dO, dH⟩ := rs5.back h0D rs1.old
      have nx5 : Nx O1 H1 O5 H5 δ1 (wipeD δ5 vs) := ((nx2.trans n3w).trans (n4.wiped vs)).trans (n5.wiped vs)
      have dq5 := (((dq.to (nx_grow e2 (δ := δ)).hd).to n3.hd).to n4.hd).to n5.hd
      have dl := dq5.len
      have ee : hd (upd H5 D (.lst (us ++ [v]))) O5 = hd H5 O5 := hd_put dO
      refine ⟨us, dH, by rw [dl]; exact small (by omega), hlt, δ5, O5, us ++ [v], acc ++ [y], ?_, ?_, dO, upd_same, by rw [ee]; exact dq5.app (.one dy), by simp; omega, h5⟩
      · rw [← ws]
        exact (wipe_rs rs6 vs).putFree dO h0D (by rw [ws]; exact apart nx5 vs)
      · exact nx5.put nD
  · have ei : i = items.length := by omega
    subst ei
    rw [List.drop_length] at f
    refine .inl ⟨f2, ?_⟩
    exact p (.ow acc) (wipeD δ' vs) (.ref D) O' H' (n1.trans nx') (unwipe rs') ⟨D, us, rfl, hDO, h0D, fun j ys w1 w2 => by
      have := apart nx' [] j ys w1
      exact this w2, hD, dq⟩ f
/-! targets of comprehensions -/
theorem mono_name (i : Nat) : MonoG (gName i) := fun _ _ _ _ _ f h => f _ _ h
theorem own_name {i : Nat} {vs : List Nat} (h : i ∈ vs) : OwnTg (gName i) vs := fun v σ H Q z => ⟨by
  refine List.ext_getElem? fun j => ?_
  by_cases m : j ∈ vs
  · have key : ∀ (vs : List Nat) (σ τ : L2.St), τ.length = σ.length → j ∈ vs → (wipe τ vs)[j]? = (wipe σ vs)[j]? := by
      intro vs
      induction vs with
      | nil => intro _ _ _ z; cases z
      | cons k vs ih =>
        intro σ τ hl z
        unfold wipe
        rw [List.getElem?_set, List.getElem?_set, wipe_length, wipe_length, hl]
        by_cases e : k = j
        · rw [if_pos e, if_pos e]
        · rw [if_neg e, if_neg e]
          rcases List.mem_cons.mp z with z | z
          · exact absurd z.symm e
          · exact ih σ τ hl z
    exact key vs σ _ (by rw [List.length_set]) m
  · rw [wipe_no m, wipe_no m, List.getElem?_set, if_neg fun e => m (by rw [← e]; exact h)], z⟩
theorem ownD_name {i : Nat} {vs : List Nat} (h : i ∈ vs) (d : PyData) (δ : DSt) (k : DSt → Prop) (z : dgName i d δ k) : dgName i d δ fun δ' => wipeD δ' vs = wipeD δ vs ∧ k δ' := ⟨by
  refine List.ext_getElem? fun j => ?_
  by_cases m : j ∈ vs
  · by_cases l : j < δ.length
    · rw [wipeD_in m (by rw [List.length_set]; exact l), wipeD_in m l]
    · rw [List.getElem?_eq_none (by rw [wipeD_len, List.length_set]; omega), List.getElem?_eq_none (by rw [wipeD_len]; omega)]
  · rw [wipeD_out m, wipeD_out m, List.getElem?_set, if_neg fun e => m (by rw [← e]; exact h)], z⟩
/-- the same of several targets -/
def MonoGs (g : TGs) : Prop := ∀ v σ H (Q Q' : L2.St → Hp → Prop), (∀ σ' H', Q σ' H' → Q' σ' H') → g v σ H Q → g v σ H Q'
def OwnTgs (g : TGs) (vs : List Nat) : Prop := ∀ v σ H (Q : L2.St → Hp → Prop), g v σ H Q → g v σ H fun σ' H' => wipe σ' vs = wipe σ vs ∧ Q σ' H'
theorem mono_nil : MonoGs gNil := fun _ _ _ _ _ f h => ⟨h.1, f _ _ h.2⟩
theorem own_nil {vs : List Nat} : OwnTgs gNil vs := fun _ _ _ _ h => ⟨h.1, rfl, h.2⟩
theorem mono_cons {g : TG} {u : TGs} (a : MonoG g) (b : MonoGs u) : MonoGs (gCons g u) := fun _ _ _ _ _ f ⟨v, r, e, h⟩ => ⟨v, r, e, a _ _ _ _ _ (fun _ _ z => b _ _ _ _ _ f z) h⟩
theorem own_cons {g : TG} {u : TGs} {vs : List Nat} (m : MonoG g) (m' : MonoGs u) (a : OwnTg g vs) (b : OwnTgs u vs) : OwnTgs (gCons g u) vs := fun _ _ _ _ ⟨v, r, e, h⟩ => ⟨v, r, e, m _ _ _ _ _
  (fun _ _ ⟨w, z⟩ => m' _ _ _ _ _ (fun _ _ ⟨w', z⟩ => ⟨w'.trans w, z⟩) (b _ _ _ _ z)) (a _ _ _ _ h)⟩
theorem mono_tup {n : Nat} {u : TGs} (b : MonoGs u) : MonoG (gTup K n u) := fun _ _ _ _ _ f ⟨a, xs, e, s, l, h⟩ => ⟨a, xs, e, s, l, b _ _ _ _ _ f h⟩
theorem own_tup {n : Nat} {u : TGs} {vs : List Nat} (b : OwnTgs u vs) : OwnTg (gTup K n u) vs := fun _ _ _ _ ⟨a, xs, e, s, l, h⟩ => ⟨a, xs, e, s, l, b _ _ _ _ h⟩
abbrev OwnD (g : DTG) (vs : List Nat) : Prop := ∀ d δ k, g d δ k → g d δ fun δ' => wipeD δ' vs = wipeD δ vs ∧ k δ'
abbrev OwnDs (g : DTGs) (vs : List Nat) : Prop := ∀ d δ k, g d δ k → g d δ fun δ' => wipeD δ' vs = wipeD δ vs ∧ k δ'
abbrev MonoD (g : DTG) : Prop := ∀ d δ (k k' : DSt → Prop), (∀ δ', k δ' → k' δ') → g d δ k → g d δ k'
abbrev MonoDs (g : DTGs) : Prop := ∀ d δ (k k' : DSt → Prop), (∀ δ', k δ' → k' δ') → g d δ k → g d δ k'
theorem monoD_name (i : Nat) : MonoD (dgName i) := fun _ _ _ _ f h => f _ h
theorem monoD_nil : MonoDs dgNil := fun _ _ _ _ f h => ⟨h.1, f _ h.2⟩
theorem ownD_nil {vs : List Nat} : OwnDs dgNil vs := fun _ _ _ h => ⟨h.1, rfl, h.2⟩
theorem monoD_cons {g : DTG} {u : DTGs} (a : MonoD g) (b : MonoDs u) : MonoDs (dgCons g u) := fun d _ _ _ f h => match d, h with
  | _ :: _, h => a _ _ _ _ (fun _ z => b _ _ _ _ f z) h
theorem ownD_cons {g : DTG} {u : DTGs} {vs : List Nat} (m : MonoD g) (m' : MonoDs u) (a : OwnD g vs) (b : OwnDs u vs) : OwnDs (dgCons g u) vs := fun d _ _ h => match d, h with
  | _ :: _, h => m _ _ _ _ (fun _ ⟨w, z⟩ => m' _ _ _ _ (fun _ ⟨w', z⟩ => ⟨w'.trans w, z⟩) (b _ _ _ z)) (a _ _ _ h)
theorem ownD_tup {n : Nat} {u : DTGs} {vs : List Nat} (b : OwnDs u vs) : OwnD (dgTup n u) vs := fun d _ _ h => match d, h with
  | .tuple _, h => ⟨h.1, b _ _ _ h.2⟩
end
end Gx

set_option Elab.async false
set_option linter.all false
set_option maxRecDepth 100000
set_option maxHeartbeats 2000000
/-! The data layer: comprehensions as rules; the bag. -/
namespace Gx
open PySem PySem.Spec PyProof.Rows L2 Evl RZ
section
variable {X : Cx} {K : PySem.W.Frag} {O0 O O' O1 : List Addr} {H0 H H' H1 : Hp} {δ δ' δ1 : DSt} {σ σ' : L2.St}
variable {e tg : Expr} {st : Stmt} {pos p : Pos} {Ta Tb : DTE}
theorem sg_name {i : Nat} : ∀ v σ H Q, simG K (dgName i) v σ H Q → gName i v σ H Q := fun v σ H Q ⟨O0, H0, δ, O, d, R, rs, dq, t, p⟩ => p _ _ (rs.setd dq) t
theorem sgs_nil : ∀ v σ H Q, simGs K dgNil v σ H Q → gNil v σ H Q := fun vs σ H Q ⟨O0, H0, δ, O, ds, R, rs, dq, ⟨e, t⟩, p⟩ => by
  subst e
  cases dq
  exact ⟨rfl, p _ _ rs t⟩
theorem sgs_cons {T : DTG} {U : DTGs} {g : TG} {u : TGs} (m : MonoG g) (h1 : ∀ v σ H Q, simG K T v σ H Q → g v σ H Q) (h2 : ∀ v σ H Q, simGs K U v σ H Q → u v σ H Q) : ∀ v σ H Q, simGs K (dgCons T U) v σ H Q → gCons g u v σ H Q :=
  fun vs σ H Q ⟨O0, H0, δ, O, ds, R, rs, dq, t, p⟩ => by
    match ds, dq, t with
    | d :: r, .cons a b, t =>
      refine ⟨_, _, rfl, m _ _ _ _ _ (fun σ' H' z => h2 _ _ _ _ z) (h1 _ _ _ (fun σ' H' => simGs K U _ σ' H' Q) ⟨O0, H0, δ, O, d, _, rs, a, t, fun δ1 σ1 rs1 h1 => ⟨O0, H0, δ1, O, r, R, rs1, b, h1, p⟩⟩)⟩
theorem sg_tup {n : Nat} {U : DTGs} {u : TGs} (h : ∀ v σ H Q, simGs K U v σ H Q → u v σ H Q) : ∀ v σ H Q, simG K (dgTup n U) v σ H Q → gTup K n u v σ H Q := fun v σ H Q ⟨O0, H0, δ, O, d, R, rs, dq, t, p⟩ => by
  match d, dq, t with
  | .tuple xs, dq, t =>
    cases dq with
    | tup a b => exact ⟨_, _, rfl, ex_t (hd_ex _ _) a, by rw [b.len]; exact t.1, h _ _ _ _ ⟨O0, H0, δ, O, xs, R, rs, b, t.2, p⟩⟩
theorem dts_nil : PTs X [] (simT K dYes) := ⟨fun pins s σ H Q I ⟨O0, H0, δ, O, R, rs, t, p⟩ => pts_nil.run pins s σ H Q I (p true δ O H Nx.refl rs t)⟩
theorem dts_one {c : Expr} {t : DTT} (h : PT X c (simT K t)) : PTs X [c] (simT K t) := pts_one h
theorem de_lc {ti : DTI} {g : DTG} {tt : DTT} {te : DTE} {vs : List Nat} {g0 : TG} (h : PE X e (tLc (simI K ti) g0 (simT K tt) (simE K te) vs)) (hg : ∀ v σ H Q, simG K g v σ H Q → g0 v σ H Q) (hm : MonoG g0) (ho : OwnTg g0 vs) (hod : OwnD g vs) :
    PE X e (simE K (dLc ti g tt te vs)) := h.imp (sim_lc hg hm ho hod)
theorem ds_setLc {ti : DTI} {g : DTG} {tt : DTT} {te : DTE} {vs : List Nat} {g0 : TG} {i : Nat} (h : PS X st (tAsg (tLc (simI K ti) g0 (simT K tt) (simE K te) vs) (gName i))) (hg : ∀ v σ H Q, simG K g v σ H Q → g0 v σ H Q) (hm : MonoG g0) (ho : OwnTg g0 vs) (hod : OwnD g vs) :
    PS X st (simS K (dSet i (dLc ti g tt te vs))) := h.imp fun D σ H ⟨O0, H0, δ, O, E, rs, t, p⟩ => by
  refine sim_lc hg hm ho hod σ H _ ⟨O0, H0, δ, O, _, rs, t, fun d δ1 v O1 H1 n1 rs1 rv1 h1 => ?_⟩
  obtain ⟨δ2, O2, n2, δ3, r3, z⟩ := asg_ok rs1 rv1 h1
  exact p.nx δ3 _ O2 H1 (n1.trans n2).hd r3 z
end
theorem sp0_inv {T ds R} (h : sp0 T ds R) : ds = [] ∧ T R := by
  unfold sp0 at h
  split at h
  · exact ⟨rfl, h⟩
  · exact h.elim
theorem sp1_inv {T ds R} (h : sp1 T ds R) : ∃ a, ds = [a] ∧ T a R := by
  unfold sp1 at h
  split at h
  · exact ⟨_, rfl, h⟩
  · exact h.elim
theorem sp2_inv {T ds R} (h : sp2 T ds R) : ∃ a b, ds = [a, b] ∧ T a b R := by
  unfold sp2 at h
  split at h
  · exact ⟨_, _, rfl, h⟩
  · exact h.elim
theorem sp3_inv {T ds R} (h : sp3 T ds R) : ∃ a b c, ds = [a, b, c] ∧ T a b c R := by
  unfold sp3 at h
  split at h
  · exact ⟨_, _, _, rfl, h⟩
  · exact h.elim
theorem sp4_inv {T ds R} (h : sp4 T ds R) : ∃ a b c d, ds = [a, b, c, d] ∧ T a b c d R := by
  unfold sp4 at h
  split at h
  · exact ⟨_, _, _, _, rfl, h⟩
  · exact h.elim
/-! the bag as an object -/
def bagO : Ob := ⟨fun H v => ∃ b, v = .ref b ∧ Bag H b, fun e ⟨b, h1, h2⟩ => ⟨b, h1, h2.to e⟩⟩
def TTake : DSp := sp2 fun b m R => b = .x bagO ∧ ∃ n : Int, m = .d (.int n) ∧ 0 < n ∧ n < 1073741824 ∧ ∀ x : Int, 0 ≤ x → x < n → R (.d (.int x))
section
variable {P : Program} {w : World} {K : PySem.W.Frag} {mg : Str → Option Value} {base : Heap} {k : Nat} {f : Addr} {fd : FuncData}
theorem take_D (F : FnOk P w K mg base CX0 k f fd ["_law_bag_here", "_law_many"] spTake) : FnOk P w K mg base CX0 k f fd ["_law_bag_here", "_law_many"] (spD K 2 TTake) :=
  F.imp fun vs H Q E ⟨_, O, ds, R, lo, dv, t, kq⟩ => by
    obtain ⟨a, b, rfl, e1, n, e2, n0, n1, kr⟩ := sp2_inv t
    subst e1 e2
    obtain ⟨v, ws, e1, ⟨b, ev, g1⟩, u, ws', e2, g2, e3⟩ := dv
    subst e1; subst e2; subst ev
    obtain rfl : ws' = [] := e3
    have g2 : Dq K (hd H O) u (.int n) := g2
    cases g2
    exact ⟨b, n, rfl, g1.to (hd_ex _ _), n0, n1, fun x x0 x1 => kq (.d (.int x)) _ H (Ex.refl _) (.int x) (kr x x0 x1)⟩
end
/-- a def of the top and what it promises of data, in calls beneath no repr -/
structure FD (P : Program) (w : World) (K : PySem.W.Frag) (mg : Str → Option Value) (base : Heap) (k : Nat) (x : Str) (st : Stmt) (ps : List Str) (T : DSp) : Prop where
  ex : ∃ f fd, Def K mg x st f fd ps ∧ FnQ P w K mg base CX0 k f fd ps (spD K ps.length T)
  len : HasLen T ps.length
/-- a def as it stands -/
def DefE (K : PySem.W.Frag) (mg : Str → Option Value) (x : Str) (st : Stmt) (ps : List Str) : Prop := ∃ f fd, Def K mg x st f fd ps
section
variable {P : Program} {w : World} {K : PySem.W.Frag} {mg : Str → Option Value} {base : Heap} {k : Nat} {f : Addr} {fd : FuncData} {x : Str} {st : Stmt} {ps : List Str} {T T' : DSp}
theorem FD.of (D : Def K mg x st f fd ps) (G : FnQ P w K mg base CX0 k f fd ps (spD K ps.length T)) (l : HasLen T ps.length) : FD P w K mg base k x st ps T := ⟨⟨f, fd, D, G⟩, l⟩
theorem FD.ofOk (D : Def K mg x st f fd ps) (G : FnOk P w K mg base CX0 k f fd ps (spD K ps.length T)) (l : HasLen T ps.length) : FD P w K mg base k x st ps T := ⟨⟨f, fd, D, .of G⟩, l⟩
theorem FD.mono {j : Nat} (F : FD P w K mg base j x st ps T) (h : j ≤ k) : FD P w K mg base k x st ps T := let ⟨f, fd, D, G⟩ := F.ex; ⟨⟨f, fd, D, G.mono h⟩, F.len⟩
theorem FnQ.imp {sp sp' : Sp} (G : FnQ P w K mg base CX0 k f fd ps sp) (h : ∀ vs H Q E, sp' vs H Q E → sp vs H Q E) : FnQ P w K mg base CX0 k f fd ps sp' :=
  ⟨fun vs H Q E z => G.argc vs H Q E (h _ _ _ _ z), fun A o s H ar us vs Q E r q e b v z => G.goes A o s H ar us vs Q E r q e b v (h _ _ _ _ z)⟩
theorem FD.imp (F : FD P w K mg base k x st ps T) (h : ∀ ds R, T' ds R → T ds R) : FD P w K mg base k x st ps T' :=
  let ⟨f, fd, D, G⟩ := F.ex
  ⟨⟨f, fd, D, FnQ.imp G fun vs H Q E ⟨l, O, ds, R, lo, dv, t, kq⟩ => ⟨l, O, ds, R, lo, dv, h _ _ t, kq⟩⟩, fun ds R z => F.len ds R (h ds R z)⟩
/-- a def's promise by its body's reading -/
theorem okFD {N : List Str} (l : HasLen T ps.length) (D : DefE K mg x st ps) (S : FnScope N ps (defScope st))
    (walk : ∀ (f : Addr) (cdv : Value) (A : Around) (outer : List Env) (s : Shared) (H : Hp) (E : XK), Room k (A.deeper (envOfC x (defScope st) s.heap.objs.size f cdv)) → Quiet (A.deeper (envOfC x (defScope st) s.heap.objs.size f cdv)) →
      ∃ TB : DTS, PSs (cxOf CX0 P w K mg base N x (defScope st) f cdv A outer s H E).nox (defBody st) (simS K TB) ∧ ∀ ds R, T ds R → TB (dEnd R) (dstart N.length ds)) :
    FD P w K mg base (k + 1) x st ps T := by
  obtain ⟨f, fd, D⟩ := D
  refine ⟨⟨f, fd, D, okDQ D.fn S fun cdv A outer s H E hr qu => ?_⟩, l⟩
  obtain ⟨TB, h1, h2⟩ := walk f cdv A outer s H E hr qu
  exact ⟨TB, h1, fun ds R _ z => h2 ds R z⟩
/-- a promise that nothing meets -/
theorem FD.never (D : DefE K mg x st ps) {N : List Str} (S : FnScope N ps (defScope st)) (no : ∀ ds R, ¬ T ds R) : FD P w K mg base (k + 1) x st ps T :=
  okFD (fun ds R z => (no ds R z).elim) D S fun f cdv A outer s H E hr qu => ⟨_, dss_never, fun ds R z => (no ds R z).elim⟩
end
section
variable {X : Cx} {K : PySem.W.Frag} {k : Nat} {x : Str} {st : Stmt} {ps : List Str} {T : DSp} {Tr : DTA} {e : Expr} {es : List Expr} {p pos : Pos}
theorem de_f {mg : Str → Option Value} {P : Program} {w : World} {base : Heap} (F : FD P w K mg base k x st ps T) (hP : X.prog = P) (hw : X.w = w) (hK : X.K = K) (hM : X.mg = mg) (hB : X.base = base) (qu : Quiet X.A) (hr : Room k X.A) (hg : Gl X x) (hp : Passes CX0 X E0)
    (ha : PA X (e :: es) (simA K Tr)) (hdb : (x == ("__debug__" : Str)) = false := by decide) (he : starEach (e :: es) X.env = (false, eval e X.env) :: starEach es X.env := by rfl) (hpl : (backTo pos (starEach es X.env)).any (·.1) = false := by rfl) :
    PE X (.Call (.Name x p) (e :: es) [] pos) (simE K (dCall T Tr)) := by
  subst hP hw hK hM hB
  obtain ⟨f, fd, D, G⟩ := F.ex
  exact de_callQ F.len G qu hr hg D.mg D.fn.kp D.bd hp ha hdb he hpl
theorem de_fB {mg : Str → Option Value} {P : Program} {w : World} {base : Heap} (F : FD P w K mg base k x st ps T) (hP : X.prog = P) (hw : X.w = w) (hK : X.K = K) (hM : X.mg = mg) (hB : X.base = base) (qu : Quiet X.A) (hr : Room k X.A) (hg : Gl X x) (hp : Passes CX0 X E0)
    (ha : PA X (e :: es) (simA K Tr)) (hdb : (x == ("__debug__" : Str)) = false := by decide) (he : starEach (e :: es) X.env = (false, eval e X.env) :: starEach es X.env := by rfl) (hpl : (backTo pos (starEach es X.env)).any (·.1) = false := by rfl) :
    PE X (.Call (.Name x p) (e :: es) [] pos) (simE K (dCallB T Tr)) := by
  subst hP hw hK hM hB
  obtain ⟨f, fd, D, G⟩ := F.ex
  exact de_callBQ F.len G qu hr hg D.mg D.fn.kp D.bd hp ha hdb he hpl
end
/-! a call without arguments, beneath no repr -/
theorem pe_callQ0 {X : Cx} {CX : CXT} {k : Nat} {f : Addr} {fd : FuncData} {ps : List Str} {sp : Sp} {E : XK} {x : Str} {p pos : Pos} (G : FnQ X.prog X.w X.K X.mg X.base CX k f fd ps sp) (qu : Quiet X.A) (rm : Room k X.A)
    (hg : Gl X x) (hm : X.mg x = some (.ref f)) (hk : PySem.W.keepIn X.K (.ref f) = true) (bd : Binds X.K fd ps []) (pass : Passes CX X E) (hdb : (x == ("__debug__" : Str)) = false := by decide) :
    PE X (.Call (.Name x p) [] [] pos) (tCall sp [] E tNil) := by
  constructor
  intro pins s σ H Q I h
  refine wpAny_Call_Name_kw (ld_glob I hg hm ?_ hdb)
  refine PySem.W.callWith_K0 I.kIn hk (wpAny_call (codeAny_mono (G.goes X.A X.stack s H ⟨[], []⟩ [] [] Q E rm qu I.env0 ?_ .nil h) ?_))
  · have l := G.argc _ _ _ _ (show sp [] H Q E from h)
    have b := bd s [] I.kIn (by rw [← l]; rfl)
    exact b
  · intro r s' hq
    match r, hq with
    | .error z, hq => exact pass pins σ H s z s' I hq
    | .ok (.ret u), hq => exact I.after hq
section
variable {X : Cx} {K : PySem.W.Frag} {k : Nat} {x : Str} {st : Stmt} {ps : List Str} {T : DSp} {p pos : Pos}
def dCall0 (T : DSp) : DTE := fun δ R => T [] fun d => R d δ
theorem de_f0 {mg : Str → Option Value} {P : Program} {w : World} {base : Heap} (F : FD P w K mg base k x st [] T) (hP : X.prog = P) (hw : X.w = w) (hK : X.K = K) (hM : X.mg = mg) (hB : X.base = base) (qu : Quiet X.A) (hr : Room k X.A) (hg : Gl X x) (hp : Passes CX0 X E0)
    (hdb : (x == ("__debug__" : Str)) = false := by decide) : PE X (.Call (.Name x p) [] [] pos) (simE K (dCall0 T)) := by
  subst hP hw hK hM hB
  obtain ⟨f, fd, D, G⟩ := F.ex
  refine (pe_callQ0 G qu hr hg D.mg D.fn.kp D.bd hp hdb).imp fun σ H Q ⟨O0, H0, δ, O, R, rs, t, pp⟩ => ?_
  exact ⟨rfl, O, [], _, rs.lst, rfl, t, fun d v H' e rr q => pp.rr rs e rr q⟩
/-- from the heap's own reading to that of data: nothing is one's own as yet -/
theorem enter {N : Nat} {δ : DSt} {σ : L2.St} {H : Hp} {TB : DTS} {R : Dv → Prop} {Q : VK} (hl : δ.length = σ.length) (at_ : ∀ i : Nat, RSl K [] H H ((δ[i]?).getD none) ((σ[i]?).getD none)) (no : ∀ (i : Nat) xs, δ[i]? ≠ some (some (.ow xs)))
    (t : TB (dEnd R) δ) (k : ∀ d v H', Ex H H' → RR K [] H v H' d → R d → Q v H') : simS K TB { nx := fun _ H' => Q .non H', rt := Q } σ H :=
  ⟨[], H, δ, [], _, ⟨(fun a h => by cases h), (fun a h => by cases h), Ex.refl _, fun a h => h, hl, at_, fun i j xs ys v ne e1 => (no i xs e1).elim⟩, t, post_end k⟩
end
end Gx

set_option Elab.async false
set_option linter.all false
set_option maxRecDepth 100000
set_option maxHeartbeats 2000000
/-! The data layer, further: small words. -/
namespace Gx
open PySem PySem.Spec PyProof.Rows L2 Evl
theorem hu60_of {k : Nat} {A : Around} (r : Room k A) : A.units + 60 < cLine := by have := r.un; omega
theorem hu100_of {k : Nat} {A : Around} (r : Room k A) : A.units + 100 < cLine := by have := r.un; omega
theorem hu200_of {k : Nat} {A : Around} (r : Room k A) : A.units + 200 < cLine := by have := r.un; omega
end Gx

set_option Elab.async false
set_option linter.all false
set_option maxRecDepth 100000
set_option maxHeartbeats 2000000
/-! The data layer, further: sorted, sorted(set), max and min of a list, sum, any, all. -/
namespace Gx
open PySem PySem.Spec PyProof.Rows L2 Evl
section
variable {K : PySem.W.Frag} {H : Hp}
theorem dqAll_pairs : ∀ {ds : List PyData} {vs : List V}, DqAll K H vs ds → ∃ ps : List (V × PyData), ps.map (·.1) = vs ∧ ps.map (·.2) = ds ∧ ∀ p ∈ ps, Dq K H p.1 p.2
  | [], _, h => by cases h; exact ⟨[], rfl, rfl, fun _ m => by cases m⟩
  | d :: ds, _, h => by
    cases h with
    | @cons v vs _ _ a b =>
      obtain ⟨ps, e1, e2, h⟩ := dqAll_pairs b
      refine ⟨(v, d) :: ps, by rw [List.map_cons, e1], by rw [List.map_cons, e2], fun p m => ?_⟩
      rcases List.mem_cons.mp m with rfl | m
      · exact a
      · exact h p m
theorem dqAll_of : ∀ {ps : List (V × PyData)}, (∀ p ∈ ps, Dq K H p.1 p.2) → DqAll K H (ps.map (·.1)) (ps.map (·.2))
  | [], _ => .nil
  | p :: ps, h => .cons (h p List.mem_cons_self) (dqAll_of fun q m => h q (List.mem_cons_of_mem _ m))
mutual
theorem keyable_free : ∀ d : PyData, keyable d = true → d.hasDict = false
  | .none, _ | .int _, _ | .str _, _ => rfl
  | .tuple ds, h => by simp only [PyData.hasDict]; exact keyables_free ds (by simpa only [keyable] using h)
  | .bool _, h | .list _, h | .dict _, h => by simp [keyable] at h
theorem keyables_free : ∀ ds : List PyData, keyables ds = true → PyData.hasDictAll ds = false
  | [], _ => rfl
  | d :: ds, h => by
    simp only [keyables, Bool.and_eq_true] at h
    simp only [PyData.hasDictAll, keyable_free d h.1, keyables_free ds h.2, Bool.or_self]
end
end
/-- data in their order as keys -/
def sortT (ds : List PyData) : List PyData := ds.mergeSort fun a b => !ltD b a
theorem sortT_pairs (ps : List (V × PyData)) : (ps.mergeSort leT).map (·.2) = sortT (ps.map (·.2)) := List.map_mergeSort (fun _ _ _ _ => rfl)
theorem sortT_perm (ds : List PyData) : (sortT ds).Perm ds := List.mergeSort_perm _ _
theorem up_sorted {ds : List PyData} (h : ds.Pairwise fun a b => ltD a b = true) : sortT ds = ds := by
  unfold sortT
  refine List.mergeSort_of_pairwise (h.imp fun {a b} u => ?_)
  rcases e : ltD b a with _ | _
  · rfl
  · have z := (listOrd itemOrd).trans _ _ _ u e
    rw [(listOrd itemOrd).irrefl] at z; cases z
section
variable {X : Cx} {K : PySem.W.Frag} {e : Expr} {es : List Expr} {Ta : DTE} {p p2 pos pos2 : Pos}
def fSorted : PyData → DSt → (Dv → DSt → Prop) → Prop := fun x δ R => ∃ ds, itemsD x = some ds ∧ (∃ l, x = .list l) ∧ Cmps ds ∧ R (.ow (sortT ds)) δ
theorem dc_sorted (hK : X.K = K) (hu : X.A.units + 60 < cLine) : ∃ r, CallR X (.builtin "sorted") r ∧ MeetsA K r (g1 fSorted) := by
  subst hK
  refine ⟨_, cr_sortedT hu, meets_1 ?_⟩
  rintro O0 H0 δ σ O H R Q x v rs cx ⟨ds, e, ⟨l, rfl⟩, c, z⟩ p
  cases e
  obtain ⟨p1, vs, rfl, g1, g2⟩ := cx.list
  obtain ⟨ps, e1, e2, h⟩ := dqAll_pairs g2
  refine ⟨p1, ps, rfl, by rw [e1]; exact g1, fun q m => ?_, by rw [e2]; exact c, fun l n => ?_⟩
  · exact ((h q m).to (hd_ex _ _)).free (keyable_free _ (c.key _ (by rw [← e2]; exact List.mem_map.mpr ⟨q, m, rfl⟩)))
  · refine p.lst rs (xs := sortT _) ?_ z n
    rw [← e2, ← sortT_pairs]
    exact dqAll_of fun q m => h q ((List.mergeSort_perm ps leT).mem_iff.mp m)
/-- sorted(set(e)), e a list of tuples -/
def dSSet (Ta : DTE) : DTE := fun δ R => Ta δ fun a δ1 => vw (tmp a) fun x => ∃ ds, x = .list ds ∧ Cmps ds ∧ ds.length < 64 ∧ ∀ rs, rs.Pairwise (fun a b => ltD a b = true) → (∀ d, d ∈ rs ↔ d ∈ ds) → R (.ow rs) δ1
theorem de_sset (hK : X.K = K) (calm : X.calm = true) (hu : X.A.units + 60 < cLine) (hgs : Gl X "sorted") (hms : X.mg "sorted" = none) (hg : Gl X "set") (hm : X.mg "set" = none) (ha : PE X e (simE K Ta))
    (he : starEach [e] X.env = (false, eval e X.env) :: starEach [] X.env := by rfl) (hpl : (backTo pos2 (starEach [] X.env)).any (·.1) = false := by rfl)
    (he2 : starEach [.Call (.Name "set" p2) [e] [] pos2] X.env = (false, eval (.Call (.Name "set" p2) [e] [] pos2) X.env) :: starEach [] X.env := by rfl) (hpl2 : (backTo pos (starEach [] X.env)).any (·.1) = false := by rfl) :
    PE X (.Call (.Name "sorted" p) [.Call (.Name "set" p2) [e] [] pos2] [] pos) (simE K (dSSet Ta)) := by
  subst hK
  refine (pe_callB (cr_sortedSet calm hu) hgs hms bt_sorted (pa_cons (pe_callTy (cr_setD calm hu) hg hm bt_set (pa_cons ha pa_nil he) (by decide) (by decide) he hpl) pa_nil he2) (by decide) (by decide) he2 hpl2).imp fun σ H Q ⟨O0, H0, δ, O, R, rs, t, pp⟩ => ?_
  refine ⟨O0, H0, δ, O, _, rs, t, fun d δ1 v O1 H1 n1 rs1 rv1 h1 => ?_⟩
  rw [vw_tmp] at h1
  obtain ⟨x, cx, ds, rfl, c, few, k⟩ := vw_ok rv1 h1
  obtain ⟨p1, vs, rfl, g1, g2⟩ := cx.list
  obtain ⟨ps, e1, e2, h⟩ := dqAll_pairs g2
  have pl : ps.length = ds.length := by rw [← e2, List.length_map]
  have at2 : ∀ q ∈ ps, q.2 ∈ ds := fun q m => by rw [← e2]; exact List.mem_map.mpr ⟨q, m, rfl⟩
  have dp : ∀ q ∈ ps, Dp X.K H1 q.1 q.2 := fun q m => ((h q m).to (hd_ex _ _)).free (keyable_free _ (c.key _ (at2 q m)))
  refine ⟨p1, ps, rfl, by rw [e1]; exact g1, dp, fun q m => c.tup _ (at2 q m), fun q m => c.key _ (at2 q m), fun q m => c.deep _ (at2 q m), by omega, fun a L na sub mem nd => ?_⟩
  have x2 : Ex H1 (upd H1 a (SetD X.prog X.w a L)) := Ex.new na
  have rs2 := rs1.grow x2
  have nx2 : Nx O1 H1 O1 (upd H1 a (SetD X.prog X.w a L)) δ1 δ1 := nx_grow x2
  refine ⟨a, L, rfl, upd_same, fun q m => (((h q (sub q m)).to nx2.hd).to (hd_ex _ _)).free (keyable_free _ (c.key _ (at2 q (sub q m)))), c.sub fun d m => ?_, fun b r nb pr up => ?_⟩
  · obtain ⟨q, mq, rfl⟩ := List.mem_map.mp m
    exact at2 q (sub q mq)
  · refine ((pp.step n1).step nx2).lst rs2 (xs := r.map (·.2)) ?_ (k _ up fun d => ?_) nb
    · exact dqAll_of fun q m => (h q (sub q (pr.mem_iff.mp m))).to nx2.hd
    · rw [(pr.map (·.2)).mem_iff, mem, e2]
/-- max(xs), min(xs) of a list of ints -/
def intsOf : List PyData → Option (List Int)
  | [] => some []
  | .int i :: ds => (intsOf ds).map (i :: ·)
  | _ :: _ => none
theorem intsOf_at {H : Hp} : ∀ {ds : List PyData} {ns : List Int} {vs : List V}, intsOf ds = some ns → DqAll K H vs ds → vs = ns.map V.int
  | [], ns, vs, e, h => by cases h; cases e; rfl
  | d :: ds, ns, vs, e, h => by
    cases h with
    | @cons v vs _ _ a b =>
      cases d with
      | int i =>
        simp only [intsOf, Option.map_eq_some_iff] at e
        obtain ⟨ms, e, rfl⟩ := e
        cases a
        rw [intsOf_at e b]; rfl
      | _ => simp [intsOf] at e
theorem intsOf_map : ∀ ns : List Int, intsOf (ns.map PyData.int) = some ns
  | [] => rfl
  | n :: ns => by rw [List.map_cons, intsOf, intsOf_map ns]; rfl
def fMaxL : PyData → DSt → (Dv → DSt → Prop) → Prop := fun x δ R => ∃ ds ns, x = .list ds ∧ intsOf ds = some ns ∧ ns ≠ [] ∧ ∀ m, m ∈ ns → (∀ y, y ∈ ns → y ≤ m) → R (.d (.int m)) δ
theorem dc_maxL (hK : X.K = K) (hc : X.calm = true) : ∃ r, CallR X (.builtin "max") r ∧ MeetsA K r (g1 fMaxL) := by
  subst hK
  refine ⟨_, cr_max hc, meets_1 ?_⟩
  rintro O0 H0 δ σ O H R Q x v rs cx ⟨ds, ns, rfl, e, ne, z⟩ p
  obtain ⟨p1, vs, rfl, g1, g2⟩ := cx.list
  exact ⟨p1, ns, rfl, by rw [← intsOf_at e g2]; exact g1, List.length_pos_iff.mpr ne, fun m mm tp => p.d rs (.int _) (z m mm tp)⟩
def fMinL : PyData → DSt → (Dv → DSt → Prop) → Prop := fun x δ R => ∃ ds ns, x = .list ds ∧ intsOf ds = some ns ∧ ns ≠ [] ∧ ∀ m, m ∈ ns → (∀ y, y ∈ ns → m ≤ y) → R (.d (.int m)) δ
/-- sum(xs) of a list of ints -/
def fSum : PyData → DSt → (Dv → DSt → Prop) → Prop := fun x δ R => ∃ ds ns, x = .list ds ∧ intsOf ds = some ns ∧ R (.d (.int ns.sum)) δ
/-- any(xs), all(xs) of a list of truths -/
def boolsOf : List PyData → Option (List Bool)
  | [] => some []
  | .bool i :: ds => (boolsOf ds).map (i :: ·)
  | _ :: _ => none
theorem boolsOf_at {H : Hp} : ∀ {ds : List PyData} {ns : List Bool} {vs : List V}, boolsOf ds = some ns → DqAll K H vs ds → vs = ns.map V.bl
  | [], ns, vs, e, h => by cases h; cases e; rfl
  | d :: ds, ns, vs, e, h => by
    cases h with
    | @cons v vs _ _ a b =>
      cases d with
      | bool i =>
        simp only [boolsOf, Option.map_eq_some_iff] at e
        obtain ⟨ms, e, rfl⟩ := e
        cases a
        rw [boolsOf_at e b]; rfl
      | _ => simp [boolsOf] at e
theorem boolsOf_map : ∀ ns : List Bool, boolsOf (ns.map PyData.bool) = some ns
  | [] => rfl
  | n :: ns => by rw [List.map_cons, boolsOf, boolsOf_map ns]; rfl
theorem dc_minL (hK : X.K = K) (hc : X.calm = true) : ∃ r, CallR X (.builtin "min") r ∧ MeetsA K r (g1 fMinL) := by
  subst hK
  refine ⟨_, cr_min hc, meets_1 ?_⟩
  rintro O0 H0 δ σ O H R Q x v rs cx ⟨ds, ns, rfl, e, ne, z⟩ p
  obtain ⟨p1, vs, rfl, g1, g2⟩ := cx.list
  exact ⟨p1, ns, rfl, by rw [← intsOf_at e g2]; exact g1, List.length_pos_iff.mpr ne, fun m mm tp => p.d rs (.int _) (z m mm tp)⟩
theorem dc_sum (hK : X.K = K) (hc : X.calm = true) : ∃ r, CallR X (.builtin "sum") r ∧ MeetsA K r (g1 fSum) := by
  subst hK
  refine ⟨_, cr_sum hc, meets_1 ?_⟩
  rintro O0 H0 δ σ O H R Q x v rs cx ⟨ds, ns, rfl, e, z⟩ p
  obtain ⟨p1, vs, rfl, g1, g2⟩ := cx.list
  exact ⟨p1, ns, rfl, by rw [← intsOf_at e g2]; exact g1, p.d rs (.int _) z⟩
def fAny : PyData → DSt → (Dv → DSt → Prop) → Prop := fun x δ R => ∃ ds ns, x = .list ds ∧ boolsOf ds = some ns ∧ R (.d (.bool (ns.any id))) δ
def fAll : PyData → DSt → (Dv → DSt → Prop) → Prop := fun x δ R => ∃ ds ns, x = .list ds ∧ boolsOf ds = some ns ∧ R (.d (.bool (ns.all id))) δ
theorem dc_any (hK : X.K = K) (hc : X.calm = true) : ∃ r, CallR X (.builtin "any") r ∧ MeetsA K r (g1 fAny) := by
  subst hK
  refine ⟨_, cr_any hc, meets_1 ?_⟩
  rintro O0 H0 δ σ O H R Q x v rs cx ⟨ds, ns, rfl, e, z⟩ p
  obtain ⟨p1, vs, rfl, g1, g2⟩ := cx.list
  exact ⟨p1, ns, rfl, by rw [← boolsOf_at e g2]; exact g1, p.d rs (.bl _) z⟩
theorem dc_all (hK : X.K = K) (hc : X.calm = true) : ∃ r, CallR X (.builtin "all") r ∧ MeetsA K r (g1 fAll) := by
  subst hK
  refine ⟨_, cr_all hc, meets_1 ?_⟩
  rintro O0 H0 δ σ O H R Q x v rs cx ⟨ds, ns, rfl, e, z⟩ p
  obtain ⟨p1, vs, rfl, g1, g2⟩ := cx.list
  exact ⟨p1, ns, rfl, by rw [← boolsOf_at e g2]; exact g1, p.d rs (.bl _) z⟩
/-- the texts of data that are texts -/
def strsOf : List PyData → Option (List Str)
  | [] => some []
  | .str i :: ds => (strsOf ds).map (i :: ·)
  | _ :: _ => none
theorem strsOf_at {H : Hp} : ∀ {ds : List PyData} {ns : List Str} {vs : List V}, strsOf ds = some ns → DqAll K H vs ds → vs = ns.map V.str
  | [], ns, vs, e, h => by cases h; cases e; rfl
  | d :: ds, ns, vs, e, h => by
    cases h with
    | @cons v vs _ _ a b =>
      cases d with
      | str i =>
        simp only [strsOf, Option.map_eq_some_iff] at e
        obtain ⟨ms, e, rfl⟩ := e
        cases a
        rw [strsOf_at e b]; rfl
      | _ => simp [strsOf] at e
theorem strsOf_map : ∀ ns : List Str, strsOf (ns.map PyData.str) = some ns
  | [] => rfl
  | n :: ns => by rw [List.map_cons, strsOf, strsOf_map ns]; rfl
theorem dqAll_strs {H : Hp} : ∀ ns : List Str, DqAll K H (ns.map V.str) (ns.map PyData.str)
  | [] => .nil
  | n :: ns => .cons (.str n) (dqAll_strs ns)
/-- sorted(set(e)), e a list of texts -/
def dSSetTx (Ta : DTE) : DTE := fun δ R => Ta δ fun a δ1 => vw (tmp a) fun x => ∃ ds ns, x = .list ds ∧ strsOf ds = some ns ∧ ns.length ≤ 4000 ∧ ∀ rs, Ords rs (· ∈ ns) → R (.ow (rs.map PyData.str)) δ1
theorem de_ssetTx (hK : X.K = K) (calm : X.calm = true) (hu : X.A.units + 60 < cLine) (hgs : Gl X "sorted") (hms : X.mg "sorted" = none) (hg : Gl X "set") (hm : X.mg "set" = none) (ha : PE X e (simE K Ta))
    (he : starEach [e] X.env = (false, eval e X.env) :: starEach [] X.env := by rfl) (hpl : (backTo pos2 (starEach [] X.env)).any (·.1) = false := by rfl)
    (he2 : starEach [.Call (.Name "set" p2) [e] [] pos2] X.env = (false, eval (.Call (.Name "set" p2) [e] [] pos2) X.env) :: starEach [] X.env := by rfl) (hpl2 : (backTo pos (starEach [] X.env)).any (·.1) = false := by rfl) :
    PE X (.Call (.Name "sorted" p) [.Call (.Name "set" p2) [e] [] pos2] [] pos) (simE K (dSSetTx Ta)) := by
  subst hK
  refine (pe_callB (cr_sortedTx calm hu) hgs hms bt_sorted (pa_cons (pe_callTy (cr_setTx calm) hg hm bt_set (pa_cons ha pa_nil he) (by decide) (by decide) he hpl) pa_nil he2) (by decide) (by decide) he2 hpl2).imp fun σ H Q ⟨O0, H0, δ, O, R, rs, t, pp⟩ => ?_
  refine ⟨O0, H0, δ, O, _, rs, t, fun d δ1 v O1 H1 n1 rs1 rv1 h1 => ?_⟩
  rw [vw_tmp] at h1
  obtain ⟨x, cx, ds, ns, rfl, es, few, k⟩ := vw_ok rv1 h1
  obtain ⟨p1, vs, rfl, g1, g2⟩ := cx.list
  refine ⟨p1, ns, rfl, by rw [← strsOf_at es g2]; exact g1, few, fun a l na me le => ?_⟩
  have x2 : Ex H1 (upd H1 a (SetTx X.prog X.w a l)) := Ex.new na
  refine ⟨a, l, rfl, upd_same, by omega, fun b r nb od ln => ?_⟩
  exact ((pp.step n1).step (nx_grow x2)).lst (rs1.grow x2) (xs := r.map PyData.str) (dqAll_strs r) (k r ⟨od.up, fun z => (od.mem z).trans (me z)⟩) nb
end
end Gx

set_option Elab.async false
set_option linter.all false
set_option maxRecDepth 100000
set_option maxHeartbeats 2000000
/-! The data layer, further: what comprehensions and loops come to. -/
namespace Gx
open PySem PySem.Spec PyProof.Rows L2 Evl
/-- a comprehension whose turns come back to one state -/
theorem lc_pure {g : DTG} {tt : DTT} {te : DTE} {vs : List Nat} {R : Dv → DSt → Prop} {δ0 : DSt} (f : PyData → Option PyData) : ∀ (items acc : List PyData),
    (∀ d ∈ items, ∀ (Y : PyData → DSt → Prop) (N : DSt → Prop), (∀ y, f d = some y → Y y δ0) → (f d = none → N δ0) → g d δ0 fun δ1 => tt δ1 fun b δ2 => if b = true then te δ2 fun x δ3 => atomD x δ3 fun y δ4 => Y y (wipeD δ4 vs) else N (wipeD δ2 vs)) →
    R (.ow (acc ++ items.filterMap f)) δ0 → lcD g tt te vs R items acc δ0
  | [], acc, _, z => by simpa [lcD] using z
  | d :: items, acc, h, z => by
    refine h d List.mem_cons_self (fun y δ => lcD g tt te vs R items (acc ++ [y]) δ) (fun δ => lcD g tt te vs R items acc δ) (fun y e => ?_) fun e => ?_
    · exact lc_pure f items (acc ++ [y]) (fun q m => h q (List.mem_cons_of_mem _ m)) (by rw [List.filterMap_cons, e] at z; simpa using z)
    · exact lc_pure f items acc (fun q m => h q (List.mem_cons_of_mem _ m)) (by rw [List.filterMap_cons, e] at z; exact z)
/-- .. that takes each item -/
theorem lc_map {g : DTG} {tt : DTT} {te : DTE} {vs : List Nat} {R : Dv → DSt → Prop} {δ0 : DSt} (f : PyData → PyData) (items : List PyData)
    (h : ∀ d ∈ items, ∀ (Y : PyData → DSt → Prop) (N : DSt → Prop), Y (f d) δ0 → g d δ0 fun δ1 => tt δ1 fun b δ2 => if b = true then te δ2 fun x δ3 => atomD x δ3 fun y δ4 => Y y (wipeD δ4 vs) else N (wipeD δ2 vs))
    (z : R (.ow (items.map f)) δ0) : lcD g tt te vs R items [] δ0 := by
  refine lc_pure (fun d => some (f d)) items [] (fun d m Y N hy _ => h d m Y N (hy _ rfl)) ?_
  rw [List.nil_append, show items.filterMap (fun d => some (f d)) = items.map f by simp [List.filterMap_eq_map]]; exact z
/-- a comprehension whose items have promises: what comes is any list of what each may come to -/
theorem lc_some {g : DTG} {tt : DTT} {te : DTE} {vs : List Nat} {R : Dv → DSt → Prop} {δ0 : DSt} (P : PyData → Option PyData → Prop) : ∀ (items acc : List PyData),
    (∀ d ∈ items, ∀ (Y : PyData → DSt → Prop) (N : DSt → Prop), (∀ y, P d (some y) → Y y δ0) → (P d none → N δ0) → g d δ0 fun δ1 => tt δ1 fun b δ2 => if b = true then te δ2 fun x δ3 => atomD x δ3 fun y δ4 => Y y (wipeD δ4 vs) else N (wipeD δ2 vs)) →
    (∀ os : List (Option PyData), PySem.W.EachIs P items os → R (.ow (acc ++ os.filterMap id)) δ0) → lcD g tt te vs R items acc δ0
  | [], acc, _, z => by have := z [] .nil; simpa [lcD] using this
  | d :: items, acc, h, z => by
    refine h d List.mem_cons_self (fun y δ => lcD g tt te vs R items (acc ++ [y]) δ) (fun δ => lcD g tt te vs R items acc δ) (fun y e => ?_) fun e => ?_
    · exact lc_some P items (acc ++ [y]) (fun q m => h q (List.mem_cons_of_mem _ m)) fun os ho => by have := z (some y :: os) (.cons e ho); simpa using this
    · exact lc_some P items acc (fun q m => h q (List.mem_cons_of_mem _ m)) fun os ho => by have := z (none :: os) (.cons e ho); simpa using this
/-- .. over items that are some things' data -/
theorem lc_on {α : Type} {g : DTG} {tt : DTT} {te : DTE} {vs : List Nat} {R : Dv → DSt → Prop} {δ0 : DSt} (i : α → PyData) (f : α → Option PyData) : ∀ (L : List α) (acc : List PyData),
    (∀ d ∈ L, ∀ (Y : PyData → DSt → Prop) (N : DSt → Prop), (∀ y, f d = some y → Y y δ0) → (f d = none → N δ0) → g (i d) δ0 fun δ1 => tt δ1 fun b δ2 => if b = true then te δ2 fun x δ3 => atomD x δ3 fun y δ4 => Y y (wipeD δ4 vs) else N (wipeD δ2 vs)) →
    R (.ow (acc ++ L.filterMap f)) δ0 → lcD g tt te vs R (L.map i) acc δ0
  | [], acc, _, z => by simpa [lcD] using z
  | d :: L, acc, h, z => by
    rw [List.map_cons]
    refine h d List.mem_cons_self (fun y δ => lcD g tt te vs R (L.map i) (acc ++ [y]) δ) (fun δ => lcD g tt te vs R (L.map i) acc δ) (fun y e => ?_) fun e => ?_
    · exact lc_on i f L (acc ++ [y]) (fun q m => h q (List.mem_cons_of_mem _ m)) (by rw [List.filterMap_cons, e] at z; simpa using z)
    · exact lc_on i f L acc (fun q m => h q (List.mem_cons_of_mem _ m)) (by rw [List.filterMap_cons, e] at z; exact z)
/-- a loop, by what stands behind the items that are done -/
theorem for_ind {g : DTG} {body : DTS} {E : DEnds} {items : List PyData} {δ : DSt} (I : List PyData → DSt → Prop) (h0 : I [] δ)
    (h : ∀ done d rest δ, items = done ++ d :: rest → I done δ → ∀ nx : DSt → Prop, (∀ δ', I (done ++ [d]) δ' → nx δ') → g d δ fun δ1 => body { nx := nx, rt := E.rt, bk := E.nx, ct := nx } δ1) (he : ∀ δ, I items δ → E.nx δ) : forD g body E items δ := by
  have go : ∀ rest done δ, items = done ++ rest → I done δ → forD g body E rest δ := by
    intro rest
    induction rest with
    | nil => intro done δ e i; rw [List.append_nil] at e; subst e; exact he δ i
    | cons d rest ih =>
      intro done δ e i
      exact h done d rest δ e i _ fun δ' i' => ih (done ++ [d]) δ' (by rw [e]; simp) i'
  exact go items [] δ rfl h0
theorem at0 {α : Type} {x : α} {xs : List α} : atI (x :: xs) 0 = some x := by
  unfold atI ixN
  rw [if_pos (by decide), if_pos (by simp)]; rfl
theorem at1 {α : Type} {x y : α} {xs : List α} : atI (x :: y :: xs) 1 = some y := by
  unfold atI ixN
  rw [if_pos (by decide), if_pos (by simp; omega)]; rfl
theorem at2 {α : Type} {x y z : α} {xs : List α} : atI (x :: y :: z :: xs) 2 = some z := by
  unfold atI ixN
  rw [if_pos (by decide), if_pos (by simp; omega)]; rfl
theorem at3 {α : Type} {x y z u : α} {xs : List α} : atI (x :: y :: z :: u :: xs) 3 = some u := by
  unfold atI ixN
  rw [if_pos (by decide), if_pos (by simp; omega)]; rfl
theorem at4 {α : Type} {x y z u v : α} {xs : List α} : atI (x :: y :: z :: u :: v :: xs) 4 = some v := by
  unfold atI ixN
  rw [if_pos (by decide), if_pos (by simp; omega)]; rfl
theorem atN {α : Type} {xs : List α} {i : Nat} {x : α} (h : xs[i]? = some x) : atI xs (i : Int) = some x := by
  have l := (List.getElem?_eq_some_iff.mp h).1
  unfold atI ixN
  rw [if_pos (Int.natCast_nonneg i), if_pos (by omega)]; exact h
theorem atLast {α : Type} {xs : List α} {x : α} : atI (xs ++ [x]) (-1) = some x := by
  unfold atI ixN
  rw [if_neg (by decide), if_pos (by simp; omega)]
  show (xs ++ [x])[(-1 + ((xs ++ [x]).length : Int)).toNat]? = some x
  rw [show (-1 + ((xs ++ [x]).length : Int)).toNat = xs.length by simp; omega]
  simp
theorem dseq {T U : DTS} {E : DEnds} {δ : DSt} (h : T { E with nx := U E } δ) : dSeq T U E δ := h
/-! what stands where data are known -/
section
variable {K : PySem.W.Frag} {δ : DSt} {k : Dv → DSt → Prop} {kp : PyData → Prop} {xs : List PyData} {x : PyData} {o : Ob}
theorem frz_d : frz (.d x) δ k = k (.d x) δ := rfl
theorem frz_ow : frz (.ow xs) δ k = k (.d (.list xs)) δ := rfl
theorem frz_x : frz (.x o) δ k = k (.x o) δ := rfl
theorem vw_d : vw (.d x) kp = kp x := rfl
theorem vw_ow : vw (.ow xs) kp = kp (.list xs) := rfl
theorem vw_bo {i : Nat} : vw (.bo i xs) kp = kp (.list xs) := rfl
theorem tmp_d : tmp (.d x) = .d x := rfl
theorem tmp_ow : tmp (.ow xs) = .d (.list xs) := rfl
theorem tmp_bo {i : Nat} : tmp (.bo i xs) = .bo i xs := rfl
theorem tmp_x : tmp (.x o) = .x o := rfl
theorem frz_bo {i : Nat} {ys : List PyData} (h : δ[i]? = some (some (.ow ys))) : frz (.bo i xs) δ k = k (.d (.list ys)) (δ.set i (some (.fz (.list ys)))) := by simp only [frz, h]
theorem frz_b {i : Nat} : frz (.bo i xs) δ k = (match δ[i]? with | some (some (.ow ys)) => k (.d (.list ys)) (δ.set i (some (.fz (.list ys)))) | some (some (.fz y)) => k (.d y) δ | _ => False) := rfl
theorem atom_b {i : Nat} {k : PyData → DSt → Prop} : atomD (.bo i xs) δ k = (match δ[i]? with | some (some (.ow ys)) => k (.list ys) (δ.set i (some (.fz (.list ys)))) | some (some (.fz y)) => k y δ | _ => False) := by
  unfold atomD; rw [frz_b]
theorem asg_b {i j : Nat} {k : DSt → Prop} : asgD j (.bo i xs) δ k = (match δ[i]? with | some (some (.ow ys)) => k ((δ.set i (some (.fz (.list ys)))).set j (some (.fz (.list ys)))) | some (some (.fz y)) => k (δ.set j (some (.fz y))) | _ => False) := by
  show (frz (.bo i xs) δ fun d' δ' => k (δ'.set j (asl d'))) = _
  rw [frz_b]; rfl
theorem ret_b {i : Nat} {k : Dv → Prop} : retD (.bo i xs) δ k = (match δ[i]? with | some (some (.ow ys)) => k (.ow ys) | some (some (.fz y)) => k (.d y) | _ => False) := rfl
theorem asg_d {i : Nat} {k : DSt → Prop} : asgD i (.d x) δ k = k (δ.set i (some (.fz x))) := rfl
theorem asg_ow {i : Nat} {k : DSt → Prop} : asgD i (.ow xs) δ k = k (δ.set i (some (.ow xs))) := rfl
theorem asg_x {i : Nat} {k : DSt → Prop} : asgD i (.x o) δ k = k (δ.set i (some (.x o))) := rfl
theorem ret_d {k : Dv → Prop} : retD (.d x) δ k = k (.d x) := rfl
theorem ret_ow {k : Dv → Prop} : retD (.ow xs) δ k = k (.ow xs) := rfl
theorem ret_x {k : Dv → Prop} : retD (.x o) δ k = k (.x o) := rfl
theorem atom_d {k : PyData → DSt → Prop} : atomD (.d x) δ k = k x δ := rfl
theorem atom_ow {k : PyData → DSt → Prop} : atomD (.ow xs) δ k = k (.list xs) δ := rfl
theorem items_l : itemsD (.list xs) = some xs := rfl
theorem items_t : itemsD (.tuple xs) = some xs := rfl
theorem var_fz {i : Nat} (h : δ[i]? = some (some (.fz x))) : dVar i δ k = k (.d x) δ := by simp only [dVar, h]
theorem var_ow {i : Nat} (h : δ[i]? = some (some (.ow xs))) : dVar i δ k = k (.bo i xs) δ := by simp only [dVar, h]
theorem var_x {i : Nat} (h : δ[i]? = some (some (.x o))) : dVar i δ k = k (.x o) δ := by simp only [dVar, h]
end
end Gx

set_option Elab.async false
set_option linter.all false
set_option maxRecDepth 100000
set_option maxHeartbeats 4000000
/-! addresses as data: they stand ascending; conditions from data -/
namespace Gx
open PySem PySem.Spec PyProof.Rows L2 Evl
def adD (q : List Nat) : PyData := .tuple (q.map fun (i : Nat) => PyData.int (i : Int))
theorem ad_keyable (q : List Nat) : keyable (adD q) = true := by
  simp only [adD, keyable]
  exact keyables_all fun d m => by obtain ⟨i, _, rfl⟩ := List.mem_map.mp m; rfl
theorem ad_key (q : List Nat) : toKey (adD q) = .tup (q.map fun (i : Nat) => NestedKey.num (i : Int)) := by
  simp only [adD, toKey]; rw [toKeys_map, List.map_map]; rfl
theorem ad_depth (q : List Nat) : (adD q).depth ≤ 1 := by
  have : ∀ q : List Nat, PyData.depthAll (q.map fun (i : Nat) => PyData.int (i : Int)) = 0 := fun q => by
    induction q with
    | nil => rfl
    | cons i q ih => simp only [List.map_cons, PyData.depthAll, PyData.depth, ih]; rfl
  simp only [adD, PyData.depth, this]; omega
theorem ads_cmps (qs : List (List Nat)) : Cmps (qs.map adD) := by
  refine ⟨fun d m => ?_, fun d m => ?_, fun d m e n => ?_, fun d m => ?_⟩
  · obtain ⟨q, _, rfl⟩ := List.mem_map.mp m; exact ⟨_, rfl⟩
  · obtain ⟨q, _, rfl⟩ := List.mem_map.mp m; exact ad_keyable q
  · obtain ⟨q, _, rfl⟩ := List.mem_map.mp m
    obtain ⟨r, _, rfl⟩ := List.mem_map.mp n
    rw [ad_key, ad_key]
    simp only [cmpK]
    exact cmpKs_of fun x mx y my _ => by
      obtain ⟨i, _, rfl⟩ := List.mem_map.mp mx
      obtain ⟨j, _, rfl⟩ := List.mem_map.mp my
      rfl
  · obtain ⟨q, _, rfl⟩ := List.mem_map.mp m; exact Nat.le_trans (ad_depth q) (by decide)
theorem ltA_nil (j : Nat) (b : List Nat) : ltD (adD []) (adD (j :: b)) = true := by
  unfold ltD; rw [ad_key, ad_key, lxt_tup, List.map_nil, List.map_cons, tks, tks, lxt_diff (by simp)]; decide +kernel
theorem ltA_same (i : Nat) (a b : List Nat) : ltD (adD (i :: a)) (adD (i :: b)) = ltD (adD a) (adD b) := by
  unfold ltD; rw [ad_key, ad_key, ad_key, ad_key, lxt_tup, lxt_tup, List.map_cons, List.map_cons, lxt_cons_same]
theorem ltA_lt {i j : Nat} (h : i < j) (a b : List Nat) : ltD (adD (i :: a)) (adD (j :: b)) = true := by
  unfold ltD; rw [ad_key, ad_key, lxt_tup, List.map_cons, List.map_cons, lxt_cons_ne (fun e => by injection e with e; omega), lxt_num]; exact decide_eq_true (by omega)
theorem below_up {f : Cnd → Bool → List Plc} : ∀ (L : List (Cnd × Bool)) (i : Nat), (∀ q ∈ L, ((f q.1 q.2).map fun z => adD z.1).Pairwise fun a b => ltD a b = true) → ((belowN f L i).map fun z => adD z.1).Pairwise fun a b => ltD a b = true
  | [], i, _ => by simp [belowN]
  | q :: L, i, h => by
    have ih := below_up L (i + 1) fun x m => h x (List.mem_cons_of_mem _ m)
    have hd := h q List.mem_cons_self
    rw [belowN, List.map_append, List.pairwise_append]
    refine ⟨?_, ih, ?_⟩
    · rw [List.map_map, List.pairwise_map]
      rw [List.pairwise_map] at hd
      exact hd.imp fun {a b} u => by show ltD (adD (i :: a.1)) (adD (i :: b.1)) = true; rw [ltA_same]; exact u
    · intro a ma b mb
      obtain ⟨z, mz, rfl⟩ := List.mem_map.mp ma
      obtain ⟨y, my, rfl⟩ := List.mem_map.mp mb
      obtain ⟨z', _, rfl⟩ := List.mem_map.mp mz
      have ge : ∀ (L : List (Cnd × Bool)) (k : Nat), ∀ y ∈ belowN f L k, ∃ j r, k ≤ j ∧ y.1 = j :: r := by
        intro L
        induction L with
        | nil => intro k y m; simp [belowN] at m
        | cons x L ih =>
          intro k y m
          rw [belowN] at m
          rcases List.mem_append.mp m with m | m
          · obtain ⟨z, _, rfl⟩ := List.mem_map.mp m; exact ⟨k, _, Nat.le_refl _, rfl⟩
          · obtain ⟨j, r, l, e⟩ := ih (k + 1) y m; exact ⟨j, r, by omega, e⟩
      obtain ⟨j, r, lj, e⟩ := ge L (i + 1) y my
      rw [e]
      exact ltA_lt (by omega) _ _
/-- the addresses in a condition stand ascending -/
theorem places_up : ∀ (n : Nat) (c : Cnd) (p : Bool), ((Cnd.placesN n c p).map fun z => adD z.1).Pairwise fun a b => ltD a b = true
  | 0, c, p => by simp [Cnd.placesN]
  | n + 1, c, p => by
    rw [Cnd.placesN, List.map_cons, List.pairwise_cons]
    refine ⟨fun a ma => ?_, below_up _ _ fun q _ => places_up n q.1 q.2⟩
    obtain ⟨z, mz, rfl⟩ := List.mem_map.mp ma
    obtain ⟨q, _, y, _, k, e⟩ := below_mem mz
    rw [e]
    exact ltA_nil _ _
/-! conditions from data -/
section
variable {K : PySem.W.Frag} {H : Hp}
theorem dp_pair {v : V} {kv : Int × Int} (h : Dp K H v (pairD kv)) : ∃ a, v = .ref a ∧ SqT K H a [.int kv.1, .int kv.2] := by
  unfold pairD at h
  cases h with
  | tup a b =>
    cases b with
    | cons b1 b2 => cases b1; cases b2 with | cons c1 c2 => cases c1; cases c2; exact ⟨_, rfl, a⟩
end
end Gx
namespace Gx
open PySem PySem.Spec PyProof.Rows L2 Evl
/-- a condition as an object -/
def cndO (K : PySem.W.Frag) (c : Cnd) : Ob := ⟨fun H v => CndAt K H v c, fun e h => h.to e⟩
section
variable {K : PySem.W.Frag}
theorem pairs_flat : ∀ ps : List (Int × Int), flatDs (ps.map pairD) = true
  | [] => rfl
  | p :: ps => by simp [flatDs, flatD, pairD, pairs_flat ps]
theorem stp_flat (s : Stp) : flatD s.data = true := by
  cases s <;> simp [Stp.data, flatD, flatDs, pairs_flat]
theorem stps_flat : ∀ ss : List Stp, flatDs (ss.map Stp.data) = true
  | [] => rfl
  | s :: ss => by simp [flatDs, stp_flat, stps_flat ss]
theorem leaf_flat (l : Leaf) : flatD l.data = true := by
  cases l <;> simp [Leaf.data, flatD, flatDs, stps_flat]
theorem pairL_flat : ∀ {as bs : List PyData}, flatDs as = true → flatDs bs = true → flatDs (pairL as bs) = true
  | [], _, _, _ => by simp [pairL, flatDs]
  | _ :: _, [], _, _ => by simp [pairL, flatDs]
  | a :: as, b :: bs, h, k => by
    simp only [flatDs, Bool.and_eq_true] at h k
    simp [pairL, flatDs, flatD, h.1, k.1, pairL_flat h.2 k.2]
mutual
theorem cnd_flat : ∀ c : Cnd, flatD c.data = true
  | .leaf l => by rw [Cnd.data]; exact leaf_flat l
  | .not c => by simp [Cnd.data, flatD, flatDs, cnd_flat c]
  | .node k cs => by simp [Cnd.data, flatD, flatDs, cnds_flat cs]
  | .case ws ts e => by simp [Cnd.data, flatD, flatDs, cnd_flat e, pairL_flat (cnds_flat ws) (cnds_flat ts)]
theorem cnds_flat : ∀ cs : List Cnd, flatDs (Cnd.dataL cs) = true
  | [] => rfl
  | c :: cs => by simp [Cnd.dataL, flatDs, cnd_flat c, cnds_flat cs]
end
/-- flat data stand apart from what is one's own -/
theorem dp_hd {H : Hp} {O : List Addr} (lo : ∀ a ∈ O, ∃ xs, H a = some (.lst xs)) {d : PyData} {v : V} (f : flatD d = true) (h : Dp K H v d) : Dq K (hd H O) v d :=
  flat_hd (O := []) lo d v f (by rw [hd_nil]; exact h.dq)
theorem dps_hd {H : Hp} {O : List Addr} (lo : ∀ a ∈ O, ∃ xs, H a = some (.lst xs)) {ds : List PyData} {vs : List V} (f : flatDs ds = true) (h : DpAll K H vs ds) : DqAll K (hd H O) vs ds :=
  flat_hdAll (O := []) lo ds vs f (by rw [hd_nil]; exact h.dq)
/-- the lists that are one's own stay lists -/
theorem lo_more {H H' : Hp} {O : List Addr} {l : Addr} {us : List V} (lo : ∀ a ∈ O, ∃ xs, H a = some (.lst xs)) (e : Ex H H') (hl : H' l = some (.lst us)) : ∀ a ∈ l :: O, ∃ xs, H' a = some (.lst xs) := fun a m => by
  rcases List.mem_cons.mp m with rfl | m
  · exact ⟨us, hl⟩
  · obtain ⟨xs, q⟩ := lo a m; exact ⟨xs, e _ _ q⟩
end
end Gx
namespace Gx
open PySem PySem.Spec PyProof.Rows L2 Evl
def kinds8 : List Str := ["all", "always", "any", "asks", "case", "empty", "first", "not", "number"]
theorem Cnd.kind8 {c : Cnd} {ns : List Str} (ok : c.ok ns) : c.kind ∈ kinds8 := by
  cases c with
  | leaf l => cases l <;> simp only [Cnd.kind, Leaf.kind] <;> decide +kernel
  | not c => simp only [Cnd.kind]; decide +kernel
  | case ws ts e => simp only [Cnd.kind]; decide +kernel
  | node k cs =>
    rw [Cnd.ok] at ok
    have : ∀ k ∈ kinds, k ∈ kinds8 := by decide +kernel
    exact this k ok.1
theorem Cnd.head (c : Cnd) : ∃ xs, c.data = .tuple (.str c.kind :: xs) := by
  cases c with
  | leaf l => cases l <;> exact ⟨_, rfl⟩
  | not c => exact ⟨_, rfl⟩
  | case ws ts e => exact ⟨_, rfl⟩
  | node k cs => exact ⟨_, rfl⟩
theorem kind_shaped {x : Str} (h : x ∈ kinds8) : SeqAt.shaped (.str x) = true := by
  have : ∀ x ∈ kinds8, SeqAt.shaped (.str x) = true := by decide +kernel
  exact this x h
theorem kinds_shaped {xs : List Str} (h : ∀ x ∈ xs, x ∈ kinds8) : (xs.map PyData.str).all SeqAt.shaped = true := by
  rw [List.all_map, List.all_eq_true]; exact fun x m => kind_shaped (h x m)
theorem inD_strs (x : Str) (xs : List Str) : inD (.str x) (xs.map PyData.str) = decide (x ∈ xs) := by
  unfold inD
  rw [Bool.eq_iff_iff, List.any_map, List.any_eq_true, decide_eq_true_iff]
  constructor
  · rintro ⟨y, hy, e⟩
    have e : PyData.eqv (.str y) (.str x) = true := e
    have : y = x := by simpa [PyData.eqv] using e
    rw [← this]; exact hy
  · intro h
    exact ⟨x, h, by show PyData.eqv (.str x) (.str x) = true; simp [PyData.eqv]⟩
end Gx
namespace Gx
open PySem PySem.Spec PyProof.Rows L2 Evl
theorem zip_mem1 {α β : Type} {a : α × β} : ∀ {xs : List α} {ys : List β}, a ∈ xs.zip ys → a.1 ∈ xs
  | _ :: _, _ :: _, h => by
    rw [List.zip_cons_cons] at h
    rcases List.mem_cons.mp h with rfl | h
    · exact List.mem_cons_self
    · exact List.mem_cons_of_mem _ (zip_mem1 h)
  | [], _, h => by simp at h
  | _ :: _, [], h => by simp at h
theorem places_ok {ns : List Str} : ∀ (n : Nat) (c : Cnd) (p : Bool), c.ok ns → ∀ z ∈ Cnd.placesN n c p, z.2.1.ok ns
  | 0, c, p, ok, z, m => by
    simp only [Cnd.placesN, List.mem_singleton] at m
    subst m; exact ok
  | n + 1, c, p, ok, z, m => by
    rw [Cnd.placesN] at m
    rcases List.mem_cons.mp m with rfl | m
    · exact ok
    · obtain ⟨q, mq, y, my, k, rfl⟩ := below_mem m
      exact places_ok n q.1 q.2 (Cnd.parts_ok ok _ (zip_mem1 mq)) y my
def placesD (n : Nat) (c : Cnd) (f : Plc → Bool) : List PyData := ((Cnd.placesN n c true).filter f).map fun z => adD z.1
theorem placesD_up (n : Nat) (c : Cnd) (f : Plc → Bool) : (placesD n c f).Pairwise fun a b => ltD a b = true := by
  have h := places_up n c true
  unfold placesD
  rw [List.pairwise_map] at h ⊢
  exact h.filter f
theorem placesD_cmps (n : Nat) (c : Cnd) (f : Plc → Bool) : Cmps (placesD n c f) := by
  have e : placesD n c f = (((Cnd.placesN n c true).filter f).map (·.1)).map adD := by rw [List.map_map]; rfl
  rw [e]; exact ads_cmps _
theorem placesD_sort (n : Nat) (c : Cnd) (f : Plc → Bool) : sortT (placesD n c f) = placesD n c f := up_sorted (placesD_up n c f)
theorem filterMap_all {α β : Type} (h : α → β) (L : List α) : L.filterMap (fun z => some (h z)) = L.map h := by simp [List.filterMap_eq_map]
theorem filterMap_if {α β : Type} (f : α → Bool) (h : α → β) : ∀ L : List α, L.filterMap (fun z => if f z = true then some (h z) else none) = (L.filter f).map h
  | [] => rfl
  | x :: L => by
    rw [List.filterMap_cons, List.filter_cons]
    rcases e : f x with _ | _
    · simp [filterMap_if f h L]
    · simp [filterMap_if f h L]
end Gx

set_option Elab.async false
set_option linter.all false
set_option maxRecDepth 100000
set_option maxHeartbeats 4000000
namespace K22
open PySem PySem.Spec PyProof.Rows L2 Evl Gx
abbrev s_l_due : Stmt := topS 35
theorem sc_l_due : FnScope ["_law_condition", "_law_spots_here", "_law_due_here", "_law_spot", "_law_part", "_law_bottoms", "_law_tests_here", "_law_test_here"] ["_law_condition"] (defScope s_l_due) := ⟨rfl, rfl, rfl, by decide +kernel, rfl, by decide +kernel, by decide +kernel⟩
def spotD (q : List Nat × Cnd) : PyData := .tuple [adD q.1, q.2.data]
def TLParts (K : PySem.W.Frag) : DSp := sp1 fun a R => ∃ c ns, a = .x (cndO K c) ∧ c.ok ns ∧ c.weight ≤ 16000000 ∧ R (.ow (c.parts.map Cnd.data))
def TSpots (K : PySem.W.Frag) (n : Nat) : DSp := sp2 fun a b R => ∃ (c : Cnd) (ns : List Str) (pre : List Nat), a = .x (cndO K c) ∧ b = .d (adD pre) ∧ c.ok ns ∧ c.depth < n ∧ c.weight ≤ 6000000 ∧ pre.length + n ≤ 2000000 ∧
  R (.ow (((Cnd.placesN n c true).map (spotG pre)).map spotD))
section
variable {P : Program} {w : World} {K : PySem.W.Frag} {mg : Str → Option Value} {base : Heap} {k : Nat} {f : Addr} {fd : FuncData} {ps : List Str}
theorem lparts_D (G : FnOk P w K mg base CX0 k f fd ps (spLParts K)) : FnOk P w K mg base CX0 k f fd ps (spD K 1 (TLParts K)) :=
  G.imp fun vs H Q E ⟨_, O, ds, R, lo, dv, t, kq⟩ => by
    obtain ⟨a, rfl, c, ns, e1, ok, wt, kr⟩ := sp1_inv t
    subst e1
    obtain ⟨v, ws, e1, hv, e2⟩ := dv
    subst e1
    obtain rfl : ws = [] := e2
    refine ⟨v, c, ns, rfl, CndAt.to hv (hd_ex _ _), ok, wt, fun l xs H' e nl hl hx => kq (.ow _) _ H' e ⟨l, xs, rfl, nl, hl, ?_⟩ kr⟩
    rw [← Cnd.dataL_map]
    exact dps_hd (lo_more lo e hl) (cnds_flat _) (cndsAt_dp _ _ hx)
theorem ad_dp {H : Hp} {ad : Addr} {q : List Nat} (h : SqT K H ad (q.map natP)) : Dp K H (.ref ad) (adD q) := .tup h (by
    have : ∀ q : List Nat, DpAll K H (q.map natP) (q.map fun (i : Nat) => PyData.int (i : Int)) := fun q => by
      induction q with
      | nil => exact .nil
      | cons i q ih => exact .cons (.int i) ih
    exact this q)
theorem ad_flat (q : List Nat) : flatD (adD q) = true := by
  have : ∀ q : List Nat, flatDs (q.map fun (i : Nat) => PyData.int (i : Int)) = true := fun q => by
    induction q with
    | nil => rfl
    | cons i q ih => simp [flatDs, flatD, ih]
  simp [adD, flatD, this]
theorem spot_dp {H : Hp} {v : V} {q : List Nat × Cnd} (h : SpAt K H v q) : Dp K H v (spotD q) := by
  obtain ⟨t, ad, x, rfl, h1, h2, h3⟩ := h
  exact .tup h1 (.cons (ad_dp h2) (.cons h3.dp .nil))
theorem spots_dp {H : Hp} {us : List V} {qs : List (List Nat × Cnd)} (p : Paired (SpAt K H) us qs) : DpAll K H us (qs.map spotD) := by
  induction p with
  | nil => exact .nil
  | cons h _ ih => exact .cons (spot_dp h) ih
theorem spots_flat (qs : List (List Nat × Cnd)) : flatDs (qs.map spotD) = true := by
  induction qs with
  | nil => rfl
  | cons q qs ih => simp [flatDs, flatD, spotD, ad_flat, cnd_flat, ih]
theorem ads_of {H : Hp} {v : V} {q : List Nat} (h : Dq K H v (adD q)) : ∃ ad, v = .ref ad ∧ SqT K H ad (q.map natP) := by
  unfold adD at h
  cases h with
  | @tup a xs ds h1 h2 =>
    refine ⟨a, rfl, ?_⟩
    have : ∀ (q : List Nat) (xs : List V), DqAll K H xs (q.map fun (i : Nat) => PyData.int (i : Int)) → xs = q.map natP := fun q => by
      induction q with
      | nil => intro xs h; cases h; rfl
      | cons i q ih => intro xs h; cases h with | cons a b => cases a; rw [ih _ b]; rfl
    rw [← this q xs h2]; exact h1
theorem spots_D {n : Nat} (G : FnOk P w K mg base CX0 k f fd ps (spSpots K n)) : FnOk P w K mg base CX0 k f fd ps (spD K 2 (TSpots K n)) :=
  G.imp fun vs H Q E ⟨_, O, ds, R, lo, dv, t, kq⟩ => by
    obtain ⟨a, b, rfl, c, ns, pre, e1, e2, ok, dp, wt, pl, kr⟩ := sp2_inv t
    subst e1 e2
    obtain ⟨v, ws, e1, hv, u, ws', e2, hu, e3⟩ := dv
    subst e1; subst e2
    obtain rfl : ws' = [] := e3
    obtain ⟨ad, rfl, ha⟩ := ads_of hu
    refine ⟨v, ad, c, ns, pre, rfl, CndAt.to hv (hd_ex _ _), ex_t (hd_ex _ _) ha, ok, dp, wt, pl, fun l us H' e nl hl hx => kq (.ow _) _ H' e ⟨l, us, rfl, nl, hl, ?_⟩ kr⟩
    exact dps_hd (lo_more lo e hl) (spots_flat _) (spots_dp hx)
end
def plD (z : Plc) : PyData := .tuple [adD z.1, z.2.1.data]
/-- rising data with these members -/
structure UpOf (ts S : List PyData) : Prop where
  up : ts.Pairwise fun a b => ltD a b = true
  mem : ∀ d, d ∈ ts ↔ d ∈ S
def dueD (n : Nat) (c : Cnd) (ts : List PyData) (cols : List Str) (m : Nat) : PyData :=
  .list [.list (c.parts.map Cnd.data), .list (placesD n c fun _ => true), .list (placesD n c (kindIn (["all", "any"] : List Str))), .list (placesD n c (kindIn (["always", "asks", "empty", "number"] : List Str))), .list ts, .list (cols.map PyData.str), .int (m : Int)]
def ColsOf (n : Nat) (c : Cnd) (r : List Str) : Prop := Ords r fun x => ∃ d, Cnd.leaf d ∈ testsN n c ∧ colOf d = some x
def MaxOf (n : Nat) (c : Cnd) (m : Nat) : Prop := (∃ z ∈ Cnd.placesN n c true, z.1.length = m) ∧ ∀ z ∈ Cnd.placesN n c true, z.1.length ≤ m
def TDue (K : PySem.W.Frag) (n : Nat) : DSp := sp1 fun a R => ∃ (c : Cnd) (ns : List Str), a = .x (cndO K c) ∧ c.ok ns ∧ c.depth < n ∧ c.weight ≤ 3000000 ∧ n ≤ 1000000 ∧
  ∀ ts cols m, UpOf ts ((testsN n c).map Cnd.data) → ColsOf n c cols → MaxOf n c m → match dueD n c ts cols m with
    | .list xs => R (.ow xs)
    | _ => False
theorem below_tests {f : Cnd → Bool → List Plc} {g : Cnd → List Cnd} {ks : List Str} : ∀ (L : List (Cnd × Bool)) (i : Nat), (∀ q ∈ L, ((f q.1 q.2).filter (kindIn ks)).map (fun z => z.2.1) = g q.1) → ((belowN f L i).filter (kindIn ks)).map (fun z => z.2.1) = (L.map (·.1)).flatMap g
  | [], i, _ => by simp [belowN]
  | q :: L, i, h => by
    have ih := below_tests L (i + 1) fun x m => h x (List.mem_cons_of_mem _ m)
    have hd := h q List.mem_cons_self
    rw [belowN, List.filter_append, List.map_append, ih, List.map_cons, List.flatMap_cons, ← hd, List.filter_map, List.map_map]
    rfl
/-- the tests stand at their places -/
theorem places_tests {ns : List Str} : ∀ (n : Nat) (c : Cnd) (p : Bool), c.ok ns → c.depth < n → ((Cnd.placesN n c p).filter (kindIn (["asks", "empty", "number"] : List Str))).map (fun z => z.2.1) = testsN n c
  | 0, c, p, ok, d => absurd d (Nat.not_lt_zero _)
  | n + 1, c, p, ok, d => by
    rw [Cnd.placesN, testsN, List.filter_cons]
    by_cases k : c.kind ∈ tests3
    · rw [if_pos k, if_pos (show kindIn (["asks", "empty", "number"] : List Str) ([], c, p) = true from decide_eq_true k)]
      have e : c.parts = [] := by
        cases c with
        | leaf l => rfl
        | not c => exact absurd k (by simp only [Cnd.kind]; decide +kernel)
        | case ws ts e => exact absurd k (by simp only [Cnd.kind]; decide +kernel)
        | node kd cs =>
          rw [Cnd.ok] at ok
          have : ∀ k ∈ kinds, k ∉ tests3 := by decide +kernel
          exact absurd k (this kd ok.1)
      rw [e]; rfl
    · rw [if_neg k, if_neg (show ¬ kindIn (["asks", "empty", "number"] : List Str) ([], c, p) = true from fun q => k (of_decide_eq_true q))]
      rw [below_tests (g := testsN n) _ _ fun q m => places_tests n q.1 q.2 (Cnd.parts_ok ok _ (zip_mem1 m)) (by have := Cnd.parts_depth (zip_mem1 m); omega), zip_fst ok]
def colC : Cnd → Str
  | .leaf l => (colOf l).getD ""
  | _ => ""
theorem col_at {l : Gx.Leaf} {x : Str} (h : colOf l = some x) : ∃ a xs, l.data = .tuple (a :: .str x :: xs) := by
  cases l <;> simp only [colOf, Option.some.injEq, reduceCtorEq] at h <;> subst h <;> exact ⟨_, _, rfl⟩
section
variable {P : Program} {w : World} {K : PySem.W.Frag} {mg : Str → Option Value} {base : Heap} {f_l_parts f_l_spots : Addr} {fd_l_parts fd_l_spots : FuncData}
theorem ok_ldue {n kl : Nat} {f : Addr} {fd : FuncData} (D : Def K mg "_law_due" s_l_due f fd ["_law_condition"]) (bi : Bi mg) (kl1 : 1 ≤ kl)
    (D_l_parts : Def K mg "_law_parts" s_l_parts f_l_parts fd_l_parts ["_law_condition"])
    (D_l_spots : Def K mg "_law_spots" s_l_spots f_l_spots fd_l_spots ["_law_condition", "_law_spot"])
    (G_l_parts : FnOk P w K mg base CX0 1 f_l_parts fd_l_parts ["_law_condition"] (spLParts K))
    (G_l_spots : FnOk P w K mg base CX0 kl f_l_spots fd_l_spots ["_law_condition", "_law_spot"] (spSpots K n)) :
    FnQ P w K mg base CX0 (kl + 1) f fd ["_law_condition"] (spD K 1 (TDue K n)) := by
  have F_l_parts : FD P w K mg base 1 "_law_parts" s_l_parts ["_law_condition"] (TLParts K) := .ofOk D_l_parts (lparts_D G_l_parts) sp1_len
  have F_l_spots : FD P w K mg base kl "_law_spots" s_l_spots ["_law_condition", "_law_spot"] (TSpots K n) := .ofOk D_l_spots (spots_D G_l_spots) sp2_len
  refine okDQ (T := TDue K n) (k := kl) D.fn sc_l_due fun cdv A outer s0 H E hr qu => ?_
  have hu64 := hr.units
  have hu100 := hu100_of hr
  have hu60 := hu60_of hr
  refine ⟨_, (ds_cons (ds_set (i := 1) sc_l_due.nd rfl (Or.inl rfl) (de_f F_l_spots rfl rfl rfl rfl rfl qu (hr.mono (by first | decide | omega)) rfl pass0 (da_cons (de_v (pv 0)) (da_cons (de_tup da_nil) da_nil))))
  (ds_cons (ds_set (i := 2) sc_l_due.nd rfl (Or.inl rfl) (de_lst (da_cons (de_f F_l_parts rfl rfl rfl rfl rfl qu (hr.mono (by first | decide | omega)) rfl pass0 (da_cons (de_v (pv 0)) da_nil)) (da_cons (de_callB (dc_sorted rfl hu60) (by rfl) bi.sorted bt_sorted (da_cons (de_lc (pe_lc (own := [("_law_spot", 3), ("_law_part", 4)]) (g := (gTup K 2 (gCons (gName 3) (gCons (gName 4) gNil)))) rfl sc_l_due.nd (di_seq rfl (de_v (pv 1))) (blkOk_by (N := ["_law_condition", "_law_spots_here", "_law_due_here", "_law_spot", "_law_part", "_law_bottoms", "_law_tests_here", "_law_test_here"]) (sc := defScope s_l_due) (by decide +kernel)) (fun _ _ _ _ _ => (pg_tup rfl (pgs_cons (pg_name (i := 3) sc_l_due.nd rfl (Or.inl rfl)) (pgs_cons (pg_name (i := 4) sc_l_due.nd rfl (Or.inl rfl)) pgs_nil)))) (fun _ _ _ _ _ => dts_nil) (fun _ _ _ _ _ => (de_v (pv 3)))) (sg_tup (sgs_cons (mono_name _) sg_name (sgs_cons (mono_name _) sg_name sgs_nil))) (mono_tup (mono_cons (mono_name _) (mono_cons (mono_name _) mono_nil))) (own_tup (own_cons (mono_name _) (mono_cons (mono_name _) mono_nil) (own_name (by decide)) (own_cons (mono_name _) mono_nil (own_name (by decide)) own_nil))) (ownD_tup (ownD_cons (monoD_name _) (monoD_cons (monoD_name _) monoD_nil) (ownD_name (by decide)) (ownD_cons (monoD_name _) monoD_nil (ownD_name (by decide)) ownD_nil)))) da_nil)) da_nil))))
  (ds_cons (ds_app (i := 2) (ps_expr (pe_bm PySem.F.plainAttrs_list PySem.F.slot_list_append PySem.F.type_list_append mt_append (pv 2) (pa_cons (de_callB (dc_sorted rfl hu60) (by rfl) bi.sorted bt_sorted (da_cons (de_lc (pe_lc (own := [("_law_spot", 3), ("_law_part", 4)]) (g := (gTup K 2 (gCons (gName 3) (gCons (gName 4) gNil)))) rfl sc_l_due.nd (di_seq rfl (de_v (pv 1))) (blkOk_by (N := ["_law_condition", "_law_spots_here", "_law_due_here", "_law_spot", "_law_part", "_law_bottoms", "_law_tests_here", "_law_test_here"]) (sc := defScope s_l_due) (by decide +kernel)) (fun _ _ _ _ _ => (pg_tup rfl (pgs_cons (pg_name (i := 3) sc_l_due.nd rfl (Or.inl rfl)) (pgs_cons (pg_name (i := 4) sc_l_due.nd rfl (Or.inl rfl)) pgs_nil)))) (fun _ _ _ _ _ => (dts_one (dt_cmp (do_in rfl hu100) (de_ix (di_ix rfl) (de_v (pv 4)) de_int (fun _ _ => rfl)) (de_tup (da_cons de_str (da_cons de_str da_nil))) (by rfl)))) (fun _ _ _ _ _ => (de_v (pv 3)))) (sg_tup (sgs_cons (mono_name _) sg_name (sgs_cons (mono_name _) sg_name sgs_nil))) (mono_tup (mono_cons (mono_name _) (mono_cons (mono_name _) mono_nil))) (own_tup (own_cons (mono_name _) (mono_cons (mono_name _) mono_nil) (own_name (by decide)) (own_cons (mono_name _) mono_nil (own_name (by decide)) own_nil))) (ownD_tup (ownD_cons (monoD_name _) (monoD_cons (monoD_name _) monoD_nil) (ownD_name (by decide)) (ownD_cons (monoD_name _) monoD_nil (ownD_name (by decide)) ownD_nil)))) da_nil)) pa_nil))))
  (ds_cons (ds_setLc (ps_setLc (i := 5) (own := [("_law_spot", 3), ("_law_part", 4)]) (g := (gTup K 2 (gCons (gName 3) (gCons (gName 4) gNil)))) rfl sc_l_due.nd rfl rfl (sw_true rfl rfl rfl (by decide +kernel)) (di_seq rfl (de_v (pv 1))) (blkOk_by (N := ["_law_condition", "_law_spots_here", "_law_due_here", "_law_spot", "_law_part", "_law_bottoms", "_law_tests_here", "_law_test_here"]) (sc := defScope s_l_due) (by decide +kernel)) (fun _ _ _ _ _ => (pg_tup rfl (pgs_cons (pg_name (i := 3) sc_l_due.nd rfl (Or.inl rfl)) (pgs_cons (pg_name (i := 4) sc_l_due.nd rfl (Or.inl rfl)) pgs_nil)))) (fun _ _ _ _ _ => (dts_one (dt_cmp (do_in rfl hu100) (de_ix (di_ix rfl) (de_v (pv 4)) de_int (fun _ _ => rfl)) (de_tup (da_cons de_str (da_cons de_str (da_cons de_str (da_cons de_str da_nil))))) (by rfl)))) (fun _ _ _ _ _ => (de_v (pv 3)))) (sg_tup (sgs_cons (mono_name _) sg_name (sgs_cons (mono_name _) sg_name sgs_nil))) (mono_tup (mono_cons (mono_name _) (mono_cons (mono_name _) mono_nil))) (own_tup (own_cons (mono_name _) (mono_cons (mono_name _) mono_nil) (own_name (by decide)) (own_cons (mono_name _) mono_nil (own_name (by decide)) own_nil))) (ownD_tup (ownD_cons (monoD_name _) (monoD_cons (monoD_name _) monoD_nil) (ownD_name (by decide)) (ownD_cons (monoD_name _) monoD_nil (ownD_name (by decide)) ownD_nil))))
  (ds_cons (ds_setLc (ps_setLc (i := 6) (own := [("_law_spot", 3), ("_law_part", 4)]) (g := (gTup K 2 (gCons (gName 3) (gCons (gName 4) gNil)))) rfl sc_l_due.nd rfl rfl (sw_true rfl rfl rfl (by decide +kernel)) (di_seq rfl (de_v (pv 1))) (blkOk_by (N := ["_law_condition", "_law_spots_here", "_law_due_here", "_law_spot", "_law_part", "_law_bottoms", "_law_tests_here", "_law_test_here"]) (sc := defScope s_l_due) (by decide +kernel)) (fun _ _ _ _ _ => (pg_tup rfl (pgs_cons (pg_name (i := 3) sc_l_due.nd rfl (Or.inl rfl)) (pgs_cons (pg_name (i := 4) sc_l_due.nd rfl (Or.inl rfl)) pgs_nil)))) (fun _ _ _ _ _ => (dts_one (dt_cmp (do_in rfl hu100) (de_ix (di_ix rfl) (de_v (pv 4)) de_int (fun _ _ => rfl)) (de_tup (da_cons de_str (da_cons de_str (da_cons de_str da_nil)))) (by rfl)))) (fun _ _ _ _ _ => (de_v (pv 4)))) (sg_tup (sgs_cons (mono_name _) sg_name (sgs_cons (mono_name _) sg_name sgs_nil))) (mono_tup (mono_cons (mono_name _) (mono_cons (mono_name _) mono_nil))) (own_tup (own_cons (mono_name _) (mono_cons (mono_name _) mono_nil) (own_name (by decide)) (own_cons (mono_name _) mono_nil (own_name (by decide)) own_nil))) (ownD_tup (ownD_cons (monoD_name _) (monoD_cons (monoD_name _) monoD_nil) (ownD_name (by decide)) (ownD_cons (monoD_name _) monoD_nil (ownD_name (by decide)) ownD_nil))))
  (ds_cons (ds_set (i := 2) sc_l_due.nd rfl (Or.inl rfl) (de_op (do_add rfl) (de_v (pv 2)) (de_lst (da_cons (de_callB (dc_sorted rfl hu60) (by rfl) bi.sorted bt_sorted (da_cons (de_v (pv 5)) da_nil)) (da_cons (de_sset rfl rfl hu60 rfl bi.sorted rfl bi.set (de_v (pv 6))) (da_cons (de_ssetTx rfl rfl hu60 rfl bi.sorted rfl bi.set (de_lc (pe_lc (own := [("_law_test_here", 7)]) (g := (gName 7)) rfl sc_l_due.nd (di_seq rfl (de_v (pv 6))) (blkOk_by (N := ["_law_condition", "_law_spots_here", "_law_due_here", "_law_spot", "_law_part", "_law_bottoms", "_law_tests_here", "_law_test_here"]) (sc := defScope s_l_due) (by decide +kernel)) (fun _ _ _ _ _ => (pg_name (i := 7) sc_l_due.nd rfl (Or.inl rfl))) (fun _ _ _ _ _ => dts_nil) (fun _ _ _ _ _ => (de_ix (di_ix rfl) (de_v (pv 7)) de_int (fun _ _ => rfl)))) sg_name (mono_name _) (own_name (by decide)) (ownD_name (by decide)))) da_nil))))))
  (ds_one (ds_ret (de_op (do_add rfl) (de_v (pv 2)) (de_lst (da_cons (de_callB (dc_maxL rfl rfl) (by rfl) bi.max bt_max (da_cons (de_lc (pe_lc (own := [("_law_spot", 3), ("_law_part", 4)]) (g := (gTup K 2 (gCons (gName 3) (gCons (gName 4) gNil)))) rfl sc_l_due.nd (di_seq rfl (de_v (pv 1))) (blkOk_by (N := ["_law_condition", "_law_spots_here", "_law_due_here", "_law_spot", "_law_part", "_law_bottoms", "_law_tests_here", "_law_test_here"]) (sc := defScope s_l_due) (by decide +kernel)) (fun _ _ _ _ _ => (pg_tup rfl (pgs_cons (pg_name (i := 3) sc_l_due.nd rfl (Or.inl rfl)) (pgs_cons (pg_name (i := 4) sc_l_due.nd rfl (Or.inl rfl)) pgs_nil)))) (fun _ _ _ _ _ => dts_nil) (fun _ _ _ _ _ => (de_callB (dc_len rfl) (by rfl) bi.len bt_len (da_cons (de_v (pv 3)) da_nil)))) (sg_tup (sgs_cons (mono_name _) sg_name (sgs_cons (mono_name _) sg_name sgs_nil))) (mono_tup (mono_cons (mono_name _) (mono_cons (mono_name _) mono_nil))) (own_tup (own_cons (mono_name _) (mono_cons (mono_name _) mono_nil) (own_name (by decide)) (own_cons (mono_name _) mono_nil (own_name (by decide)) own_nil))) (ownD_tup (ownD_cons (monoD_name _) (monoD_cons (monoD_name _) monoD_nil) (ownD_name (by decide)) (ownD_cons (monoD_name _) monoD_nil (ownD_name (by decide)) ownD_nil)))) da_nil)) da_nil))))))))))), ?_⟩
  intro ds R _ hT
  obtain ⟨x, rfl, c, ns, e, ok, dp, wt, n0, k⟩ := sp1_inv hT
  subst e
  refine dseq ?_
  simp only [dSet, dDrop, dIfS, dRet, dRetN, dNext, dPar, dAug, dAsg, dgName, dgTup, dgCons, dgNil, dFor, diSeq, diR1, diR2, diEnum, diZip, dLc, dYes, dC, dOp, dTest, fI, fIc, fEq, fNe, fAdd, fMul, fIsN, fNotN, fIn, dUn, fNeg, dNot, dAnd, dOr, dNotV, dAndV, dOrV, dIf, dNil, dCons, dTup, dLst, fIx, dPart0, dPart, dSl, fSl, dCB, g1, g2, fLen, fList, fTuple, fInt, fBool, fAbs, fI2, dIsi, dIsiT, dCall, dCall0, dCallB, dvw, dApp, dExt, dPop, dSetI, dAugI, Gx.own, frzL, datas, dEnd, dstart, asl, fSorted, fMaxL, fMinL, fSum, fAny, fAll, dSSet, dSSetTx, fRepr, wipeD, frz_d, frz_ow, frz_x, frz_b, atom_b, asg_b, ret_b, dVar, vw_d, vw_ow, vw_bo, tmp_d, tmp_ow, tmp_bo, tmp_x, asg_d, asg_ow, asg_x, ret_d, ret_ow, ret_x, atom_d, atom_ow, items_l, items_t, Option.some.injEq, exists_eq_left', exists_eq_left, exists_eq_right, exists_and_left, exists_and_right, Option.map_some, Option.map_none, List.getElem?_cons_zero, List.getElem?_cons_succ, List.set_cons_zero, List.set_cons_succ, List.map_cons, List.map_nil, List.length_cons, List.length_nil, List.replicate_succ, List.replicate_zero, List.cons_append, List.nil_append, Nat.sub_self, Nat.reduceSub, Nat.reduceAdd, Nat.zero_add, at0, at1, at2, at3, at4, atLast, if_true, if_false, Bool.false_eq_true, reduceIte, Bool.not_true, Bool.not_false, true_and, and_true, ne_eq]
  refine ⟨by omega, c, ns, [], rfl, rfl, ok, dp, by omega, by simp; omega, ?_⟩
  have eL : (((Cnd.placesN n c true).map (spotG [])).map spotD) = (Cnd.placesN n c true).map plD := by rw [List.map_map]; exact List.map_congr_left fun z _ => by simp [spotG, spotD, plD]
  rw [eL]
  have b := Cnd.places_len n c true
  have okp := places_ok n c true ok
  have lt : (Cnd.placesN n c true).length < 100000 := by omega
  have kin : ∀ (ks : List Str) (z : Plc), decide (z.2.1.kind ∈ ks) = kindIn ks z := fun _ _ => rfl
  have sh : ∀ z ∈ Cnd.placesN n c true, SeqAt.shaped (.str z.2.1.kind) = true := fun z m => kind_shaped (Cnd.kind8 (okp z m))
  have turn : ∀ (ks : List Str), (∀ x ∈ ks, x ∈ kinds8) → ∀ z ∈ Cnd.placesN n c true, ∀ A B : Prop, (kindIn ks z = true → A) → (kindIn ks z = false → B) →
      SeqAt.shaped (.str z.2.1.kind) = true ∧ (ks.map PyData.str).all SeqAt.shaped = true ∧ if inD (.str z.2.1.kind) (ks.map PyData.str) = true then A else B := fun ks h z m A B ha hb => by
    refine ⟨sh z m, kinds_shaped h, ?_⟩
    rw [inD_strs, kin]
    rcases e : kindIn ks z with _ | _
    · exact hb e
    · exact ha e
  simp only [dSet, dDrop, dIfS, dRet, dRetN, dNext, dPar, dAug, dAsg, dgName, dgTup, dgCons, dgNil, dFor, diSeq, diR1, diR2, diEnum, diZip, dLc, dYes, dC, dOp, dTest, fI, fIc, fEq, fNe, fAdd, fMul, fIsN, fNotN, fIn, dUn, fNeg, dNot, dAnd, dOr, dNotV, dAndV, dOrV, dIf, dNil, dCons, dTup, dLst, fIx, dPart0, dPart, dSl, fSl, dCB, g1, g2, fLen, fList, fTuple, fInt, fBool, fAbs, fI2, dIsi, dIsiT, dCall, dCall0, dCallB, dvw, dApp, dExt, dPop, dSetI, dAugI, Gx.own, frzL, datas, dEnd, dstart, asl, fSorted, fMaxL, fMinL, fSum, fAny, fAll, dSSet, dSSetTx, fRepr, wipeD, frz_d, frz_ow, frz_x, frz_b, atom_b, asg_b, ret_b, dVar, vw_d, vw_ow, vw_bo, tmp_d, tmp_ow, tmp_bo, tmp_x, asg_d, asg_ow, asg_x, ret_d, ret_ow, ret_x, atom_d, atom_ow, items_l, items_t, Option.some.injEq, exists_eq_left', exists_eq_left, exists_eq_right, exists_and_left, exists_and_right, Option.map_some, Option.map_none, List.getElem?_cons_zero, List.getElem?_cons_succ, List.set_cons_zero, List.set_cons_succ, List.map_cons, List.map_nil, List.length_cons, List.length_nil, List.replicate_succ, List.replicate_zero, List.cons_append, List.nil_append, Nat.sub_self, Nat.reduceSub, Nat.reduceAdd, Nat.zero_add, at0, at1, at2, at3, at4, atLast, if_true, if_false, Bool.false_eq_true, reduceIte, Bool.not_true, Bool.not_false, true_and, and_true, ne_eq]
  refine dseq ?_
  simp only [dSet, dDrop, dIfS, dRet, dRetN, dNext, dPar, dAug, dAsg, dgName, dgTup, dgCons, dgNil, dFor, diSeq, diR1, diR2, diEnum, diZip, dLc, dYes, dC, dOp, dTest, fI, fIc, fEq, fNe, fAdd, fMul, fIsN, fNotN, fIn, dUn, fNeg, dNot, dAnd, dOr, dNotV, dAndV, dOrV, dIf, dNil, dCons, dTup, dLst, fIx, dPart0, dPart, dSl, fSl, dCB, g1, g2, fLen, fList, fTuple, fInt, fBool, fAbs, fI2, dIsi, dIsiT, dCall, dCall0, dCallB, dvw, dApp, dExt, dPop, dSetI, dAugI, Gx.own, frzL, datas, dEnd, dstart, asl, fSorted, fMaxL, fMinL, fSum, fAny, fAll, dSSet, dSSetTx, fRepr, wipeD, frz_d, frz_ow, frz_x, frz_b, atom_b, asg_b, ret_b, dVar, vw_d, vw_ow, vw_bo, tmp_d, tmp_ow, tmp_bo, tmp_x, asg_d, asg_ow, asg_x, ret_d, ret_ow, ret_x, atom_d, atom_ow, items_l, items_t, Option.some.injEq, exists_eq_left', exists_eq_left, exists_eq_right, exists_and_left, exists_and_right, Option.map_some, Option.map_none, List.getElem?_cons_zero, List.getElem?_cons_succ, List.set_cons_zero, List.set_cons_succ, List.map_cons, List.map_nil, List.length_cons, List.length_nil, List.replicate_succ, List.replicate_zero, List.cons_append, List.nil_append, Nat.sub_self, Nat.reduceSub, Nat.reduceAdd, Nat.zero_add, at0, at1, at2, at3, at4, atLast, if_true, if_false, Bool.false_eq_true, reduceIte, Bool.not_true, Bool.not_false, true_and, and_true, ne_eq]
  refine ⟨c, ns, rfl, ok, by omega, ?_⟩
  simp only [dSet, dDrop, dIfS, dRet, dRetN, dNext, dPar, dAug, dAsg, dgName, dgTup, dgCons, dgNil, dFor, diSeq, diR1, diR2, diEnum, diZip, dLc, dYes, dC, dOp, dTest, fI, fIc, fEq, fNe, fAdd, fMul, fIsN, fNotN, fIn, dUn, fNeg, dNot, dAnd, dOr, dNotV, dAndV, dOrV, dIf, dNil, dCons, dTup, dLst, fIx, dPart0, dPart, dSl, fSl, dCB, g1, g2, fLen, fList, fTuple, fInt, fBool, fAbs, fI2, dIsi, dIsiT, dCall, dCall0, dCallB, dvw, dApp, dExt, dPop, dSetI, dAugI, Gx.own, frzL, datas, dEnd, dstart, asl, fSorted, fMaxL, fMinL, fSum, fAny, fAll, dSSet, dSSetTx, fRepr, wipeD, frz_d, frz_ow, frz_x, frz_b, atom_b, asg_b, ret_b, dVar, vw_d, vw_ow, vw_bo, tmp_d, tmp_ow, tmp_bo, tmp_x, asg_d, asg_ow, asg_x, ret_d, ret_ow, ret_x, atom_d, atom_ow, items_l, items_t, Option.some.injEq, exists_eq_left', exists_eq_left, exists_eq_right, exists_and_left, exists_and_right, Option.map_some, Option.map_none, List.getElem?_cons_zero, List.getElem?_cons_succ, List.set_cons_zero, List.set_cons_succ, List.map_cons, List.map_nil, List.length_cons, List.length_nil, List.replicate_succ, List.replicate_zero, List.cons_append, List.nil_append, Nat.sub_self, Nat.reduceSub, Nat.reduceAdd, Nat.zero_add, at0, at1, at2, at3, at4, atLast, if_true, if_false, Bool.false_eq_true, reduceIte, Bool.not_true, Bool.not_false, true_and, and_true, ne_eq]
  refine ⟨by rw [List.length_map]; omega, lc_on plD (fun z => some (adD z.1)) _ [] (fun z m Y N hy hn => ?_) ?_⟩
  · simp only [dSet, dDrop, dIfS, dRet, dRetN, dNext, dPar, dAug, dAsg, dgName, dgTup, dgCons, dgNil, dFor, diSeq, diR1, diR2, diEnum, diZip, dLc, dYes, dC, dOp, dTest, fI, fIc, fEq, fNe, fAdd, fMul, fIsN, fNotN, fIn, dUn, fNeg, dNot, dAnd, dOr, dNotV, dAndV, dOrV, dIf, dNil, dCons, dTup, dLst, fIx, dPart0, dPart, dSl, fSl, dCB, g1, g2, fLen, fList, fTuple, fInt, fBool, fAbs, fI2, dIsi, dIsiT, dCall, dCall0, dCallB, dvw, dApp, dExt, dPop, dSetI, dAugI, Gx.own, frzL, datas, dEnd, dstart, asl, fSorted, fMaxL, fMinL, fSum, fAny, fAll, dSSet, dSSetTx, fRepr, wipeD, frz_d, frz_ow, frz_x, frz_b, atom_b, asg_b, ret_b, dVar, vw_d, vw_ow, vw_bo, tmp_d, tmp_ow, tmp_bo, tmp_x, asg_d, asg_ow, asg_x, ret_d, ret_ow, ret_x, atom_d, atom_ow, items_l, items_t, Option.some.injEq, exists_eq_left', exists_eq_left, exists_eq_right, exists_and_left, exists_and_right, Option.map_some, Option.map_none, List.getElem?_cons_zero, List.getElem?_cons_succ, List.set_cons_zero, List.set_cons_succ, List.map_cons, List.map_nil, List.length_cons, List.length_nil, List.replicate_succ, List.replicate_zero, List.cons_append, List.nil_append, Nat.sub_self, Nat.reduceSub, Nat.reduceAdd, Nat.zero_add, at0, at1, at2, at3, at4, atLast, if_true, if_false, Bool.false_eq_true, reduceIte, Bool.not_true, Bool.not_false, true_and, and_true, ne_eq, plD]
    exact hy _ rfl
  rw [filterMap_all, show (Cnd.placesN n c true).map (fun z => adD z.1) = placesD n c (fun _ => true) by unfold placesD; rw [List.filter_eq_self.mpr fun _ _ => rfl]]
  simp only [dSet, dDrop, dIfS, dRet, dRetN, dNext, dPar, dAug, dAsg, dgName, dgTup, dgCons, dgNil, dFor, diSeq, diR1, diR2, diEnum, diZip, dLc, dYes, dC, dOp, dTest, fI, fIc, fEq, fNe, fAdd, fMul, fIsN, fNotN, fIn, dUn, fNeg, dNot, dAnd, dOr, dNotV, dAndV, dOrV, dIf, dNil, dCons, dTup, dLst, fIx, dPart0, dPart, dSl, fSl, dCB, g1, g2, fLen, fList, fTuple, fInt, fBool, fAbs, fI2, dIsi, dIsiT, dCall, dCall0, dCallB, dvw, dApp, dExt, dPop, dSetI, dAugI, Gx.own, frzL, datas, dEnd, dstart, asl, fSorted, fMaxL, fMinL, fSum, fAny, fAll, dSSet, dSSetTx, fRepr, wipeD, frz_d, frz_ow, frz_x, frz_b, atom_b, asg_b, ret_b, dVar, vw_d, vw_ow, vw_bo, tmp_d, tmp_ow, tmp_bo, tmp_x, asg_d, asg_ow, asg_x, ret_d, ret_ow, ret_x, atom_d, atom_ow, items_l, items_t, Option.some.injEq, exists_eq_left', exists_eq_left, exists_eq_right, exists_and_left, exists_and_right, Option.map_some, Option.map_none, List.getElem?_cons_zero, List.getElem?_cons_succ, List.set_cons_zero, List.set_cons_succ, List.map_cons, List.map_nil, List.length_cons, List.length_nil, List.replicate_succ, List.replicate_zero, List.cons_append, List.nil_append, Nat.sub_self, Nat.reduceSub, Nat.reduceAdd, Nat.zero_add, at0, at1, at2, at3, at4, atLast, if_true, if_false, Bool.false_eq_true, reduceIte, Bool.not_true, Bool.not_false, true_and, and_true, ne_eq]
  refine ⟨⟨_, rfl⟩, placesD_cmps _ _ _, by decide, ?_⟩
  rw [placesD_sort]
  refine dseq ?_
  simp only [dSet, dDrop, dIfS, dRet, dRetN, dNext, dPar, dAug, dAsg, dgName, dgTup, dgCons, dgNil, dFor, diSeq, diR1, diR2, diEnum, diZip, dLc, dYes, dC, dOp, dTest, fI, fIc, fEq, fNe, fAdd, fMul, fIsN, fNotN, fIn, dUn, fNeg, dNot, dAnd, dOr, dNotV, dAndV, dOrV, dIf, dNil, dCons, dTup, dLst, fIx, dPart0, dPart, dSl, fSl, dCB, g1, g2, fLen, fList, fTuple, fInt, fBool, fAbs, fI2, dIsi, dIsiT, dCall, dCall0, dCallB, dvw, dApp, dExt, dPop, dSetI, dAugI, Gx.own, frzL, datas, dEnd, dstart, asl, fSorted, fMaxL, fMinL, fSum, fAny, fAll, dSSet, dSSetTx, fRepr, wipeD, frz_d, frz_ow, frz_x, frz_b, atom_b, asg_b, ret_b, dVar, vw_d, vw_ow, vw_bo, tmp_d, tmp_ow, tmp_bo, tmp_x, asg_d, asg_ow, asg_x, ret_d, ret_ow, ret_x, atom_d, atom_ow, items_l, items_t, Option.some.injEq, exists_eq_left', exists_eq_left, exists_eq_right, exists_and_left, exists_and_right, Option.map_some, Option.map_none, List.getElem?_cons_zero, List.getElem?_cons_succ, List.set_cons_zero, List.set_cons_succ, List.map_cons, List.map_nil, List.length_cons, List.length_nil, List.replicate_succ, List.replicate_zero, List.cons_append, List.nil_append, Nat.sub_self, Nat.reduceSub, Nat.reduceAdd, Nat.zero_add, at0, at1, at2, at3, at4, atLast, if_true, if_false, Bool.false_eq_true, reduceIte, Bool.not_true, Bool.not_false, true_and, and_true, ne_eq]
  refine ⟨by rw [List.length_map]; omega, lc_on plD (fun z => if kindIn (["all", "any"] : List Str) z = true then some (adD z.1) else none) _ [] (fun z m Y N hy hn => ?_) ?_⟩
  · obtain ⟨xs, e⟩ := z.2.1.head
    simp only [dSet, dDrop, dIfS, dRet, dRetN, dNext, dPar, dAug, dAsg, dgName, dgTup, dgCons, dgNil, dFor, diSeq, diR1, diR2, diEnum, diZip, dLc, dYes, dC, dOp, dTest, fI, fIc, fEq, fNe, fAdd, fMul, fIsN, fNotN, fIn, dUn, fNeg, dNot, dAnd, dOr, dNotV, dAndV, dOrV, dIf, dNil, dCons, dTup, dLst, fIx, dPart0, dPart, dSl, fSl, dCB, g1, g2, fLen, fList, fTuple, fInt, fBool, fAbs, fI2, dIsi, dIsiT, dCall, dCall0, dCallB, dvw, dApp, dExt, dPop, dSetI, dAugI, Gx.own, frzL, datas, dEnd, dstart, asl, fSorted, fMaxL, fMinL, fSum, fAny, fAll, dSSet, dSSetTx, fRepr, wipeD, frz_d, frz_ow, frz_x, frz_b, atom_b, asg_b, ret_b, dVar, vw_d, vw_ow, vw_bo, tmp_d, tmp_ow, tmp_bo, tmp_x, asg_d, asg_ow, asg_x, ret_d, ret_ow, ret_x, atom_d, atom_ow, items_l, items_t, Option.some.injEq, exists_eq_left', exists_eq_left, exists_eq_right, exists_and_left, exists_and_right, Option.map_some, Option.map_none, List.getElem?_cons_zero, List.getElem?_cons_succ, List.set_cons_zero, List.set_cons_succ, List.map_cons, List.map_nil, List.length_cons, List.length_nil, List.replicate_succ, List.replicate_zero, List.cons_append, List.nil_append, Nat.sub_self, Nat.reduceSub, Nat.reduceAdd, Nat.zero_add, at0, at1, at2, at3, at4, atLast, if_true, if_false, Bool.false_eq_true, reduceIte, Bool.not_true, Bool.not_false, true_and, and_true, ne_eq, plD, e]
    refine ⟨by decide, turn (["all", "any"] : List Str) (by decide +kernel) z m _ _ (fun q => hy _ (if_pos q)) fun q => hn (if_neg (by simp [q]))⟩
  rw [filterMap_if]
  simp only [dSet, dDrop, dIfS, dRet, dRetN, dNext, dPar, dAug, dAsg, dgName, dgTup, dgCons, dgNil, dFor, diSeq, diR1, diR2, diEnum, diZip, dLc, dYes, dC, dOp, dTest, fI, fIc, fEq, fNe, fAdd, fMul, fIsN, fNotN, fIn, dUn, fNeg, dNot, dAnd, dOr, dNotV, dAndV, dOrV, dIf, dNil, dCons, dTup, dLst, fIx, dPart0, dPart, dSl, fSl, dCB, g1, g2, fLen, fList, fTuple, fInt, fBool, fAbs, fI2, dIsi, dIsiT, dCall, dCall0, dCallB, dvw, dApp, dExt, dPop, dSetI, dAugI, Gx.own, frzL, datas, dEnd, dstart, asl, fSorted, fMaxL, fMinL, fSum, fAny, fAll, dSSet, dSSetTx, fRepr, wipeD, frz_d, frz_ow, frz_x, frz_b, atom_b, asg_b, ret_b, dVar, vw_d, vw_ow, vw_bo, tmp_d, tmp_ow, tmp_bo, tmp_x, asg_d, asg_ow, asg_x, ret_d, ret_ow, ret_x, atom_d, atom_ow, items_l, items_t, Option.some.injEq, exists_eq_left', exists_eq_left, exists_eq_right, exists_and_left, exists_and_right, Option.map_some, Option.map_none, List.getElem?_cons_zero, List.getElem?_cons_succ, List.set_cons_zero, List.set_cons_succ, List.map_cons, List.map_nil, List.length_cons, List.length_nil, List.replicate_succ, List.replicate_zero, List.cons_append, List.nil_append, Nat.sub_self, Nat.reduceSub, Nat.reduceAdd, Nat.zero_add, at0, at1, at2, at3, at4, atLast, if_true, if_false, Bool.false_eq_true, reduceIte, Bool.not_true, Bool.not_false, true_and, and_true, ne_eq]
  refine ⟨⟨_, rfl⟩, placesD_cmps _ _ _, by decide, ?_⟩
  rw [show ((Cnd.placesN n c true).filter (kindIn (["all", "any"] : List Str))).map (fun z => adD z.1) = placesD n c (kindIn (["all", "any"] : List Str)) from rfl, placesD_sort]
  refine dseq ?_
  simp only [dSet, dDrop, dIfS, dRet, dRetN, dNext, dPar, dAug, dAsg, dgName, dgTup, dgCons, dgNil, dFor, diSeq, diR1, diR2, diEnum, diZip, dLc, dYes, dC, dOp, dTest, fI, fIc, fEq, fNe, fAdd, fMul, fIsN, fNotN, fIn, dUn, fNeg, dNot, dAnd, dOr, dNotV, dAndV, dOrV, dIf, dNil, dCons, dTup, dLst, fIx, dPart0, dPart, dSl, fSl, dCB, g1, g2, fLen, fList, fTuple, fInt, fBool, fAbs, fI2, dIsi, dIsiT, dCall, dCall0, dCallB, dvw, dApp, dExt, dPop, dSetI, dAugI, Gx.own, frzL, datas, dEnd, dstart, asl, fSorted, fMaxL, fMinL, fSum, fAny, fAll, dSSet, dSSetTx, fRepr, wipeD, frz_d, frz_ow, frz_x, frz_b, atom_b, asg_b, ret_b, dVar, vw_d, vw_ow, vw_bo, tmp_d, tmp_ow, tmp_bo, tmp_x, asg_d, asg_ow, asg_x, ret_d, ret_ow, ret_x, atom_d, atom_ow, items_l, items_t, Option.some.injEq, exists_eq_left', exists_eq_left, exists_eq_right, exists_and_left, exists_and_right, Option.map_some, Option.map_none, List.getElem?_cons_zero, List.getElem?_cons_succ, List.set_cons_zero, List.set_cons_succ, List.map_cons, List.map_nil, List.length_cons, List.length_nil, List.replicate_succ, List.replicate_zero, List.cons_append, List.nil_append, Nat.sub_self, Nat.reduceSub, Nat.reduceAdd, Nat.zero_add, at0, at1, at2, at3, at4, atLast, if_true, if_false, Bool.false_eq_true, reduceIte, Bool.not_true, Bool.not_false, true_and, and_true, ne_eq]
  refine ⟨by rw [List.length_map]; omega, lc_on plD (fun z => if kindIn (["always", "asks", "empty", "number"] : List Str) z = true then some (adD z.1) else none) _ [] (fun z m Y N hy hn => ?_) ?_⟩
  · obtain ⟨xs, e⟩ := z.2.1.head
    simp only [dSet, dDrop, dIfS, dRet, dRetN, dNext, dPar, dAug, dAsg, dgName, dgTup, dgCons, dgNil, dFor, diSeq, diR1, diR2, diEnum, diZip, dLc, dYes, dC, dOp, dTest, fI, fIc, fEq, fNe, fAdd, fMul, fIsN, fNotN, fIn, dUn, fNeg, dNot, dAnd, dOr, dNotV, dAndV, dOrV, dIf, dNil, dCons, dTup, dLst, fIx, dPart0, dPart, dSl, fSl, dCB, g1, g2, fLen, fList, fTuple, fInt, fBool, fAbs, fI2, dIsi, dIsiT, dCall, dCall0, dCallB, dvw, dApp, dExt, dPop, dSetI, dAugI, Gx.own, frzL, datas, dEnd, dstart, asl, fSorted, fMaxL, fMinL, fSum, fAny, fAll, dSSet, dSSetTx, fRepr, wipeD, frz_d, frz_ow, frz_x, frz_b, atom_b, asg_b, ret_b, dVar, vw_d, vw_ow, vw_bo, tmp_d, tmp_ow, tmp_bo, tmp_x, asg_d, asg_ow, asg_x, ret_d, ret_ow, ret_x, atom_d, atom_ow, items_l, items_t, Option.some.injEq, exists_eq_left', exists_eq_left, exists_eq_right, exists_and_left, exists_and_right, Option.map_some, Option.map_none, List.getElem?_cons_zero, List.getElem?_cons_succ, List.set_cons_zero, List.set_cons_succ, List.map_cons, List.map_nil, List.length_cons, List.length_nil, List.replicate_succ, List.replicate_zero, List.cons_append, List.nil_append, Nat.sub_self, Nat.reduceSub, Nat.reduceAdd, Nat.zero_add, at0, at1, at2, at3, at4, atLast, if_true, if_false, Bool.false_eq_true, reduceIte, Bool.not_true, Bool.not_false, true_and, and_true, ne_eq, plD, e]
    refine ⟨by decide, turn (["always", "asks", "empty", "number"] : List Str) (by decide +kernel) z m _ _ (fun q => hy _ (if_pos q)) fun q => hn (if_neg (by simp [q]))⟩
  rw [filterMap_if]
  simp only [dSet, dDrop, dIfS, dRet, dRetN, dNext, dPar, dAug, dAsg, dgName, dgTup, dgCons, dgNil, dFor, diSeq, diR1, diR2, diEnum, diZip, dLc, dYes, dC, dOp, dTest, fI, fIc, fEq, fNe, fAdd, fMul, fIsN, fNotN, fIn, dUn, fNeg, dNot, dAnd, dOr, dNotV, dAndV, dOrV, dIf, dNil, dCons, dTup, dLst, fIx, dPart0, dPart, dSl, fSl, dCB, g1, g2, fLen, fList, fTuple, fInt, fBool, fAbs, fI2, dIsi, dIsiT, dCall, dCall0, dCallB, dvw, dApp, dExt, dPop, dSetI, dAugI, Gx.own, frzL, datas, dEnd, dstart, asl, fSorted, fMaxL, fMinL, fSum, fAny, fAll, dSSet, dSSetTx, fRepr, wipeD, frz_d, frz_ow, frz_x, frz_b, atom_b, asg_b, ret_b, dVar, vw_d, vw_ow, vw_bo, tmp_d, tmp_ow, tmp_bo, tmp_x, asg_d, asg_ow, asg_x, ret_d, ret_ow, ret_x, atom_d, atom_ow, items_l, items_t, Option.some.injEq, exists_eq_left', exists_eq_left, exists_eq_right, exists_and_left, exists_and_right, Option.map_some, Option.map_none, List.getElem?_cons_zero, List.getElem?_cons_succ, List.set_cons_zero, List.set_cons_succ, List.map_cons, List.map_nil, List.length_cons, List.length_nil, List.replicate_succ, List.replicate_zero, List.cons_append, List.nil_append, Nat.sub_self, Nat.reduceSub, Nat.reduceAdd, Nat.zero_add, at0, at1, at2, at3, at4, atLast, if_true, if_false, Bool.false_eq_true, reduceIte, Bool.not_true, Bool.not_false, true_and, and_true, ne_eq]
  refine dseq ?_
  simp only [dSet, dDrop, dIfS, dRet, dRetN, dNext, dPar, dAug, dAsg, dgName, dgTup, dgCons, dgNil, dFor, diSeq, diR1, diR2, diEnum, diZip, dLc, dYes, dC, dOp, dTest, fI, fIc, fEq, fNe, fAdd, fMul, fIsN, fNotN, fIn, dUn, fNeg, dNot, dAnd, dOr, dNotV, dAndV, dOrV, dIf, dNil, dCons, dTup, dLst, fIx, dPart0, dPart, dSl, fSl, dCB, g1, g2, fLen, fList, fTuple, fInt, fBool, fAbs, fI2, dIsi, dIsiT, dCall, dCall0, dCallB, dvw, dApp, dExt, dPop, dSetI, dAugI, Gx.own, frzL, datas, dEnd, dstart, asl, fSorted, fMaxL, fMinL, fSum, fAny, fAll, dSSet, dSSetTx, fRepr, wipeD, frz_d, frz_ow, frz_x, frz_b, atom_b, asg_b, ret_b, dVar, vw_d, vw_ow, vw_bo, tmp_d, tmp_ow, tmp_bo, tmp_x, asg_d, asg_ow, asg_x, ret_d, ret_ow, ret_x, atom_d, atom_ow, items_l, items_t, Option.some.injEq, exists_eq_left', exists_eq_left, exists_eq_right, exists_and_left, exists_and_right, Option.map_some, Option.map_none, List.getElem?_cons_zero, List.getElem?_cons_succ, List.set_cons_zero, List.set_cons_succ, List.map_cons, List.map_nil, List.length_cons, List.length_nil, List.replicate_succ, List.replicate_zero, List.cons_append, List.nil_append, Nat.sub_self, Nat.reduceSub, Nat.reduceAdd, Nat.zero_add, at0, at1, at2, at3, at4, atLast, if_true, if_false, Bool.false_eq_true, reduceIte, Bool.not_true, Bool.not_false, true_and, and_true, ne_eq]
  refine ⟨by rw [List.length_map]; omega, lc_on plD (fun z => if kindIn (["asks", "empty", "number"] : List Str) z = true then some z.2.1.data else none) _ [] (fun z m Y N hy hn => ?_) ?_⟩
  · obtain ⟨xs, e⟩ := z.2.1.head
    simp only [dSet, dDrop, dIfS, dRet, dRetN, dNext, dPar, dAug, dAsg, dgName, dgTup, dgCons, dgNil, dFor, diSeq, diR1, diR2, diEnum, diZip, dLc, dYes, dC, dOp, dTest, fI, fIc, fEq, fNe, fAdd, fMul, fIsN, fNotN, fIn, dUn, fNeg, dNot, dAnd, dOr, dNotV, dAndV, dOrV, dIf, dNil, dCons, dTup, dLst, fIx, dPart0, dPart, dSl, fSl, dCB, g1, g2, fLen, fList, fTuple, fInt, fBool, fAbs, fI2, dIsi, dIsiT, dCall, dCall0, dCallB, dvw, dApp, dExt, dPop, dSetI, dAugI, Gx.own, frzL, datas, dEnd, dstart, asl, fSorted, fMaxL, fMinL, fSum, fAny, fAll, dSSet, dSSetTx, fRepr, wipeD, frz_d, frz_ow, frz_x, frz_b, atom_b, asg_b, ret_b, dVar, vw_d, vw_ow, vw_bo, tmp_d, tmp_ow, tmp_bo, tmp_x, asg_d, asg_ow, asg_x, ret_d, ret_ow, ret_x, atom_d, atom_ow, items_l, items_t, Option.some.injEq, exists_eq_left', exists_eq_left, exists_eq_right, exists_and_left, exists_and_right, Option.map_some, Option.map_none, List.getElem?_cons_zero, List.getElem?_cons_succ, List.set_cons_zero, List.set_cons_succ, List.map_cons, List.map_nil, List.length_cons, List.length_nil, List.replicate_succ, List.replicate_zero, List.cons_append, List.nil_append, Nat.sub_self, Nat.reduceSub, Nat.reduceAdd, Nat.zero_add, at0, at1, at2, at3, at4, atLast, if_true, if_false, Bool.false_eq_true, reduceIte, Bool.not_true, Bool.not_false, true_and, and_true, ne_eq, plD, e]
    refine ⟨by decide, turn (["asks", "empty", "number"] : List Str) (by decide +kernel) z m _ _ (fun q => hy _ ((if_pos q).trans (by rw [e]))) fun q => hn (if_neg (by simp [q]))⟩
  rw [filterMap_if]
  simp only [dSet, dDrop, dIfS, dRet, dRetN, dNext, dPar, dAug, dAsg, dgName, dgTup, dgCons, dgNil, dFor, diSeq, diR1, diR2, diEnum, diZip, dLc, dYes, dC, dOp, dTest, fI, fIc, fEq, fNe, fAdd, fMul, fIsN, fNotN, fIn, dUn, fNeg, dNot, dAnd, dOr, dNotV, dAndV, dOrV, dIf, dNil, dCons, dTup, dLst, fIx, dPart0, dPart, dSl, fSl, dCB, g1, g2, fLen, fList, fTuple, fInt, fBool, fAbs, fI2, dIsi, dIsiT, dCall, dCall0, dCallB, dvw, dApp, dExt, dPop, dSetI, dAugI, Gx.own, frzL, datas, dEnd, dstart, asl, fSorted, fMaxL, fMinL, fSum, fAny, fAll, dSSet, dSSetTx, fRepr, wipeD, frz_d, frz_ow, frz_x, frz_b, atom_b, asg_b, ret_b, dVar, vw_d, vw_ow, vw_bo, tmp_d, tmp_ow, tmp_bo, tmp_x, asg_d, asg_ow, asg_x, ret_d, ret_ow, ret_x, atom_d, atom_ow, items_l, items_t, Option.some.injEq, exists_eq_left', exists_eq_left, exists_eq_right, exists_and_left, exists_and_right, Option.map_some, Option.map_none, List.getElem?_cons_zero, List.getElem?_cons_succ, List.set_cons_zero, List.set_cons_succ, List.map_cons, List.map_nil, List.length_cons, List.length_nil, List.replicate_succ, List.replicate_zero, List.cons_append, List.nil_append, Nat.sub_self, Nat.reduceSub, Nat.reduceAdd, Nat.zero_add, at0, at1, at2, at3, at4, atLast, if_true, if_false, Bool.false_eq_true, reduceIte, Bool.not_true, Bool.not_false, true_and, and_true, ne_eq]
  have pt := places_tests n c true ok dp
  have eT : ((Cnd.placesN n c true).filter (kindIn (["asks", "empty", "number"] : List Str))).map (fun z => z.2.1.data) = (testsN n c).map Cnd.data := by rw [← pt, List.map_map]; rfl
  rw [eT, show ((Cnd.placesN n c true).filter (kindIn (["always", "asks", "empty", "number"] : List Str))).map (fun z => adD z.1) = placesD n c (kindIn (["always", "asks", "empty", "number"] : List Str)) from rfl]
  have wl := testsN_w n c ok
  have lf : ∀ t ∈ testsN n c, ∃ l x, t = Cnd.leaf l ∧ colOf l = some x ∧ l.ok ns := testsN_mem n c ns ok
  have cT : Cmps ((testsN n c).map Cnd.data) := by
    have at_ : ∀ d ∈ (testsN n c).map Cnd.data, ∃ l : Gx.Leaf, d = l.data ∧ l.ok ns := fun d m => by
      obtain ⟨t, mt, rfl⟩ := List.mem_map.mp m
      obtain ⟨l, _, rfl, _, lok⟩ := lf t mt
      exact ⟨l, rfl, lok⟩
    refine ⟨fun d m => ?_, fun d m => ?_, fun d m d' m' => ?_, fun d m => ?_⟩
    · obtain ⟨l, rfl, _⟩ := at_ d m; exact leaf_tup l
    · obtain ⟨l, rfl, _⟩ := at_ d m; exact leaf_keyable l
    · obtain ⟨l, rfl, _⟩ := at_ d m
      obtain ⟨l', rfl, _⟩ := at_ d' m'
      exact leaf_cmp l l'
    · obtain ⟨l, rfl, lok⟩ := at_ d m; exact leaf_deep lok
  refine dseq ?_
  simp only [dSet, dDrop, dIfS, dRet, dRetN, dNext, dPar, dAug, dAsg, dgName, dgTup, dgCons, dgNil, dFor, diSeq, diR1, diR2, diEnum, diZip, dLc, dYes, dC, dOp, dTest, fI, fIc, fEq, fNe, fAdd, fMul, fIsN, fNotN, fIn, dUn, fNeg, dNot, dAnd, dOr, dNotV, dAndV, dOrV, dIf, dNil, dCons, dTup, dLst, fIx, dPart0, dPart, dSl, fSl, dCB, g1, g2, fLen, fList, fTuple, fInt, fBool, fAbs, fI2, dIsi, dIsiT, dCall, dCall0, dCallB, dvw, dApp, dExt, dPop, dSetI, dAugI, Gx.own, frzL, datas, dEnd, dstart, asl, fSorted, fMaxL, fMinL, fSum, fAny, fAll, dSSet, dSSetTx, fRepr, wipeD, frz_d, frz_ow, frz_x, frz_b, atom_b, asg_b, ret_b, dVar, vw_d, vw_ow, vw_bo, tmp_d, tmp_ow, tmp_bo, tmp_x, asg_d, asg_ow, asg_x, ret_d, ret_ow, ret_x, atom_d, atom_ow, items_l, items_t, Option.some.injEq, exists_eq_left', exists_eq_left, exists_eq_right, exists_and_left, exists_and_right, Option.map_some, Option.map_none, List.getElem?_cons_zero, List.getElem?_cons_succ, List.set_cons_zero, List.set_cons_succ, List.map_cons, List.map_nil, List.length_cons, List.length_nil, List.replicate_succ, List.replicate_zero, List.cons_append, List.nil_append, Nat.sub_self, Nat.reduceSub, Nat.reduceAdd, Nat.zero_add, at0, at1, at2, at3, at4, atLast, if_true, if_false, Bool.false_eq_true, reduceIte, Bool.not_true, Bool.not_false, true_and, and_true, ne_eq]
  refine ⟨⟨_, rfl⟩, placesD_cmps _ _ _, _, rfl, cT, by rw [List.length_map]; omega, fun ts up mem => ?_⟩
  rw [placesD_sort]
  refine ⟨by rw [List.length_map]; omega, lc_on Cnd.data (fun t => some (.str (colC t))) _ [] (fun t m Y N hy hn => ?_) ?_⟩
  · obtain ⟨l, x, rfl, hc, _⟩ := lf t m
    obtain ⟨a, xs, e⟩ := col_at hc
    simp only [dSet, dDrop, dIfS, dRet, dRetN, dNext, dPar, dAug, dAsg, dgName, dgTup, dgCons, dgNil, dFor, diSeq, diR1, diR2, diEnum, diZip, dLc, dYes, dC, dOp, dTest, fI, fIc, fEq, fNe, fAdd, fMul, fIsN, fNotN, fIn, dUn, fNeg, dNot, dAnd, dOr, dNotV, dAndV, dOrV, dIf, dNil, dCons, dTup, dLst, fIx, dPart0, dPart, dSl, fSl, dCB, g1, g2, fLen, fList, fTuple, fInt, fBool, fAbs, fI2, dIsi, dIsiT, dCall, dCall0, dCallB, dvw, dApp, dExt, dPop, dSetI, dAugI, Gx.own, frzL, datas, dEnd, dstart, asl, fSorted, fMaxL, fMinL, fSum, fAny, fAll, dSSet, dSSetTx, fRepr, wipeD, frz_d, frz_ow, frz_x, frz_b, atom_b, asg_b, ret_b, dVar, vw_d, vw_ow, vw_bo, tmp_d, tmp_ow, tmp_bo, tmp_x, asg_d, asg_ow, asg_x, ret_d, ret_ow, ret_x, atom_d, atom_ow, items_l, items_t, Option.some.injEq, exists_eq_left', exists_eq_left, exists_eq_right, exists_and_left, exists_and_right, Option.map_some, Option.map_none, List.getElem?_cons_zero, List.getElem?_cons_succ, List.set_cons_zero, List.set_cons_succ, List.map_cons, List.map_nil, List.length_cons, List.length_nil, List.replicate_succ, List.replicate_zero, List.cons_append, List.nil_append, Nat.sub_self, Nat.reduceSub, Nat.reduceAdd, Nat.zero_add, at0, at1, at2, at3, at4, atLast, if_true, if_false, Bool.false_eq_true, reduceIte, Bool.not_true, Bool.not_false, true_and, and_true, ne_eq, Cnd.data, e]
    exact hy _ (by simp [colC, hc])
  rw [filterMap_all]
  simp only [dSet, dDrop, dIfS, dRet, dRetN, dNext, dPar, dAug, dAsg, dgName, dgTup, dgCons, dgNil, dFor, diSeq, diR1, diR2, diEnum, diZip, dLc, dYes, dC, dOp, dTest, fI, fIc, fEq, fNe, fAdd, fMul, fIsN, fNotN, fIn, dUn, fNeg, dNot, dAnd, dOr, dNotV, dAndV, dOrV, dIf, dNil, dCons, dTup, dLst, fIx, dPart0, dPart, dSl, fSl, dCB, g1, g2, fLen, fList, fTuple, fInt, fBool, fAbs, fI2, dIsi, dIsiT, dCall, dCall0, dCallB, dvw, dApp, dExt, dPop, dSetI, dAugI, Gx.own, frzL, datas, dEnd, dstart, asl, fSorted, fMaxL, fMinL, fSum, fAny, fAll, dSSet, dSSetTx, fRepr, wipeD, frz_d, frz_ow, frz_x, frz_b, atom_b, asg_b, ret_b, dVar, vw_d, vw_ow, vw_bo, tmp_d, tmp_ow, tmp_bo, tmp_x, asg_d, asg_ow, asg_x, ret_d, ret_ow, ret_x, atom_d, atom_ow, items_l, items_t, Option.some.injEq, exists_eq_left', exists_eq_left, exists_eq_right, exists_and_left, exists_and_right, Option.map_some, Option.map_none, List.getElem?_cons_zero, List.getElem?_cons_succ, List.set_cons_zero, List.set_cons_succ, List.map_cons, List.map_nil, List.length_cons, List.length_nil, List.replicate_succ, List.replicate_zero, List.cons_append, List.nil_append, Nat.sub_self, Nat.reduceSub, Nat.reduceAdd, Nat.zero_add, at0, at1, at2, at3, at4, atLast, if_true, if_false, Bool.false_eq_true, reduceIte, Bool.not_true, Bool.not_false, true_and, and_true, ne_eq]
  refine ⟨_, rfl, (testsN n c).map colC, by have := strsOf_map ((testsN n c).map colC); rw [List.map_map] at this; exact this, by rw [List.length_map]; omega, fun rs od => ?_⟩
  refine ⟨by decide, by rw [sizeLine_eq]; decide, by rw [List.length_map]; omega, lc_on plD (fun z => some (.int (z.1.length : Int))) _ [] (fun z m Y N hy hn => ?_) ?_⟩
  · simp only [dSet, dDrop, dIfS, dRet, dRetN, dNext, dPar, dAug, dAsg, dgName, dgTup, dgCons, dgNil, dFor, diSeq, diR1, diR2, diEnum, diZip, dLc, dYes, dC, dOp, dTest, fI, fIc, fEq, fNe, fAdd, fMul, fIsN, fNotN, fIn, dUn, fNeg, dNot, dAnd, dOr, dNotV, dAndV, dOrV, dIf, dNil, dCons, dTup, dLst, fIx, dPart0, dPart, dSl, fSl, dCB, g1, g2, fLen, fList, fTuple, fInt, fBool, fAbs, fI2, dIsi, dIsiT, dCall, dCall0, dCallB, dvw, dApp, dExt, dPop, dSetI, dAugI, Gx.own, frzL, datas, dEnd, dstart, asl, fSorted, fMaxL, fMinL, fSum, fAny, fAll, dSSet, dSSetTx, fRepr, wipeD, frz_d, frz_ow, frz_x, frz_b, atom_b, asg_b, ret_b, dVar, vw_d, vw_ow, vw_bo, tmp_d, tmp_ow, tmp_bo, tmp_x, asg_d, asg_ow, asg_x, ret_d, ret_ow, ret_x, atom_d, atom_ow, items_l, items_t, Option.some.injEq, exists_eq_left', exists_eq_left, exists_eq_right, exists_and_left, exists_and_right, Option.map_some, Option.map_none, List.getElem?_cons_zero, List.getElem?_cons_succ, List.set_cons_zero, List.set_cons_succ, List.map_cons, List.map_nil, List.length_cons, List.length_nil, List.replicate_succ, List.replicate_zero, List.cons_append, List.nil_append, Nat.sub_self, Nat.reduceSub, Nat.reduceAdd, Nat.zero_add, at0, at1, at2, at3, at4, atLast, if_true, if_false, Bool.false_eq_true, reduceIte, Bool.not_true, Bool.not_false, true_and, and_true, ne_eq, plD, adD]
    exact hy _ (by simp)
  rw [filterMap_all]
  simp only [dSet, dDrop, dIfS, dRet, dRetN, dNext, dPar, dAug, dAsg, dgName, dgTup, dgCons, dgNil, dFor, diSeq, diR1, diR2, diEnum, diZip, dLc, dYes, dC, dOp, dTest, fI, fIc, fEq, fNe, fAdd, fMul, fIsN, fNotN, fIn, dUn, fNeg, dNot, dAnd, dOr, dNotV, dAndV, dOrV, dIf, dNil, dCons, dTup, dLst, fIx, dPart0, dPart, dSl, fSl, dCB, g1, g2, fLen, fList, fTuple, fInt, fBool, fAbs, fI2, dIsi, dIsiT, dCall, dCall0, dCallB, dvw, dApp, dExt, dPop, dSetI, dAugI, Gx.own, frzL, datas, dEnd, dstart, asl, fSorted, fMaxL, fMinL, fSum, fAny, fAll, dSSet, dSSetTx, fRepr, wipeD, frz_d, frz_ow, frz_x, frz_b, atom_b, asg_b, ret_b, dVar, vw_d, vw_ow, vw_bo, tmp_d, tmp_ow, tmp_bo, tmp_x, asg_d, asg_ow, asg_x, ret_d, ret_ow, ret_x, atom_d, atom_ow, items_l, items_t, Option.some.injEq, exists_eq_left', exists_eq_left, exists_eq_right, exists_and_left, exists_and_right, Option.map_some, Option.map_none, List.getElem?_cons_zero, List.getElem?_cons_succ, List.set_cons_zero, List.set_cons_succ, List.map_cons, List.map_nil, List.length_cons, List.length_nil, List.replicate_succ, List.replicate_zero, List.cons_append, List.nil_append, Nat.sub_self, Nat.reduceSub, Nat.reduceAdd, Nat.zero_add, at0, at1, at2, at3, at4, atLast, if_true, if_false, Bool.false_eq_true, reduceIte, Bool.not_true, Bool.not_false, true_and, and_true, ne_eq]
  refine ⟨_, rfl, (Cnd.placesN n c true).map (fun z => (z.1.length : Int)), by have := intsOf_map ((Cnd.placesN n c true).map fun z => (z.1.length : Int)); rw [List.map_map] at this; exact this, ?_, fun m mm top => ⟨by decide, by rw [sizeLine_eq]; decide, ?_⟩⟩
  · intro z
    have := congrArg List.length z
    rw [List.length_map] at this
    cases n <;> simp [Cnd.placesN] at this
  · obtain ⟨z, mz, rfl⟩ := List.mem_map.mp mm
    exact k ts rs z.1.length ⟨up, mem⟩ ⟨od.up, fun x => (od.mem x).trans ⟨fun q => by
        obtain ⟨t, mt, e⟩ := List.mem_map.mp q
        obtain ⟨l, y, rfl, hc, _⟩ := lf t mt
        exact ⟨l, mt, by rw [hc, ← e]; simp [colC, hc]⟩, fun ⟨d, md, hc⟩ => List.mem_map.mpr ⟨_, md, by simp [colC, hc]⟩⟩⟩ ⟨⟨z, mz, rfl⟩, fun y my => by
      have := top _ (List.mem_map.mpr ⟨y, my, rfl⟩)
      omega⟩
end
end K22

set_option Elab.async false
set_option linter.all false
set_option maxRecDepth 100000
set_option maxHeartbeats 2000000
/-! repr of data by the text's length itself; short ints count as short -/
namespace Gx
open PySem PySem.Spec PyProof.Rows L2 Evl
def wide2 : PyData → Nat
  | .none => 4
  | .bool _ => 5
  | .int i => if i.natAbs < 100000 then 6 else 1921
  | .str x => (reprText x).length
  | .list xs => wide2All xs + 2
  | .tuple xs => wide2All xs + 3
  | .dict _ => 0
where wide2All : List PyData → Nat
  | [] => 0
  | x :: xs => wide2 x + 2 + wide2All xs
mutual
theorem wide2_le : ∀ d : PyData, wide2 d ≤ wide d
  | .none | .bool _ | .str _ | .dict _ => by simp [wide2, wide]
  | .int i => by simp only [wide2, wide]; split <;> omega
  | .list xs => by simp only [wide2, wide]; have := wide2All_le xs; omega
  | .tuple xs => by simp only [wide2, wide]; have := wide2All_le xs; omega
theorem wide2All_le : ∀ ds : List PyData, wide2.wide2All ds ≤ wide.wideAll ds
  | [] => Nat.le_refl _
  | d :: ds => by simp only [wide2.wide2All, wide.wideAll]; have := wide2_le d; have := wide2All_le ds; omega
end
theorem short_text {i : Int} (h : i.natAbs < 100000) : (PySem.Str.ofString (toString i)).length ≤ 6 := by
  rw [PySem.ofString_length]; exact PySem.int_text_length_le10 (a := i) (k := 5) (by decide) h
mutual
theorem shown_wide2 : ∀ d : PyData, d.showable = true → d.hasDict = false → d.shown.length ≤ wide2 d
  | .none, h, k => shown_wide .none h k
  | .bool b, h, k => shown_wide (.bool b) h k
  | .int i, h, k => by
    simp only [wide2]
    split
    · rename_i c; exact short_text c
    · exact shown_wide (.int i) h k
  | .str x, h, k => shown_wide (.str x) h k
  | .list xs, h, k => by
    simp only [PyData.shown, wide2]
    have q := shown_wide2All xs (by simpa only [PyData.showable] using h) (by simpa only [PyData.hasDict] using k)
    exact Nat.le_trans (listText_wide _) (by omega)
  | .tuple xs, h, k => by
    simp only [PyData.shown, wide2]
    have q := shown_wide2All xs (by simpa only [PyData.showable] using h) (by simpa only [PyData.hasDict] using k)
    exact Nat.le_trans (tupText_wide _) (by omega)
  | .dict _, _, k => by simp [PyData.hasDict] at k
theorem shown_wide2All : ∀ ds : List PyData, PyData.showableAll ds = true → PyData.hasDictAll ds = false → piled (PyData.shownAll ds) ≤ wide2.wide2All ds
  | [], _, _ => by simp [PyData.shownAll, piled, wide2.wide2All]
  | d :: ds, h, k => by
    simp only [PyData.showableAll, Bool.and_eq_true] at h
    simp only [PyData.hasDictAll, Bool.or_eq_false_iff] at k
    have q1 := shown_wide2 d h.1 k.1
    have q2 := shown_wide2All ds h.2 k.2
    simp only [PyData.shownAll, piled_cons, wide2.wide2All]
    omega
end
/-- what data must keep to be compared and shown, by the finer width -/
structure Fin2 (d : PyData) (n m : Nat) : Prop where
  lay : PyData.canLay0 d = true
  deep : d.depth ≤ n
  show_ : d.showable = true
  wide : wide2 d ≤ m
structure Fin2L (ds : List PyData) (n m : Nat) : Prop where
  lay : PyData.canLayAll0 ds = true
  deep : PyData.depthAll ds ≤ n
  show_ : PyData.showableAll ds = true
  wide : wide2.wide2All ds ≤ m
theorem Fit.fin {d : PyData} {n m : Nat} (h : Fit d n m) : Fin2 d n m := ⟨h.lay, h.deep, h.show_, Nat.le_trans (wide2_le d) h.wide⟩
theorem FitL.fin {d : List PyData} {n m : Nat} (h : FitL d n m) : Fin2L d n m := ⟨h.lay, h.deep, h.show_, Nat.le_trans (wide2All_le d) h.wide⟩
theorem Fin2.mono {d : PyData} {n m n' m' : Nat} (h : Fin2 d n m) (a : n ≤ n') (b : m ≤ m') : Fin2 d n' m' := ⟨h.lay, Nat.le_trans h.deep a, h.show_, Nat.le_trans h.wide b⟩
theorem Fin2L.mono {d : List PyData} {n m n' m' : Nat} (h : Fin2L d n m) (a : n ≤ n') (b : m ≤ m') : Fin2L d n' m' := ⟨h.lay, Nat.le_trans h.deep a, h.show_, Nat.le_trans h.wide b⟩
theorem fin_nil (n : Nat) : Fin2L [] n 0 := ⟨rfl, Nat.zero_le _, rfl, Nat.le_refl _⟩
theorem fin_cons {d : PyData} {ds : List PyData} {n m k : Nat} (h : Fin2 d n m) (t : Fin2L ds n k) : Fin2L (d :: ds) n (m + 2 + k) := by
  refine ⟨?_, ?_, ?_, ?_⟩
  · simp [PyData.canLayAll0, h.lay, t.lay]
  · simp only [PyData.depthAll]; have := h.deep; have := t.deep; omega
  · simp [PyData.showableAll, h.show_, t.show_]
  · simp only [wide2.wide2All]; have := h.wide; have := t.wide; omega
theorem fin_tup {ds : List PyData} {n m : Nat} (t : Fin2L ds n m) : Fin2 (.tuple ds) (n + 1) (m + 3) := by
  refine ⟨?_, ?_, ?_, ?_⟩
  · simp [PyData.canLay0, t.lay]
  · simp only [PyData.depth]; have := t.deep; omega
  · simp [PyData.showable, t.show_]
  · simp only [Gx.wide2]; have := t.wide; omega
theorem fin_lst {ds : List PyData} {n m : Nat} (t : Fin2L ds n m) : Fin2 (.list ds) (n + 1) (m + 2) := by
  refine ⟨?_, ?_, ?_, ?_⟩
  · simp [PyData.canLay0, t.lay]
  · simp only [PyData.depth]; have := t.deep; omega
  · simp [PyData.showable, t.show_]
  · simp only [Gx.wide2]; have := t.wide; omega
theorem fin_short {i : Int} (h : i.natAbs < 100000) : Fin2 (.int i) 0 6 := by
  have f := (fit_int (i := i) (by unfold Near; omega)).fin
  exact ⟨f.lay, f.deep, f.show_, by simp only [wide2]; rw [if_pos h]; exact Nat.le_refl _⟩
/-- many of one bound -/
theorem fin_many {n m : Nat} : ∀ {ds : List PyData}, (∀ d ∈ ds, Fin2 d n m) → Fin2L ds n ((m + 2) * ds.length)
  | [], _ => by simpa using fin_nil n
  | d :: ds, h => by
    have t := fin_many (ds := ds) fun x q => h x (List.mem_cons_of_mem _ q)
    refine (fin_cons (h d List.mem_cons_self) t).mono (Nat.le_refl _) ?_
    rw [List.length_cons, Nat.mul_add]; omega
theorem fin_ad {q : List Nat} (h : ∀ i ∈ q, i < 100000) : Fin2 (adD q) 1 (8 * q.length + 3) := by
  refine (fin_tup (n := 0) (fin_many (m := 6) (n := 0) (ds := q.map fun (i : Nat) => PyData.int (i : Int)) fun d m => ?_)).mono (Nat.le_refl _) (by rw [List.length_map]; omega)
  obtain ⟨i, mi, rfl⟩ := List.mem_map.mp m
  exact fin_short (by have := h i mi; omega)
theorem below_idx {f : Cnd → Bool → List Plc} {z : Plc} : ∀ {L : List (Cnd × Bool)} {i : Nat}, z ∈ belowN f L i → ∃ q ∈ L, ∃ y ∈ f q.1 q.2, ∃ k, k < i + L.length ∧ z = (k :: y.1, y.2)
  | [], i, h => by simp [belowN] at h
  | q :: L, i, h => by
    rw [belowN] at h
    rcases List.mem_append.mp h with h | h
    · obtain ⟨y, my, rfl⟩ := List.mem_map.mp h
      exact ⟨q, List.mem_cons_self, y, my, i, by simp, rfl⟩
    · obtain ⟨q', mq, y, my, k, lk, e⟩ := below_idx h
      exact ⟨q', List.mem_cons_of_mem _ mq, y, my, k, by rw [List.length_cons]; omega, e⟩
theorem places_idx {ns : List Str} : ∀ (n : Nat) (c : Cnd) (p : Bool), c.ok ns → c.weight ≤ 5000000 → ∀ z ∈ Cnd.placesN n c p, ∀ i ∈ z.1, i < 100000
  | 0, c, p, _, _, z, m => by
    simp only [Cnd.placesN, List.mem_singleton] at m
    subst m
    intro i mi; cases mi
  | n + 1, c, p, ok, wt, z, m => by
    rw [Cnd.placesN] at m
    rcases List.mem_cons.mp m with rfl | m
    · intro i mi; cases mi
    · obtain ⟨q, mq, y, my, k, lk, rfl⟩ := below_idx m
      have mp := zip_mem1 mq
      have pw := c.parts_weight
      have ms := mem_sum mp
      have pl := Cnd.parts_60 ok
      have zl : (c.parts.zip (c.plains p)).length ≤ c.parts.length := by rw [List.length_zip]; omega
      intro i mi
      rcases List.mem_cons.mp mi with rfl | mi
      · omega
      · exact places_idx n q.1 q.2 (Cnd.parts_ok ok _ mp) (by omega) y my i mi
theorem fin_places {ns : List Str} {n : Nat} {c : Cnd} (ok : c.ok ns) (wt : c.weight ≤ 5000000) (f : Plc → Bool) : Fin2L (placesD n c f) 1 ((8 * n + 5) * ((Cnd.placesN n c true).filter f).length) := by
  have h := fin_many (n := 1) (m := 8 * n + 3) (ds := placesD n c f) fun d m => by
    obtain ⟨z, mz, rfl⟩ := List.mem_map.mp m
    have mz := (List.mem_filter.mp mz).1
    exact (fin_ad (places_idx n c true ok wt z mz)).mono (Nat.le_refl _) (by have := places_addr n c true z mz; omega)
  refine h.mono (Nat.le_refl _) ?_
  rw [placesD, List.length_map]; exact Nat.le_refl _
section
variable {X : Cx}
def rShowL (K : PySem.W.Frag) : List V → Hp → VK → Prop := fun xs H Q => ∃ v d, xs = [v] ∧ Dp K H v d ∧ d.showable = true ∧ d.hasDict = false ∧ d.depth ≤ 100 ∧ d.shown.length ≤ 16000000 ∧ Q (.str d.shown) H
theorem call_showL (qu : Quiet X.A) (hu : X.A.units + 200 < cLine) : CallR X (.builtin "repr") (rShowL X.K) := by
  rintro pins s σ H xs us Q I rv ⟨v, d, rfl, hd, h1, h2, h3, h4, q⟩
  obtain ⟨u, rfl, ru⟩ := vals1 rv
  obtain ⟨as, rd⟩ := Dp.reads I d v u hd ru
  have sz : d.shown.length ≤ sizeLine := Nat.le_trans h4 (by rw [sizeLine_eq]; decide)
  have fin : ∀ h' t tk, (∀ b o, s.heap.get? b = some o → h'.get? b = some o) → EP X pins σ Q (.str d.shown t) { s with heap := h', toks := tk } := fun h' t tk k => ⟨.str _, H, I.kept k, ⟨_, rfl⟩, q⟩
  cases hd with
  | non => obtain rfl : u = Value.none := ru; exact PySem.P.repr_of_none (fin s.heap _ _ fun _ _ e => e)
  | bl b =>
    obtain rfl : u = Value.bool b := ru
    refine PySem.P.repr_of_bool ?_
    have z := fin s.heap s.toks (s.toks + 1) fun _ _ e => e
    simp only [PyData.shown] at z
    cases b <;> exact z
  | int i => obtain ⟨t, rfl⟩ := ru; exact PySem.P.repr_of_int (of_decide_eq_true (by simpa only [PyData.showable] using h1)) (fin s.heap _ _ fun _ _ e => e)
  | str x => obtain ⟨t, rfl⟩ := ru; exact PySem.P.repr_of_str (fin s.heap _ _ fun _ _ e => e) sz
  | lst hs ha => obtain rfl : u = Value.ref _ := ru; exact repr_of_reads' rd h1 (PyData.noDict_hsm h2) qu (by omega) (fun _ _ e => e) (fun h' t tk k => fin h' t tk k) sz
  | tup hs ha => obtain rfl : u = Value.ref _ := ru; exact repr_of_reads' rd h1 (PyData.noDict_hsm h2) qu (by omega) (fun _ _ e => e) (fun h' t tk k => fin h' t tk k) sz
end
end Gx

set_option Elab.async false
set_option linter.all false
set_option maxRecDepth 100000
set_option maxHeartbeats 4000000
namespace K22
open PySem PySem.Spec PyProof.Rows L2 Evl Gx
abbrev s_l_alike : Stmt := topS 21
theorem sc_l_alike : FnScope ["_law_found_here", "_law_due_here"] ["_law_found_here", "_law_due_here"] (defScope s_l_alike) := ⟨rfl, rfl, rfl, by decide +kernel, rfl, by decide +kernel, by decide +kernel⟩
abbrev s_l_found : Stmt := topS 34
theorem sc_l_found : FnScope ["_law_condition", "_law_found_here"] ["_law_condition"] (defScope s_l_found) := ⟨rfl, rfl, rfl, by decide +kernel, rfl, by decide +kernel, by decide +kernel⟩
def spAlike2 (K : PySem.W.Frag) : Sp := fun vs H Q _ => ∃ (x y : V) (d : PyData), vs = [x, y] ∧ Dp K H x d ∧ Dp K H y d ∧ Fin2 d 64 16000000 ∧ Q (.bl true) H
/-- what is told of a condition: six lists and a number -/
structure FoundAt (K : PySem.W.Frag) (H0 H : Hp) (l : Addr) (d : PyData) : Prop where
  at_ : ∃ (as : List Addr) (m : Int), as.length = 6 ∧ H l = some (.lst (as.map V.ref ++ [.int m])) ∧ ∀ a ∈ as, H0 a = none ∧ ∃ xs, H a = some (.lst xs) ∧ xs.length ≤ 160000
  dp : Dp K H (.ref l) d
  new : H0 l = none
def spFound (K : PySem.W.Frag) (n : Nat) : Sp := fun vs H Q _ => ∃ (v : V) (c : Cnd) (ns : List Str), vs = [v] ∧ CndAt K H v c ∧ c.ok ns ∧ c.depth < n ∧ c.weight ≤ 3000000 ∧
  ∀ (l : Addr) (ts : List PyData) (cols : List Str) (m : Nat) (H' : Hp), Ex H H' → FoundAt K H H' l (dueD n c ts cols m) → UpOf ts ((testsN n c).map Cnd.data) → ColsOf n c cols → MaxOf n c m → Q (.ref l) H'
theorem ads_dp {K : PySem.W.Frag} {H : Hp} {us : List V} {qs : List (List Nat)} (p : Paired (AdAt K H) us qs) : DpAll K H us (qs.map adD) := by
  induction p with
  | nil => exact .nil
  | cons h _ ih =>
    obtain ⟨a, rfl, h2⟩ := h
    exact .cons (ad_dp h2) ih
theorem strs_dp {K : PySem.W.Frag} {H : Hp} : ∀ r : List Str, DpAll K H (r.map V.str) (r.map PyData.str)
  | [] => .nil
  | x :: r => .cons (.str x) (strs_dp r)
section
variable {P : Program} {w : World} {K : PySem.W.Frag} {mg : Str → Option Value} {base : Heap}
variable {f_parts f_addresses f_nodes f_leaves f_tests_in f_columns_in f_depth : Addr} {fd_parts fd_addresses fd_nodes fd_leaves fd_tests_in fd_columns_in fd_depth : FuncData}
theorem ok_lalike {f : Addr} {fd : FuncData} (D : Def K mg "_law_alike" s_l_alike f fd ["_law_found_here", "_law_due_here"]) (bi : Bi mg) :
    FnQ P w K mg base CX0 1 f fd ["_law_found_here", "_law_due_here"] (spAlike2 K) := by
  refine fnq_ok D.fn sc_l_alike (fun vs H Q E h => ?_) (fun cdv A outer s0 H vs Q E hr qu h => ?_)
  · obtain ⟨x, y, d, rfl, _⟩ := h
    rfl
  · obtain ⟨x, y, d, rfl, hx, hy, fin, k⟩ := h
    have hu64 := hr.units
    have hu2 : (A.deeper (envOfC "_law_alike" (defScope s_l_alike) s0.heap.objs.size f cdv)).units + 200 < cLine := by have := hr.un; omega
    refine ⟨_, (pss_one (ps_ret (pe_and (pe_cmpR (op_eqD hu64) (pv 0) (pv 1) (nomark _)) (pe_one (pe_cmpR op_eq (pe_callB (call_showL qu hu2) (by rfl) bi.repr bt_repr (pa_cons (pv 0) pa_nil)) (pe_callB (call_showL qu hu2) (by rfl) bi.repr bt_repr (pa_cons (pv 1) pa_nil)) (nomark _)))))), ?_⟩
    have sh : SeqAt.shaped d = true := by unfold SeqAt.shaped; rw [fin.lay, Bool.true_and]; exact decide_eq_true fin.deep
    have dd : d.hasDict = false := PyData.hasDict_of_canLay d fin.lay
    have dp : d.depth ≤ 100 := Nat.le_trans fin.deep (by decide)
    have ln : d.shown.length ≤ 16000000 := Nat.le_trans (shown_wide2 d fin.show_ dd) fin.wide
    refine ⟨_, rfl, _, rfl, d, d, hx, hy, sh, sh, _, rfl, ?_⟩
    rw [SeqAt.eqv_refl d fin.lay]
    refine iteT ⟨_, rfl, x, d, rfl, hx, fin.show_, dd, dp, ln, _, rfl, y, d, rfl, hy, fin.show_, dd, dp, ln, rfl, ?_⟩
    rw [decide_eq_true rfl]
    exact k
theorem ok_lfound {n : Nat} (n0 : n ≤ 1000) {f : Addr} {fd : FuncData} (D : Def K mg "_law_found" s_l_found f fd ["_law_condition"]) (bi : Bi mg)
    (D_parts : Def K mg "parts" s_parts f_parts fd_parts ["condition"])
    (G_parts : FnOk P w K mg base CX0 1 f_parts fd_parts ["condition"] (spParts K))
    (D_addresses : Def K mg "addresses" s_addresses f_addresses fd_addresses ["condition"])
    (G_addresses : FnOk P w K mg base CX0 (n + 4) f_addresses fd_addresses ["condition"] (spAddrs K n fun _ => true))
    (D_nodes : Def K mg "nodes" s_nodes f_nodes fd_nodes ["condition"])
    (G_nodes : FnOk P w K mg base CX0 (n + 4) f_nodes fd_nodes ["condition"] (spAddrs K n (kindIn (["all", "any"] : List Str))))
    (D_leaves : Def K mg "leaves" s_leaves f_leaves fd_leaves ["condition"])
    (G_leaves : FnOk P w K mg base CX0 (n + 4) f_leaves fd_leaves ["condition"] (spAddrs K n (kindIn (["always", "asks", "empty", "number"] : List Str))))
    (D_tests_in : Def K mg "tests_in" s_tests_in f_tests_in fd_tests_in ["condition"])
    (G_tests_in : FnOk P w K mg base CX0 3 f_tests_in fd_tests_in ["condition"] (spTestsIn K n))
    (D_columns_in : Def K mg "columns_in" s_columns_in f_columns_in fd_columns_in ["condition"])
    (G_columns_in : FnOk P w K mg base CX0 4 f_columns_in fd_columns_in ["condition"] (spColumnsIn K n))
    (D_depth : Def K mg "depth" s_depth f_depth fd_depth ["condition"])
    (G_depth : FnOk P w K mg base CX0 (n + 5) f_depth fd_depth ["condition"] (spDepth K n)) :
    FnOk P w K mg base CX0 (n + 6) f fd ["_law_condition"] (spFound K n) := by
  refine D.fn.ok sc_l_found (fun vs H Q E h => ?_) (fun cdv A outer s0 H vs Q E hr h => ?_)
  · obtain ⟨v, c, ns, rfl, _⟩ := h
    rfl
  · obtain ⟨v, c, ns, rfl, hv, ok, dp, wt, k⟩ := h
    refine ⟨_, (pss_cons (ps_set (i := 1) sc_l_found.nd rfl (Or.inl rfl) (pe_lst (pa_cons (pe_call G_parts (hr.mono (by first | decide | omega)) rfl D_parts.mg D_parts.fn.kp D_parts.bd .nil pass0 (pa_cons (pv 0) pa_nil)) (pa_cons (pe_call G_addresses (hr.mono (by first | decide | omega)) rfl D_addresses.mg D_addresses.fn.kp D_addresses.bd .nil pass0 (pa_cons (pv 0) pa_nil)) (pa_cons (pe_call G_nodes (hr.mono (by first | decide | omega)) rfl D_nodes.mg D_nodes.fn.kp D_nodes.bd .nil pass0 (pa_cons (pv 0) pa_nil)) (pa_cons (pe_call G_leaves (hr.mono (by first | decide | omega)) rfl D_leaves.mg D_leaves.fn.kp D_leaves.bd .nil pass0 (pa_cons (pv 0) pa_nil)) (pa_cons (pe_call G_tests_in (hr.mono (by first | decide | omega)) rfl D_tests_in.mg D_tests_in.fn.kp D_tests_in.bd .nil pass0 (pa_cons (pv 0) pa_nil)) pa_nil)))))))
  (pss_one (ps_ret (pe_op op_cat (pv 1) (pe_lst (pa_cons (pe_call G_columns_in (hr.mono (by first | decide | omega)) rfl D_columns_in.mg D_columns_in.fn.kp D_columns_in.bd .nil pass0 (pa_cons (pv 0) pa_nil)) (pa_cons (pe_call G_depth (hr.mono (by first | decide | omega)) rfl D_depth.mg D_depth.fn.kp D_depth.bd .nil pass0 (pa_cons (pv 0) pa_nil)) pa_nil))))))), ?_⟩
    have pb := Cnd.places_len n c true
    refine ⟨_, rfl, v, c, ns, rfl, hv, ok, by omega, fun l1 u1 H1 e1 n1 h1 c1 => ?_⟩
    refine ⟨_, rfl, v, c, ns, rfl, hv.to e1, ok, dp, by omega, fun l2 u2 H2 e2 n2 h2 c2 => ?_⟩
    have x2 := e1.trans e2
    refine ⟨_, rfl, v, c, ns, rfl, hv.to x2, ok, dp, by omega, fun l3 u3 H3 e3 n3 h3 c3 => ?_⟩
    have x3 := x2.trans e3
    refine ⟨_, rfl, v, c, ns, rfl, hv.to x3, ok, dp, by omega, fun l4 u4 H4 e4 n4 h4 c4 => ?_⟩
    have x4 := x3.trans e4
    refine ⟨_, rfl, v, c, ns, rfl, hv.to x4, ok, dp, by omega, fun l5 u5 ls H5 e5 n5 h5 c5 T => ?_⟩
    have x5 := x4.trans e5
    refine ⟨sz5, fun F nF => ?_⟩
    have xF : Ex H5 (upd H5 F (.lst [.ref l1, .ref l2, .ref l3, .ref l4, .ref l5])) := Ex.new nF
    have x6 := x5.trans xF
    refine ⟨_, rfl, _, rfl, v, c, ns, rfl, hv.to x6, ok, dp, by omega, fun l6 r H6 e6 n6 h6 od => ?_⟩
    have x7 := x6.trans e6
    refine ⟨_, rfl, v, c, ns, rfl, hv.to x7, ok, dp, by omega, fun m H7 e7 mx top => ⟨sz2, fun G nG => ?_⟩⟩
    have xG : Ex H7 (upd H7 G (.lst [.ref l6, .int m])) := Ex.new nG
    have x8 := x7.trans e7
    refine ⟨F, G, _, _, rfl, rfl, xG _ _ (e7 _ _ (e6 _ _ upd_same)), upd_same, by rw [sizeLine_eq]; simp, fun l nl => ?_⟩
    have xl : Ex (upd H7 G (.lst [.ref l6, .int m])) (upd (upd H7 G (.lst [.ref l6, .int m])) l (.lst ([.ref l1, .ref l2, .ref l3, .ref l4, .ref l5] ++ [.ref l6, .int m]))) := Ex.new nl
    have y6 : Ex H6 _ := e7.trans (xG.trans xl)
    have y5 := (xF.trans e6).trans y6
    have y4 := e5.trans y5
    have y3 := e4.trans y4
    have y2 := e3.trans y3
    have y1 := e2.trans y2
    have z := e1.trans y1
    refine k l (ls.map Gx.Leaf.data) r m _ z ⟨⟨[l1, l2, l3, l4, l5, l6], m, rfl, upd_same, ?_⟩, ?_, fresh_back (x8.trans xG) nl⟩ ⟨T.up, T.mem⟩ od ⟨mx, top⟩
    · have b1 := cnds_len c1
      have b2 := Paired.length c2
      have b3 := Paired.length c3
      have b4 := Paired.length c4
      have b5 := cnds_len c5
      have q1 := Cnd.parts_60 ok
      have wl := testsN_w n c ok
      have fl : ∀ f : Plc → Bool, ((Cnd.placesN n c true).filter f).length ≤ (Cnd.placesN n c true).length := fun f => List.length_filter_le _ _
      have q2 := fl fun _ => true
      have q3 := fl (kindIn (["all", "any"] : List Str))
      have q4 := fl (kindIn (["always", "asks", "empty", "number"] : List Str))
      rw [List.length_map] at b2 b3 b4 b5
      have lT : (ls.map Gx.Leaf.data).length ≤ ((testsN n c).map Cnd.data).length := nodup_le (T.up.imp ltD_ne) fun d m => (T.mem d).mp m
      rw [List.length_map, List.length_map] at lT
      have lr : r.length ≤ ((testsN n c).map colC).length := nodup_le (od.up.imp fun h e => by rw [e] at h; exact absurd h (List.lt_irrefl _)) fun x mx => by
        obtain ⟨d, md, hc⟩ := (od.mem x).mp mx
        exact List.mem_map.mpr ⟨_, md, by simp [colC, hc]⟩
      rw [List.length_map] at lr
      intro a ma
      simp only [List.mem_cons, List.not_mem_nil, or_false] at ma
      rcases ma with rfl | rfl | rfl | rfl | rfl | rfl
      · exact ⟨n1, u1, y1 _ _ h1, by omega⟩
      · exact ⟨fresh_back e1 n2, u2, y2 _ _ h2, by omega⟩
      · exact ⟨fresh_back x2 n3, u3, y3 _ _ h3, by omega⟩
      · exact ⟨fresh_back x3 n4, u4, y4 _ _ h4, by omega⟩
      · exact ⟨fresh_back x4 n5, u5, y5 _ _ h5, by omega⟩
      · exact ⟨fresh_back x6 n6, _, y6 _ _ h6, by rw [List.length_map]; omega⟩
    · refine .lst (SqL.of upd_same) (.cons (.lst (SqL.of (y1 _ _ h1)) ?_) (.cons (.lst (SqL.of (y2 _ _ h2)) ?_) (.cons (.lst (SqL.of (y3 _ _ h3)) ?_) (.cons (.lst (SqL.of (y4 _ _ h4)) ?_) (.cons (.lst (SqL.of (y5 _ _ h5)) ?_) (.cons (.lst (SqL.of (y6 _ _ h6)) (strs_dp r)) (.cons (.int _) .nil)))))))
      · rw [← Cnd.dataL_map]; exact cndsAt_dp _ _ (c1.to y1)
      · have := ads_dp (L2.Paired.mapP c2 fun _ _ q => q.toI (.of y2)); rw [List.map_map] at this; exact this
      · have := ads_dp (L2.Paired.mapP c3 fun _ _ q => q.toI (.of y3)); rw [List.map_map] at this; exact this
      · have := ads_dp (L2.Paired.mapP c4 fun _ _ q => q.toI (.of y4)); rw [List.map_map] at this; exact this
      · have := cndsAt_dp _ _ (c5.to y5)
        rw [Cnd.dataL_map, List.map_map] at this; exact this
end
end K22

set_option Elab.async false
set_option linter.all false
set_option maxRecDepth 100000
set_option maxHeartbeats 4000000
namespace K22
open PySem PySem.Spec PyProof.Rows L2 Evl Gx
abbrev s_law : Stmt := topS 36
theorem sc_law : FnScope ["_law_script", "_law_bag_here", "_law_turn", "_law_condition", "_law_said", "_law_due_here", "_law_again", "_law_found_here", "_law_some"] ["_law_script"] (defScope s_law) := ⟨rfl, rfl, rfl, by decide +kernel, rfl, by decide +kernel, by decide +kernel⟩
def spLaw (K : PySem.W.Frag) : Sp := fun vs H Q _ => ∃ (a : Addr) (ns : List Int), vs = [.ref a] ∧ SqL K H a (ns.map V.int) ∧ ns.length ≤ 63 ∧ ∀ H', Q (.bl true) H'
def nmL : List Str := ["n", "m", "case"]
theorem nm_nm : ∀ n ∈ nmL, Nm n := by
  have : ∀ n ∈ nmL, PyData.strOk n = true ∧ (reprText n).length ≤ 100 := by decide +kernel
  exact fun n h => ⟨(this n h).1, (this n h).2⟩
theorem filter_two {α : Type} {f g : α → Bool} (no : ∀ z, f z = true → g z = true → False) : ∀ L : List α, (L.filter f).length + (L.filter g).length ≤ L.length
  | [] => by simp
  | x :: L => by
    have ih := filter_two no L
    rw [List.filter_cons, List.filter_cons]
    rcases e : f x with _ | _
    · rcases e2 : g x with _ | _ <;> simp <;> omega
    · rcases e2 : g x with _ | _
      · simp; omega
      · exact (no x e e2).elim
theorem fin_cnds {ns : List Str} (hn : ∀ n ∈ ns, Nm n) : ∀ {cs : List Cnd}, (∀ c ∈ cs, c.ok ns ∧ c.depth ≤ 18) → Fin2L (cs.map Cnd.data) 60 ((cs.map Cnd.weight).sum + 2 * cs.length)
  | [], _ => by simpa using fin_nil 60
  | c :: cs, h => by
    obtain ⟨ok, dp⟩ := h c List.mem_cons_self
    have t := fin_cnds hn (cs := cs) fun x m => h x (List.mem_cons_of_mem _ m)
    have f := (fit_cnd hn c ok).fin
    refine (fin_cons (f.mono (n' := 60) (by omega) (Nat.le_refl _)) t).mono (Nat.le_refl _) ?_
    simp only [List.map_cons, List.sum_cons, List.length_cons]; omega
theorem col_in {l : Gx.Leaf} {x : Str} {ns : List Str} (h : colOf l = some x) (ok : l.ok ns) : x ∈ ns := by
  cases l <;> simp only [colOf, Option.some.injEq, reduceCtorEq] at h <;> subst h
  · exact ok
  · exact ok
  · exact ok.1
theorem fin_due {c : Cnd} {ts : List PyData} {cols : List Str} {m : Nat} (ok : c.ok nmL) (dp : c.depth < 7) (wt : c.weight ≤ 3000000) (U : UpOf ts ((testsN 7 c).map Cnd.data)) (C : ColsOf 7 c cols) (M : MaxOf 7 c m) : Fin2 (dueD 7 c ts cols m) 64 16000000 := by
  have pb := Cnd.places_len 7 c true
  have q1 := Cnd.parts_60 ok
  have pw := c.parts_weight
  have wl := testsN_w 7 c ok
  have lT : ts.length ≤ (testsN 7 c).length := by
    have := nodup_le (U.up.imp ltD_ne) fun d m => (U.mem d).mp m
    rwa [List.length_map] at this
  have lr : cols.length ≤ (testsN 7 c).length := by
    have := nodup_le (D := (testsN 7 c).map colC) (C.up.imp fun h e => by rw [e] at h; exact absurd h (List.lt_irrefl _)) fun x mx => by
      obtain ⟨d, md, hc⟩ := (C.mem x).mp mx
      exact List.mem_map.mpr ⟨_, md, by simp [colC, hc]⟩
    rwa [List.length_map] at this
  have two := filter_two (f := kindIn (["all", "any"] : List Str)) (g := kindIn (["always", "asks", "empty", "number"] : List Str)) (fun z h k => by
    have h := of_decide_eq_true h
    have k := of_decide_eq_true k
    have : ∀ x ∈ (["all", "any"] : List Str), x ∉ (["always", "asks", "empty", "number"] : List Str) := by decide +kernel
    exact this _ h k) (Cnd.placesN 7 c true)
  have one : ((Cnd.placesN 7 c true).filter fun _ => true).length ≤ (Cnd.placesN 7 c true).length := List.length_filter_le _ _
  have f1 := fin_cnds nm_nm (cs := c.parts) fun p mp => ⟨Cnd.parts_ok ok p mp, by have := Cnd.parts_depth mp; omega⟩
  have f2 := fin_places ok (by omega) (n := 7) fun _ => true
  have f3 := fin_places ok (by omega) (n := 7) (kindIn (["all", "any"] : List Str))
  have f4 := fin_places ok (by omega) (n := 7) (kindIn (["always", "asks", "empty", "number"] : List Str))
  have f5 := fin_many (n := 6) (m := 200000) (ds := ts) fun d md => by
    obtain ⟨t, mt, rfl⟩ := List.mem_map.mp ((U.mem d).mp md)
    obtain ⟨l, x, rfl, _, lok⟩ := testsN_mem 7 c nmL ok t mt
    exact (fit_leaf nm_nm lok).fin
  have f6 := fin_many (n := 0) (m := 100) (ds := cols.map PyData.str) fun d md => by
    obtain ⟨x, mx, rfl⟩ := List.mem_map.mp md
    obtain ⟨d, md, hc⟩ := (C.mem x).mp mx
    obtain ⟨l, y, e, hc2, lok⟩ := testsN_mem 7 c nmL ok _ md
    cases e
    exact (fit_str (nm_nm x (col_in hc lok))).fin
  obtain ⟨⟨z, mz, rfl⟩, _⟩ := M
  have f7 := fin_short (i := (z.1.length : Int)) (by have := places_addr 7 c true z mz; omega)
  rw [List.length_map] at f6
  unfold dueD
  have up : ∀ {d : PyData} {n m : Nat}, Fin2 d n m → n ≤ 63 → Fin2 d 63 m := fun h l => h.mono l (Nat.le_refl _)
  refine (fin_lst (fin_cons (up (fin_lst f1) (by omega)) (fin_cons (up (fin_lst f2) (by omega)) (fin_cons (up (fin_lst f3) (by omega)) (fin_cons (up (fin_lst f4) (by omega)) (fin_cons (up (fin_lst f5) (by omega)) (fin_cons (up (fin_lst f6) (by omega)) (fin_cons (up f7 (by omega)) (fin_nil 63))))))))).mono (Nat.le_refl _) ?_
  have e1 : (8 * 7 + 5) = 61 := rfl
  simp only [e1]
  omega
theorem due_one {c : Cnd} {n : Nat} {ts ts' : List PyData} {cols cols' : List Str} {m m' : Nat} (U : UpOf ts ((testsN n c).map Cnd.data)) (C : ColsOf n c cols) (M : MaxOf n c m) (U' : UpOf ts' ((testsN n c).map Cnd.data)) (C' : ColsOf n c cols') (M' : MaxOf n c m') : dueD n c ts cols m = dueD n c ts' cols' m' := by
  have e1 := up_one U.up U'.up fun d => (U.mem d).trans (U'.mem d).symm
  have e2 := Ords.one C C'
  have e3 : m = m' := by
    obtain ⟨⟨z, mz, e⟩, t⟩ := M
    obtain ⟨⟨z', mz', e'⟩, t'⟩ := M'
    have := t z' mz'
    have := t' z mz
    omega
  rw [e1, e2, e3]
end K22

set_option Elab.async false
set_option linter.all false
set_option maxRecDepth 100000
set_option maxHeartbeats 4000000
namespace K22
open PySem PySem.Spec PyProof.Rows L2 Evl Gx
abbrev s_l_test : Stmt := topS 25
theorem sc_l_test : FnScope ["_law_bag_here", "_law_names", "_law_name", "_law_way", "_law_steps", "_law_k"] ["_law_bag_here", "_law_names"] (defScope s_l_test) := ⟨rfl, rfl, rfl, by decide +kernel, rfl, by decide +kernel, by decide +kernel⟩
abbrev s_l_leaf : Stmt := topS 26
theorem sc_l_leaf : FnScope ["_law_bag_here", "_law_names"] ["_law_bag_here", "_law_names"] (defScope s_l_leaf) := ⟨rfl, rfl, rfl, by decide +kernel, rfl, by decide +kernel, by decide +kernel⟩
def spTest (K : PySem.W.Frag) : Sp := fun vs H Q _ => ∃ (b l : Addr) (ns : List Str), vs = [.ref b, .ref l] ∧ Bag H b ∧ SqL K H l (ns.map V.str) ∧
  0 < ns.length ∧ ns.length ≤ 100 ∧ ∀ v lf H', Ex H H' → Leaf.ok ns lf → LeafAt K H' v lf → Q v H'
theorem sz6 : (6 : Nat) ≤ sizeLine := by decide
theorem name_in {ns : List Str} {x : V} (h : x ∈ ns.map V.str) : ∃ n ∈ ns, x = .str n := by
  obtain ⟨n, h1, h2⟩ := List.mem_map.mp h
  exact ⟨n, h1, h2.symm⟩
section
variable {P : Program} {w : World} {K : PySem.W.Frag} {mg : Str → Option Value} {base : Heap}
variable {f_l_take f_l_one f_l_step f_l_test : Addr} {fd_l_take fd_l_one fd_l_step fd_l_test : FuncData}
theorem ok_test {f : Addr} {fd : FuncData} (D : Def K mg "_law_test" s_l_test f fd ["_law_bag_here", "_law_names"]) (bi : Bi mg)
    (D_l_take : Def K mg "_law_take" s_l_take f_l_take fd_l_take ["_law_bag_here", "_law_many"])
    (G_l_take : FnOk P w K mg base CX0 1 f_l_take fd_l_take ["_law_bag_here", "_law_many"] spTake)
    (D_l_one : Def K mg "_law_one" s_l_one f_l_one fd_l_one ["_law_bag_here", "_law_things"])
    (G_l_one : FnOk P w K mg base CX0 2 f_l_one fd_l_one ["_law_bag_here", "_law_things"] (spOne K))
    (D_l_step : Def K mg "_law_step" s_l_step f_l_step fd_l_step ["_law_bag_here"])
    (G_l_step : FnOk P w K mg base CX0 3 f_l_step fd_l_step ["_law_bag_here"] (spStep K)) :
    FnOk P w K mg base CX0 4 f fd ["_law_bag_here", "_law_names"] (spTest K) := by
  refine D.fn.ok sc_l_test (fun vs H Q E h => ?_) (fun cdv A outer s0 H vs Q E hr h => ?_)
  · obtain ⟨b, l, ns, rfl, _⟩ := h
    rfl
  · obtain ⟨b, l, ns, rfl, hb, hl, n0, n1, k⟩ := h
    refine ⟨_, (pss_cons (ps_par (i := 2) (j := 3) rfl sc_l_test.nd rfl rfl (by decide) rfl rfl (pa_cons (pe_call G_l_one (hr.mono (by first | decide | omega)) rfl D_l_one.mg D_l_one.fn.kp D_l_one.bd .nil pass0 (pa_cons (pv 0) (pa_cons (pv 1) pa_nil))) (pa_cons (pe_call G_l_take (hr.mono (by first | decide | omega)) rfl D_l_take.mg D_l_take.fn.kp D_l_take.bd .nil pass0 (pa_cons (pv 0) (pa_cons pe_int pa_nil))) pa_nil)) (by rfl))
  (pss_cons (ps_if (pt_cmpR op_lt (pv 3) pe_int (nomark _))
    (pss_one (ps_ret (pe_tup (pa_cons (pe_ix ix_list (pe_lst (pa_cons pe_str (pa_cons pe_str pa_nil))) (pv 3) (fun _ _ => rfl)) (pa_cons (pv 2) pa_nil)))))
    pss_nil)
  (pss_cons (ps_set (i := 4) sc_l_test.nd rfl (Or.inl rfl) (pe_tup pa_nil))
  (Evl.pss_cut (ps_if (pt_cmpR op_gt (pv 3) pe_int (nomark _))
    (pss_one (ps_set (i := 4) sc_l_test.nd rfl (Or.inl rfl) (pe_tup (pa_cons (pe_tup (pa_cons pe_str (pa_cons (pe_op op_sub (pe_call G_l_take (hr.mono (by first | decide | omega)) rfl D_l_take.mg D_l_take.fn.kp D_l_take.bd .nil pass0 (pa_cons (pv 0) (pa_cons pe_int pa_nil))) pe_int) pa_nil))) (pa_cons (pe_tup (pa_cons pe_str (pa_cons (pe_op op_sub (pe_call G_l_take (hr.mono (by first | decide | omega)) rfl D_l_take.mg D_l_take.fn.kp D_l_take.bd .nil pass0 (pa_cons (pv 0) (pa_cons pe_int pa_nil))) pe_int) pa_nil))) pa_nil)))))
    pss_nil)
  (Evl.pss_cut (ps_if (pt_cmpR op_gt (pv 3) pe_int (nomark _))
    (pss_one (ps_set (i := 4) sc_l_test.nd rfl (Or.inl rfl) (pe_callTy call_tupX (by rfl) bi.tuple bt_tuple (pa_cons (pe_lc (own := [("_law_k", 5)]) rfl sc_l_test.nd (pi_range1 rfl bi.range (pa_cons (pe_op op_add pe_int (pe_call G_l_take (hr.mono (by first | decide | omega)) rfl D_l_take.mg D_l_take.fn.kp D_l_take.bd .nil pass0 (pa_cons (pv 0) (pa_cons pe_int pa_nil)))) pa_nil)) (blkOk_by (N := ["_law_bag_here", "_law_names", "_law_name", "_law_way", "_law_steps", "_law_k"]) (sc := defScope s_l_test) (by decide +kernel)) (fun _ _ _ _ _ => (pg_name (i := 5) sc_l_test.nd rfl (Or.inl rfl))) (fun _ _ _ _ _ => pts_nil) (fun _ _ _ _ _ => (pe_call G_l_step (hr.mono (by first | decide | omega)) rfl D_l_step.mg D_l_step.fn.kp D_l_step.bd .nil pass0 (pa_cons (pv 0) pa_nil)))) pa_nil))))
    pss_nil)
  (pss_one (ps_ret (pe_tup (pa_cons pe_str (pa_cons (pv 2) (pa_cons (pv 4) (pa_cons (pe_call G_l_one (hr.mono (by first | decide | omega)) rfl D_l_one.mg D_l_one.fn.kp D_l_one.bd .nil pass0 (pa_cons (pv 0) (pa_cons (pe_lst (pa_cons pe_str (pa_cons pe_str (pa_cons pe_str (pa_cons pe_str (pa_cons pe_str (pa_cons pe_str pa_nil))))))) pa_nil))) (pa_cons (pe_op op_sub (pe_call G_l_take (hr.mono (by first | decide | omega)) rfl D_l_take.mg D_l_take.fn.kp D_l_take.bd .nil pass0 (pa_cons (pv 0) (pa_cons pe_int pa_nil))) pe_int) pa_nil))))))))))))), ?_⟩
    refine ⟨_, rfl, _, rfl, b, l, _, rfl, hb, hl, by rw [List.length_map]; omega, by rw [List.length_map]; omega, fun x hx => ?_⟩
    obtain ⟨n, hn, rfl⟩ := name_in hx
    refine ⟨_, rfl, b, 10, rfl, hb, by decide, by decide, fun way w0 w1 => ⟨_, _, rfl, ?_⟩⟩
    refine ⟨_, rfl, way, 2, rfl, rfl, _, rfl, if_d (fun h2 => ?_) (fun h2 => ?_)⟩
    · refine ⟨sz2, fun p np => ⟨_, rfl, p, _, way, if way = 0 then .str "empty" else .str "number", rfl, rfl, SqL.of upd_same, ?_, _, rfl, sz2, fun t nt => ?_⟩⟩
      · rcases (by omega : way = 0 ∨ way = 1) with rfl | rfl <;> rfl
      · rcases (by omega : way = 0 ∨ way = 1) with rfl | rfl
        · exact k _ (.empty n) _ ((Ex.new np).trans (Ex.new nt)) hn ⟨t, rfl, SqT.of upd_same⟩
        · exact k _ (.number n) _ ((Ex.new np).trans (Ex.new nt)) hn ⟨t, rfl, SqT.of upd_same⟩
    · refine ⟨by decide, fun e0 ne0 => ?_⟩
      have x0 := Ex.new (o := .tup []) ne0
      have q0 : upd H e0 (.tup []) e0 = some (.tup []) := upd_same
      generalize upd H e0 (.tup []) = H0 at x0 q0 ⊢
      refine ⟨fun σ H' => ∃ (c : Addr) (ws : List V) (ss : List Stp), σ = [some (.ref b), some (.ref l), some (.str n), some (.int way), some (.ref c), none] ∧ Ex H H' ∧
        SqT K H' c ws ∧ StpsAt K H' ws ss ∧ (∀ s ∈ ss, Stp.ok s) ∧ ss.length ≤ 4, ?_, fun σ H1 m => ?_⟩
      · refine ⟨_, rfl, way, 4, rfl, rfl, _, rfl, if_d (fun h4 => ?_) (fun h4 => ?_)⟩
        · refine ⟨_, rfl, b, 7, rfl, hb.to x0, by decide, by decide, fun y y0 y1 => ⟨y, 3, rfl, rfl, sz2, fun t1 n1 => ?_⟩⟩
          have x1 := ex_upd (o := .tup [.str "plus", .int (y - 3)]) x0 n1
          have u1 : upd H0 t1 (.tup [.str "plus", .int (y - 3)]) t1 = some (.tup [.str "plus", .int (y - 3)]) := upd_same
          generalize upd H0 t1 (.tup [.str "plus", .int (y - 3)]) = H1 at x1 u1 ⊢
          refine ⟨_, rfl, b, 9, rfl, hb.to x1, by decide, by decide, fun z z0 z1 => ⟨z, 4, rfl, rfl, sz2, fun t2 n2 => ?_⟩⟩
          have x2 := ex_upd (o := .tup [.str "over", .int (z - 4)]) x1 n2
          have u2 : upd H1 t2 (.tup [.str "over", .int (z - 4)]) t2 = some (.tup [.str "over", .int (z - 4)]) := upd_same
          have v2 := (Ex.new (o := .tup [.str "over", .int (z - 4)]) n2) _ _ u1
          generalize upd H1 t2 (.tup [.str "over", .int (z - 4)]) = H2 at x2 u2 v2 ⊢
          refine ⟨sz2, fun t3 n3 => ?_⟩
          have e3 := Ex.new (o := .tup [.ref t1, .ref t2]) n3
          refine ⟨t3, [.ref t1, .ref t2], [.plus (y - 3), .over (z - 4)], rfl, x2.trans e3, SqT.of upd_same, .cons ⟨t1, rfl, SqT.of (e3 _ _ v2)⟩ (.cons ⟨t2, rfl, SqT.of (e3 _ _ u2)⟩ .nil), ?_, by show 2 ≤ 4; decide⟩
          intro s hs
          rcases List.mem_cons.mp hs with rfl | hs
          · exact ⟨by omega, by omega⟩
          · rw [List.mem_singleton] at hs
            subst hs
            exact ⟨by omega, by omega⟩
        · exact ⟨e0, [], [], rfl, x0, SqT.of q0, .nil, by simp, by decide⟩
      · obtain ⟨c, ws, ss, rfl, x1, hc, hst, ho, hl4⟩ := m
        refine ⟨fun σ H' => ∃ (c : Addr) (ws : List V) (ss : List Stp), σ = [some (.ref b), some (.ref l), some (.str n), some (.int way), some (.ref c), none] ∧ Ex H H' ∧
          SqT K H' c ws ∧ StpsAt K H' ws ss ∧ (∀ s ∈ ss, Stp.ok s) ∧ ss.length ≤ 4, ?_, fun σ H2 m => ?_⟩
        · refine ⟨_, rfl, way, 7, rfl, rfl, _, rfl, if_d (fun h4 => ?_) (fun h4 => ?_)⟩
          · refine ⟨_, rfl, b, 3, rfl, hb.to x1, by decide, by decide, fun y y0 y1 => ⟨1, y, rfl, rfl, ?_⟩⟩
            refine ⟨1 + y, rfl, by omega, by omega, fun d nd => ?_⟩
            have hm : (1 + y).toNat ≤ 3 := by omega
            refine lc_range (lo := 0) (n := (1 + y).toNat) (fun j H' => Ex H1 H' ∧ ∃ (ws : List V) (ss : List Stp), H' d = some (.lst ws) ∧ ss.length = j ∧ (∀ s ∈ ss, Stp.ok s) ∧ StpsAt K H' ws ss) ?_ ?_ ?_
            · exact ⟨Ex.new nd, [], [], upd_same, rfl, by simp, .nil⟩
            · rintro j H' hj ⟨e1, ws, ss, hw, hs, ho, hst⟩
              have wl : ws.length = j := by rw [Paired.length hst, hs]
              refine ⟨rfl, _, rfl, b, rfl, (hb.to x1).to e1, fun v s H2 e2 hos hv => ?_⟩
              have ei : ExI H2 (upd H2 d (.lst (ws ++ [v]))) := ExI.put (e2 _ _ hw) rfl
              refine ⟨ws, e2 _ _ hw, small (by omega), (e1.trans e2).mut nd, ws ++ [v], ss ++ [s], upd_same, by simp [hs], fun z hz => ?_, paired_app (stps_toI (stps_to hst e2) ei) (.cons (hv.toI ei) .nil)⟩
              rcases List.mem_append.mp hz with g | g
              · exact ho z g
              · rw [List.mem_singleton] at g; subst g; exact hos
            · rintro H2 ⟨e1, ws, ss, hw, hs, ho, hst⟩
              refine ⟨d, ws, rfl, SqL.of hw, fun t H3 nt e3 ht => ?_⟩
              exact ⟨t, ws, ss, rfl, (x1.trans e1).trans e3, ht.sq, stps_to hst e3, ho, by omega⟩
          · exact ⟨c, ws, ss, rfl, x1, hc, hst, ho, hl4⟩
        · obtain ⟨c, ws, ss, rfl, x1, hc, hst, ho, hl4⟩ := m
          refine ⟨_, rfl, _, rfl, _, rfl, sz6, fun p np => ?_⟩
          have x2 := ex_upd (o := .lst [.str "<", .str "<=", .str "<>", .str "=", .str ">", .str ">="]) x1 np
          have x12 := Ex.new (o := .lst [.str "<", .str "<=", .str "<>", .str "=", .str ">", .str ">="]) np
          refine ⟨b, p, _, rfl, hb.to x2, SqL.of upd_same, by show 0 < 6; decide, by show 6 < 100000; decide, fun x hx => ?_⟩
          have hsg : ∃ sg ∈ sgns, x = .str sg := by
            obtain ⟨sg, h1, h2⟩ := List.mem_map.mp (show x ∈ sgns.map V.str from hx)
            exact ⟨sg, h1, h2.symm⟩
          obtain ⟨sg, h1, rfl⟩ := hsg
          refine ⟨_, rfl, b, 9, rfl, hb.to x2, by decide, by decide, fun z z0 z1 => ⟨z, 4, rfl, rfl, sz5, fun t nt => ?_⟩⟩
          have x3 := x12.trans (Ex.new (o := .tup [.str "asks", .str n, .ref c, .str sg, .int (z - 4)]) nt)
          exact k _ (.asks n ss sg (z - 4)) _ (x1.trans x3) ⟨hn, ho, hl4, h1, by omega, by omega⟩ ⟨t, c, ws, rfl, SqT.of upd_same, ex_t x3 hc, stps_to hst x3⟩
theorem ok_leaf {f : Addr} {fd : FuncData} (D : Def K mg "_law_leaf" s_l_leaf f fd ["_law_bag_here", "_law_names"]) (bi : Bi mg)
    (D_l_take : Def K mg "_law_take" s_l_take f_l_take fd_l_take ["_law_bag_here", "_law_many"])
    (G_l_take : FnOk P w K mg base CX0 1 f_l_take fd_l_take ["_law_bag_here", "_law_many"] spTake)
    (D_l_one : Def K mg "_law_one" s_l_one f_l_one fd_l_one ["_law_bag_here", "_law_things"])
    (G_l_one : FnOk P w K mg base CX0 2 f_l_one fd_l_one ["_law_bag_here", "_law_things"] (spOne K))
    (D_l_test : Def K mg "_law_test" s_l_test f_l_test fd_l_test ["_law_bag_here", "_law_names"])
    (G_l_test : FnOk P w K mg base CX0 4 f_l_test fd_l_test ["_law_bag_here", "_law_names"] (spTest K)) :
    FnOk P w K mg base CX0 5 f fd ["_law_bag_here", "_law_names"] (spTest K) := by
  refine D.fn.ok sc_l_leaf (fun vs H Q E h => ?_) (fun cdv A outer s0 H vs Q E hr h => ?_)
  · obtain ⟨b, l, ns, rfl, _⟩ := h
    rfl
  · obtain ⟨b, l, ns, rfl, hb, hl, n0, n1, k⟩ := h
    refine ⟨_, (pss_cons (ps_if (pt_cmpR op_eq (pe_call G_l_take (hr.mono (by first | decide | omega)) rfl D_l_take.mg D_l_take.fn.kp D_l_take.bd .nil pass0 (pa_cons (pv 0) (pa_cons pe_int pa_nil))) pe_int (nomark _))
    (pss_one (ps_ret (pe_tup (pa_cons pe_str (pa_cons (pe_call G_l_one (hr.mono (by first | decide | omega)) rfl D_l_one.mg D_l_one.fn.kp D_l_one.bd .nil pass0 (pa_cons (pv 0) (pa_cons (pe_lst (pa_cons pe_str (pa_cons pe_str (pa_cons pe_str (pa_cons pe_str pa_nil))))) pa_nil))) pa_nil)))))
    pss_nil)
  (pss_one (ps_ret (pe_call G_l_test (hr.mono (by first | decide | omega)) rfl D_l_test.mg D_l_test.fn.kp D_l_test.bd .nil pass0 (pa_cons (pv 0) (pa_cons (pv 1) pa_nil)))))), ?_⟩
    refine ⟨_, rfl, b, 9, rfl, hb, by decide, by decide, fun way w0 w1 => ⟨rfl, _, rfl, if_d (fun h0 => ?_) (fun h0 => ?_)⟩⟩
    · refine ⟨_, rfl, sz4, fun p np => ?_⟩
      have x1 := Ex.new (o := .lst [.str "error", .str "no", .str "unknown", .str "yes"]) np
      refine ⟨b, p, _, rfl, hb.to x1, SqL.of upd_same, by show 0 < 4; decide, by show 4 < 100000; decide, fun x hx => ?_⟩
      obtain ⟨wd, h1, h2⟩ := List.mem_map.mp (show x ∈ words.map V.str from hx)
      subst h2
      exact ⟨sz2, fun t nt => k _ (.always wd) _ (x1.trans (Ex.new nt)) h1 ⟨t, rfl, SqT.of upd_same⟩⟩
    · exact ⟨_, rfl, _, rfl, b, l, ns, rfl, hb, hl, n0, n1, k⟩
end
end K22

set_option Elab.async false
set_option linter.all false
set_option maxRecDepth 100000
set_option maxHeartbeats 4000000
namespace K22
open PySem PySem.Spec PyProof.Rows L2 Evl Gx
abbrev s_l_small : Stmt := topS 27
theorem sc_l_small : FnScope ["_law_bag_here", "_law_names", "_law_way", "_law_leaf_here"] ["_law_bag_here", "_law_names"] (defScope s_l_small) := ⟨rfl, rfl, rfl, by decide +kernel, rfl, by decide +kernel, by decide +kernel⟩
def spSmall (K : PySem.W.Frag) : Sp := fun vs H Q _ => ∃ (b l : Addr) (ns : List Str), vs = [.ref b, .ref l] ∧ Bag H b ∧ SqL K H l (ns.map V.str) ∧
  0 < ns.length ∧ ns.length ≤ 100 ∧ ∀ v c H', Ex H H' → Cnd.ok ns c → c.depth ≤ 1 → c.weight ≤ 200100 → CndAt K H' v c → Q v H'
section
variable {P : Program} {w : World} {K : PySem.W.Frag} {mg : Str → Option Value} {base : Heap}
variable {f_l_take f_l_one f_l_leaf : Addr} {fd_l_take fd_l_one fd_l_leaf : FuncData}
theorem ok_small {f : Addr} {fd : FuncData} (D : Def K mg "_law_small" s_l_small f fd ["_law_bag_here", "_law_names"]) (bi : Bi mg)
    (D_l_take : Def K mg "_law_take" s_l_take f_l_take fd_l_take ["_law_bag_here", "_law_many"])
    (G_l_take : FnOk P w K mg base CX0 1 f_l_take fd_l_take ["_law_bag_here", "_law_many"] spTake)
    (D_l_one : Def K mg "_law_one" s_l_one f_l_one fd_l_one ["_law_bag_here", "_law_things"])
    (G_l_one : FnOk P w K mg base CX0 2 f_l_one fd_l_one ["_law_bag_here", "_law_things"] (spOne K))
    (D_l_leaf : Def K mg "_law_leaf" s_l_leaf f_l_leaf fd_l_leaf ["_law_bag_here", "_law_names"])
    (G_l_leaf : FnOk P w K mg base CX0 5 f_l_leaf fd_l_leaf ["_law_bag_here", "_law_names"] (spTest K)) :
    FnOk P w K mg base CX0 6 f fd ["_law_bag_here", "_law_names"] (spSmall K) := by
  refine D.fn.ok sc_l_small (fun vs H Q E h => ?_) (fun cdv A outer s0 H vs Q E hr h => ?_)
  · obtain ⟨b, l, ns, rfl, _⟩ := h
    rfl
  · obtain ⟨b, l, ns, rfl, hb, hl, n0, n1, k⟩ := h
    refine ⟨_, (pss_cons (ps_par (i := 2) (j := 3) rfl sc_l_small.nd rfl rfl (by decide) rfl rfl (pa_cons (pe_call G_l_take (hr.mono (by first | decide | omega)) rfl D_l_take.mg D_l_take.fn.kp D_l_take.bd .nil pass0 (pa_cons (pv 0) (pa_cons pe_int pa_nil))) (pa_cons (pe_call G_l_leaf (hr.mono (by first | decide | omega)) rfl D_l_leaf.mg D_l_leaf.fn.kp D_l_leaf.bd .nil pass0 (pa_cons (pv 0) (pa_cons (pv 1) pa_nil))) pa_nil)) (by rfl))
  (pss_cons (ps_if (pt_cmpR op_eq (pv 2) pe_int (nomark _))
    (pss_one (ps_ret (pe_call G_l_one (hr.mono (by first | decide | omega)) rfl D_l_one.mg D_l_one.fn.kp D_l_one.bd .nil pass0 (pa_cons (pv 0) (pa_cons (pe_lst (pa_cons (pe_tup (pa_cons pe_str (pa_cons (pe_tup pa_nil) pa_nil))) (pa_cons (pe_tup (pa_cons pe_str (pa_cons (pe_tup pa_nil) pa_nil))) (pa_cons (pe_tup (pa_cons pe_str (pa_cons (pe_tup pa_nil) pa_nil))) (pa_cons (pe_tup (pa_cons pe_str (pa_cons (pe_tup pa_nil) (pa_cons (pv 3) pa_nil)))) (pa_cons (pe_tup (pa_cons pe_str (pa_cons (pe_tup pa_nil) (pa_cons (pv 3) pa_nil)))) pa_nil)))))) pa_nil)))))
    pss_nil)
  (pss_cons (ps_if (pt_cmpR op_eq (pv 2) pe_int (nomark _))
    (pss_one (ps_ret (pe_call G_l_one (hr.mono (by first | decide | omega)) rfl D_l_one.mg D_l_one.fn.kp D_l_one.bd .nil pass0 (pa_cons (pv 0) (pa_cons (pe_lst (pa_cons (pe_tup (pa_cons pe_str (pa_cons (pv 3) pa_nil))) (pa_cons (pe_tup (pa_cons pe_str (pa_cons (pv 3) pa_nil))) (pa_cons (pe_tup (pa_cons pe_str (pa_cons (pe_tup (pa_cons (pv 3) pa_nil)) pa_nil))) (pa_cons (pe_tup (pa_cons pe_str (pa_cons (pe_tup (pa_cons (pv 3) pa_nil)) pa_nil))) (pa_cons (pe_tup (pa_cons pe_str (pa_cons (pe_tup (pa_cons (pv 3) pa_nil)) pa_nil))) pa_nil)))))) pa_nil)))))
    pss_nil)
  (pss_one (ps_ret (pv 3)))))), ?_⟩
    refine ⟨_, rfl, b, 12, rfl, hb, by decide, by decide, fun way w0 w1 => ⟨_, rfl, _, rfl, b, l, ns, rfl, hb, hl, n0, n1, fun v lf H0 x0 hok hv => ⟨_, _, rfl, ?_⟩⟩⟩
    refine ⟨_, rfl, rfl, _, rfl, if_d (fun h0 => ?_) (fun h0 => ⟨_, rfl, rfl, _, rfl, if_d (fun h1 => ?_) (fun h1 => ?_)⟩)⟩
    · clear h0
      refine ⟨_, rfl, by decide, fun a1 n1 => ?_⟩
      have X_H1 : Ex H0 (upd H0 a1 (.tup [])) := Ex.new n1
      have F_H1 : upd H0 a1 (.tup []) a1 = some (.tup []) := upd_same
      generalize upd H0 a1 (.tup []) = H1 at X_H1 F_H1 ⊢
      refine ⟨sz2, fun a2 n2 => ?_⟩
      have X_H2 : Ex H1 (upd H1 a2 (.tup [.str "all", .ref a1])) := Ex.new n2
      have F_H2 : upd H1 a2 (.tup [.str "all", .ref a1]) a2 = some (.tup [.str "all", .ref a1]) := upd_same
      generalize upd H1 a2 (.tup [.str "all", .ref a1]) = H2 at X_H2 F_H2 ⊢
      refine ⟨by decide, fun a3 n3 => ?_⟩
      have X_H3 : Ex H2 (upd H2 a3 (.tup [])) := Ex.new n3
      have F_H3 : upd H2 a3 (.tup []) a3 = some (.tup []) := upd_same
      generalize upd H2 a3 (.tup []) = H3 at X_H3 F_H3 ⊢
      refine ⟨sz2, fun a4 n4 => ?_⟩
      have X_H4 : Ex H3 (upd H3 a4 (.tup [.str "any", .ref a3])) := Ex.new n4
      have F_H4 : upd H3 a4 (.tup [.str "any", .ref a3]) a4 = some (.tup [.str "any", .ref a3]) := upd_same
      generalize upd H3 a4 (.tup [.str "any", .ref a3]) = H4 at X_H4 F_H4 ⊢
      refine ⟨by decide, fun a5 n5 => ?_⟩
      have X_H5 : Ex H4 (upd H4 a5 (.tup [])) := Ex.new n5
      have F_H5 : upd H4 a5 (.tup []) a5 = some (.tup []) := upd_same
      generalize upd H4 a5 (.tup []) = H5 at X_H5 F_H5 ⊢
      refine ⟨sz2, fun a6 n6 => ?_⟩
      have X_H6 : Ex H5 (upd H5 a6 (.tup [.str "first", .ref a5])) := Ex.new n6
      have F_H6 : upd H5 a6 (.tup [.str "first", .ref a5]) a6 = some (.tup [.str "first", .ref a5]) := upd_same
      generalize upd H5 a6 (.tup [.str "first", .ref a5]) = H6 at X_H6 F_H6 ⊢
      refine ⟨by decide, fun a7 n7 => ?_⟩
      have X_H7 : Ex H6 (upd H6 a7 (.tup [])) := Ex.new n7
      have F_H7 : upd H6 a7 (.tup []) a7 = some (.tup []) := upd_same
      generalize upd H6 a7 (.tup []) = H7 at X_H7 F_H7 ⊢
      refine ⟨_, rfl, sz3, fun a8 n8 => ?_⟩
      have X_H8 : Ex H7 (upd H7 a8 (.tup [.str "case", .ref a7, v])) := Ex.new n8
      have F_H8 : upd H7 a8 (.tup [.str "case", .ref a7, v]) a8 = some (.tup [.str "case", .ref a7, v]) := upd_same
      generalize upd H7 a8 (.tup [.str "case", .ref a7, v]) = H8 at X_H8 F_H8 ⊢
      refine ⟨by decide, fun a9 n9 => ?_⟩
      have X_H9 : Ex H8 (upd H8 a9 (.tup [])) := Ex.new n9
      have F_H9 : upd H8 a9 (.tup []) a9 = some (.tup []) := upd_same
      generalize upd H8 a9 (.tup []) = H9 at X_H9 F_H9 ⊢
      refine ⟨_, rfl, sz3, fun a10 n10 => ?_⟩
      have X_H10 : Ex H9 (upd H9 a10 (.tup [.str "case", .ref a9, v])) := Ex.new n10
      have F_H10 : upd H9 a10 (.tup [.str "case", .ref a9, v]) a10 = some (.tup [.str "case", .ref a9, v]) := upd_same
      generalize upd H9 a10 (.tup [.str "case", .ref a9, v]) = H10 at X_H10 F_H10 ⊢
      refine ⟨sz5, fun p np => ?_⟩
      have X_HL : Ex H10 (upd H10 p (.lst [.ref a2, .ref a4, .ref a6, .ref a8, .ref a10])) := Ex.new np
      have F_HL : upd H10 p (.lst [.ref a2, .ref a4, .ref a6, .ref a8, .ref a10]) p = some (.lst [.ref a2, .ref a4, .ref a6, .ref a8, .ref a10]) := upd_same
      generalize upd H10 p (.lst [.ref a2, .ref a4, .ref a6, .ref a8, .ref a10]) = HL at X_HL F_HL ⊢
      have E10 := X_HL
      have E9 := X_H10.trans E10
      have E8 := X_H9.trans E9
      have E7 := X_H8.trans E8
      have E6 := X_H7.trans E7
      have E5 := X_H6.trans E6
      have E4 := X_H5.trans E5
      have E3 := X_H4.trans E4
      have E2 := X_H3.trans E3
      have E1 := X_H2.trans E2
      have E0 := X_H1.trans E1
      refine ⟨b, p, _, rfl, (hb.to x0).to E0, SqL.of F_HL, by show 0 < 5; decide, by show 5 < 100000; decide, fun x hx => ?_⟩
      simp only [List.mem_cons, List.not_mem_nil, or_false] at hx
      rcases hx with rfl | rfl | rfl | rfl | rfl
      · exact k _ (.node "all" []) _ (x0.trans E0) ⟨by decide +kernel, trivial⟩ (by simp [Cnd.depth, Cnd.depthL]) (by simp [Cnd.weight, Cnd.weightL]) ⟨a2, a1, [], rfl, SqT.of (E2 _ _ F_H2), SqT.of (E1 _ _ F_H1), rfl⟩
      · exact k _ (.node "any" []) _ (x0.trans E0) ⟨by decide +kernel, trivial⟩ (by simp [Cnd.depth, Cnd.depthL]) (by simp [Cnd.weight, Cnd.weightL]) ⟨a4, a3, [], rfl, SqT.of (E4 _ _ F_H4), SqT.of (E3 _ _ F_H3), rfl⟩
      · exact k _ (.node "first" []) _ (x0.trans E0) ⟨by decide +kernel, trivial⟩ (by simp [Cnd.depth, Cnd.depthL]) (by simp [Cnd.weight, Cnd.weightL]) ⟨a6, a5, [], rfl, SqT.of (E6 _ _ F_H6), SqT.of (E5 _ _ F_H5), rfl⟩
      · exact k _ (.case [] [] (.leaf lf)) _ (x0.trans E0) ⟨rfl, trivial, trivial, hok⟩ (by simp [Cnd.depth, Cnd.depthL]) (by simp [Cnd.weight, Cnd.weightL]) ⟨a8, a7, [], [], [], v, rfl, SqT.of (E8 _ _ F_H8), SqT.of (E7 _ _ F_H7), trivial, rfl, rfl, leafAt_toI (ExI.of E0) hv⟩
      · exact k _ (.case [] [] (.leaf lf)) _ (x0.trans E0) ⟨rfl, trivial, trivial, hok⟩ (by simp [Cnd.depth, Cnd.depthL]) (by simp [Cnd.weight, Cnd.weightL]) ⟨a10, a9, [], [], [], v, rfl, SqT.of (E10 _ _ F_H10), SqT.of (E9 _ _ F_H9), trivial, rfl, rfl, leafAt_toI (ExI.of E0) hv⟩
    · clear h0 h1
      refine ⟨_, rfl, _, rfl, sz2, fun a1 n1 => ?_⟩
      have X_H1 : Ex H0 (upd H0 a1 (.tup [.str "not", v])) := Ex.new n1
      have F_H1 : upd H0 a1 (.tup [.str "not", v]) a1 = some (.tup [.str "not", v]) := upd_same
      generalize upd H0 a1 (.tup [.str "not", v]) = H1 at X_H1 F_H1 ⊢
      refine ⟨_, rfl, sz2, fun a2 n2 => ?_⟩
      have X_H2 : Ex H1 (upd H1 a2 (.tup [.str "not", v])) := Ex.new n2
      have F_H2 : upd H1 a2 (.tup [.str "not", v]) a2 = some (.tup [.str "not", v]) := upd_same
      generalize upd H1 a2 (.tup [.str "not", v]) = H2 at X_H2 F_H2 ⊢
      refine ⟨_, rfl, sz1, fun a3 n3 => ?_⟩
      have X_H3 : Ex H2 (upd H2 a3 (.tup [v])) := Ex.new n3
      have F_H3 : upd H2 a3 (.tup [v]) a3 = some (.tup [v]) := upd_same
      generalize upd H2 a3 (.tup [v]) = H3 at X_H3 F_H3 ⊢
      refine ⟨sz2, fun a4 n4 => ?_⟩
      have X_H4 : Ex H3 (upd H3 a4 (.tup [.str "all", .ref a3])) := Ex.new n4
      have F_H4 : upd H3 a4 (.tup [.str "all", .ref a3]) a4 = some (.tup [.str "all", .ref a3]) := upd_same
      generalize upd H3 a4 (.tup [.str "all", .ref a3]) = H4 at X_H4 F_H4 ⊢
      refine ⟨_, rfl, sz1, fun a5 n5 => ?_⟩
      have X_H5 : Ex H4 (upd H4 a5 (.tup [v])) := Ex.new n5
      have F_H5 : upd H4 a5 (.tup [v]) a5 = some (.tup [v]) := upd_same
      generalize upd H4 a5 (.tup [v]) = H5 at X_H5 F_H5 ⊢
      refine ⟨sz2, fun a6 n6 => ?_⟩
      have X_H6 : Ex H5 (upd H5 a6 (.tup [.str "any", .ref a5])) := Ex.new n6
      have F_H6 : upd H5 a6 (.tup [.str "any", .ref a5]) a6 = some (.tup [.str "any", .ref a5]) := upd_same
      generalize upd H5 a6 (.tup [.str "any", .ref a5]) = H6 at X_H6 F_H6 ⊢
      refine ⟨_, rfl, sz1, fun a7 n7 => ?_⟩
      have X_H7 : Ex H6 (upd H6 a7 (.tup [v])) := Ex.new n7
      have F_H7 : upd H6 a7 (.tup [v]) a7 = some (.tup [v]) := upd_same
      generalize upd H6 a7 (.tup [v]) = H7 at X_H7 F_H7 ⊢
      refine ⟨sz2, fun a8 n8 => ?_⟩
      have X_H8 : Ex H7 (upd H7 a8 (.tup [.str "first", .ref a7])) := Ex.new n8
      have F_H8 : upd H7 a8 (.tup [.str "first", .ref a7]) a8 = some (.tup [.str "first", .ref a7]) := upd_same
      generalize upd H7 a8 (.tup [.str "first", .ref a7]) = H8 at X_H8 F_H8 ⊢
      refine ⟨sz5, fun p np => ?_⟩
      have X_HL : Ex H8 (upd H8 p (.lst [.ref a1, .ref a2, .ref a4, .ref a6, .ref a8])) := Ex.new np
      have F_HL : upd H8 p (.lst [.ref a1, .ref a2, .ref a4, .ref a6, .ref a8]) p = some (.lst [.ref a1, .ref a2, .ref a4, .ref a6, .ref a8]) := upd_same
      generalize upd H8 p (.lst [.ref a1, .ref a2, .ref a4, .ref a6, .ref a8]) = HL at X_HL F_HL ⊢
      have E8 := X_HL
      have E7 := X_H8.trans E8
      have E6 := X_H7.trans E7
      have E5 := X_H6.trans E6
      have E4 := X_H5.trans E5
      have E3 := X_H4.trans E4
      have E2 := X_H3.trans E3
      have E1 := X_H2.trans E2
      have E0 := X_H1.trans E1
      refine ⟨b, p, _, rfl, (hb.to x0).to E0, SqL.of F_HL, by show 0 < 5; decide, by show 5 < 100000; decide, fun x hx => ?_⟩
      simp only [List.mem_cons, List.not_mem_nil, or_false] at hx
      rcases hx with rfl | rfl | rfl | rfl | rfl
      · exact k _ (.not (.leaf lf)) _ (x0.trans E0) hok (by simp [Cnd.depth, Cnd.depthL]) (by simp [Cnd.weight, Cnd.weightL]) ⟨a1, v, rfl, SqT.of (E1 _ _ F_H1), leafAt_toI (ExI.of E0) hv⟩
      · exact k _ (.not (.leaf lf)) _ (x0.trans E0) hok (by simp [Cnd.depth, Cnd.depthL]) (by simp [Cnd.weight, Cnd.weightL]) ⟨a2, v, rfl, SqT.of (E2 _ _ F_H2), leafAt_toI (ExI.of E0) hv⟩
      · exact k _ (.node "all" [.leaf lf]) _ (x0.trans E0) ⟨by decide +kernel, hok, trivial⟩ (by simp [Cnd.depth, Cnd.depthL]) (by simp [Cnd.weight, Cnd.weightL]) ⟨a4, a3, [v], rfl, SqT.of (E4 _ _ F_H4), SqT.of (E3 _ _ F_H3), cnds_one (leafAt_toI (ExI.of E0) hv)⟩
      · exact k _ (.node "any" [.leaf lf]) _ (x0.trans E0) ⟨by decide +kernel, hok, trivial⟩ (by simp [Cnd.depth, Cnd.depthL]) (by simp [Cnd.weight, Cnd.weightL]) ⟨a6, a5, [v], rfl, SqT.of (E6 _ _ F_H6), SqT.of (E5 _ _ F_H5), cnds_one (leafAt_toI (ExI.of E0) hv)⟩
      · exact k _ (.node "first" [.leaf lf]) _ (x0.trans E0) ⟨by decide +kernel, hok, trivial⟩ (by simp [Cnd.depth, Cnd.depthL]) (by simp [Cnd.weight, Cnd.weightL]) ⟨a8, a7, [v], rfl, SqT.of (E8 _ _ F_H8), SqT.of (E7 _ _ F_H7), cnds_one (leafAt_toI (ExI.of E0) hv)⟩
    · exact ⟨_, rfl, k v (.leaf lf) _ x0 hok (Nat.zero_le 1) (by show 200000 ≤ 200100; decide) hv⟩
end
end K22

set_option Elab.async false
set_option linter.all false
set_option maxRecDepth 100000
set_option maxHeartbeats 4000000
namespace K22
open PySem PySem.Spec PyProof.Rows L2 Evl Gx
abbrev s_l_split : Stmt := topS 28
theorem sc_l_split : FnScope ["_law_bag_here", "_law_many", "_law_number_here", "_law_sizes", "_law_k"] ["_law_bag_here", "_law_many", "_law_number_here"] (defScope s_l_split) := ⟨rfl, rfl, rfl, by decide +kernel, rfl, by decide +kernel, by decide +kernel⟩
abbrev s_l_tree : Stmt := topS 29
theorem sc_l_tree : FnScope ["_law_bag_here", "_law_names", "_law_many", "_law_deep", "_law_way", "_law_number_here", "_law_some", "_law_size", "_law_at"] ["_law_bag_here", "_law_names", "_law_many", "_law_deep"] (defScope s_l_tree) := ⟨rfl, rfl, rfl, by decide +kernel, rfl, by decide +kernel, by decide +kernel⟩
abbrev nat (n : Nat) : V := .int (n : Int)
def spSplit : Sp := fun vs H Q _ => ∃ (b : Addr) (many num : Nat), vs = [.ref b, nat many, nat num] ∧ Bag H b ∧ 1 ≤ num ∧ num ≤ 5 ∧ num ≤ many ∧ many ≤ 1000 ∧
  ∀ l (sizes : List Nat) H', Ex H H' → H' l = some (.lst (sizes.map nat)) → sizes.length = num → (∀ s ∈ sizes, 1 ≤ s) → sizes.sum = many → Q (.ref l) H'
theorem sum_set : ∀ {l : List Nat} {j x : Nat}, l[j]? = some x → (l.set j (x + 1)).sum = l.sum + 1
  | [], j, x, h => by simp at h
  | a :: l, 0, x, h => by simp at h; subst h; simp; omega
  | a :: l, j + 1, x, h => by
    have := sum_set (l := l) (j := j) (x := x) (by simpa using h)
    simp [this]; omega
theorem set_map {l : List Nat} {j x : Nat} : (l.map nat).set j (.int ((x : Int) + 1)) = (l.set j (x + 1)).map nat := by
  rw [List.map_set]
  rfl
section
variable {P : Program} {w : World} {K : PySem.W.Frag} {mg : Str → Option Value} {base : Heap}
variable {f_l_take f_l_small f_l_split : Addr} {fd_l_take fd_l_small fd_l_split : FuncData}
theorem ok_split {f : Addr} {fd : FuncData} (D : Def K mg "_law_split" s_l_split f fd ["_law_bag_here", "_law_many", "_law_number_here"]) (bi : Bi mg)
    (D_l_take : Def K mg "_law_take" s_l_take f_l_take fd_l_take ["_law_bag_here", "_law_many"])
    (G_l_take : FnOk P w K mg base CX0 1 f_l_take fd_l_take ["_law_bag_here", "_law_many"] spTake) :
    FnOk P w K mg base CX0 2 f fd ["_law_bag_here", "_law_many", "_law_number_here"] spSplit := by
  refine D.fn.ok sc_l_split (fun vs H Q E h => ?_) (fun cdv A outer s0 H vs Q E hr h => ?_)
  · obtain ⟨b, many, num, rfl, _⟩ := h
    rfl
  · obtain ⟨b, many, num, rfl, hb, n1, n5, nm, mm, k⟩ := h
    refine ⟨_, (pss_cons (ps_set (i := 3) sc_l_split.nd rfl (Or.inl rfl) (pe_op op_repL (pe_lst (pa_cons pe_int pa_nil)) (pv 2)))
  (pss_cons (ps_for PassesOwn.never rfl (pi_range1 rfl bi.range (pa_cons (pe_op op_sub (pv 1) (pv 2)) pa_nil)) (pg_name (i := 4) sc_l_split.nd rfl (Or.inl rfl))
    (pss_one (ps_augS (pv 3) (pe_call G_l_take (hr.mono (by first | decide | omega)) rfl D_l_take.mg D_l_take.fn.kp D_l_take.bd .nil pass0 (pa_cons (pv 0) (pa_cons (pv 2) pa_nil))) get_list pe_int ip_add set_list)))
  (pss_one (ps_ret (pv 3))))), ?_⟩
    refine ⟨sz1, fun p np => ⟨_, rfl, p, num, [.int 1], rfl, rfl, SqL.of upd_same, by omega, by omega, by show 1 ≤ 100; decide, fun d nd => ?_⟩⟩
    have x1 := (Ex.new (o := .lst [.int 1]) np).trans (Ex.new (o := .lst (List.replicate (num : Int).toNat [.int 1]).flatten) nd)
    refine ⟨_, rfl, _, rfl, many, num, rfl, rfl, many - num, rfl, by omega, by omega, ?_⟩
    refine for_range (n := ((many : Int) - num).toNat) (fun i σ H' => ∃ x4 : Option V, σ = [some (.ref b), some (nat many), some (nat num), some (.ref d), x4] ∧ Ex H H' ∧
      ∃ sizes : List Nat, H' d = some (.lst (sizes.map nat)) ∧ sizes.length = num ∧ (∀ s ∈ sizes, 1 ≤ s) ∧ sizes.sum = num + i) ?_ ?_ ?_
    · refine ⟨none, rfl, x1, List.replicate num 1, ?_, by simp, fun s hs => by rw [List.eq_of_mem_replicate hs]; decide, by simp⟩
      rw [upd_same, Int.toNat_natCast]
      have e : ∀ n : Nat, (List.replicate n [V.int 1]).flatten = (List.replicate n 1).map nat := by
        intro n
        induction n with
        | zero => rfl
        | succ n ih => rw [List.replicate_succ, List.flatten_cons, ih, List.replicate_succ, List.map_cons]; rfl
      rw [e]
    · rintro i σ H' hi ⟨x4, rfl, e1, sizes, hd, hl, hs, hsum⟩
      refine ⟨_, rfl, _, rfl, _, rfl, b, num, rfl, hb.to e1, by omega, by omega, fun j j0 j1 => ?_⟩
      obtain ⟨s, hj, hm⟩ := get_of (xs := sizes) (i := j) j0 (by omega)
      have ndp : d ≠ p := fun e => by subst e; rw [upd_same] at nd; cases nd
      have nd0 : H d = none := by rw [upd_ne ndp] at nd; exact nd
      refine ⟨d, _, j, nat s, rfl, rfl, SqL.of hd, j0, by omega, by rw [List.getElem?_map, hj]; rfl, s, 1, rfl, rfl, d, _, j, j.toNat, rfl, rfl, hd, ?_, ?_⟩
      · rw [List.length_map]
        unfold ixN
        rw [if_pos j0, if_pos (by omega)]
      · refine ⟨_, rfl, e1.mut nd0, sizes.set j.toNat (s + 1), ?_, by simp [hl], fun z hz => ?_, by rw [sum_set hj, hsum]; omega⟩
        · rw [upd_same, set_map]
        · rcases List.mem_or_eq_of_mem_set hz with g | g
          · exact hs z g
          · omega
    · rintro σ H' ⟨x4, rfl, e1, sizes, hd, hl, hs, hsum⟩
      exact ⟨_, rfl, k d sizes H' e1 hd hl hs (by omega)⟩
end
end K22

set_option Elab.async false
set_option linter.all false
set_option maxRecDepth 100000
set_option maxHeartbeats 4000000
namespace K22
open PySem PySem.Spec PyProof.Rows L2 Evl Gx
/-- what a drawn condition of so many leaves and so deep may weigh -/
def W (deep : Nat) : Nat := 200100 + 100 * deep
def spTree (K : PySem.W.Frag) (n : Nat) : Sp := fun vs H Q _ => ∃ (b l : Addr) (ns : List Str) (many deep : Nat), vs = [.ref b, .ref l, nat many, nat deep] ∧ Bag H b ∧
  SqL K H l (ns.map V.str) ∧ 0 < ns.length ∧ ns.length ≤ 100 ∧ 1 ≤ many ∧ many ≤ 1000 ∧ deep < n ∧ deep ≤ 100 ∧
  ∀ v c H', Ex H H' → Cnd.ok ns c → c.depth ≤ deep + 1 → c.weight ≤ many * W deep → CndAt K H' v c → Q v H'
theorem fn_none {P : Program} {w : World} {K : PySem.W.Frag} {mg : Str → Option Value} {base : Heap} {CX : CXT} {k : Nat} {f : Addr} {fd : FuncData} {ps : List Str} {sp : Sp}
    (h : ∀ vs H Q E, ¬ sp vs H Q E) : FnOk P w K mg base CX k f fd ps sp :=
  ⟨fun vs H Q E z => (h vs H Q E z).elim, fun A o s H ar us vs Q E _ _ _ _ z => (h vs H Q E z).elim⟩
theorem weightL_app : ∀ (cs : List Cnd) (c : Cnd), Cnd.weightL (cs ++ [c]) = Cnd.weightL cs + c.weight + 20
  | [], c => by simp [Cnd.weightL]
  | a :: cs, c => by simp only [List.cons_append, Cnd.weightL, weightL_app cs c]; omega
theorem okL_app {ns : List Str} {cs : List Cnd} {c : Cnd} (h : Cnd.okL ns cs) (h' : c.ok ns) : Cnd.okL ns (cs ++ [c]) :=
  Cnd.okL_iff.mpr fun z hz => by
    rcases List.mem_append.mp hz with g | g
    · exact Cnd.okL_iff.mp h z g
    · rw [List.mem_singleton] at g; subst g; exact h'
theorem depthL_app {n : Nat} {cs : List Cnd} {c : Cnd} (h : Cnd.depthL cs ≤ n) (h' : c.depth ≤ n) : Cnd.depthL (cs ++ [c]) ≤ n :=
  Cnd.depthL_le.mpr fun z hz => by
    rcases List.mem_append.mp hz with g | g
    · exact Cnd.depthL_le.mp h z g
    · rw [List.mem_singleton] at g; subst g; exact h'
theorem sum_mem {l : List Nat} {x : Nat} (h : x ∈ l) : x ≤ l.sum := by
  induction l with
  | nil => cases h
  | cons a l ih =>
    rw [List.sum_cons]
    rcases List.mem_cons.mp h with rfl | g
    · omega
    · have := ih g; omega
theorem sum_take {l : List Nat} {j x : Nat} (h : l[j]? = some x) : (l.take (j + 1)).sum = (l.take j).sum + x := by
  rw [takeS h, List.sum_append]
  simp
section
variable {P : Program} {w : World} {K : PySem.W.Frag} {mg : Str → Option Value} {base : Heap}
variable {f_l_take f_l_small f_l_split : Addr} {fd_l_take fd_l_small fd_l_split : FuncData}
theorem ok_tree {f : Addr} {fd : FuncData} (D : Def K mg "_law_tree" s_l_tree f fd ["_law_bag_here", "_law_names", "_law_many", "_law_deep"]) (bi : Bi mg)
    (D_l_take : Def K mg "_law_take" s_l_take f_l_take fd_l_take ["_law_bag_here", "_law_many"])
    (G_l_take : FnOk P w K mg base CX0 1 f_l_take fd_l_take ["_law_bag_here", "_law_many"] spTake)
    (D_l_small : Def K mg "_law_small" s_l_small f_l_small fd_l_small ["_law_bag_here", "_law_names"])
    (G_l_small : FnOk P w K mg base CX0 6 f_l_small fd_l_small ["_law_bag_here", "_law_names"] (spSmall K))
    (D_l_split : Def K mg "_law_split" s_l_split f_l_split fd_l_split ["_law_bag_here", "_law_many", "_law_number_here"])
    (G_l_split : FnOk P w K mg base CX0 2 f_l_split fd_l_split ["_law_bag_here", "_law_many", "_law_number_here"] spSplit) :
    ∀ n : Nat, FnOk P w K mg base CX0 (6 + n) f fd ["_law_bag_here", "_law_names", "_law_many", "_law_deep"] (spTree K n)
  | 0 => fn_none fun vs H Q E ⟨_, _, _, _, _, _, _, _, _, _, _, _, h, _⟩ => absurd h (Nat.not_lt_zero _)
  | n + 1 => by
    show FnOk P w K mg base CX0 ((6 + n) + 1) f fd ["_law_bag_here", "_law_names", "_law_many", "_law_deep"] (spTree K (n + 1))
    have D_l_tree := D
    have G_l_tree := ok_tree D bi D_l_take G_l_take D_l_small G_l_small D_l_split G_l_split n
    refine D.fn.ok sc_l_tree (fun vs H Q E h => ?_) (fun cdv A outer s0 H vs Q E hr h => ?_)
    · obtain ⟨b, l, ns, many, deep, rfl, _⟩ := h
      rfl
    · obtain ⟨b, l, ns, many, deep, rfl, hb, hl, n0, n1, m0, m1, hdn, hd100, k⟩ := h
      refine ⟨_, (pss_cons (ps_if (L2.PW.pt (pw_or (pt_cmpR op_lt (pv 2) pe_int (nomark _)) (pw_or1 (pt_cmpR op_lt (pv 3) pe_int (nomark _)))))
    (pss_one (ps_ret (pe_call G_l_small (hr.mono (by first | decide | omega)) rfl D_l_small.mg D_l_small.fn.kp D_l_small.bd .nil pass0 (pa_cons (pv 0) (pa_cons (pv 1) pa_nil)))))
    pss_nil)
  (pss_cons (ps_par (i := 4) (j := 5) rfl sc_l_tree.nd rfl rfl (by decide) rfl rfl (pa_cons (pe_call G_l_take (hr.mono (by first | decide | omega)) rfl D_l_take.mg D_l_take.fn.kp D_l_take.bd .nil pass0 (pa_cons (pv 0) (pa_cons pe_int pa_nil))) (pa_cons (pe_op op_add pe_int (pe_call G_l_take (hr.mono (by first | decide | omega)) rfl D_l_take.mg D_l_take.fn.kp D_l_take.bd .nil pass0 (pa_cons (pv 0) (pa_cons (pe_op op_sub (pe_callB (call_min2 rfl) (by rfl) bi.min bt_min (pa_cons (pv 2) (pa_cons pe_int pa_nil))) pe_int) pa_nil)))) pa_nil)) (by rfl))
  (pss_cons (ps_if (pt_cmpR op_eq (pv 4) pe_int (nomark _))
    (pss_one (ps_ret (pe_tup (pa_cons pe_str (pa_cons (pe_call G_l_tree (hr.mono (by first | decide | omega)) rfl D_l_tree.mg D_l_tree.fn.kp D_l_tree.bd .nil pass0 (pa_cons (pv 0) (pa_cons (pv 1) (pa_cons (pv 2) (pa_cons (pe_op op_sub (pv 3) pe_int) pa_nil))))) pa_nil)))))
    pss_nil)
  (Evl.pss_cut (ps_if (L2.PW.pt (pw_and (pt_cmpR op_eq (pv 4) pe_int (nomark _)) (pw_and1 (pt_cmpR op_gt (pv 2) pe_int (nomark _)))))
    (pss_one (ps_set (i := 5) sc_l_tree.nd rfl (Or.inl rfl) (pe_op op_add pe_int (pe_op op_mul pe_int (pe_callTy call_int1 (by rfl) bi.int bt_int (pa_cons (pe_and (pe_cmpR op_gt (pv 2) pe_int (nomark _)) (pe_one (pe_cmpR op_gt (pv 5) pe_int (nomark _)))) pa_nil))))))
    pss_nil)
  (pss_cons (ps_set (i := 6) sc_l_tree.nd rfl (Or.inr rfl) (pe_lc (own := [("_law_size", 7)]) rfl sc_l_tree.nd (pi_list (pe_call G_l_split (hr.mono (by first | decide | omega)) rfl D_l_split.mg D_l_split.fn.kp D_l_split.bd .nil pass0 (pa_cons (pv 0) (pa_cons (pv 2) (pa_cons (pv 5) pa_nil))))) (blkOk_by (N := ["_law_bag_here", "_law_names", "_law_many", "_law_deep", "_law_way", "_law_number_here", "_law_some", "_law_size", "_law_at"]) (sc := defScope s_l_tree) (by decide +kernel)) (fun _ _ _ _ _ => (pg_name (i := 7) sc_l_tree.nd rfl (Or.inl rfl))) (fun _ _ _ _ _ => pts_nil) (fun _ _ _ _ _ => (pe_call G_l_tree (hr.mono (by first | decide | omega)) rfl D_l_tree.mg D_l_tree.fn.kp D_l_tree.bd .nil pass0 (pa_cons (pv 0) (pa_cons (pv 1) (pa_cons (pv 7) (pa_cons (pe_op op_sub (pv 3) pe_int) pa_nil))))))))
  (pss_cons (ps_if (L2.PW.pt (pw_and (pt_cmpR op_eq (pv 4) pe_int (nomark _)) (pw_and1 (pt_cmpR op_gt (pv 2) pe_int (nomark _)))))
    (pss_one (ps_ret (pe_tup (pa_cons pe_str (pa_cons (pe_callTy call_tupX (by rfl) bi.tuple bt_tuple (pa_cons (pe_lc (own := [("_law_at", 8)]) rfl sc_l_tree.nd (pi_range1 rfl bi.range (pa_cons (pe_op op_fdiv (pv 5) pe_int) pa_nil)) (blkOk_by (N := ["_law_bag_here", "_law_names", "_law_many", "_law_deep", "_law_way", "_law_number_here", "_law_some", "_law_size", "_law_at"]) (sc := defScope s_l_tree) (by decide +kernel)) (fun _ _ _ _ _ => (pg_name (i := 8) sc_l_tree.nd rfl (Or.inl rfl))) (fun _ _ _ _ _ => pts_nil) (fun _ _ _ _ _ => (pe_tup (pa_cons (pe_ix (ix_listK (K := K) rfl) (pv 6) (pe_op op_mul pe_int (pv 8)) (fun _ _ => rfl)) (pa_cons (pe_ix (ix_listK (K := K) rfl) (pv 6) (pe_op op_add (pe_op op_mul pe_int (pv 8)) pe_int) (fun _ _ => rfl)) pa_nil))))) pa_nil)) (pa_cons (pe_ix ix_list (pv 6) (pe_un un_neg pe_int) (fun _ _ => rfl)) pa_nil))))))
    pss_nil)
  (pss_one (ps_ret (pe_tup (pa_cons (pe_ifExp (pt_cmpR op_lt (pv 4) pe_int (nomark _)) pe_str (pe_ix ix_list (pe_lst (pa_cons pe_str (pa_cons pe_str pa_nil))) (pe_op op_mod (pe_callTy call_int1 (by rfl) bi.int bt_int (pa_cons (pv 4) pa_nil)) pe_int) (fun _ _ => rfl))) (pa_cons (pe_callTy call_tupX (by rfl) bi.tuple bt_tuple (pa_cons (pv 6) pa_nil)) pa_nil))))))))))), ?_⟩
      have tiny : ∀ (Q' : VK), (∀ v H', Q v H' → Q' v H') → ∃ (b' l' : Addr) (ns' : List Str), [V.ref b, .ref l] = [.ref b', .ref l'] ∧ Bag H b' ∧ SqL K H l' (ns'.map V.str) ∧
          0 < ns'.length ∧ ns'.length ≤ 100 ∧ ∀ v c H', Ex H H' → Cnd.ok ns' c → c.depth ≤ 1 → c.weight ≤ 200100 → CndAt K H' v c → Q' v H' := fun Q' hq =>
        ⟨b, l, ns, rfl, hb, hl, n0, n1, fun v c H' x ok dp wt hv => hq _ _ (k v c H' x ok (by omega) (Nat.le_trans wt (Nat.le_trans (by unfold W; omega) (Nat.mul_le_mul_right (W deep) m0))) hv)⟩
      refine ⟨_, rfl, many, 2, rfl, rfl, _, rfl, if_d (fun h2 => ?_) (fun h2 => ⟨_, rfl, deep, 1, rfl, rfl, _, rfl, if_d (fun h3 => ?_) (fun h3 => ?_)⟩)⟩
      · exact ⟨_, rfl, _, rfl, tiny _ fun _ _ q => q⟩
      · exact ⟨_, rfl, _, rfl, tiny _ fun _ _ q => q⟩
      have mm : 2 ≤ many := by omega
      have d1 : 1 ≤ deep := by omega
      have ed : ((deep : Nat) : Int) - 1 = ((deep - 1 : Nat) : Int) := by omega
      refine ⟨_, rfl, b, 9, rfl, hb, by decide, by decide, fun way w0 w1 => ?_⟩
      refine ⟨_, rfl, _, rfl, many, 5, rfl, _, 1, rfl, rfl, b, _, rfl, hb, ?_, ?_, fun y y0 y1 => ⟨2, y, rfl, rfl, _, _, rfl, ?_⟩⟩
      · split <;> omega
      · split <;> omega
      have hy : ∃ num : Nat, (2 : Int) + y = num ∧ 2 ≤ num ∧ num ≤ 5 ∧ num ≤ many := by
        refine ⟨(2 + y).toNat, by omega, by omega, ?_, ?_⟩ <;> split at y1 <;> omega
      obtain ⟨num, ey, num2, num5, numm⟩ := hy
      refine ⟨_, rfl, rfl, _, rfl, if_d (fun hw => ?_) (fun hw => ?_)⟩
      · refine ⟨_, rfl, _, rfl, _, rfl, _, rfl, deep, 1, rfl, rfl, b, l, ns, many, deep - 1, congrArg (fun z => [V.ref b, .ref l, nat many, .int z]) ed, hb, hl, n0, n1, m0, m1, by omega, by omega, fun v c H' x ok dp wt hv => ⟨sz2, fun t nt => ?_⟩⟩
        · refine k _ (.not c) _ (ex_upd x nt) ok ?_ ?_ ⟨t, v, rfl, SqT.of upd_same, hv.to (Ex.new nt)⟩
          · show c.depth + 1 ≤ deep + 1
            omega
          · show c.weight + 40 ≤ many * W deep
            have e : W deep = W (deep - 1) + 100 := by unfold W; omega
            rw [e, Nat.mul_add]
            omega
      · refine ⟨fun σ H' => ∃ num : Nat, σ = [some (.ref b), some (.ref l), some (nat many), some (nat deep), some (.int way), some (nat num), none, none, none] ∧ H' = H ∧
          2 ≤ num ∧ num ≤ 5 ∧ num ≤ many ∧ (way = 1 → 2 < many → num = 3 ∨ num = 5), ?_, fun σ H1 m => ?_⟩
        · refine ⟨_, rfl, rfl, _, rfl, if_d (fun hw1 => ?_) (fun hw1 => ?_)⟩
          · refine ⟨_, rfl, many, 2, rfl, rfl, _, rfl, if_d (fun hm => ?_) (fun hm => ?_)⟩
            · refine ⟨_, rfl, many, 4, rfl, rfl, _, rfl, if_d (fun h4 => ⟨_, rfl, _, 3, rfl, rfl, ?_⟩) (fun h4 => ?_)⟩
              · refine .inr ⟨_, rfl, 2, _, rfl, rfl, .inl ⟨by decide, by decide⟩, 3, _, rfl, rfl, ?_⟩
                have e : (3 : Int) + 2 * (if decide ((3 : Int) < 2 + y) = true then 1 else 0) = ((if (3 : Int) < 2 + y then 5 else 3 : Nat) : Int) := by
                  by_cases h : (3 : Int) < 2 + y
                  · rw [if_pos (decide_eq_true h), if_pos h]; rfl
                  · rw [if_neg (by rw [decide_eq_false h]; decide), if_neg h]; rfl
                exact ⟨_, congrArg (fun z : Int => [some (V.ref b), some (.ref l), some (nat many), some (nat deep), some (.int way), some (.int z), none, none, none]) e, rfl,
                  by split <;> omega, by split <;> omega, by split <;> omega, fun _ _ => by split; exact .inr rfl; exact .inl rfl⟩
              · refine .inr ⟨_, rfl, 2, _, rfl, rfl, .inl ⟨by decide, by decide⟩, 3, _, rfl, rfl, ?_⟩
                exact ⟨3, rfl, rfl, by decide, by decide, by omega, fun _ _ => .inl rfl⟩
            · exact ⟨num, congrArg (fun z : Int => [some (V.ref b), some (.ref l), some (nat many), some (nat deep), some (.int way), some (.int z), none, none, none]) ey, rfl, num2, num5, numm, fun _ h => absurd (by omega) hm⟩
          · exact ⟨num, congrArg (fun z : Int => [some (V.ref b), some (.ref l), some (nat many), some (nat deep), some (.int way), some (.int z), none, none, none]) ey, rfl, num2, num5, numm, fun h _ => absurd (by rw [h]) hw1⟩
        · obtain ⟨num, rfl, rfl, num2, num5, numm, hodd⟩ := m
          -- the parts
          refine ⟨_, rfl, _, rfl, _, rfl, b, many, num, rfl, hb, by omega, num5, numm, m1, fun sl sizes H1 e1 hsl hsn hs1 hsum => ?_⟩
          refine ⟨sl, rfl, ⟨_, SqL.of hsl⟩, fun d nd => lc_list (xs := sizes.map nat) (fun j H' => Ex H1 H' ∧ ∃ (xs : List V) (cs : List Cnd), H' d = some (.lst xs) ∧ cs.length = j ∧ CndsAt K H' xs cs ∧
            Cnd.okL ns cs ∧ Cnd.depthL cs ≤ deep ∧ Cnd.weightL cs ≤ (sizes.take j).sum * W (deep - 1) + 20 * j) ?_ (fun j H' _ q => SqL.of (q.1 _ _ hsl)) ?_ ?_⟩
          · exact ⟨Ex.new nd, [], [], upd_same, rfl, rfl, trivial, Nat.zero_le _, Nat.zero_le _⟩
          · rintro j z H' hj ⟨e2, xs, cs, hd, hcl, hcs, hok, hdp, hwt⟩
            obtain ⟨s, hsj, rfl⟩ : ∃ s, sizes[j]? = some s ∧ z = nat s := by
              rw [List.getElem?_map] at hj
              obtain ⟨s, h1, h2⟩ := Option.map_eq_some_iff.mp hj
              exact ⟨s, h1, h2.symm⟩
            have jl : j < sizes.length := (List.getElem?_eq_some_iff.mp hsj).1
            have sm : s ≤ sizes.sum := sum_mem (List.mem_of_getElem? hsj)
            have x12 := e1.trans e2
            refine ⟨rfl, _, rfl, _, rfl, _, rfl, _, rfl, deep, 1, rfl, rfl, b, l, ns, s, deep - 1, congrArg (fun z => [V.ref b, .ref l, nat s, .int z]) ed, hb.to x12, ?_, n0, n1, hs1 s (List.mem_of_getElem? hsj), by omega, by omega, by omega, fun v c H2 e3 ok dp wt hv => ?_⟩
            · exact ex_l x12 hl
            · have ei : ExI H2 (upd H2 d (.lst (xs ++ [v]))) := ExI.put (e3 _ _ hd) rfl
              refine ⟨xs, e3 _ _ hd, small (by have := cnds_len hcs; omega), (e2.trans e3).mut nd, xs ++ [v], cs ++ [c], upd_same, by simp [hcl],
                cnds_app (cndsAt_toI ei _ _ (hcs.to e3)) (cnds_one (cndAt_toI ei _ _ hv)), okL_app hok ok, depthL_app hdp (by omega), ?_⟩
              rw [weightL_app, sum_take hsj, Nat.add_mul]
              omega
          · rintro H2 ⟨e2, xs, cs, hd, hcl, hcs, hok, hdp, hwt⟩
            rw [List.length_map] at hcl
            rw [List.length_map, List.take_length, hsum, hsn] at hwt
            have xl := cnds_len hcs
            have x12 := e1.trans e2
            have wgt : many * W (deep - 1) + 20 * num + 40 ≤ many * W deep := by
              have e : W deep = W (deep - 1) + 100 := by unfold W; omega
              rw [e, Nat.mul_add]
              omega
            -- a node of the parts
            have node : ∀ (kd : Str) (H3 : Hp), kd ∈ kinds → Ex H2 H3 → ∀ v ws, SqT K H3 v [.str kd, .ref ws] → SqT K H3 ws xs → Q (.ref v) H3 := fun kd H3 hk e3 v ws h1 h2 =>
              k _ (.node kd cs) _ (x12.trans e3) ⟨hk, hok⟩ (by show Cnd.depthL cs + 1 ≤ deep + 1; omega) (by show Cnd.weightL cs + 40 ≤ _; omega) ⟨v, ws, xs, rfl, h1, h2, hcs.to e3⟩
            refine ⟨_, rfl, rfl, _, rfl, if_d (fun hw1 => ⟨_, rfl, many, 2, rfl, rfl, _, rfl, if_d (fun hm => ?_) (fun hm => ?_)⟩) (fun hw1 => ?_)⟩
            · have hn := hodd (V.int.inj hw1) (by omega)
              refine ⟨_, rfl, num, 2, rfl, rfl, ⟨by decide, by decide⟩, (num : Int) / 2, rfl, by omega, by omega, fun d2 nd2 => ?_⟩
              have em : ((num : Int) / 2).toNat = num / 2 := by omega
              refine lc_range (lo := 0) (n := ((num : Int) / 2).toNat) (fun j H' => Ex H2 H' ∧ ∃ qs : List Addr, H' d2 = some (.lst (qs.map V.ref)) ∧ qs.length = j ∧
                ∀ i, i < j → ∃ q x y, qs[i]? = some q ∧ xs[2 * i]? = some x ∧ xs[2 * i + 1]? = some y ∧ SqT K H' q [x, y]) ?_ ?_ ?_
              · exact ⟨Ex.new nd2, [], upd_same, rfl, fun i hi => absurd hi (Nat.not_lt_zero i)⟩
              · rintro j H' hj ⟨e3, qs, hq, hql, hall⟩
                rw [em] at hj
                have j1 : 2 * j + 1 < xs.length := by omega
                have d' := e3 _ _ hd
                have i0 : atI xs (2 * (0 + (j : Int))) = some xs[2 * j] := by
                  rw [show 2 * (0 + (j : Int)) = ((2 * j : Nat) : Int) by omega]
                  exact atI_of (by omega) (by rw [Int.toNat_natCast]; exact List.getElem?_eq_getElem (by omega))
                have i1 : atI xs (2 * (0 + (j : Int)) + 1) = some xs[2 * j + 1] := by
                  rw [show 2 * (0 + (j : Int)) + 1 = ((2 * j + 1 : Nat) : Int) by omega]
                  exact atI_of (by omega) (by rw [Int.toNat_natCast]; exact List.getElem?_eq_getElem (by omega))
                refine ⟨rfl, _, rfl, _, rfl, 2, _, rfl, rfl, .inl ⟨by decide, by decide⟩, d, xs, _, _, rfl, rfl, SqL.of d', i0, _, rfl, _, rfl, 2, _, rfl, rfl, .inl ⟨by decide, by decide⟩, _, 1, rfl, rfl, d, xs, _, _, rfl, rfl, SqL.of d', i1, sz2, fun q nq => ?_⟩
                have e4 := Ex.new (o := .tup [xs[2 * j], xs[2 * j + 1]]) nq
                have hq4 := e4 _ _ hq
                have ei : ExI (upd H' q (.tup [xs[2 * j], xs[2 * j + 1]])) (upd (upd H' q (.tup [xs[2 * j], xs[2 * j + 1]])) d2 (.lst (qs.map V.ref ++ [.ref q]))) := ExI.put hq4 rfl
                refine ⟨qs.map V.ref, hq4, small (by rw [List.length_map]; omega), (e3.trans e4).mut nd2, qs ++ [q], by rw [upd_same, List.map_append]; rfl, by simp [hql], fun i hi => ?_⟩
                by_cases hij : i < j
                · obtain ⟨q', x, y, g1, g2, g3, g4⟩ := hall i hij
                  exact ⟨q', x, y, by rw [List.getElem?_append_left (by omega)]; exact g1, g2, g3, ei.sq (ex_t e4 g4)⟩
                · have : i = j := by omega
                  subst this
                  exact ⟨q, xs[2 * i], xs[2 * i + 1], by rw [List.getElem?_append_right (by omega), hql]; simp, List.getElem?_eq_getElem (by omega), List.getElem?_eq_getElem (by omega), ei.sq (SqT.of upd_same)⟩
              · rintro H4 ⟨e3, qs, hq, hql, hall⟩
                rw [em] at hql hall
                obtain ⟨z, hz⟩ : ∃ z, xs[num - 1]? = some z := ⟨xs[num - 1]'(by omega), List.getElem?_eq_getElem (by omega)⟩
                obtain ⟨el, hel, hza⟩ := cnds_get hcs hz
                refine ⟨d2, _, rfl, SqL.of hq, fun t H5 nt e5 ht => ⟨_, rfl, 1, rfl, d, xs, -1, z, rfl, rfl, SqL.of (e5 _ _ (e3 _ _ hd)), ?_, sz3, fun v nv => ?_⟩⟩
                · rw [atI_last (n := num - 1) (by omega)]; exact hz
                · have e6 := e5.trans (Ex.new (o := .tup [.str "case", .ref t, z]) nv)
                  have e46 := e3.trans e6
                  obtain ⟨ce, co⟩ := cnds_ev (m := num / 2) (hcs.to e46) (by omega)
                  obtain ⟨l1, l2⟩ := len_ev (m := num / 2) (l := cs) (by omega)
                  have wv := weight_ev (m := num / 2) hel (by omega)
                  have dv := depthL_ev (m := num / 2) hdp
                  have dm := Cnd.depthL_le.mp hdp el (List.mem_of_getElem? hel)
                  refine k _ (.case (ev (num / 2) cs) (od (num / 2) cs) el) _ (x12.trans e46) ⟨by rw [l1, l2], (okL_ev hok).1, (okL_ev hok).2, Cnd.okL_iff.mp hok el (List.mem_of_getElem? hel)⟩ ?_ ?_
                    ⟨v, t, qs, ev (num / 2) xs, od (num / 2) xs, z, rfl, SqT.of upd_same, (ht.to (Ex.new nv)).sq, ?_, ce, co, hza.to e46⟩
                  · show max (max _ _) _ + 1 ≤ deep + 1
                    omega
                  · show Cnd.weightL _ + Cnd.weightL _ + el.weight + 40 ≤ _
                    omega
                  · exact zip_ev hql (by omega) fun i hi => by
                      obtain ⟨q', x, y, g1, g2, g3, g4⟩ := hall i hi
                      exact ⟨q', x, y, g1, g2, g3, ex_t e6 g4⟩
            all_goals
              refine ⟨_, rfl, way, 3, rfl, rfl, _, rfl, if_d (fun h3 => ?_) (fun h3 => ?_)⟩
              · refine ⟨_, rfl, d, xs, rfl, SqL.of hd, fun t H3 nt e3 ht => ⟨sz2, fun v nv => ?_⟩⟩
                exact node "first" _ (by decide +kernel) (e3.trans (Ex.new nv)) v t (SqT.of upd_same) (ht.to (Ex.new nv)).sq
              · refine ⟨sz2, fun p np => ?_⟩
                have e3 := Ex.new (o := .lst [.str "all", .str "any"]) np
                have hw2 : ∃ kd ∈ kinds, atI [V.str "all", .str "any"] (way % 2) = some (.str kd) := by
                  rcases (by omega : way % 2 = 0 ∨ way % 2 = 1) with h | h
                  · rw [h]; exact ⟨"all", by decide +kernel, rfl⟩
                  · rw [h]; exact ⟨"any", by decide +kernel, rfl⟩
                obtain ⟨kd, hk, hat⟩ := hw2
                refine ⟨_, rfl, .inl ⟨way, rfl, way, 2, rfl, rfl, (by show (0 : Int) < 2; decide), p, _, way % 2, .str kd, rfl, rfl, SqL.of upd_same, hat, ?_⟩⟩
                refine ⟨_, rfl, d, xs, rfl, SqL.of (e3 _ _ hd), fun t H3 nt e4 ht => ⟨sz2, fun v nv => ?_⟩⟩
                exact node kd _ hk ((e3.trans e4).trans (Ex.new nv)) v t (SqT.of upd_same) (ht.to (Ex.new nv)).sq
end
end K22

set_option Elab.async false
set_option linter.all false
set_option maxRecDepth 100000
set_option maxHeartbeats 4000000
namespace K22
open PySem PySem.Spec PyProof.Rows L2 Evl Gx
abbrev s_l_wide : Stmt := topS 32
theorem sc_l_wide : FnScope ["_law_bag_here", "_law_names", "_law_many", "_law_way", "_law_some", "_law_k", "_law_pairs", "_law_at"] ["_law_bag_here", "_law_names", "_law_many"] (defScope s_l_wide) := ⟨rfl, rfl, rfl, by decide +kernel, rfl, by decide +kernel, by decide +kernel⟩
abbrev s_l_grown : Stmt := topS 33
theorem sc_l_grown : FnScope ["_law_bag_here", "_law_names", "_law_many", "_law_deep"] ["_law_bag_here", "_law_names", "_law_many", "_law_deep"] (defScope s_l_grown) := ⟨rfl, rfl, rfl, by decide +kernel, rfl, by decide +kernel, by decide +kernel⟩
def spWide (K : PySem.W.Frag) : Sp := fun vs H Q _ => ∃ (b l : Addr) (ns : List Str) (many : Nat), vs = [.ref b, .ref l, nat many] ∧ Bag H b ∧ SqL K H l (ns.map V.str) ∧
  0 < ns.length ∧ ns.length ≤ 100 ∧ 7 ≤ many ∧ many ≤ 1000 ∧ ∀ v c H', Ex H H' → Cnd.ok ns c → c.depth ≤ 1 → c.weight ≤ 3000000 → CndAt K H' v c → Q v H'
def spGrown (K : PySem.W.Frag) : Sp := fun vs H Q _ => ∃ (b l : Addr) (ns : List Str) (many deep : Nat), vs = [.ref b, .ref l, nat many, nat deep] ∧ Bag H b ∧ SqL K H l (ns.map V.str) ∧
  0 < ns.length ∧ ns.length ≤ 100 ∧ 1 ≤ many ∧ many ≤ 12 ∧ deep ≤ 5 ∧ ∀ v c H', Ex H H' → Cnd.ok ns c → c.depth ≤ deep + 1 → c.weight ≤ 3000000 → CndAt K H' v c → Q v H'
section
variable {P : Program} {w : World} {K : PySem.W.Frag} {mg : Str → Option Value} {base : Heap}
variable {f_l_take f_l_leaf f_l_tree f_l_wide : Addr} {fd_l_take fd_l_leaf fd_l_tree fd_l_wide : FuncData}
theorem ok_wide {f : Addr} {fd : FuncData} (D : Def K mg "_law_wide" s_l_wide f fd ["_law_bag_here", "_law_names", "_law_many"]) (bi : Bi mg)
    (D_l_take : Def K mg "_law_take" s_l_take f_l_take fd_l_take ["_law_bag_here", "_law_many"])
    (G_l_take : FnOk P w K mg base CX0 1 f_l_take fd_l_take ["_law_bag_here", "_law_many"] spTake)
    (D_l_leaf : Def K mg "_law_leaf" s_l_leaf f_l_leaf fd_l_leaf ["_law_bag_here", "_law_names"])
    (G_l_leaf : FnOk P w K mg base CX0 5 f_l_leaf fd_l_leaf ["_law_bag_here", "_law_names"] (spTest K)) :
    FnOk P w K mg base CX0 6 f fd ["_law_bag_here", "_law_names", "_law_many"] (spWide K) := by
  refine D.fn.ok sc_l_wide (fun vs H Q E h => ?_) (fun cdv A outer s0 H vs Q E hr h => ?_)
  · obtain ⟨b, l, ns, many, rfl, _⟩ := h
    rfl
  · obtain ⟨b, l, ns, many, rfl, hb, hl, n0, n1, m0, m1, k⟩ := h
    refine ⟨_, (pss_cons (ps_set (i := 3) sc_l_wide.nd rfl (Or.inl rfl) (pe_call G_l_take (hr.mono (by first | decide | omega)) rfl D_l_take.mg D_l_take.fn.kp D_l_take.bd .nil pass0 (pa_cons (pv 0) (pa_cons pe_int pa_nil))))
  (pss_cons (ps_set (i := 4) sc_l_wide.nd rfl (Or.inr rfl) (pe_lc (own := [("_law_k", 5)]) rfl sc_l_wide.nd (pi_range1 rfl bi.range (pa_cons (pe_callB (call_min2 rfl) (by rfl) bi.min bt_min (pa_cons (pv 2) (pa_cons (pe_ix ix_list (pe_lst (pa_cons pe_int (pa_cons pe_int (pa_cons pe_int (pa_cons pe_int pa_nil))))) (pv 3) (fun _ _ => rfl)) pa_nil))) pa_nil)) (blkOk_by (N := ["_law_bag_here", "_law_names", "_law_many", "_law_way", "_law_some", "_law_k", "_law_pairs", "_law_at"]) (sc := defScope s_l_wide) (by decide +kernel)) (fun _ _ _ _ _ => (pg_name (i := 5) sc_l_wide.nd rfl (Or.inl rfl))) (fun _ _ _ _ _ => pts_nil) (fun _ _ _ _ _ => (pe_call G_l_leaf (hr.mono (by first | decide | omega)) rfl D_l_leaf.mg D_l_leaf.fn.kp D_l_leaf.bd .nil pass0 (pa_cons (pv 0) (pa_cons (pv 1) pa_nil))))))
  (pss_cons (ps_if (pt_cmpR op_eq (pv 3) pe_int (nomark _))
    (pss_cons (ps_setLc (i := 6) (own := [("_law_at", 7)]) rfl sc_l_wide.nd rfl rfl (sw_true rfl rfl rfl (by decide +kernel)) (pi_range1 rfl bi.range (pa_cons (pe_op op_fdiv (pe_op op_sub (pe_callB call_len_seq (by rfl) bi.len bt_len (pa_cons (pv 4) pa_nil)) pe_int) pe_int) pa_nil)) (blkOk_by (N := ["_law_bag_here", "_law_names", "_law_many", "_law_way", "_law_some", "_law_k", "_law_pairs", "_law_at"]) (sc := defScope s_l_wide) (by decide +kernel)) (fun _ _ _ _ _ => (pg_name (i := 7) sc_l_wide.nd rfl (Or.inl rfl))) (fun _ _ _ _ _ => pts_nil) (fun _ _ _ _ _ => (pe_tup (pa_cons (pe_ix (ix_listK (K := K) rfl) (pv 4) (pe_op op_mul pe_int (pv 7)) (fun _ _ => rfl)) (pa_cons (pe_ix (ix_listK (K := K) rfl) (pv 4) (pe_op op_add (pe_op op_mul pe_int (pv 7)) pe_int) (fun _ _ => rfl)) pa_nil)))))
    (pss_one (ps_ret (pe_tup (pa_cons pe_str (pa_cons (pe_callTy call_tupX (by rfl) bi.tuple bt_tuple (pa_cons (pv 6) pa_nil)) (pa_cons (pe_ix ix_list (pv 4) (pe_un un_neg pe_int) (fun _ _ => rfl)) pa_nil)))))))
    pss_nil)
  (pss_one (ps_ret (pe_tup (pa_cons (pe_ix ix_list (pe_lst (pa_cons pe_str (pa_cons pe_str (pa_cons pe_str (pa_cons pe_str pa_nil))))) (pv 3) (fun _ _ => rfl)) (pa_cons (pe_callTy call_tupX (by rfl) bi.tuple bt_tuple (pa_cons (pv 4) pa_nil)) pa_nil)))))))), ?_⟩
    refine ⟨_, rfl, b, 4, rfl, hb, by decide, by decide, fun way w0 w1 => ?_⟩
    refine ⟨_, rfl, sz4, fun p np => ?_⟩
    have x1 := Ex.new (o := .lst [.int 11, .int 11, .int 6, .int 6]) np
    have hL : ∃ L : Int, atI [V.int 11, .int 11, .int 6, .int 6] way = some (.int L) ∧ (L = 11 ∨ L = 6) ∧ (way = 0 → L = 11) := by
      rcases (by omega : way = 0 ∨ way = 1 ∨ way = 2 ∨ way = 3) with rfl | rfl | rfl | rfl
      · exact ⟨11, rfl, .inl rfl, fun _ => rfl⟩
      · exact ⟨11, rfl, .inl rfl, fun _ => rfl⟩
      · exact ⟨6, rfl, .inr rfl, fun h => absurd h (by decide)⟩
      · exact ⟨6, rfl, .inr rfl, fun h => absurd h (by decide)⟩
    obtain ⟨L, hat, hL, hL0⟩ := hL
    have hl1 := ex_l x1 hl
    have hat' := hat
    have up : upd H p (.lst [.int 11, .int 11, .int 6, .int 6]) p = some (.lst [.int 11, .int 11, .int 6, .int 6]) := upd_same
    have hb1 := hb.to x1
    generalize upd H p (.lst [.int 11, .int 11, .int 6, .int 6]) = H1 at x1 hl1 up hb1 ⊢
    refine ⟨_, rfl, p, _, way, .int L, rfl, rfl, SqL.of up, hat, many, L, rfl, if L < many then L else many, rfl, ?_, ?_, fun d nd => ?_⟩
    · split <;> omega
    · split <;> omega
    have hN : ∃ N : Nat, (if L < (many : Int) then L else many).toNat = N ∧ 6 ≤ N ∧ N ≤ 11 ∧ (way = 0 → 7 ≤ N) := by
      refine ⟨_, rfl, ?_, ?_, fun h => ?_⟩
      · split <;> omega
      · split <;> omega
      · have := hL0 h
        split <;> omega
    obtain ⟨N, eN, N6, N11, N0⟩ := hN
    refine lc_range (lo := 0) (n := (if L < (many : Int) then L else many).toNat) (fun j H' => Ex H1 H' ∧ ∃ (xs : List V) (cs : List Cnd), H' d = some (.lst xs) ∧ cs.length = j ∧ CndsAt K H' xs cs ∧
      Cnd.okL ns cs ∧ Cnd.depthL cs ≤ 0 ∧ Cnd.weightL cs ≤ 200020 * j) ?_ ?_ ?_
    · exact ⟨Ex.new nd, [], [], upd_same, rfl, rfl, trivial, Nat.le_refl _, Nat.le_refl _⟩
    · rintro j H' hj ⟨e2, xs, cs, hd, hcl, hcs, hok, hdp, hwt⟩
      rw [eN] at hj
      refine ⟨rfl, _, rfl, _, rfl, b, l, ns, rfl, hb1.to e2, ex_l e2 hl1, n0, n1, fun v lf H2 e3 ok hv => ?_⟩
      have ei : ExI H2 (upd H2 d (.lst (xs ++ [v]))) := ExI.put (e3 _ _ hd) rfl
      refine ⟨xs, e3 _ _ hd, small (by have := cnds_len hcs; omega), (e2.trans e3).mut nd, xs ++ [v], cs ++ [.leaf lf], upd_same, by simp [hcl],
        cnds_app (cndsAt_toI ei _ _ (hcs.to e3)) (cnds_one (cndAt_toI ei (.leaf lf) _ hv)), okL_app (c := .leaf lf) hok ok, depthL_app (c := .leaf lf) hdp (Nat.le_refl 0), ?_⟩
      rw [weightL_app]
      show Cnd.weightL cs + 200000 + 20 ≤ _
      omega
    · rintro H2 ⟨e2, xs, cs, hd, hcl, hcs, hok, hdp, hwt⟩
      rw [eN] at hcl hwt
      have xl := cnds_len hcs
      have x12 := x1.trans e2
      refine ⟨_, rfl, rfl, _, rfl, if_d (fun hw => ?_) (fun hw => ?_)⟩
      · have N7 := N0 (V.int.inj hw)
        refine ⟨_, rfl, d, xs, rfl, .inl (SqL.of hd), _, 1, rfl, rfl, _, 2, rfl, rfl, ⟨by decide, by decide⟩, ((xs.length : Int) - 1) / 2, rfl, by omega, by omega, fun d2 nd2 => ?_⟩
        have em : (((xs.length : Int) - 1) / 2).toNat = (xs.length - 1) / 2 := by omega
        refine lc_range (lo := 0) (n := (((xs.length : Int) - 1) / 2).toNat) (fun j H' => Ex H2 H' ∧ ∃ qs : List Addr, H' d2 = some (.lst (qs.map V.ref)) ∧ qs.length = j ∧
          ∀ i, i < j → ∃ q x y, qs[i]? = some q ∧ xs[2 * i]? = some x ∧ xs[2 * i + 1]? = some y ∧ SqT K H' q [x, y]) ?_ ?_ ?_
        · exact ⟨Ex.new nd2, [], upd_same, rfl, fun i hi => absurd hi (Nat.not_lt_zero i)⟩
        · rintro j H' hj ⟨e3, qs, hq, hql, hall⟩
          rw [em] at hj
          have j1 : 2 * j + 1 < xs.length := by omega
          have d' := e3 _ _ hd
          have i0 : atI xs (2 * (0 + (j : Int))) = some xs[2 * j] := by
            rw [show 2 * (0 + (j : Int)) = ((2 * j : Nat) : Int) by omega]
            exact atI_of (by omega) (by rw [Int.toNat_natCast]; exact List.getElem?_eq_getElem (by omega))
          have i1 : atI xs (2 * (0 + (j : Int)) + 1) = some xs[2 * j + 1] := by
            rw [show 2 * (0 + (j : Int)) + 1 = ((2 * j + 1 : Nat) : Int) by omega]
            exact atI_of (by omega) (by rw [Int.toNat_natCast]; exact List.getElem?_eq_getElem (by omega))
          refine ⟨rfl, _, rfl, _, rfl, 2, _, rfl, rfl, .inl ⟨by decide, by decide⟩, d, xs, _, _, rfl, rfl, SqL.of d', i0, _, rfl, _, rfl, 2, _, rfl, rfl, .inl ⟨by decide, by decide⟩, _, 1, rfl, rfl, d, xs, _, _, rfl, rfl, SqL.of d', i1, sz2, fun q nq => ?_⟩
          have e4 := Ex.new (o := .tup [xs[2 * j], xs[2 * j + 1]]) nq
          have hq4 := e4 _ _ hq
          have ei : ExI (upd H' q (.tup [xs[2 * j], xs[2 * j + 1]])) (upd (upd H' q (.tup [xs[2 * j], xs[2 * j + 1]])) d2 (.lst (qs.map V.ref ++ [.ref q]))) := ExI.put hq4 rfl
          refine ⟨qs.map V.ref, hq4, small (by rw [List.length_map]; omega), (e3.trans e4).mut nd2, qs ++ [q], by rw [upd_same, List.map_append]; rfl, by simp [hql], fun i hi => ?_⟩
          by_cases hij : i < j
          · obtain ⟨q', x, y, g1, g2, g3, g4⟩ := hall i hij
            exact ⟨q', x, y, by rw [List.getElem?_append_left (by omega)]; exact g1, g2, g3, ei.sq (ex_t e4 g4)⟩
          · have : i = j := by omega
            subst this
            exact ⟨q, xs[2 * i], xs[2 * i + 1], by rw [List.getElem?_append_right (by omega), hql]; simp, List.getElem?_eq_getElem (by omega), List.getElem?_eq_getElem (by omega), ei.sq (SqT.of upd_same)⟩
        · rintro H4 ⟨e3, qs, hq, hql, hall⟩
          rw [em] at hql hall
          obtain ⟨z, hz⟩ : ∃ z, xs[xs.length - 1]? = some z := ⟨xs[xs.length - 1]'(by omega), List.getElem?_eq_getElem (by omega)⟩
          obtain ⟨el, hel, hza⟩ := cnds_get hcs hz
          refine ⟨_, rfl, d2, _, rfl, SqL.of hq, fun t H5 nt e5 ht => ⟨_, rfl, 1, rfl, d, xs, -1, z, rfl, rfl, SqL.of (e5 _ _ (e3 _ _ hd)), ?_, sz3, fun v nv => ?_⟩⟩
          · rw [atI_last (n := xs.length - 1) (by omega)]; exact hz
          · have e6 := e5.trans (Ex.new (o := .tup [.str "case", .ref t, z]) nv)
            have e46 := e3.trans e6
            obtain ⟨ce, co⟩ := cnds_ev (m := ((xs.length - 1) / 2)) (hcs.to e46) (by omega)
            obtain ⟨l1, l2⟩ := len_ev (m := ((xs.length - 1) / 2)) (l := cs) (by omega)
            have wv := weight_ev (m := ((xs.length - 1) / 2)) hel (by omega)
            have dv := depthL_ev (m := ((xs.length - 1) / 2)) hdp
            have dm := Cnd.depthL_le.mp hdp el (List.mem_of_getElem? hel)
            refine k _ (.case (ev (((xs.length - 1) / 2)) cs) (od (((xs.length - 1) / 2)) cs) el) _ (x12.trans e46) ⟨by rw [l1, l2], (okL_ev hok).1, (okL_ev hok).2, Cnd.okL_iff.mp hok el (List.mem_of_getElem? hel)⟩ ?_ ?_
              ⟨v, t, qs, ev (((xs.length - 1) / 2)) xs, od (((xs.length - 1) / 2)) xs, z, rfl, SqT.of upd_same, (ht.to (Ex.new nv)).sq, ?_, ce, co, hza.to e46⟩
            · show max (max _ _) _ + 1 ≤ 1
              omega
            · show Cnd.weightL _ + Cnd.weightL _ + el.weight + 40 ≤ _
              omega
            · exact zip_ev hql (by omega) fun i hi => by
                obtain ⟨q', x, y, g1, g2, g3, g4⟩ := hall i hi
                exact ⟨q', x, y, g1, g2, g3, ex_t e6 g4⟩
      · refine ⟨sz4, fun q nq => ?_⟩
        have e3 := Ex.new (o := .lst [.str "", .str "first", .str "all", .str "any"]) nq
        have hk : ∃ kd ∈ kinds, atI [V.str "", .str "first", .str "all", .str "any"] way = some (.str kd) := by
          rcases (by have : way ≠ 0 := fun e => hw (by rw [e]); omega : way = 1 ∨ way = 2 ∨ way = 3) with rfl | rfl | rfl
          · exact ⟨"first", by decide +kernel, rfl⟩
          · exact ⟨"all", by decide +kernel, rfl⟩
          · exact ⟨"any", by decide +kernel, rfl⟩
        obtain ⟨kd, hk, hatk⟩ := hk
        refine ⟨_, rfl, q, _, way, .str kd, rfl, rfl, SqL.of upd_same, hatk, _, rfl, d, xs, rfl, SqL.of (e3 _ _ hd), fun t H3 nt e4 ht => ⟨sz2, fun v nv => ?_⟩⟩
        have e5 := (e3.trans e4).trans (Ex.new (o := .tup [.str kd, .ref t]) nv)
        exact k _ (.node kd cs) _ (x12.trans e5) ⟨hk, hok⟩ (by show Cnd.depthL cs + 1 ≤ 1; omega) (by show Cnd.weightL cs + 40 ≤ _; omega) ⟨v, t, xs, rfl, SqT.of upd_same, (ht.to (Ex.new nv)).sq, hcs.to e5⟩
theorem ok_grown {f : Addr} {fd : FuncData} (D : Def K mg "_law_grown" s_l_grown f fd ["_law_bag_here", "_law_names", "_law_many", "_law_deep"]) (bi : Bi mg)
    (D_l_take : Def K mg "_law_take" s_l_take f_l_take fd_l_take ["_law_bag_here", "_law_many"])
    (G_l_take : FnOk P w K mg base CX0 1 f_l_take fd_l_take ["_law_bag_here", "_law_many"] spTake)
    (D_l_wide : Def K mg "_law_wide" s_l_wide f_l_wide fd_l_wide ["_law_bag_here", "_law_names", "_law_many"])
    (G_l_wide : FnOk P w K mg base CX0 6 f_l_wide fd_l_wide ["_law_bag_here", "_law_names", "_law_many"] (spWide K))
    (D_l_tree : Def K mg "_law_tree" s_l_tree f_l_tree fd_l_tree ["_law_bag_here", "_law_names", "_law_many", "_law_deep"])
    (G_l_tree : FnOk P w K mg base CX0 12 f_l_tree fd_l_tree ["_law_bag_here", "_law_names", "_law_many", "_law_deep"] (spTree K 6)) :
    FnOk P w K mg base CX0 13 f fd ["_law_bag_here", "_law_names", "_law_many", "_law_deep"] (spGrown K) := by
  refine D.fn.ok sc_l_grown (fun vs H Q E h => ?_) (fun cdv A outer s0 H vs Q E hr h => ?_)
  · obtain ⟨b, l, ns, many, deep, rfl, _⟩ := h
    rfl
  · obtain ⟨b, l, ns, many, deep, rfl, hb, hl, n0, n1, m0, m1, hd, k⟩ := h
    refine ⟨_, (pss_cons (ps_if (L2.PW.pt (pw_and (pt_cmpR op_gt (pv 2) pe_int (nomark _)) (pw_and1 (pt_cmpR op_eq (pe_call G_l_take (hr.mono (by first | decide | omega)) rfl D_l_take.mg D_l_take.fn.kp D_l_take.bd .nil pass0 (pa_cons (pv 0) (pa_cons pe_int pa_nil))) pe_int (nomark _)))))
    (pss_one (ps_ret (pe_call G_l_wide (hr.mono (by first | decide | omega)) rfl D_l_wide.mg D_l_wide.fn.kp D_l_wide.bd .nil pass0 (pa_cons (pv 0) (pa_cons (pv 1) (pa_cons (pv 2) pa_nil))))))
    pss_nil)
  (pss_one (ps_ret (pe_call G_l_tree (hr.mono (by first | decide | omega)) rfl D_l_tree.mg D_l_tree.fn.kp D_l_tree.bd .nil pass0 (pa_cons (pv 0) (pa_cons (pv 1) (pa_cons (pv 2) (pa_cons (pv 3) pa_nil)))))))), ?_⟩
    have tree : ∃ (b' l' : Addr) (ns' : List Str) (many' deep' : Nat), [V.ref b, .ref l, nat many, nat deep] = [.ref b', .ref l', nat many', nat deep'] ∧ Bag H b' ∧
        SqL K H l' (ns'.map V.str) ∧ 0 < ns'.length ∧ ns'.length ≤ 100 ∧ 1 ≤ many' ∧ many' ≤ 1000 ∧ deep' < 6 ∧ deep' ≤ 100 ∧
        ∀ v c H', Ex H H' → Cnd.ok ns' c → c.depth ≤ deep' + 1 → c.weight ≤ many' * W deep' → CndAt K H' v c → Q v H' :=
      ⟨b, l, ns, many, deep, rfl, hb, hl, n0, n1, m0, by omega, by omega, by omega, fun v c H' x ok dp wt hv => k v c H' x ok dp (Nat.le_trans wt
        (Nat.le_trans (Nat.mul_le_mul m1 (show W deep ≤ 200600 by unfold W; omega)) (by decide))) hv⟩
    refine ⟨_, rfl, many, 6, rfl, rfl, _, rfl, if_d (fun h6 => ?_) (fun h6 => ?_)⟩
    · refine ⟨_, rfl, b, 2, rfl, hb, by decide, by decide, fun x x0 x1 => ⟨rfl, _, rfl, if_d (fun hx => ?_) (fun hx => ?_)⟩⟩
      · exact ⟨_, rfl, _, rfl, _, rfl, b, l, ns, many, rfl, hb, hl, n0, n1, by omega, by omega, fun v c H' x ok dp wt hv => k v c H' x ok (by omega) wt hv⟩
      · exact ⟨_, rfl, _, rfl, _, rfl, _, rfl, tree⟩
    · exact ⟨_, rfl, _, rfl, _, rfl, _, rfl, tree⟩
end
end K22

set_option Elab.async false
set_option linter.all false
set_option maxRecDepth 100000
set_option maxHeartbeats 4000000
namespace K22
open PySem PySem.Spec PyProof.Rows L2 Evl Gx
theorem empty_tests : testsN 7 (.node "all" []) = [] := by
  rw [testsN, if_neg (by simp only [Cnd.kind]; decide +kernel)]; rfl
theorem empty_places : Cnd.placesN 7 (.node "all" []) true = [([], .node "all" [], true)] := by
  rw [Cnd.placesN]; rfl
theorem empty_due : dueD 7 (.node "all" []) [] [] 0 = .list [.list [], .list [.tuple []], .list [.tuple []], .list [], .list [], .list [], .int 0] := by
  have e1 : kindIn (["all", "any"] : List Str) ([], .node "all" [], true) = true := by simp only [kindIn, Cnd.kind]; decide +kernel
  have e2 : kindIn (["always", "asks", "empty", "number"] : List Str) ([], .node "all" [], true) = false := by simp only [kindIn, Cnd.kind]; decide +kernel
  unfold dueD placesD
  rw [empty_places]
  simp [e1, e2, Cnd.parts, adD]
section
variable {P : Program} {w : World} {K : PySem.W.Frag} {mg : Str → Option Value} {base : Heap}
variable {f_l_bag f_l_take f_l_grown f_l_due f_l_found f_l_alike : Addr} {fd_l_bag fd_l_take fd_l_grown fd_l_due fd_l_found fd_l_alike : FuncData}
theorem ok_law {f : Addr} {fd : FuncData} (D : Def K mg "law" s_law f fd ["_law_script"]) (bi : Bi mg)
    (D_l_bag : Def K mg "_law_bag" s_l_bag f_l_bag fd_l_bag ["_law_script"])
    (G_l_bag : FnOk P w K mg base CX0 1 f_l_bag fd_l_bag ["_law_script"] (spBag K))
    (D_l_take : Def K mg "_law_take" s_l_take f_l_take fd_l_take ["_law_bag_here", "_law_many"])
    (G_l_take : FnOk P w K mg base CX0 1 f_l_take fd_l_take ["_law_bag_here", "_law_many"] spTake)
    (D_l_grown : Def K mg "_law_grown" s_l_grown f_l_grown fd_l_grown ["_law_bag_here", "_law_names", "_law_many", "_law_deep"])
    (G_l_grown : FnOk P w K mg base CX0 13 f_l_grown fd_l_grown ["_law_bag_here", "_law_names", "_law_many", "_law_deep"] (spGrown K))
    (D_l_due : Def K mg "_law_due" s_l_due f_l_due fd_l_due ["_law_condition"])
    (G_l_due : FnQ P w K mg base CX0 20 f_l_due fd_l_due ["_law_condition"] (spD K 1 (TDue K 7)))
    (D_l_found : Def K mg "_law_found" s_l_found f_l_found fd_l_found ["_law_condition"])
    (G_l_found : FnOk P w K mg base CX0 (7 + 6) f_l_found fd_l_found ["_law_condition"] (spFound K 7))
    (D_l_alike : Def K mg "_law_alike" s_l_alike f_l_alike fd_l_alike ["_law_found_here", "_law_due_here"])
    (G_l_alike : FnQ P w K mg base CX0 1 f_l_alike fd_l_alike ["_law_found_here", "_law_due_here"] (spAlike2 K)) :
    FnQ P w K mg base CX0 21 f fd ["_law_script"] (spLaw K) := by
  refine fnq_ok D.fn sc_law (fun vs H Q E h => ?_) (fun cdv A outer s0 H vs Q E hr qu h => ?_)
  · obtain ⟨a, ns, rfl, _⟩ := h
    rfl
  · obtain ⟨a, ns, rfl, ha, hl, k⟩ := h
    have hu64 := hr.units
    have hu := hu_of hr
    have hu2 : (A.deeper (envOfC "law" (defScope s_law) s0.heap.objs.size f cdv)).units + 200 < cLine := by have := hr.un; omega
    refine ⟨_, (pss_cons (ps_set (i := 1) sc_law.nd rfl (Or.inl rfl) (pe_call G_l_bag (hr.mono (by first | decide | omega)) rfl D_l_bag.mg D_l_bag.fn.kp D_l_bag.bd .nil pass0 (pa_cons (pv 0) pa_nil)))
  (pss_cons (ps_for PassesOwn.never rfl (pi_range1 rfl bi.range (pa_cons pe_int pa_nil)) (pg_name (i := 2) sc_law.nd rfl (Or.inl rfl))
    (pss_cons (ps_set (i := 3) sc_law.nd rfl (Or.inl rfl) (pe_call G_l_grown (hr.mono (by first | decide | omega)) rfl D_l_grown.mg D_l_grown.fn.kp D_l_grown.bd .nil pass0 (pa_cons (pv 1) (pa_cons (pe_lst (pa_cons pe_str (pa_cons pe_str (pa_cons pe_str pa_nil)))) (pa_cons (pe_op op_add pe_int (pe_call G_l_take (hr.mono (by first | decide | omega)) rfl D_l_take.mg D_l_take.fn.kp D_l_take.bd .nil pass0 (pa_cons (pv 1) (pa_cons pe_int pa_nil)))) (pa_cons pe_int pa_nil))))))
    (pss_cons (ps_par (i := 4) (j := 5) rfl sc_law.nd rfl rfl (by decide) rfl rfl (pa_cons (pe_callB (call_repD qu hu2) (by rfl) bi.repr bt_repr (pa_cons (pv 3) pa_nil)) (pa_cons (pe_callQ G_l_due qu (hr.mono (by first | decide | omega)) rfl D_l_due.mg D_l_due.fn.kp D_l_due.bd pass0 (pa_cons (pv 3) pa_nil)) pa_nil)) (by rfl))
    (pss_one (ps_for PassesOwn.never rfl (pi_range1 rfl bi.range (pa_cons pe_int pa_nil)) (pg_name (i := 6) sc_law.nd rfl (Or.inl rfl))
      (pss_cons (ps_set (i := 7) sc_law.nd rfl (Or.inl rfl) (pe_call G_l_found (hr.mono (by first | decide | omega)) rfl D_l_found.mg D_l_found.fn.kp D_l_found.bd .nil pass0 (pa_cons (pv 3) pa_nil)))
      (pss_cons (ps_if (L2.PW.pt (pw_or (pt_not (pt_val (pe_callQ G_l_alike qu (hr.mono (by first | decide | omega)) rfl D_l_alike.mg D_l_alike.fn.kp D_l_alike.bd pass0 (pa_cons (pv 7) (pa_cons (pv 5) pa_nil))))) (pw_or1 (pt_cmpR op_ne (pe_callB (call_repD qu hu2) (by rfl) bi.repr bt_repr (pa_cons (pv 3) pa_nil)) (pv 4) (nomark _)))))
        (pss_one (ps_ret pe_bl))
        pss_nil)
      (pss_one (ps_for PassesOwn.never rfl (pi_list (pe_slice sl_list (pv 7) po_none (po_some pe_int))) (pg_name (i := 8) sc_law.nd rfl (Or.inl rfl))
        (pss_one (ps_expr (pe_bm PySem.F.plainAttrs_list PySem.F.slot_list_append PySem.F.type_list_append mt_append (pv 8) (pa_cons pe_non pa_nil)))))))))))))
  (pss_one (ps_ret (pe_callQ G_l_alike qu (hr.mono (by first | decide | omega)) rfl D_l_alike.mg D_l_alike.fn.kp D_l_alike.bd pass0 (pa_cons (pe_call G_l_found (hr.mono (by first | decide | omega)) rfl D_l_found.mg D_l_found.fn.kp D_l_found.bd .nil pass0 (pa_cons (pe_tup (pa_cons pe_str (pa_cons (pe_tup pa_nil) pa_nil))) pa_nil)) (pa_cons (pe_lst (pa_cons (pe_lst pa_nil) (pa_cons (pe_lst (pa_cons (pe_tup pa_nil) pa_nil)) (pa_cons (pe_lst (pa_cons (pe_tup pa_nil) pa_nil)) (pa_cons (pe_lst pa_nil) (pa_cons (pe_lst pa_nil) (pa_cons (pe_lst pa_nil) (pa_cons pe_int pa_nil)))))))) pa_nil))))))), ?_⟩
    refine ⟨_, rfl, a, ns, rfl, ha, by omega, fun b H1 x1 hb => ?_⟩
    refine ⟨10, rfl, by decide, by decide, for_range (n := 10) (fun i σ H' => ∃ x3 x4 x5 x6 x7 x8 x9 : Option V, σ = [some (.ref a), some (.ref b), x3, x4, x5, x6, x7, x8, x9] ∧ Ex H1 H') ?_ ?_ ?_⟩
    · exact ⟨_, _, _, _, _, _, _, rfl, Ex.refl H1⟩
    · rintro i σ H2 hi ⟨x3, x4, x5, x6, x7, x8, x9, rfl, e2⟩
      refine ⟨_, rfl, sz3, fun nl nnl => ⟨_, rfl, b, 12, rfl, (hb.to e2).to (Ex.new nnl), by decide, by decide, fun y y0 y1 => ⟨1, y, rfl, rfl, ?_⟩⟩⟩
      have hm : ∃ m : Nat, (1 : Int) + y = m ∧ 1 ≤ m ∧ m ≤ 12 := ⟨(1 + y).toNat, by omega, by omega, by omega⟩
      obtain ⟨m, em, m1, m12⟩ := hm
      refine ⟨b, nl, nmL, m, 5, congrArg (fun z : Int => [V.ref b, .ref nl, .int z, .int 5]) em, (hb.to e2).to (Ex.new nnl), SqL.of upd_same, by decide, by decide, m1, m12, by decide, fun v c H3 e3 ok dp wt hv => ?_⟩
      have e23 := e2.trans ((Ex.new (o := .lst [.str "n", .str "m", .str "case"]) nnl).trans e3)
      have f0 := fit_cnd nm_nm c ok
      have sh0 : SeqAt.shaped c.data = true := by unfold SeqAt.shaped; rw [f0.lay, Bool.true_and]; exact decide_eq_true (Nat.le_trans f0.deep (by omega))
      have nd0 : c.data.hasDict = false := PyData.hasDict_of_canLay _ f0.lay
      have dd0 : c.data.depth ≤ 100 := Nat.le_trans f0.deep (by omega)
      have ww0 : wide c.data ≤ 10000000 := Nat.le_trans f0.wide (by omega)
      refine ⟨_, rfl, v, c.data, rfl, hv.dp, f0.show_, nd0, dd0, ww0, _, rfl, ?_⟩
      refine ⟨rfl, [], [.x (cndO K c)], (fun d => ∃ ts cols m xs, d = .ow xs ∧ dueD 7 c ts cols m = .list xs ∧ UpOf ts ((testsN 7 c).map Cnd.data) ∧ ColsOf 7 c cols ∧ MaxOf 7 c m), (fun a h => nomatch h),
        ⟨v, [], rfl, (by show CndAt K (hd H3 []) v c; rw [hd_nil]; exact hv), rfl⟩, ⟨c, nmL, rfl, ok, by omega, by omega, by decide, fun ts cols m U C M => ⟨ts, cols, m, _, rfl, rfl, U, C, M⟩⟩, ?_⟩
      rintro d w H4 e4 rr ⟨ts, cols, mx, xs, rfl, ed, U, C, M⟩
      obtain ⟨p, vs, rfl, np, hp, hx⟩ := rr
      have fd0 := fin_due ok (by omega) (by omega) U C M
      have dq : Dp K H4 (.ref p) (dueD 7 c ts cols mx) := by
        rw [ed]
        refine .lst (SqL.of hp) (DqAll.free (hx.to (hd_ex _ _)) ?_)
        have z := PyData.hasDict_of_canLay _ fd0.lay
        rw [ed] at z
        simpa [PyData.hasDict] using z
      refine ⟨_, _, rfl, ?_⟩
      refine ⟨2, rfl, by decide, by decide, for_range (n := 2) (fun j σ H' => ∃ x6 x7 x8 : Option V, σ = [some (.ref a), some (.ref b), some (.int (0 + (i : Int))), some v, some (.str c.data.shown), some (.ref p), x6, x7, x8] ∧ Ex H4 H') ?_ ?_ ?_⟩
      · exact ⟨_, _, _, rfl, Ex.refl H4⟩
      · rintro j σ H5 hj ⟨x6, x7, x8, rfl, e5⟩
        refine ⟨_, rfl, v, c, nmL, rfl, (hv.to e4).to e5, ok, by omega, by omega, fun l ts' cols' m' H6 e6 FA U' C' M' => ?_⟩
        have x56 := e5.trans e6
        rw [due_one U' C' M' U C M] at FA
        refine ⟨_, rfl, _, rfl, .ref l, .ref p, _, rfl, FA.dp, dq.to x56, fd0, _, rfl, ?_⟩
        refine ⟨_, rfl, v, c.data, rfl, ((hv.to e4).to x56).dp, f0.show_, nd0, dd0, ww0, _, rfl, rfl, _, rfl, if_nd (fun h => absurd rfl h) (fun _ => ?_)⟩
        obtain ⟨as, mm, al, hl6, each⟩ := FA.at_
        have cut : cutV (as.map V.ref ++ [V.int mm]) none (some 6) = as.map V.ref := by
          unfold cutV
          have e1 : (as.map V.ref ++ [V.int mm]).length = 7 := by simp [al]
          rw [show HT.sIx (as.map V.ref ++ [V.int mm]).length 0 none = 0 from rfl, List.drop_zero, Nat.sub_zero, e1, show HT.sIx 7 7 (some 6) = 6 from rfl, List.take_append_of_le_length (by simp [al]), List.take_of_length_le (by simp [al])]
        refine ⟨_, rfl, 6, rfl, l, _, rfl, SqL.of hl6, fun q nq => ?_⟩
        rw [cut]
        have xq : Ex H6 (upd H6 q (.lst (as.map V.ref))) := Ex.new nq
        refine ⟨q, rfl, ⟨_, SqL.of upd_same⟩, for_list (xs := as.map V.ref) (fun t σ H' => ∃ x8 : Option V, σ = [some (.ref a), some (.ref b), some (.int (0 + (i : Int))), some v, some (.str c.data.shown), some (.ref p), some (.int (0 + (j : Int))), some (.ref l), x8] ∧
          Ex H4 H' ∧ H' q = some (.lst (as.map V.ref)) ∧ ∀ a ∈ as, ∃ xs, H' a = some (.lst xs) ∧ xs.length ≤ 160000 + t) ?_ (fun t σ H' _ z => SqL.of (let ⟨_, _, _, e, _⟩ := z; e)) ?_ ?_⟩
        · refine ⟨_, rfl, x56.trans xq, upd_same, fun a ma => ?_⟩
          obtain ⟨_, xs, ha, lx⟩ := each a ma
          exact ⟨xs, xq _ _ ha, by omega⟩
        · rintro t z σ H7 ht ⟨x8, rfl, e7, hq, hall⟩
          obtain ⟨r, mr, rfl⟩ : ∃ r ∈ as, z = V.ref r := by
            rw [List.getElem?_map] at ht
            obtain ⟨r, h1, h2⟩ := Option.map_eq_some_iff.mp ht
            exact ⟨r, List.mem_of_getElem? h1, h2.symm⟩
          obtain ⟨xs, hr7, lx⟩ := hall r mr
          obtain ⟨nr, _, hr6, _⟩ := each r mr
          have tl : t < 6 := by have := (List.getElem?_eq_some_iff.mp ht).1; rw [List.length_map, al] at this; exact this
          have ne : q ≠ r := fun e => by rw [e, hr6] at nq; cases nq
          refine ⟨_, rfl, .inl ⟨rfl, _, SqL.of hr7⟩, r, xs, _, rfl, rfl, hr7, by rw [sizeLine_eq]; omega, ?_⟩
          refine ⟨_, rfl, e7.mut (fresh_back e5 nr), by rw [upd_ne ne]; exact hq, fun a ma => ?_⟩
          by_cases ea : a = r
          · subst ea
            exact ⟨_, upd_same, by rw [List.length_append]; show _ + 1 ≤ _; omega⟩
          · obtain ⟨ys, ha, ly⟩ := hall a ma
            exact ⟨ys, by rw [upd_ne ea]; exact ha, by omega⟩
        · rintro σ H7 ⟨x8, rfl, e7, _, _⟩
          exact ⟨_, _, _, rfl, e7⟩
      · rintro σ H5 ⟨x6, x7, x8, rfl, e5⟩
        exact ⟨_, _, _, _, _, _, _, rfl, e23.trans (e4.trans e5)⟩
    · rintro σ H2 ⟨x3, x4, x5, x6, x7, x8, x9, rfl, e2⟩
      refine ⟨Nat.zero_le _, fun t0 n0 => ⟨sz2, fun q0 m0 => ?_⟩⟩
      have y1 : Ex H2 (upd H2 t0 (.tup [])) := Ex.new n0
      have y2 : Ex (upd H2 t0 (.tup [])) (upd (upd H2 t0 (.tup [])) q0 (.tup [.str "all", .ref t0])) := Ex.new m0
      have hv : CndAt K (upd (upd H2 t0 (.tup [])) q0 (.tup [.str "all", .ref t0])) (.ref q0) (.node "all" []) := ⟨q0, t0, [], rfl, SqT.of upd_same, SqT.of (y2 _ _ upd_same), rfl⟩
      have ok : Cnd.ok nmL (.node "all" []) := ⟨by decide +kernel, trivial⟩
      refine ⟨.ref q0, .node "all" [], nmL, rfl, hv, ok, by decide, by decide, fun l ts cols m H3 e3 FA U C M => ?_⟩
      have hts : ts = [] := List.eq_nil_iff_forall_not_mem.mpr fun d md => by
        have := (U.mem d).mp md
        rw [empty_tests] at this; cases this
      have hcols : cols = [] := List.eq_nil_iff_forall_not_mem.mpr fun x mx => by
        obtain ⟨d, md, _⟩ := (C.mem x).mp mx
        rw [empty_tests] at md; cases md
      have hm : m = 0 := by
        obtain ⟨⟨z, mz, e⟩, _⟩ := M
        rw [empty_places] at mz
        rw [List.mem_singleton.mp mz] at e
        exact e.symm
      subst hts hcols hm
      rw [empty_due] at FA
      refine ⟨Nat.zero_le _, fun l1 n1 => ⟨Nat.zero_le _, fun t1 m1 => ⟨sz1, fun l2 n2 => ⟨Nat.zero_le _, fun t2 m2 => ⟨sz1, fun l3 n3 => ⟨Nat.zero_le _, fun l4 n4 => ⟨Nat.zero_le _, fun l5 n5 => ⟨Nat.zero_le _, fun l6 n6 => ⟨by rw [sizeLine_eq]; simp, fun L nL => ?_⟩⟩⟩⟩⟩⟩⟩⟩⟩
      have z9 : Ex _ _ := Ex.new (o := .lst [.ref l1, .ref l2, .ref l3, .ref l4, .ref l5, .ref l6, .int 0]) nL
      have z8 := (Ex.new (o := .lst []) n6).trans z9
      have z7 := (Ex.new (o := .lst []) n5).trans z8
      have z6 := (Ex.new (o := .lst []) n4).trans z7
      have z5 := (Ex.new (o := .lst [.ref t2]) n3).trans z6
      have z4 := (Ex.new (o := .tup []) m2).trans z5
      have z3 := (Ex.new (o := .lst [.ref t1]) n2).trans z4
      have z2 := (Ex.new (o := .tup []) m1).trans z3
      have z1 := (Ex.new (o := .lst []) n1).trans z2
      refine ⟨.ref l, .ref L, _, rfl, Dp.to FA.dp z1, ?_, ?_, k _⟩
      · exact .lst (SqL.of upd_same) (.cons (.lst (SqL.of (z2 _ _ upd_same)) .nil) (.cons (.lst (SqL.of (z4 _ _ upd_same)) (.cons (.tup (SqT.of (z3 _ _ upd_same)) .nil) .nil)) (.cons (.lst (SqL.of (z6 _ _ upd_same)) (.cons (.tup (SqT.of (z5 _ _ upd_same)) .nil) .nil))
          (.cons (.lst (SqL.of (z7 _ _ upd_same)) .nil) (.cons (.lst (SqL.of (z8 _ _ upd_same)) .nil) (.cons (.lst (SqL.of (z9 _ _ upd_same)) .nil) (.cons (.int 0) .nil)))))))
      · rw [← empty_due]
        exact fin_due ok (by decide) (by decide) U C M
end
end K22

set_option Elab.async false
set_option linter.all false
set_option maxRecDepth 100000
set_option maxHeartbeats 2000000
/-! a def whose last parameter stands at True, by what the head tells of it -/
namespace Gx
open PySem PySem.Spec PyProof.Rows L2 Evl
def IsDefO (K : PySem.W.Frag) (x : Str) (st : Stmt) (f : Addr) : Prop :=
  ∃ (oc : Value) (od : Option Addr) (kV doc pm : Value) (an : Option Addr) (cdv ct : Value) (osl : Array (Option Value)) (T : Addr) (o : Obj) (its : List Value) (n : Nat),
    K.lookup f = some ⟨oc, od, .func (PySem.W.fnOf x x (defArgs st) (defBody st) (defScope st) (.ref T) kV doc pm an cdv ct), osl⟩ ∧
      PySem.W.codeIn K cdv x = true ∧ PySem.W.keepIn K (.ref f) = true ∧ K.lookup T = some o ∧ o.data = .seq its.toArray n ∧ Vals [V.bl true] its
theorem isdefo_mk {K : PySem.W.Frag} {x : Str} {st : Stmt} {f T : Addr} {oc : Value} {od : Option Addr} {kV doc pm : Value} {an : Option Addr} {cdv ct : Value} {osl : Array (Option Value)} {dd : Option Addr} {its : Array Value} {n : Nat} {sl : Array (Option Value)}
    (l : K.lookup f = some ⟨oc, od, .func (PySem.W.fnOf x x (defArgs st) (defBody st) (defScope st) (.ref T) kV doc pm an cdv ct), osl⟩)
    (c : PySem.W.codeIn K cdv x = true) (k : PySem.W.keepIn K (.ref f) = true) (t : K.lookup T = some ⟨.type "tuple", dd, .seq its n, sl⟩) (v : Vals [V.bl true] its.toList) : IsDefO K x st f :=
  ⟨_, _, _, _, _, _, _, _, _, T, _, its.toList, n, l, c, k, t, rfl, v⟩
theorem defO_mk {K : PySem.W.Frag} {h : Heap} {mg : Str → Option Value} {x : Str} {st : Stmt} {f : Addr} {ps : List Str} (m : Nat)
    (X : K.In h) (G : h.Ns mainGlobals mg) (a : PySem.W.nsIn K mainGlobals x = some (some (.ref f))) (d : IsDefO K x st f) (hm : m + 1 = ps.length)
    (h2 : ∀ (T : Addr) (kV doc pm : Value) (an : Option Addr) (cdv ct : Value) (us its : List Value), us.length = m + 1 → its.length = 1 →
      ∃ k, bindArgs (PySem.W.fnOf x x (defArgs st) (defBody st) (defScope st) (.ref T) kV doc pm an cdv ct) ⟨us, []⟩ = seqItems? (.ref T) >>= k ∧ k (some its.toArray) = pure (ps.zip (us ++ its.drop 1)))
    (h1 : ∀ (T : Addr) (kV doc pm : Value) (an : Option Addr) (cdv ct : Value) (us its : List Value), us.length = m → its.length = 1 →
      ∃ k, bindArgs (PySem.W.fnOf x x (defArgs st) (defBody st) (defScope st) (.ref T) kV doc pm an cdv ct) ⟨us, []⟩ = seqItems? (.ref T) >>= k ∧ k (some its.toArray) = pure (ps.zip (us ++ its.drop 0))) :
    ∃ fd, DefO K mg x st f fd ps := by
  obtain ⟨oc, od, kV, doc, pm, an, cdv, ct, osl, T, o, its, n, l, c, k, t, od', v⟩ := d
  have F : FunD K x x (defArgs st) (defBody st) (defScope st) [V.bl true] [] f (PySem.W.fnOf x x (defArgs st) (defBody st) (defScope st) (.ref T) kV doc pm an cdv ct) :=
    ⟨⟨oc, od, .ref T, kV, doc, pm, an, cdv, ct, osl, rfl, l, c, .inr ⟨by simp, T, o, its, n, rfl, t, od', v⟩, .inl rfl⟩, k⟩
  have b2 := F.binds1 (ps := ps) (m + 1) 1 (by simp) (by simpa using hm) h2
  have b1 := F.binds1 (ps := ps) m 0 (by simp) (by simpa using hm) h1
  obtain ⟨ds, z, B2⟩ := b2
  obtain ⟨es, y, B1⟩ := b1
  cases z
  cases y with
  | cons r rest =>
    cases rest
    cases r
    exact ⟨_, F, PySem.W.mg_of X G a, B2, B1⟩
end Gx

set_option Elab.async false
set_option linter.all false
set_option maxRecDepth 100000
set_option maxHeartbeats 8000000
namespace K22
open PySem PySem.Spec PyProof.Rows L2 Evl Gx
theorem isdef_mk {K : PySem.W.Frag} {x qual : Str} {st : Stmt} {f : Addr} {oc : Value} {od : Option Addr} {kV doc pm : Value} {an : Option Addr} {cdv ct : Value} {osl : Array (Option Value)}
    (l : K.lookup f = some ⟨oc, od, .func (PySem.W.fnOf x qual (defArgs st) (defBody st) (defScope st) .none kV doc pm an cdv ct), osl⟩)
    (c : PySem.W.codeIn K cdv qual = true) (k : PySem.W.keepIn K (.ref f) = true) : IsDef K x qual st f := ⟨_, _, _, _, _, _, _, _, _, l, c, k⟩
theorem cls_mk {K : PySem.W.Frag} {C : Addr} {nm q : Str} {N : Addr} {bs bm : List Value} {sn : List Str} {sub : List Value} {ab : Bool} {col : Option Bool} {dd : Option Addr} {k0 k1 k2 k3 k5 : Option Value}
    (l : K.lookup C = some (excClassObj nm q C N bs bm true sn sub ab col dd k0 k1 k2 k3 k5 "ValueError.__new__")) (v : HandSPX.refsVE bm = true) :
    ∃ nm q N bs bm sn sub ab col dd k0 k1 k2 k3 k5, K.lookup C = some (excClassObj nm q C N bs bm true sn sub ab col dd k0 k1 k2 k3 k5 "ValueError.__new__") ∧ HandSPX.refsVE bm = true :=
  ⟨_, _, _, _, _, _, _, _, _, _, _, _, _, _, _, l, v⟩
/-- the error class's own clause takes it -/
theorem exm_own {K : PySem.W.Frag} {C : Addr} (h1 : PySem.W.subIn K (.ref C) (.type "BaseException") = some true) (h2 : PySem.W.isClsIn K C = true)
    (h3 : PySem.W.typeIn K (.ref C) = some (.type "type")) (h4 : PySem.W.subIn K (.ref C) (.ref C) = some true) : PySem.W.exmOne K (.ref C) (.ref C) = some true := by
  have g : (PySem.W.clsIn K C).isSome = true := h2
  have b : ((PySem.W.clsIn K C).isSome && PySem.W.typeIn K (.ref C) == some (.type "type")) = true := by rw [g, h3]; rfl
  have a : (PySem.W.subIn K (.ref C) (.type "BaseException") == some true) = true := by rw [h1]; rfl
  show (if (PySem.W.subIn K (.ref C) (.type "BaseException") == some true) = true then
    (if ((PySem.W.clsIn K C).isSome && PySem.W.typeIn K (.ref C) == some (.type "type")) = true then PySem.W.subIn K (.ref C) (.ref C) else none) else none) = some true
  rw [if_pos a, if_pos b]
  exact h4
theorem err_mk {K : PySem.W.Frag} {h : Heap} {mg : Str → Option Value} {x qual fl : Str} {ps : List Str} {st : Stmt} {C fI : Addr} (X : K.In h) (G : h.Ns mainGlobals mg)
    (aC : PySem.W.nsIn K mainGlobals x = some (some (.ref C)))
    (cC : ∃ nm q N bs bm sn sub ab col dd k0 k1 k2 k3 k5, K.lookup C = some (excClassObj nm q C N bs bm true sn sub ab col dd k0 k1 k2 k3 k5 "ValueError.__new__") ∧ HandSPX.refsVE bm = true)
    (sa : PySem.W.findIn K (.ref C) "__setattr__" = some (some (.builtin "object.__setattr__")))
    (ga : PySem.W.findIn K (.ref C) "__getattribute__" = some (some (.builtin "BaseException.__getattribute__")))
    (gg : PySem.W.findIn K (.ref C) "__getattr__" = some none) (no : PySem.W.findIn K (.ref C) fl = some none)
    (iC : PySem.W.findIn K (.ref C) "__init__" = some (some (.ref fI))) (tI : PySem.W.typeIn K (.ref fI) = some (.type "function"))
    (kC : PySem.W.keepIn K (.ref C) = true) (eC : PySem.W.subIn K (.ref C) (.type "BaseException") = some true) (tC : PySem.W.typeIn K (.ref C) = some (.type "type"))
    (hC : PySem.W.hasDictIn K C = true) (oC : PySem.W.isClsIn K C = true) (sC : PySem.W.subIn K (.ref C) (.ref C) = some true)
    (d : IsDef K "__init__" qual st fI)
    (hb : ∀ (kV doc pm : Value) (an : Option Addr) (cdv ct : Value) (us : List Value), us.length = ps.length →
      bindArgs (PySem.W.fnOf "__init__" qual (defArgs st) (defBody st) (defScope st) .none kV doc pm an cdv ct) ⟨us, []⟩ = pure (ps.zip us)) :
    ∃ fd, Err K mg x qual fl ps st C fI fd := by
  obtain ⟨fd, F⟩ := d.fn
  exact ⟨fd, ⟨cC, sa, eC, tC, kC⟩, PySem.W.mg_of X G aC, iC, tI, no, ⟨ga, gg, eC, hC⟩, exm_own eC oC tC sC, F, F.binds hb⟩
theorem conT_mk {K : PySem.W.Frag} {h : Heap} {mg : Str → Option Value} {x : Str} {a : Addr} {xs : List V} {dd : Option Addr} {its : Array Value} {n : Nat} {sl : Array (Option Value)}
    (X : K.In h) (G : h.Ns mainGlobals mg) (aC : PySem.W.nsIn K mainGlobals x = some (some (.ref a))) (l : K.lookup a = some ⟨.type "tuple", dd, .seq its n, sl⟩)
    (v : Vals xs its.toList) (sz : its.size ≤ sizeLine) : ConT K mg x a xs := ⟨PySem.W.mg_of X G aC, fun H => .inr ⟨_, its, n, l, rfl, rfl, sz, v⟩⟩
theorem all_ok {P : Program} {w : World} {K : PySem.W.Frag} {h : Heap} {mg : Str → Option Value} {fa f_column_of f_parts f_is_when f_plain_parts f_places f_addresses f_nodes f_leaves f_all_tests f_tests_in f_columns_in f_depth f_l_bag f_l_take f_l_alike f_l_one f_l_number f_l_step f_l_test f_l_leaf f_l_small f_l_split f_l_tree f_l_parts f_l_spots f_l_wide f_l_grown f_l_found f_l_due f_law a_TESTS a_LEAVES a_NODES a_LISTS : Addr} (X : K.In h) (G : h.Ns mainGlobals mg) (hfa : mg "law" = some (.ref fa))
    (a_column_of : PySem.W.nsIn K mainGlobals "column_of" = some (some (.ref f_column_of))) (d_column_of : IsDef K "column_of" "column_of" s_column_of f_column_of)
    (a_parts : PySem.W.nsIn K mainGlobals "parts" = some (some (.ref f_parts))) (d_parts : IsDef K "parts" "parts" s_parts f_parts)
    (a_is_when : PySem.W.nsIn K mainGlobals "_is_when" = some (some (.ref f_is_when))) (d_is_when : IsDef K "_is_when" "_is_when" s_is_when f_is_when)
    (a_plain_parts : PySem.W.nsIn K mainGlobals "plain_parts" = some (some (.ref f_plain_parts))) (d_plain_parts : IsDef K "plain_parts" "plain_parts" s_plain_parts f_plain_parts)
    (a_places : PySem.W.nsIn K mainGlobals "places" = some (some (.ref f_places))) (d_places : IsDefO K "places" s_places f_places)
    (a_addresses : PySem.W.nsIn K mainGlobals "addresses" = some (some (.ref f_addresses))) (d_addresses : IsDef K "addresses" "addresses" s_addresses f_addresses)
    (a_nodes : PySem.W.nsIn K mainGlobals "nodes" = some (some (.ref f_nodes))) (d_nodes : IsDef K "nodes" "nodes" s_nodes f_nodes)
    (a_leaves : PySem.W.nsIn K mainGlobals "leaves" = some (some (.ref f_leaves))) (d_leaves : IsDef K "leaves" "leaves" s_leaves f_leaves)
    (a_all_tests : PySem.W.nsIn K mainGlobals "all_tests" = some (some (.ref f_all_tests))) (d_all_tests : IsDef K "all_tests" "all_tests" s_all_tests f_all_tests)
    (a_tests_in : PySem.W.nsIn K mainGlobals "tests_in" = some (some (.ref f_tests_in))) (d_tests_in : IsDef K "tests_in" "tests_in" s_tests_in f_tests_in)
    (a_columns_in : PySem.W.nsIn K mainGlobals "columns_in" = some (some (.ref f_columns_in))) (d_columns_in : IsDef K "columns_in" "columns_in" s_columns_in f_columns_in)
    (a_depth : PySem.W.nsIn K mainGlobals "depth" = some (some (.ref f_depth))) (d_depth : IsDef K "depth" "depth" s_depth f_depth)
    (a_l_bag : PySem.W.nsIn K mainGlobals "_law_bag" = some (some (.ref f_l_bag))) (d_l_bag : IsDef K "_law_bag" "_law_bag" s_l_bag f_l_bag)
    (a_l_take : PySem.W.nsIn K mainGlobals "_law_take" = some (some (.ref f_l_take))) (d_l_take : IsDef K "_law_take" "_law_take" s_l_take f_l_take)
    (a_l_alike : PySem.W.nsIn K mainGlobals "_law_alike" = some (some (.ref f_l_alike))) (d_l_alike : IsDef K "_law_alike" "_law_alike" s_l_alike f_l_alike)
    (a_l_one : PySem.W.nsIn K mainGlobals "_law_one" = some (some (.ref f_l_one))) (d_l_one : IsDef K "_law_one" "_law_one" s_l_one f_l_one)
    (a_l_number : PySem.W.nsIn K mainGlobals "_law_number" = some (some (.ref f_l_number))) (d_l_number : IsDef K "_law_number" "_law_number" s_l_number f_l_number)
    (a_l_step : PySem.W.nsIn K mainGlobals "_law_step" = some (some (.ref f_l_step))) (d_l_step : IsDef K "_law_step" "_law_step" s_l_step f_l_step)
    (a_l_test : PySem.W.nsIn K mainGlobals "_law_test" = some (some (.ref f_l_test))) (d_l_test : IsDef K "_law_test" "_law_test" s_l_test f_l_test)
    (a_l_leaf : PySem.W.nsIn K mainGlobals "_law_leaf" = some (some (.ref f_l_leaf))) (d_l_leaf : IsDef K "_law_leaf" "_law_leaf" s_l_leaf f_l_leaf)
    (a_l_small : PySem.W.nsIn K mainGlobals "_law_small" = some (some (.ref f_l_small))) (d_l_small : IsDef K "_law_small" "_law_small" s_l_small f_l_small)
    (a_l_split : PySem.W.nsIn K mainGlobals "_law_split" = some (some (.ref f_l_split))) (d_l_split : IsDef K "_law_split" "_law_split" s_l_split f_l_split)
    (a_l_tree : PySem.W.nsIn K mainGlobals "_law_tree" = some (some (.ref f_l_tree))) (d_l_tree : IsDef K "_law_tree" "_law_tree" s_l_tree f_l_tree)
    (a_l_parts : PySem.W.nsIn K mainGlobals "_law_parts" = some (some (.ref f_l_parts))) (d_l_parts : IsDef K "_law_parts" "_law_parts" s_l_parts f_l_parts)
    (a_l_spots : PySem.W.nsIn K mainGlobals "_law_spots" = some (some (.ref f_l_spots))) (d_l_spots : IsDef K "_law_spots" "_law_spots" s_l_spots f_l_spots)
    (a_l_wide : PySem.W.nsIn K mainGlobals "_law_wide" = some (some (.ref f_l_wide))) (d_l_wide : IsDef K "_law_wide" "_law_wide" s_l_wide f_l_wide)
    (a_l_grown : PySem.W.nsIn K mainGlobals "_law_grown" = some (some (.ref f_l_grown))) (d_l_grown : IsDef K "_law_grown" "_law_grown" s_l_grown f_l_grown)
    (a_l_found : PySem.W.nsIn K mainGlobals "_law_found" = some (some (.ref f_l_found))) (d_l_found : IsDef K "_law_found" "_law_found" s_l_found f_l_found)
    (a_l_due : PySem.W.nsIn K mainGlobals "_law_due" = some (some (.ref f_l_due))) (d_l_due : IsDef K "_law_due" "_law_due" s_l_due f_l_due)
    (a_law : PySem.W.nsIn K mainGlobals "law" = some (some (.ref f_law))) (d_law : IsDef K "law" "law" s_law f_law)
    (b_len : PySem.W.nsIn K mainGlobals "len" = some none)
    (b_abs : PySem.W.nsIn K mainGlobals "abs" = some none)
    (b_max : PySem.W.nsIn K mainGlobals "max" = some none)
    (b_min : PySem.W.nsIn K mainGlobals "min" = some none)
    (b_repr : PySem.W.nsIn K mainGlobals "repr" = some none)
    (b_int : PySem.W.nsIn K mainGlobals "int" = some none)
    (b_tuple : PySem.W.nsIn K mainGlobals "tuple" = some none)
    (b_list : PySem.W.nsIn K mainGlobals "list" = some none)
    (b_dict : PySem.W.nsIn K mainGlobals "dict" = some none)
    (b_isinstance : PySem.W.nsIn K mainGlobals "isinstance" = some none)
    (b_sorted : PySem.W.nsIn K mainGlobals "sorted" = some none)
    (b_sum : PySem.W.nsIn K mainGlobals "sum" = some none)
    (b_all : PySem.W.nsIn K mainGlobals "all" = some none)
    (b_any : PySem.W.nsIn K mainGlobals "any" = some none)
    (b_range : PySem.W.nsIn K mainGlobals "range" = some none)
    (b_enumerate : PySem.W.nsIn K mainGlobals "enumerate" = some none)
    (b_zip : PySem.W.nsIn K mainGlobals "zip" = some none)
    (b_bool : PySem.W.nsIn K mainGlobals "bool" = some none)
    (b_str : PySem.W.nsIn K mainGlobals "str" = some none)
    (b_set : PySem.W.nsIn K mainGlobals "set" = some none)
    (C_TESTS : ConT K mg "TESTS" a_TESTS ((["asks", "empty", "number"] : List Str).map V.str))
    (C_LEAVES : ConT K mg "LEAVES" a_LEAVES ((["always", "asks", "empty", "number"] : List Str).map V.str))
    (C_NODES : ConT K mg "NODES" a_NODES ((["all", "any"] : List Str).map V.str))
    (C_LISTS : ConT K mg "LISTS" a_LISTS ((["all", "any", "first"] : List Str).map V.str)) :
    ∃ fd : FuncData, (∀ (s : Shared) (u : Value), BindsTo s fd ⟨[u], []⟩ [("_law_script", u)]) ∧ ∀ base : Heap, K.In base → base.Ns mainGlobals mg → FnQ P w K mg base CX0 21 fa fd ["_law_script"] (spLaw K) := by
  have n {x : Str} (z : PySem.W.nsIn K mainGlobals x = some none) : mg x = none := PySem.W.mg_none_of X G z
  have bi : Bi mg := ⟨n b_len, n b_abs, n b_max, n b_min, n b_repr, n b_int, n b_tuple, n b_list, n b_dict, n b_isinstance, n b_sorted, n b_sum, n b_all, n b_any, n b_range, n b_enumerate, n b_zip, n b_bool, n b_str, n b_set⟩
  obtain ⟨fd_column_of, D_column_of⟩ := def_mk (ps := ["test"]) X G a_column_of d_column_of fun _ _ _ _ _ _ us hl => match us, hl with | [_], _ => rfl
  obtain ⟨fd_parts, D_parts⟩ := def_mk (ps := ["condition"]) X G a_parts d_parts fun _ _ _ _ _ _ us hl => match us, hl with | [_], _ => rfl
  obtain ⟨fd_is_when, D_is_when⟩ := def_mk (ps := ["condition", "index"]) X G a_is_when d_is_when fun _ _ _ _ _ _ us hl => match us, hl with | [_, _], _ => rfl
  obtain ⟨fd_plain_parts, D_plain_parts⟩ := def_mk (ps := ["condition", "plain"]) X G a_plain_parts d_plain_parts fun _ _ _ _ _ _ us hl => match us, hl with | [_, _], _ => rfl
  obtain ⟨fd_places, D_places⟩ := defO_mk (ps := ["condition", "plain"]) 1 X G a_places d_places rfl (fun T kV doc pm an cdv ct us its hu hi => match us, its, hu, hi with | [_, _], [_], _, _ => ⟨_, rfl, rfl⟩) (fun T kV doc pm an cdv ct us its hu hi => match us, its, hu, hi with | [_], [_], _, _ => ⟨_, rfl, rfl⟩)
  obtain ⟨fd_addresses, D_addresses⟩ := def_mk (ps := ["condition"]) X G a_addresses d_addresses fun _ _ _ _ _ _ us hl => match us, hl with | [_], _ => rfl
  obtain ⟨fd_nodes, D_nodes⟩ := def_mk (ps := ["condition"]) X G a_nodes d_nodes fun _ _ _ _ _ _ us hl => match us, hl with | [_], _ => rfl
  obtain ⟨fd_leaves, D_leaves⟩ := def_mk (ps := ["condition"]) X G a_leaves d_leaves fun _ _ _ _ _ _ us hl => match us, hl with | [_], _ => rfl
  obtain ⟨fd_all_tests, D_all_tests⟩ := def_mk (ps := ["condition"]) X G a_all_tests d_all_tests fun _ _ _ _ _ _ us hl => match us, hl with | [_], _ => rfl
  obtain ⟨fd_tests_in, D_tests_in⟩ := def_mk (ps := ["condition"]) X G a_tests_in d_tests_in fun _ _ _ _ _ _ us hl => match us, hl with | [_], _ => rfl
  obtain ⟨fd_columns_in, D_columns_in⟩ := def_mk (ps := ["condition"]) X G a_columns_in d_columns_in fun _ _ _ _ _ _ us hl => match us, hl with | [_], _ => rfl
  obtain ⟨fd_depth, D_depth⟩ := def_mk (ps := ["condition"]) X G a_depth d_depth fun _ _ _ _ _ _ us hl => match us, hl with | [_], _ => rfl
  obtain ⟨fd_l_bag, D_l_bag⟩ := def_mk (ps := ["_law_script"]) X G a_l_bag d_l_bag fun _ _ _ _ _ _ us hl => match us, hl with | [_], _ => rfl
  obtain ⟨fd_l_take, D_l_take⟩ := def_mk (ps := ["_law_bag_here", "_law_many"]) X G a_l_take d_l_take fun _ _ _ _ _ _ us hl => match us, hl with | [_, _], _ => rfl
  obtain ⟨fd_l_alike, D_l_alike⟩ := def_mk (ps := ["_law_found_here", "_law_due_here"]) X G a_l_alike d_l_alike fun _ _ _ _ _ _ us hl => match us, hl with | [_, _], _ => rfl
  obtain ⟨fd_l_one, D_l_one⟩ := def_mk (ps := ["_law_bag_here", "_law_things"]) X G a_l_one d_l_one fun _ _ _ _ _ _ us hl => match us, hl with | [_, _], _ => rfl
  obtain ⟨fd_l_number, D_l_number⟩ := def_mk (ps := ["_law_bag_here"]) X G a_l_number d_l_number fun _ _ _ _ _ _ us hl => match us, hl with | [_], _ => rfl
  obtain ⟨fd_l_step, D_l_step⟩ := def_mk (ps := ["_law_bag_here"]) X G a_l_step d_l_step fun _ _ _ _ _ _ us hl => match us, hl with | [_], _ => rfl
  obtain ⟨fd_l_test, D_l_test⟩ := def_mk (ps := ["_law_bag_here", "_law_names"]) X G a_l_test d_l_test fun _ _ _ _ _ _ us hl => match us, hl with | [_, _], _ => rfl
  obtain ⟨fd_l_leaf, D_l_leaf⟩ := def_mk (ps := ["_law_bag_here", "_law_names"]) X G a_l_leaf d_l_leaf fun _ _ _ _ _ _ us hl => match us, hl with | [_, _], _ => rfl
  obtain ⟨fd_l_small, D_l_small⟩ := def_mk (ps := ["_law_bag_here", "_law_names"]) X G a_l_small d_l_small fun _ _ _ _ _ _ us hl => match us, hl with | [_, _], _ => rfl
  obtain ⟨fd_l_split, D_l_split⟩ := def_mk (ps := ["_law_bag_here", "_law_many", "_law_number_here"]) X G a_l_split d_l_split fun _ _ _ _ _ _ us hl => match us, hl with | [_, _, _], _ => rfl
  obtain ⟨fd_l_tree, D_l_tree⟩ := def_mk (ps := ["_law_bag_here", "_law_names", "_law_many", "_law_deep"]) X G a_l_tree d_l_tree fun _ _ _ _ _ _ us hl => match us, hl with | [_, _, _, _], _ => rfl
  obtain ⟨fd_l_parts, D_l_parts⟩ := def_mk (ps := ["_law_condition"]) X G a_l_parts d_l_parts fun _ _ _ _ _ _ us hl => match us, hl with | [_], _ => rfl
  obtain ⟨fd_l_spots, D_l_spots⟩ := def_mk (ps := ["_law_condition", "_law_spot"]) X G a_l_spots d_l_spots fun _ _ _ _ _ _ us hl => match us, hl with | [_, _], _ => rfl
  obtain ⟨fd_l_wide, D_l_wide⟩ := def_mk (ps := ["_law_bag_here", "_law_names", "_law_many"]) X G a_l_wide d_l_wide fun _ _ _ _ _ _ us hl => match us, hl with | [_, _, _], _ => rfl
  obtain ⟨fd_l_grown, D_l_grown⟩ := def_mk (ps := ["_law_bag_here", "_law_names", "_law_many", "_law_deep"]) X G a_l_grown d_l_grown fun _ _ _ _ _ _ us hl => match us, hl with | [_, _, _, _], _ => rfl
  obtain ⟨fd_l_found, D_l_found⟩ := def_mk (ps := ["_law_condition"]) X G a_l_found d_l_found fun _ _ _ _ _ _ us hl => match us, hl with | [_], _ => rfl
  obtain ⟨fd_l_due, D_l_due⟩ := def_mk (ps := ["_law_condition"]) X G a_l_due d_l_due fun _ _ _ _ _ _ us hl => match us, hl with | [_], _ => rfl
  obtain ⟨fd_law, D_law⟩ := def_mk (ps := ["_law_script"]) X G a_law d_law fun _ _ _ _ _ _ us hl => match us, hl with | [_], _ => rfl
  have e := hfa.symm.trans D_law.mg
  cases e
  refine ⟨fd_law, fun s u => ?_, fun base _ _ => ?_⟩
  · obtain ⟨_, _, _, _, _, _, _, _, _, rfl, _⟩ := D_law.fn.ex
    exact .of_eq rfl
  have Gb := bag_sealed (ok_bagI (P := P) (w := w) (base := base) D_l_bag bi)
  have Gt := take_sealed (ok_takeI (P := P) (w := w) (base := base) D_l_take bi)
  have Go := ok_one (P := P) (w := w) (base := base) D_l_one bi D_l_take Gt
  have Gn := ok_number (P := P) (w := w) (base := base) D_l_number bi D_l_take Gt
  have Gs := ok_step (P := P) (w := w) (base := base) D_l_step bi D_l_take Gt D_l_one Go D_l_number Gn
  have Gte := ok_test (P := P) (w := w) (base := base) D_l_test bi D_l_take Gt D_l_one Go D_l_step Gs
  have Gle := ok_leaf (P := P) (w := w) (base := base) D_l_leaf bi D_l_take Gt D_l_one Go D_l_test Gte
  have Gsm := ok_small (P := P) (w := w) (base := base) D_l_small bi D_l_take Gt D_l_one Go D_l_leaf Gle
  have Gsp := ok_split (P := P) (w := w) (base := base) D_l_split bi D_l_take Gt
  have Gtr := ok_tree (P := P) (w := w) (base := base) D_l_tree bi D_l_take Gt D_l_small Gsm D_l_split Gsp 6
  have Gw := ok_wide (P := P) (w := w) (base := base) D_l_wide bi D_l_take Gt D_l_leaf Gle
  have Gg := ok_grown (P := P) (w := w) (base := base) D_l_grown bi D_l_take Gt D_l_wide Gw D_l_tree Gtr
  have Gpa := ok_parts (P := P) (w := w) (base := base) D_parts bi C_LISTS
  have Giw := ok_is_when (P := P) (w := w) (base := base) D_is_when bi
  have Gpp := ok_plain_parts (P := P) (w := w) (base := base) D_plain_parts bi C_NODES D_is_when Giw D_parts Gpa
  have Gpl := ok_places (P := P) (w := w) (base := base) D_places bi D_parts Gpa D_plain_parts Gpp 7 (by decide)
  have Gad := ok_addresses (P := P) (w := w) (base := base) (n := 7) (by decide) D_addresses bi D_places Gpl
  have Gno := ok_nodes (P := P) (w := w) (base := base) (n := 7) (by decide) D_nodes bi C_NODES D_places Gpl
  have Glv := ok_leaves (P := P) (w := w) (base := base) (n := 7) (by decide) D_leaves bi C_LEAVES D_places Gpl
  have Gde := ok_depth (P := P) (w := w) (base := base) (n := 7) (by decide) D_depth bi D_addresses Gad
  have Gat := ok_all_tests (P := P) (w := w) (base := base) (n := 7) D_all_tests bi C_LISTS C_TESTS D_parts Gpa
  have Gco := ok_column_of (P := P) (w := w) (base := base) D_column_of bi
  have Gti := ok_tests_in (P := P) (w := w) (base := base) (n := 7) D_tests_in bi D_all_tests Gat
  have Gci := ok_columns_in (P := P) (w := w) (base := base) (n := 7) D_columns_in bi D_column_of D_tests_in Gco Gti
  have Glp := ok_lparts (P := P) (w := w) (base := base) D_l_parts bi
  have Gls := ok_spots (P := P) (w := w) (base := base) D_l_spots bi D_l_parts Glp 7
  have Gld := ok_ldue (P := P) (w := w) (base := base) (n := 7) (kl := 19) D_l_due bi (by decide) D_l_parts D_l_spots Glp (Gls.mono (by decide))
  have Gla := ok_lalike (P := P) (w := w) (base := base) D_l_alike bi
  have Glf := ok_lfound (P := P) (w := w) (base := base) (n := 7) (by decide) D_l_found bi D_parts Gpa D_addresses Gad D_nodes Gno D_leaves Glv D_tests_in Gti D_columns_in Gci D_depth Gde
  exact ok_law (P := P) (w := w) (base := base) D_law bi D_l_bag Gb D_l_take Gt D_l_grown Gg D_l_due Gld D_l_found Glf D_l_alike Gla
end K22
open PySem PySem.W PyProof.Rows
set_option maxRecDepth 100000 in
set_option maxHeartbeats 0 in
theorem PySem.Challenge.cw_refusedahead_k22_parts_and_addresses_holds : PySem.Challenge.rw_refusedahead_k22_parts_and_addresses.Holds := by
  w_on; o_law; k_head; (case hw => w_witness2)
  k_fill
  refine Gx.walkQ (l := PySem.Challenge.rw_refusedahead_k22_parts_and_addresses) (n := 63) (k := 21) (x := "_law_script") (CX := fun _ => L2.CX0) (sp := fun w => K22.spLaw (_ : PySem.W.Frag)) rfl (by decide) rfl ⟨rfl, by decide, by decide⟩
    (fun w h Y => PySem.W.kIn_of Y) ?F (fun _ _ a ns hl _ hS => ⟨a, ns, rfl, hS, hl, fun _ => rfl⟩) (fun _ _ _ _ _ z => z)
  case F =>
    intro w mg fa h KX G hmg
    refine' K22.all_ok KX G hmg ?a_column_of ?d_column_of ?a_parts ?d_parts ?a_is_when ?d_is_when ?a_plain_parts ?d_plain_parts ?a_places ?d_places ?a_addresses ?d_addresses ?a_nodes ?d_nodes ?a_leaves ?d_leaves ?a_all_tests ?d_all_tests ?a_tests_in ?d_tests_in ?a_columns_in ?d_columns_in ?a_depth ?d_depth ?a_l_bag ?d_l_bag ?a_l_take ?d_l_take ?a_l_alike ?d_l_alike ?a_l_one ?d_l_one ?a_l_number ?d_l_number ?a_l_step ?d_l_step ?a_l_test ?d_l_test ?a_l_leaf ?d_l_leaf ?a_l_small ?d_l_small ?a_l_split ?d_l_split ?a_l_tree ?d_l_tree ?a_l_parts ?d_l_parts ?a_l_spots ?d_l_spots ?a_l_wide ?d_l_wide ?a_l_grown ?d_l_grown ?a_l_found ?d_l_found ?a_l_due ?d_l_due ?a_law ?d_law ?b_len ?b_abs ?b_max ?b_min ?b_repr ?b_int ?b_tuple ?b_list ?b_dict ?b_isinstance ?b_sorted ?b_sum ?b_all ?b_any ?b_range ?b_enumerate ?b_zip ?b_bool ?b_str ?b_set ?C_TESTS ?C_LEAVES ?C_NODES ?C_LISTS
    (case a_column_of => k_is)
    (case d_column_of => refine' K22.isdef_mk ?l ?c ?k; (case l => k_is); (case c => k_is); (case k => k_is))
    (case a_parts => k_is)
    (case d_parts => refine' K22.isdef_mk ?l ?c ?k; (case l => k_is); (case c => k_is); (case k => k_is))
    (case a_is_when => k_is)
    (case d_is_when => refine' K22.isdef_mk ?l ?c ?k; (case l => k_is); (case c => k_is); (case k => k_is))
    (case a_plain_parts => k_is)
    (case d_plain_parts => refine' K22.isdef_mk ?l ?c ?k; (case l => k_is); (case c => k_is); (case k => k_is))
    (case a_places => k_is)
    (case d_places => refine' Gx.isdefo_mk ?l ?c ?k ?t ?v; (case l => k_is); (case c => k_is); (case k => k_is); (case t => k_is); (case v => exact .cons rfl .nil))
    (case a_addresses => k_is)
    (case d_addresses => refine' K22.isdef_mk ?l ?c ?k; (case l => k_is); (case c => k_is); (case k => k_is))
    (case a_nodes => k_is)
    (case d_nodes => refine' K22.isdef_mk ?l ?c ?k; (case l => k_is); (case c => k_is); (case k => k_is))
    (case a_leaves => k_is)
    (case d_leaves => refine' K22.isdef_mk ?l ?c ?k; (case l => k_is); (case c => k_is); (case k => k_is))
    (case a_all_tests => k_is)
    (case d_all_tests => refine' K22.isdef_mk ?l ?c ?k; (case l => k_is); (case c => k_is); (case k => k_is))
    (case a_tests_in => k_is)
    (case d_tests_in => refine' K22.isdef_mk ?l ?c ?k; (case l => k_is); (case c => k_is); (case k => k_is))
    (case a_columns_in => k_is)
    (case d_columns_in => refine' K22.isdef_mk ?l ?c ?k; (case l => k_is); (case c => k_is); (case k => k_is))
    (case a_depth => k_is)
    (case d_depth => refine' K22.isdef_mk ?l ?c ?k; (case l => k_is); (case c => k_is); (case k => k_is))
    (case a_l_bag => k_is)
    (case d_l_bag => refine' K22.isdef_mk ?l ?c ?k; (case l => k_is); (case c => k_is); (case k => k_is))
    (case a_l_take => k_is)
    (case d_l_take => refine' K22.isdef_mk ?l ?c ?k; (case l => k_is); (case c => k_is); (case k => k_is))
    (case a_l_alike => k_is)
    (case d_l_alike => refine' K22.isdef_mk ?l ?c ?k; (case l => k_is); (case c => k_is); (case k => k_is))
    (case a_l_one => k_is)
    (case d_l_one => refine' K22.isdef_mk ?l ?c ?k; (case l => k_is); (case c => k_is); (case k => k_is))
    (case a_l_number => k_is)
    (case d_l_number => refine' K22.isdef_mk ?l ?c ?k; (case l => k_is); (case c => k_is); (case k => k_is))
    (case a_l_step => k_is)
    (case d_l_step => refine' K22.isdef_mk ?l ?c ?k; (case l => k_is); (case c => k_is); (case k => k_is))
    (case a_l_test => k_is)
    (case d_l_test => refine' K22.isdef_mk ?l ?c ?k; (case l => k_is); (case c => k_is); (case k => k_is))
    (case a_l_leaf => k_is)
    (case d_l_leaf => refine' K22.isdef_mk ?l ?c ?k; (case l => k_is); (case c => k_is); (case k => k_is))
    (case a_l_small => k_is)
    (case d_l_small => refine' K22.isdef_mk ?l ?c ?k; (case l => k_is); (case c => k_is); (case k => k_is))
    (case a_l_split => k_is)
    (case d_l_split => refine' K22.isdef_mk ?l ?c ?k; (case l => k_is); (case c => k_is); (case k => k_is))
    (case a_l_tree => k_is)
    (case d_l_tree => refine' K22.isdef_mk ?l ?c ?k; (case l => k_is); (case c => k_is); (case k => k_is))
    (case a_l_parts => k_is)
    (case d_l_parts => refine' K22.isdef_mk ?l ?c ?k; (case l => k_is); (case c => k_is); (case k => k_is))
    (case a_l_spots => k_is)
    (case d_l_spots => refine' K22.isdef_mk ?l ?c ?k; (case l => k_is); (case c => k_is); (case k => k_is))
    (case a_l_wide => k_is)
    (case d_l_wide => refine' K22.isdef_mk ?l ?c ?k; (case l => k_is); (case c => k_is); (case k => k_is))
    (case a_l_grown => k_is)
    (case d_l_grown => refine' K22.isdef_mk ?l ?c ?k; (case l => k_is); (case c => k_is); (case k => k_is))
    (case a_l_found => k_is)
    (case d_l_found => refine' K22.isdef_mk ?l ?c ?k; (case l => k_is); (case c => k_is); (case k => k_is))
    (case a_l_due => k_is)
    (case d_l_due => refine' K22.isdef_mk ?l ?c ?k; (case l => k_is); (case c => k_is); (case k => k_is))
    (case a_law => k_is)
    (case d_law => refine' K22.isdef_mk ?l ?c ?k; (case l => k_is); (case c => k_is); (case k => k_is))
    (case b_len => k_is)
    (case b_abs => k_is)
    (case b_max => k_is)
    (case b_min => k_is)
    (case b_repr => k_is)
    (case b_int => k_is)
    (case b_tuple => k_is)
    (case b_list => k_is)
    (case b_dict => k_is)
    (case b_isinstance => k_is)
    (case b_sorted => k_is)
    (case b_sum => k_is)
    (case b_all => k_is)
    (case b_any => k_is)
    (case b_range => k_is)
    (case b_enumerate => k_is)
    (case b_zip => k_is)
    (case b_bool => k_is)
    (case b_str => k_is)
    (case b_set => k_is)
    (case C_TESTS => refine' K22.conT_mk KX G ?aC ?l ?v ?sz; (case aC => k_is); (case l => k_is); (case v => exact .cons ⟨_, rfl⟩ (.cons ⟨_, rfl⟩ (.cons ⟨_, rfl⟩ (.nil)))); (case sz => decide))
    (case C_LEAVES => refine' K22.conT_mk KX G ?aC ?l ?v ?sz; (case aC => k_is); (case l => k_is); (case v => exact .cons ⟨_, rfl⟩ (.cons ⟨_, rfl⟩ (.cons ⟨_, rfl⟩ (.cons ⟨_, rfl⟩ (.nil))))); (case sz => decide))
    (case C_NODES => refine' K22.conT_mk KX G ?aC ?l ?v ?sz; (case aC => k_is); (case l => k_is); (case v => exact .cons ⟨_, rfl⟩ (.cons ⟨_, rfl⟩ (.nil))); (case sz => decide))
    (case C_LISTS => refine' K22.conT_mk KX G ?aC ?l ?v ?sz; (case aC => k_is); (case l => k_is); (case v => exact .cons ⟨_, rfl⟩ (.cons ⟨_, rfl⟩ (.cons ⟨_, rfl⟩ (.nil)))); (case sz => decide))

