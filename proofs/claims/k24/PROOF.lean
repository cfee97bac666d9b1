import PyProof.Rows.All
import Wide.All
import OpenK.AllK
import Wide.FinOn
import PyProof.EqAt
import PyProof.EqKinds
import PyProof.TupleCall
import HandS.ForMost
import HandS.ForExc
import HandS.Wide
import HandS.Gcd
import HandS.ExcIs
import HandS.ExcBuiltin
import HandS.RaiseMore
import HandS.Codes
import HandS.IsInst
import HandS.Zip
import HandS.Zip0
import HandS.Walk
import KE.GoesEnum
import HandS.Text
import KE.KMathGC
import HandS.Style
import HandS.TupMul
import HandS.TupAny
import KE.KRevSl
import HandS.StrMore
import HandS.Rev
import HandS.WideBits
import HandS.FStr
import HandS.MapObj
import HandS.Flow
import HandS.Conv
import HandS.Dict
import HandS.More
import HandS.HeadHook3
import PyProof.NeKinds
import HandS.Defaults
import HandS.DeepEq
import PyProof.Rows.ReprOcc
import PyProof.ReprRoads
import HandS.TupLe
import HandS.SortOrd
import HandS.DictTup
import HandS.ExcInit
import HandS.ExcField
import HandS.TryMany
import KE.KExcIs
import PySem.Challenge.RW_everystart_k24_what_polynomials_are
set_option Elab.async false
set_option linter.all false
set_option maxRecDepth 100000
set_option pp.maxSteps 1500
set_option maxHeartbeats 1000000
set_option maxHeartbeats 4000000
set_option maxHeartbeats 2000000
set_option exponentiation.threshold 256
namespace Ev
open PySem PySem.Spec PyProof.Rows L2

/-! ### promises of defs that run where nothing is being shown (the list of guards is known to be empty) -/
structure FnG (P : Program) (w : World) (K : PySem.W.Frag) (mg : Str → Option Value) (base : Heap) (CX : CXT) (k : Nat)
    (f : Addr) (fd : FuncData) (ps : List Str) (sp : Sp) : Prop where
  len : ∀ vs H Q E, sp vs H Q E → vs.length = ps.length
  run : ∀ (A : Around), A.guards = some [] → ∀ (outer : List Env) (s : Shared) (H : Hp) (args : Args) (us : List Value) (vs : List V)
    (Q : VK) (E : XK), Room k A → Env0 P w K mg base A outer s H → BindsTo s fd args (ps.zip us) → Vals vs us → sp vs H Q E →
    codeAny (model P w) A (.call (.ref f) args) (CR CX outer P w H s Q E) s

theorem FnG.of {P : Program} {w : World} {K : PySem.W.Frag} {mg : Str → Option Value} {base : Heap} {CX : CXT} {k : Nat}
    {f : Addr} {fd : FuncData} {ps : List Str} {sp : Sp} (F : FnOk P w K mg base CX k f fd ps sp) : FnG P w K mg base CX k f fd ps sp :=
  ⟨F.len, fun A _ outer s H args us vs Q E hr he hb hv hs => F.run A outer s H args us vs Q E hr he hb hv hs⟩

section
variable {P : Program} {w : World} {K : PySem.W.Frag} {mg : Str → Option Value} {base : Heap}
theorem okG {x qual : Str} {st : Stmt} {f : Addr} {fd : FuncData} {N ps : List Str} {k : Nat} {sp : Sp}
    (F : Fun K x qual st f fd) (S : FnScope N ps (defScope st)) (len : ∀ vs H Q E, sp vs H Q E → vs.length = ps.length)
    (hbody : ∀ (cdv : Value) (A : Around) (outer : List Env) (s : Shared) (H : Hp) (vs : List V) (Q : VK) (E : XK), A.guards = some [] →
      Room k (A.deeper (envOfC qual (defScope st) s.heap.objs.size f cdv)) → sp vs H Q E →
      ∃ t, PSs (cxOf CX0 P w K mg base N qual (defScope st) f cdv A outer s H E).nox (defBody st) t ∧
        t { nx := fun _ H' => Q .non H', rt := Q } (start N vs) H) : FnG P w K mg base CX0 (k + 1) f fd ps sp := by
  obtain ⟨c1, c2, c3, c4, c5, c6, c7, c8, c9, rfl, lk, hcd⟩ := F.ex
  refine ⟨len, fun A hA outer s H args us vs Q E hr e0 hb r hsp => ?_⟩
  have long := len _ _ _ _ hsp
  have stays := e0.mod.kin.keeps (h' := s.heap) fun b o e => And.left (e0.bs b o e)
  have free := e0.mod.nolimit.keeps (h' := s.heap) fun b o e => And.left (e0.bs b o e)
  refine codeAny_call_function hr.depth (stays _ _ lk) rfl S.co S.gen rfl (PySem.W.codeRec_of stays hcd) (hb _ _ _ _ ?_)
  refine wpAny_newFunctionEnv_cells S.kind (fun y hy => ?_) fun env he s1 x => ?_
  · obtain ⟨n, v⟩ := y
    exact (S.par n (List.of_mem_zip hy).1).elim .inl fun q => .inr ⟨q, PySem.W.cellsFrom_some _ _ _ (.inl q)⟩
  cases he
  refine ⟨free.keeps x.toInCall.keep, codeAny_func ?_⟩
  obtain ⟨t, ht, hq⟩ := hbody c7 A outer s H vs Q E hA (hr.deeper _) hsp
  have J := inv_start (CX := CX0) (E := E) S hr.hd e0 long r x
  refine wpAny_mono (ht.nox.run [] s1 (start N vs) H _ J hq) (fun fl s' hs => ?_) (fun _ _ z => z)
  match fl, hs with
  | .ret u, ⟨v, σ', H', J', rv, q⟩ => exact ⟨v, H', J'.os, J'.bare, J'.base, J'.hok, rv, q⟩
  | .next, ⟨σ', H', J', q⟩ => exact ⟨V.non, H', J'.os, J'.bare, J'.base, J'.hok, rfl, q⟩
  | .brk, ⟨_, _, _, q⟩ => exact q.elim
  | .cont, ⟨_, _, _, q⟩ => exact q.elim
end

section
variable {X : Cx} {CX : CXT} {k : Nat} {f : Addr} {fd : FuncData} {ps : List Str} {ds : List Value} {dvs : List V} {sp : Sp} {E : XK}
  {x : Str} {p pos : Pos} {e : Expr} {es : List Expr} {t : TA}
theorem runG {pins : List (Addr × Obj)} {σ : L2.St} {H : Hp} {s : Shared} {Q : VK} {us : List Value} {vs : List V}
    (F : FnG X.prog X.w X.K X.mg X.base CX k f fd ps sp) (hG : X.A.guards = some []) (hr : Room k X.A) (hb : Binds X.K fd ps [])
    (hx : Passes CX X E) (I : Inv X pins σ H s) (r : Vals vs us) (h : sp vs H Q E) :
    wpAny (model X.prog X.w) X.A (call (.ref f) us) (EP X pins σ Q) X.xe s := by
  have hl : us.length = ps.length := r.length.symm.trans (F.len _ _ _ _ h)
  have b := hb s us I.kIn (by rw [List.append_nil]; exact hl)
  rw [List.append_nil] at b
  have z := F.run X.A hG X.stack s H ⟨us, []⟩ us vs Q E hr I.env0 b r h
  refine wpAny_call (codeAny_mono z fun o s' hq => ?_)
  match o, hq with
  | .error e, hq => exact hx pins σ H s e s' I hq
  | .ok (.ret u), hq => exact I.after hq
  | .ok .next, hq => exact hq.elim
  | .ok .brk, hq => exact hq.elim
  | .ok .cont, hq => exact hq.elim
theorem pe_callG (F : FnG X.prog X.w X.K X.mg X.base CX k f fd ps sp) (hG : X.A.guards = some []) (hr : Room k X.A) (hg : Gl X x)
    (hm : X.mg x = some (.ref f)) (hk : PySem.W.keepIn X.K (.ref f) = true) (hb : Binds X.K fd ps []) (hx : Passes CX X E)
    (ha : PA X (e :: es) t) (hdb : (x == ("__debug__" : Str)) = false := by decide)
    (he : starEach (e :: es) X.env = (false, eval e X.env) :: starEach es X.env := by rfl)
    (hpl : (backTo pos (starEach es X.env)).any (·.1) = false := by rfl) :
    PE X (.Call (.Name x p) (e :: es) [] pos) (fun σ H Q => t σ H fun vs H1 => sp vs H1 Q E) := by
  refine ⟨fun pins s σ H Q I h => wpAny_Call_Name_kw (ld_glob I hg hm ?_ hdb)⟩
  refine PySem.W.callWith_K (h₀ := X.base) I.ok.mod.kin hk (thn (ha.run pos pins s σ H _ I h) ?_) he hpl
  exact fun us s1 ⟨vs, H1, I1, r, q⟩ => ⟨I1.kIn, runG F hG hr hb hx I1 r q⟩
/-- how a call by keywords alone binds: the i-th parameter gets the keyword's value at place pm[i] -/
structure KB0 (K : PySem.W.Frag) (fd : FuncData) (ps ks : List Str) (pm : List Nat) : Prop where
  to : ∀ (s : Shared) (ws : List Value), K.In s.heap → ws.length = ks.length →
    BindsTo s fd ⟨[], ks.zip ws⟩ (ps.zip (pm.map fun i => ws.getD i Value.none))
def putV (pm : List Nat) (zs : List V) : List V := pm.map fun i => zs.getD i V.non
theorem relPut {zs : List V} {ws : List Value} (r : Vals zs ws) : ∀ pm : List Nat, Vals (putV pm zs) (pm.map fun i => ws.getD i Value.none)
  | [] => .nil
  | i :: pm => by
    refine .cons ?_ (relPut r pm)
    show L2.RelV (zs.getD i V.non) (ws.getD i Value.none)
    cases e : zs[i]? with
    | none =>
      have e2 := r.none_of e
      rw [List.getD_eq_getElem?_getD, List.getD_eq_getElem?_getD, e, e2]
      rfl
    | some z =>
      obtain ⟨u, e2, q⟩ := r.get e
      rw [List.getD_eq_getElem?_getD, List.getD_eq_getElem?_getD, e, e2]
      exact q
/-- f(k = v, ..), keywords alone; what is raised is wished for at the slots -/
theorem pe_callK0S {ks : List Str} {kws : List Keyword} {tk : TA} {pm : List Nat} {ES : L2.St → XK}
    (F : FnOk X.prog X.w X.K X.mg X.base CX k f fd ps sp) (hr : Room k X.A) (hg : Gl X x) (hm : X.mg x = some (.ref f))
    (hk : PySem.W.keepIn X.K (.ref f) = true) (hb : KB0 X.K fd ps ks pm) (hx : ∀ σ, PassesAt CX X σ (ES σ)) (hkw : PK X kws tk)
    (hall : (backToKw pos (keywordEach kws X.env)).all (·.1.isSome) = true := by rfl)
    (hks : (backToKw pos (keywordEach kws X.env)).filterMap (·.1) = ks := by rfl) (hdb : (x == ("__debug__" : Str)) = false := by decide)
    (hpl : ((backTo pos (starEach [] X.env)).any (·.1) || (backToKw pos (keywordEach kws X.env)).any (·.1.isNone)) = false := by rfl) :
    PE X (.Call (.Name x p) [] kws pos) (fun σ H Q => tk σ H fun zs H1 => zs.length = ks.length ∧ sp (putV pm zs) H1 Q (ES σ)) := by
  refine ⟨fun pins s σ H Q I h => wpAny_Call_Name_kw (ld_glob I hg hm ?_ hdb)⟩
  refine PySem.W.callWith_KW0 (h₀ := X.base) I.ok.mod.kin hk hall (thn (hkw.run pos pins s σ H _ I h) ?_) hpl
  intro ws s2 ⟨zs, H2, I2, rz, l2, q2⟩
  refine ⟨I2.kIn, ?_⟩
  rw [hks]
  have z := F.run X.A X.stack s2 H2 ⟨[], ks.zip ws⟩ _ (putV pm zs) Q (ES σ) hr I2.env0 (hb.to s2 ws I2.kIn (rz.length.symm.trans l2)) (relPut rz pm) q2
  refine wpAny_call (codeAny_mono z fun o s' hq => ?_)
  match o, hq with
  | .error e, hq => exact hx σ pins H2 s2 e s' I2 hq
  | .ok (.ret u), hq => exact I2.after hq
  | .ok .next, hq => exact hq.elim
  | .ok .brk, hq => exact hq.elim
  | .ok .cont, hq => exact hq.elim
theorem passC (hx : Passes CX X E) (σ : L2.St) : PassesAt CX X σ E := fun pins H s e s' I c => hx pins σ H s e s' I c
/-- f(k = v, ..), keywords alone -/
theorem pe_callK0 {ks : List Str} {kws : List Keyword} {tk : TA} {pm : List Nat}
    (F : FnOk X.prog X.w X.K X.mg X.base CX k f fd ps sp) (hr : Room k X.A) (hg : Gl X x) (hm : X.mg x = some (.ref f))
    (hk : PySem.W.keepIn X.K (.ref f) = true) (hb : KB0 X.K fd ps ks pm) (hx : Passes CX X E) (hkw : PK X kws tk)
    (hall : (backToKw pos (keywordEach kws X.env)).all (·.1.isSome) = true := by rfl)
    (hks : (backToKw pos (keywordEach kws X.env)).filterMap (·.1) = ks := by rfl) (hdb : (x == ("__debug__" : Str)) = false := by decide)
    (hpl : ((backTo pos (starEach [] X.env)).any (·.1) || (backToKw pos (keywordEach kws X.env)).any (·.1.isNone)) = false := by rfl) :
    PE X (.Call (.Name x p) [] kws pos) (fun σ H Q => tk σ H fun zs H1 => zs.length = ks.length ∧ sp (putV pm zs) H1 Q E) :=
  pe_callK0S (ES := fun _ => E) F hr hg hm hk hb (passC hx) hkw hall hks hdb hpl
/-- X(), an own class of exceptions without __init__ -/
theorem pmk_own0 {C : Addr} {bmB : List Value} {B newId initId : String} (F : ExcBaseFacts B newId initId bmB)
    (q : PySem.W.excIn X.K C bmB newId = true) (gC : X.mg x = some (.ref C)) (kC : PySem.W.keepIn X.K (.ref C) = true)
    (r : Raises X (.ref C)) (hg : Gl X x) (hdb : (x == ("__debug__" : Str)) = false := by decide) :
    PMk X (.Call (.Name x p) [] [] pos) (fun _ H Q => Q (.ref C) none H) := by
  intro pins s σ H Q I h
  refine wpAny_Call_Name_kw (ld_glob I hg gC ?_ hdb)
  refine PySem.W.callWith_K0 I.kIn kC ?_
  show wpAny _ _ (call (.ref C) []) _ _ _
  obtain ⟨bm, N, nm, qn, bs, hdct, sn, sub, ab, col, dd, k0, k1, k2, k3, k5, mN, hC, hN, hni, T⟩ := exc_obj I.kIn q
  exact wpAny_call_exc_subT F T hC hN hni (fun h' e hm => mk_of I hm r h (I.hok.gone hm.new)) (Nat.zero_le _)
end

/-- // by a divisor of either sign, below 2 ^ 9000 in size -/
def CDivZ (_ j : Int) : Prop := j ≠ 0 ∧ j.natAbs.log2 < 9000
theorem op_fdivZ {X : Cx} : OpR X (binaryOp .FloorDiv) (rI CDivZ fun i j => .int (i.fdiv j)) :=
  opI fun _ _ _ _ _ _ _ hc q => floordiv_int hc.1 q (.inl (PyProof.noPylong_of_log2 hc.2))
/-- isinstance(e, c) where the class of what the suite holds is told by the reading -/
theorem call_isE2 {X : Cx} {a D : Addr} {oe : Obj} {pn : List (Addr × Obj)} {cls : Value} {d : Option Addr} (C : ExcC X.K D) (hz : Zc cls d oe)
    (hf : ∃ vs, oe.data = .fields vs) : CallR (X.suite a ((a, oe) :: pn)) (.builtin "isinstance")
      (fun xs H Q => cls = .ref D ∧ d = none ∧ rIsE X.K D a xs H Q) := by
  intro pins s σ H xs us Q I r h
  obtain ⟨h1, h2, q⟩ := h
  subst h1; subst h2
  exact call_isE C hz hf pins s σ H xs us Q I r q

/-! ### the end of a law, by such a promise -/
theorem law_callG {P : Program} {w : World} {K : PySem.W.Frag} {mg mb : Str → Option Value} {k : Nat} {fa a : Addr} {fd : FuncData}
    {x : Str} {sp : Sp} {s₁ : Shared} {vs : List Value} {ns : List Int} (KX : K.In s₁.heap) (hns : s₁.heap.Ns mainGlobals mg)
    (hb : s₁.heap.Ns builtinsNs mb) (hbb : ∀ x : Str, x ≠ "__name__" → mb x = bootBuiltins x) (hlim : s₁.heap.NoLimit) (hg : s₁.gens = #[])
    (ha : s₁.heap.get? a = some { cls := .type "list", data := .seq vs.toArray }) (hi : IntsAre vs ns) (hl : ns.length ≤ sizeLine)
    (hr : Room k callerA) (F : ∀ base : Heap, K.In base → base.Ns mainGlobals mg → FnG P w K mg base CX0 k fa fd [x] sp)
    (hbind : ∀ (s : Shared) (u : Value), BindsTo s fd ⟨[u], []⟩ [(x, u)])
    (hsp : ∀ H : Hp, Only H → SqL K H a (ns.map V.int) → sp [.ref a] H (fun v _ => v = .bl true) fun _ _ _ => False) :
    codeAny (model P w) callerA (.call (.ref fa) ⟨[.ref a], []⟩)
      (fun r s' => r = .ok (.ret (.bool true)) ∧ OldK s₁.heap s'.heap ∧ s'.os = s₁.os ∧ AllBare s'.gens) s₁ := by
  have rv := vals_ints hi
  have lenV := hi.length
  have core : ∀ H : Hp, Only H → SqL K H a (ns.map V.int) → HOk P w H s₁.heap → (∀ b, H b ≠ none → b = a) →
      (H a ≠ none → K.lookup a = none) → codeAny (model P w) callerA (.call (.ref fa) ⟨[.ref a], []⟩)
      (fun r s' => r = .ok (.ret (.bool true)) ∧ OldK s₁.heap s'.heap ∧ s'.os = s₁.os ∧ AllBare s'.gens) s₁ := by
    intro H hO hS hok hA hK
    have away : ∀ {b : Addr} {o : Obj} {es : Array DictEntry} {ep : Nat}, s₁.heap.get? b = some o → o.data = .dict es ep → H b = none := by
      intro b o es ep e d
      cases q : H b with
      | none => rfl
      | some u =>
        have e' : b = a := hA b (fun z => by rw [q] at z; cases z)
        rw [e', ha] at e
        cases e
        exact nomatch (show Data.seq vs.toArray _ = Data.dict es ep from d)
    have nsK : ∀ {b : Addr} {m : Str → Option Value}, s₁.heap.Ns b m → (hidT s₁.heap H).Ns b m := by
      intro b m z
      obtain ⟨o, es, ep, e, d, r⟩ := z
      exact ⟨o, es, ep, hidT_get e (away e d), d, r⟩
    have hKb : K.In (hidT s₁.heap H) := by
      intro b o e
      refine hidT_get (KX b o e) ?_
      cases q : H b with
      | none => rfl
      | some u =>
        have e' : b = a := hA b (fun z => by rw [q] at z; cases z)
        subst e'
        rw [hK (fun z => by rw [q] at z; cases z)] at e
        cases e
    obtain ⟨mc, l1, l2⟩ := hlim
    have hM : Mod K mg (hidT s₁.heap H) := ⟨hKb, nsK hns, ⟨mb, nsK hb, hbb⟩, mc, nsK l1, l2⟩
    have e0 : Env0 P w K mg (hidT s₁.heap H) callerA [] s₁ H :=
      ⟨rfl, hM, fun b o e => of_hidT e, Nat.le_of_eq (hidT_size _ _), trivial, fun b hb => (nomatch hb), hok, .of_eq hg⟩
    have main := (F _ hKb (nsK hns)).run callerA rfl [] s₁ H ⟨[.ref a], []⟩ [.ref a] [.ref a] _ _ hr e0 (hbind s₁ (.ref a)) (.cons rfl .nil) (hsp H hO hS)
    refine codeAny_mono main fun r s' h => ?_
    match r, h with
    | .error e, h => exact h.elim
    | .ok .next, h => exact h.elim
    | .ok .brk, h => exact h.elim
    | .ok .cont, h => exact h.elim
    | .ok (.ret u), ⟨v, H', os, bare, un, hok', r', q⟩ =>
      have q' : v = .bl true := q
      subst q'
      have eu : u = Value.bool true := r'
      subst eu
      refine ⟨rfl, OldK.of_keep fun b o e => ?_, os, bare⟩
      cases q : H b with
      | none => exact un.keep b o e q (fun z => nomatch z) (fun z => nomatch z)
      | some u =>
        rcases hO b with z | ⟨ob, xs, z⟩
        · rw [q] at z; cases z
        · have e1 := (hok b _ z).1
          have e2 := (hok' b _ (un.frzs b ob _ z)).1
          rw [e] at e1; cases e1
          exact e2
  cases hk : K.lookup a with
  | some o =>
    have e := KX a o hk
    rw [ha] at e
    cases e
    refine core (fun _ => none) (fun _ => .inl rfl) ?_ (fun b u z => nomatch z) (fun b z => absurd rfl z) fun z => absurd rfl z
    exact .inr ⟨_, vs.toArray, _, hk, rfl, rfl, rfl, by rw [List.size_toArray, lenV]; exact hl, by simpa using rv⟩
  | none =>
    have yes : (if a = a then some (HO.frz { cls := .type "list", data := .seq vs.toArray } (.lst (ns.map V.int))) else none) =
        some (HO.frz { cls := .type "list", data := .seq vs.toArray } (.lst (ns.map V.int))) := if_pos rfl
    refine core (fun b => if b = a then some (.frz { cls := .type "list", data := .seq vs.toArray } (.lst (ns.map V.int))) else none)
      (fun b => ?_) (.inl (.inr ⟨_, yes⟩)) (fun b u z => ?_) (fun b z => ?_) fun _ => hk
    · by_cases hb : b = a
      · exact .inr ⟨_, _, if_pos hb⟩
      · exact .inl (if_neg hb)
    · by_cases hb : b = a
      · cases (if_pos hb).symm.trans z
        subst hb
        exact ⟨ha, by rw [List.length_map]; exact hl, vs, _, rv, ha⟩
      · cases (if_neg hb).symm.trans z
    · by_cases hb : b = a
      · exact hb
      · exact absurd (if_neg hb) z

theorem walk_ofG {l : PySem.W.OpenLaw} {n k : Nat} {q : Program} {loose : List Str} {XP : (Str → Option Value) → Heap → Prop}
    {YP : World → Heap → Prop} {d : DefRec} {K : Params → PySem.W.Frag} {sp : World → Sp} {x : Str}
    (hn : l.most = some n) (hn2 : n ≤ sizeLine) (hdf : d.params.defaults = []) (hr : Room k callerA)
    (hY : ∀ (w : World) (h : Heap), YP w h → (K w.params).In h)
    (F : ∀ (w : World) (mg : Str → Option Value) (fa : Addr) (h : Heap), (K w.params).In h → h.Ns mainGlobals mg → mg d.name = some (.ref fa) →
      ∃ fd : FuncData, (∀ (s : Shared) (u : Value), BindsTo s fd ⟨[u], []⟩ [(x, u)]) ∧
        ∀ base : Heap, (K w.params).In base → base.Ns mainGlobals mg → FnG l.prog w (K w.params) mg base CX0 k fa fd [x] (sp w))
    (hsp : ∀ (w : World) (H : Hp) (a : Addr) (ns : List Int), ns.length ≤ n → Only H → SqL (K w.params) H a (ns.map V.int) →
      sp w [.ref a] H (fun v _ => v = .bl true) fun _ _ _ => False) :
    PySem.W.WalkO q loose XP YP l.row.toRowW d [] (fun f vs => PySem.call f vs) := by
  refine Att.attach_call hn hdf fun w s₀ s₁ mg mb fa o pm cd doc a vs ns G Y ho hd hcd hmg hobj hints hlen hg => ?_
  obtain ⟨fd, hb, hF⟩ := F w mg fa _ (hY w _ Y) G.T.g hmg
  exact law_callG (hY w _ Y) G.T.g G.T.b G.T.builtins G.T.nolimit hg hobj hints (Nat.le_trans hlen hn2) hr hF hb fun H hO hS => hsp w H a ns hlen hO hS

/-! ### repr of what is nested -/
mutual
/-- shown by repr within the line, no dicts -/
def fits : PyData → Bool
  | .none => true
  | .bool _ => true
  | .int i => decide (i.natAbs.log2 < 1920)
  | .str x => x.cps.toList.all fun c => decide (c < 16 ^ 8)
  | .list xs => fitsAll xs
  | .tuple xs => fitsAll xs
  | .dict _ => false
def fitsAll : List PyData → Bool
  | [] => true
  | x :: xs => fits x && fitsAll xs
end
mutual
theorem fits_to : ∀ d : PyData, fits d = true → d.showable = true ∧ d.hasDict = false ∧ d.leavesShort 1921 = true
  | .none, _ => ⟨rfl, rfl, rfl⟩
  | .bool _, _ => ⟨rfl, rfl, rfl⟩
  | .int i, h => by
    have h' : i.natAbs.log2 < 1920 := by simpa only [fits, decide_eq_true_eq] using h
    refine ⟨by simpa only [PyData.showable, decide_eq_true_eq] using h', rfl, ?_⟩
    have e := int_text_length_le (k := 1920) (by decide) h'
    simp only [PyData.leavesShort, decide_eq_true_eq]
    show (Str.ofString (toString i)).length ≤ 1921
    rw [PySem.ofString_length]
    exact e
  | .str x, h => ⟨rfl, rfl, by simpa only [fits, PyData.leavesShort] using h⟩
  | .list xs, h => by
    have z := fitsAll_to xs (by simpa only [fits] using h)
    exact ⟨by simpa only [PyData.showable] using z.1, by simpa only [PyData.hasDict] using z.2.1, by simpa only [PyData.leavesShort] using z.2.2⟩
  | .tuple xs, h => by
    have z := fitsAll_to xs (by simpa only [fits] using h)
    exact ⟨by simpa only [PyData.showable] using z.1, by simpa only [PyData.hasDict] using z.2.1, by simpa only [PyData.leavesShort] using z.2.2⟩
  | .dict _, h => by simp [fits] at h
theorem fitsAll_to : ∀ xs : List PyData, fitsAll xs = true → PyData.showableAll xs = true ∧ PyData.hasDictAll xs = false ∧ PyData.leavesShortAll 1921 xs = true
  | [], _ => ⟨rfl, rfl, rfl⟩
  | x :: xs, h => by
    have h' : fits x = true ∧ fitsAll xs = true := by simpa only [fitsAll, Bool.and_eq_true] using h
    have a := fits_to x h'.1
    have b := fitsAll_to xs h'.2
    refine ⟨?_, ?_, ?_⟩
    · simp only [PyData.showableAll, a.1, b.1, Bool.and_self]
    · simp only [PyData.hasDictAll, a.2.1, b.2.1, Bool.or_self]
    · simp only [PyData.leavesShortAll, a.2.2, b.2.2, Bool.and_self]
end
mutual
/-- how many leaves and displays (a text: one more than its signs) -/
def sz : PyData → Nat
  | .none => 1
  | .bool _ => 1
  | .int _ => 1
  | .str x => x.length + 1
  | .list xs => szAll xs + 1
  | .tuple xs => szAll xs + 1
  | .dict _ => 1
def szAll : List PyData → Nat
  | [] => 0
  | x :: xs => sz x + szAll xs
end
mutual
theorem shown_sz : ∀ d : PyData, fits d = true → d.shown.length + 2 ≤ 1930 * sz d
  | .none, _ => by
    have e : (PyData.shown .none).length = 4 := rfl
    simp only [sz]
    omega
  | .bool b, _ => by
    have e : (PyData.shown (.bool b)).length ≤ 5 := by cases b <;> decide
    simp only [sz]
    omega
  | .int i, h => by
    have h' : i.natAbs.log2 < 1920 := by simpa only [fits, decide_eq_true_eq] using h
    have e := int_text_length_le (k := 1920) (by decide) h'
    have e2 : (PyData.shown (.int i)).length ≤ 1921 := by
      show (Str.ofString (toString i)).length ≤ 1921
      rw [PySem.ofString_length]
      exact e
    simp only [sz]
    omega
  | .str x, h => by
    have hx : ∀ c ∈ x.cps.toList, c < 16 ^ 8 := by simpa only [fits, List.all_eq_true, decide_eq_true_eq] using h
    have e := StrLaws.reprText_len x hx
    have e2 : (PyData.shown (.str x)).length = (reprText x).length := rfl
    simp only [sz]
    omega
  | .list xs, h => by
    have h1 := shownAll_sz xs (by simpa only [fits] using h)
    have h2 := listText_len_le (PyData.shownAll xs)
    have h3 := PyData.shownAll_length xs
    simp only [PyData.shown, sz]
    omega
  | .tuple xs, h => by
    have h1 := shownAll_sz xs (by simpa only [fits] using h)
    have h2 := tupleText_len_le (PyData.shownAll xs)
    have h3 := PyData.shownAll_length xs
    simp only [PyData.shown, sz]
    omega
  | .dict _, h => by simp [fits] at h
theorem shownAll_sz : ∀ xs : List PyData, fitsAll xs = true → ((PyData.shownAll xs).map (·.length)).sum + 2 * xs.length ≤ 1930 * szAll xs
  | [], _ => by simp [PyData.shownAll, szAll]
  | x :: xs, h => by
    have h' : fits x = true ∧ fitsAll xs = true := by simpa only [fitsAll, Bool.and_eq_true] using h
    have h1 := shown_sz x h'.1
    have h2 := shownAll_sz xs h'.2
    simp only [PyData.shownAll, szAll, List.map_cons, List.sum_cons, List.length_cons]
    omega
end
theorem fits_len {d : PyData} (h : fits d = true) (hw : sz d ≤ 8000) : d.shown.length ≤ sizeLine := by
  have e := shown_sz d h
  rw [sizeLine_eq]
  omega
section
variable {X : Cx}
/-- repr(x), x a list or a tuple of plain data -/
def rRepr (K : PySem.W.Frag) : List V → Hp → VK → Prop := fun vs H Q =>
  ∃ (a : Addr) (d : PyData), vs = [.ref a] ∧ Dp K H (.ref a) d ∧ fits d = true ∧ sz d ≤ 8000 ∧ d.depth ≤ 60 ∧ Q (.str d.shown) H
theorem call_repr (hG : X.A.guards = some []) (hu : X.A.units + 64 < cLine) : CallR X (.builtin "repr") (rRepr X.K) := by
  intro pins s σ H vs us Q I r h
  obtain ⟨a, d, rfl, hd, hf, hw, hdep, q⟩ := h
  obtain ⟨u, rfl, ru⟩ := vals1 r
  cases ru
  obtain ⟨as, rd⟩ := Dp.reads I d _ _ hd rfl
  have f := fits_to d hf
  refine repr_of_reads' rd f.1 (PyData.noDict_hsm f.2.1) hG (by omega) (fun _ _ e => e) (fun h' u tk hk => ?_) (fits_len hf hw)
  exact ⟨.str d.shown, H, I.kept hk, ⟨_, rfl⟩, q⟩
end
section
variable {X : Cx}
/-- repr(x), x plain data of any kind without dicts -/
def rReprV (K : PySem.W.Frag) : List V → Hp → VK → Prop := fun vs H Q =>
  ∃ (v : V) (d : PyData), vs = [v] ∧ Dp K H v d ∧ fits d = true ∧ sz d ≤ 8000 ∧ d.depth ≤ 60 ∧ Q (.str d.shown) H
theorem call_reprV (hG : X.A.guards = some []) (hu : X.A.units + 64 < cLine) : CallR X (.builtin "repr") (rReprV X.K) := by
  intro pins s σ H vs us Q I r h
  obtain ⟨v, d, rfl, hd, hf, hw, hdep, q⟩ := h
  have hl := fits_len hf hw
  cases hd with
  | non =>
    obtain ⟨u, rfl, ru⟩ := vals1 r
    cases ru
    exact PySem.P.repr_of_none ⟨.str _, H, I.tok _, ⟨_, rfl⟩, q⟩
  | bl b =>
    obtain ⟨u, rfl, ru⟩ := vals1 r
    cases ru
    refine PySem.P.repr_of_bool ⟨.str (PyData.shown (.bool b)), H, I.tok _, ⟨_, rfl⟩, q⟩
  | int i =>
    obtain ⟨u, rfl, t, rfl⟩ := vals1 r
    exact PySem.P.repr_of_int (of_decide_eq_true hf) ⟨.str _, H, I.tok _, ⟨_, rfl⟩, q⟩
  | str x =>
    obtain ⟨u, rfl, t, rfl⟩ := vals1 r
    exact PySem.P.repr_of_str ⟨.str _, H, I.tok _, ⟨_, rfl⟩, q⟩ hl
  | lst a b => exact call_repr hG hu pins s σ H _ us Q I r ⟨_, _, rfl, .lst a b, hf, hw, hdep, q⟩
  | tup a b => exact call_repr hG hu pins s σ H _ us Q I r ⟨_, _, rfl, .tup a b, hf, hw, hdep, q⟩
end
/-! ### data of ints -/
theorem dpAll_ints {K : PySem.W.Frag} {H : Hp} : ∀ fs : List Int, DpAll K H (fs.map V.int) (fs.map PyData.int)
  | [] => .nil
  | f :: fs => .cons (.int f) (dpAll_ints fs)
theorem canLay_ints : ∀ fs : List Int, PyData.canLayAll0 (fs.map PyData.int) = true
  | [] => rfl
  | f :: fs => by
    simp only [List.map_cons, PyData.canLayAll0, PyData.canLay0, canLay_ints fs, Bool.and_self]
theorem depth_ints : ∀ fs : List Int, PyData.depthAll (fs.map PyData.int) = 0
  | [] => rfl
  | f :: fs => by
    simp only [List.map_cons, PyData.depthAll, PyData.depth, depth_ints fs, Nat.max_self]
theorem shaped_ints (fs : List Int) : SeqAt.shaped (.list (fs.map PyData.int)) = true := by
  simp only [SeqAt.shaped, PyData.canLay0, canLay_ints, PyData.depth, depth_ints]
  decide
theorem shaped_intsT (fs : List Int) : SeqAt.shaped (.tuple (fs.map PyData.int)) = true := by
  simp only [SeqAt.shaped, PyData.canLay0, canLay_ints, PyData.depth, depth_ints]
  decide
theorem eqv_ints_nil : ∀ fs : List Int, PyData.eqv (.list (fs.map PyData.int)) (.list []) = fs.isEmpty
  | [] => rfl
  | f :: fs => by
    simp [PyData.eqv, PyData.eqvAll]
theorem snoc_cases {α : Type} (l : List α) : l = [] ∨ ∃ r a, l = r ++ [a] := by
  rcases List.eq_nil_or_concat l with h | ⟨r, a, h⟩
  · exact .inl h
  · exact .inr ⟨r, a, by rw [h, List.concat_eq_append]⟩
theorem vne {a b : V} (e : (!decide (a = b)) = true) : a ≠ b := fun z => by
  rw [decide_eq_true z] at e
  exact absurd e (by decide)
theorem veq {a b : V} (e : ¬ (!decide (a = b)) = true) : a = b := by
  by_cases h : a = b
  · exact h
  · rw [decide_eq_false h] at e
    exact absurd rfl e
theorem vneF {a b : V} (e : ¬ decide (a = b) = true) : a ≠ b := fun z => e (decide_eq_true z)
/-! ### data stay under what is new -/
theorem Same.seqT {K : PySem.W.Frag} {H H' : Hp} {a : Addr} {xs : List V} (e : Same H H') (h : SqT K H a xs) : SqT K H' a xs := by
  rcases h with (h | ⟨o, h⟩) | h
  · exact .inl (.inl (e _ _ h))
  · exact .inl (.inr ⟨o, e _ _ h⟩)
  · exact .inr h
mutual
theorem dp_same {K : PySem.W.Frag} {H H' : Hp} (s : Same H H') : ∀ (d : PyData) (v : V), Dp K H v d → Dp K H' v d
  | .none, _, h => by cases h; exact .non
  | .bool _, _, h => by cases h; exact .bl _
  | .int _, _, h => by cases h; exact .int _
  | .str _, _, h => by cases h; exact .str _
  | .list ds, _, h => by
    cases h with
    | lst a b => exact .lst (s.seq a) (dpAll_same s ds _ b)
  | .tuple ds, _, h => by
    cases h with
    | tup a b => exact .tup (Ev.Same.seqT s a) (dpAll_same s ds _ b)
  | .dict _, _, h => by cases h
theorem dpAll_same {K : PySem.W.Frag} {H H' : Hp} (s : Same H H') : ∀ (ds : List PyData) (vs : List V), DpAll K H vs ds → DpAll K H' vs ds
  | [], _, h => by cases h; exact .nil
  | d :: ds, _, h => by
    cases h with
    | cons a b => exact .cons (dp_same s d _ a) (dpAll_same s ds _ b)
end
theorem nn {c : Prop} [Decidable c] {M N : Prop} (hc : c) (h : N) : if (!decide c) = true then M else N := by
  rw [decide_eq_true hc]
  exact iteF h
/-! ### what the loom is: a dict of a list of ints and two ints -/
def ld (F : Addr) (s t : Int) : List (Key × V) := [(Sum.inr "far", .ref F), (Sum.inr "stirred", .int s), (Sum.inr "times", .int t)]
def Lm (H : Hp) (L F : Addr) : Prop := ∃ (fs : List Int) (s t : Int), H L = some (.dK (ld F s t)) ∧ H F = some (.lst (fs.map V.int)) ∧ fs.length ≤ 63
theorem ld_far {F : Addr} {s t : Int} : valV (ld F s t) (Sum.inr "far") = some (.ref F) := rfl
theorem ld_stirred {F : Addr} {s t : Int} : valV (ld F s t) (Sum.inr "stirred") = some (.int s) := rfl
theorem ld_times {F : Addr} {s t : Int} : valV (ld F s t) (Sum.inr "times") = some (.int t) := rfl
theorem ld_len {F : Addr} {s t : Int} : (ld F s t).length < sizeLine := by
  show 3 < sizeLine
  decide
theorem ld_put {F : Addr} {s t u : Int} : putK (ld F s t) (Sum.inr "times") (.int u) = ld F s u := rfl
/-- all but the loom's two objects is as it was -/
def Kp (L F : Addr) (H H' : Hp) : Prop := ∀ b o, b ≠ L → b ≠ F → H b = some o → H' b = some o
theorem Kp.refl {L F : Addr} (H : Hp) : Kp L F H H := fun _ _ _ _ h => h
theorem Kp.trans {L F : Addr} {H H1 H2 : Hp} (a : Kp L F H H1) (b : Kp L F H1 H2) : Kp L F H H2 := fun c o h1 h2 h => b c o h1 h2 (a c o h1 h2 h)
theorem Kp.new {L F p : Addr} {H : Hp} {o : HO} (h : H p = none) : Kp L F H (upd H p o) := fun b u _ _ e => by
  rw [upd_ne (ne_of_none e h)]
  exact e
theorem Kp.updL {L F : Addr} {H : Hp} {o : HO} : Kp L F H (upd H L o) := fun b u h1 _ e => by
  rw [upd_ne h1]
  exact e
theorem Kp.updF {L F : Addr} {H : Hp} {o : HO} : Kp L F H (upd H F o) := fun b u _ h2 e => by
  rw [upd_ne h2]
  exact e
theorem Lm.new {H : Hp} {L F p : Addr} {o : HO} (h : Lm H L F) (hp : H p = none) : Lm (upd H p o) L F := by
  obtain ⟨fs, s, t, h1, h2, h3⟩ := h
  exact ⟨fs, s, t, by rw [upd_ne (ne_of_none h1 hp)]; exact h1, by rw [upd_ne (ne_of_none h2 hp)]; exact h2, h3⟩
theorem Lm.ne {H : Hp} {L F p : Addr} (h : Lm H L F) (hp : H p = none) : p ≠ L ∧ p ≠ F := by
  obtain ⟨fs, s, t, h1, h2, h3⟩ := h
  refine ⟨fun e => ?_, fun e => ?_⟩
  · rw [e, h1] at hp
    cases hp
  · rw [e, h2] at hp
    cases hp
theorem kp_same {L F : Addr} {H H' : Hp} (s : Same H H') : Kp L F H H' := fun b o _ _ e => s b o e
theorem Lm.same {H H' : Hp} {L F : Addr} (h : Lm H L F) (s : Same H H') : Lm H' L F := by
  obtain ⟨fs, a, b, h1, h2, h3⟩ := h
  exact ⟨fs, a, b, s _ _ h1, s _ _ h2, h3⟩
theorem Lm.tup {H : Hp} {L F t : Addr} {xs : List V} (h : Lm H L F) (ht : H t = some (.tup xs)) : t ≠ L ∧ t ≠ F := by
  obtain ⟨fs, a, b, h1, h2, h3⟩ := h
  exact ⟨ne_of ht h1 (by intro z; cases z), ne_of ht h2 (by intro z; cases z)⟩
theorem Kp.tup {L F t : Addr} {H H' : Hp} {xs : List V} (k : Kp L F H H') (h : Lm H L F) (ht : H t = some (.tup xs)) : H' t = some (.tup xs) := k _ _ (h.tup ht).1 (h.tup ht).2 ht
theorem Kp.seq {K : PySem.W.Frag} {L F a : Addr} {H H' : Hp} {xs : List V} (k : Kp L F H H') (h1 : a ≠ L) (h2 : a ≠ F) (h : SqL K H a xs) : SqL K H' a xs := by
  rcases h with (h | ⟨o, h⟩) | h
  · exact .inl (.inl (k _ _ h1 h2 h))
  · exact .inl (.inr ⟨o, k _ _ h1 h2 h⟩)
  · exact .inr h
theorem cut_ints (ns : List Int) (lo hi : Option Int) : ∃ ms : List Int, cutV (ns.map V.int) lo hi = ms.map V.int ∧ ms.length ≤ ns.length := by
  refine ⟨(ns.drop (HT.sIx ns.length 0 lo)).take (HT.sIx ns.length ns.length hi - HT.sIx ns.length 0 lo), ?_, ?_⟩
  · unfold cutV
    rw [List.length_map, List.map_take, List.map_drop]
  · rw [List.length_take, List.length_drop]
    omega
theorem int_at {ms : List Int} {i : Nat} {x : V} (h : (ms.map V.int)[i]? = some x) : ∃ m, ms[i]? = some m ∧ x = .int m := by
  rw [List.getElem?_map] at h
  cases e : ms[i]? with
  | none => rw [e] at h; cases h
  | some m => rw [e] at h; exact ⟨m, rfl, (Option.some.inj h).symm⟩
theorem same_new {H : Hp} {p : Addr} {o : HO} (h : H p = none) : Same H (upd H p o) := fun b x e => by
  rw [upd_ne (ne_of_none e h)]
  exact e
/-- a new object's own later states leave the rest -/
theorem same_put {H H1 : Hp} {p : Addr} {o : HO} (s : Same H H1) (h : H p = none) : Same H (upd H1 p o) := fun b x e => by
  rw [upd_ne (ne_of_none e h)]
  exact s _ _ e
theorem yes_of {σ : L2.St} {H : Hp} {M N : Hp → Prop} (h : M H) : tYes σ H (fun b H3 => if b = true then M H3 else N H3) := by
  unfold tYes
  show if true = true then M H else N H
  rw [if_pos rfl]
  exact h
theorem absI (a : Int) : (if a < 0 then -a else a) = (a.natAbs : Int) := by
  split <;> omega
end Ev

set_option exponentiation.threshold 256
/-! fractions -/
namespace Ev
def gc (a b : Int) : Nat := Nat.gcd a.natAbs b.natAbs
def dv (a b : Int) : Int := if 0 < b then (gc a b : Int) else -(gc a b : Int)
def fA (a b : Int) : Int := a.fdiv (dv a b)
def fB (a b : Int) : Int := b.fdiv (dv a b)
def Low (x y : Int) : Prop := 0 < y ∧ Nat.gcd x.natAbs y.natAbs = 1
theorem gc_pos {a b : Int} (h : b ≠ 0) : 0 < gc a b := Nat.gcd_pos_of_pos_right _ (by omega)
theorem dv_abs (a b : Int) : (dv a b).natAbs = gc a b := by
  unfold dv
  split <;> omega
theorem dv_ne {a b : Int} (h : b ≠ 0) : dv a b ≠ 0 := by
  have := gc_pos (a := a) h
  have e := dv_abs a b
  omega
theorem dv_dvd_a (a b : Int) : dv a b ∣ a := by
  rw [← Int.natAbs_dvd_natAbs, dv_abs]
  exact Nat.gcd_dvd_left _ _
theorem dv_dvd_b (a b : Int) : dv a b ∣ b := by
  rw [← Int.natAbs_dvd_natAbs, dv_abs]
  exact Nat.gcd_dvd_right _ _
theorem fA_mul {a b : Int} (h : b ≠ 0) : a = dv a b * fA a b := by
  obtain ⟨c, hc⟩ := dv_dvd_a a b
  have e : fA a b = c := by
    have : fA a b = (dv a b * c).fdiv (dv a b) := by rw [← hc]; rfl
    rw [this, Int.mul_fdiv_cancel_left _ (dv_ne h)]
  rw [e]
  exact hc
theorem fB_mul {a b : Int} (h : b ≠ 0) : b = dv a b * fB a b := by
  obtain ⟨c, hc⟩ := dv_dvd_b a b
  have e : fB a b = c := by
    have : fB a b = (dv a b * c).fdiv (dv a b) := by rw [← hc]; rfl
    rw [this, Int.mul_fdiv_cancel_left _ (dv_ne h)]
  rw [e]
  exact hc
theorem fA_le {a b : Int} (h : b ≠ 0) : (fA a b).natAbs ≤ a.natAbs := by
  have e := congrArg Int.natAbs (fA_mul (a := a) h)
  rw [Int.natAbs_mul, dv_abs] at e
  rw [e]
  exact Nat.le_mul_of_pos_left _ (gc_pos h)
theorem fB_le {a b : Int} (h : b ≠ 0) : (fB a b).natAbs ≤ b.natAbs := by
  have e := congrArg Int.natAbs (fB_mul (a := a) h)
  rw [Int.natAbs_mul, dv_abs] at e
  rw [e]
  exact Nat.le_mul_of_pos_left _ (gc_pos h)
theorem low_f {a b : Int} (h : b ≠ 0) : Low (fA a b) (fB a b) := by
  have hp := gc_pos (a := a) h
  refine ⟨?_, ?_⟩
  · have e := fB_mul (a := a) h
    rcases Int.lt_trichotomy 0 b with hb | hb | hb
    · have d : dv a b = (gc a b : Int) := if_pos hb
      rw [d] at e
      rcases Int.lt_trichotomy 0 (fB a b) with z | z | z
      · exact z
      · rw [← z, Int.mul_zero] at e
        exact absurd e h
      · have : (gc a b : Int) * fB a b < 0 := Int.mul_neg_of_pos_of_neg (by omega) z
        omega
    · exact absurd hb.symm h
    · have d : dv a b = -(gc a b : Int) := if_neg (by omega)
      rw [d] at e
      rcases Int.lt_trichotomy 0 (fB a b) with z | z | z
      · exact z
      · rw [← z, Int.mul_zero] at e
        exact absurd e h
      · have : 0 < -(gc a b : Int) * fB a b := Int.mul_pos_of_neg_of_neg (by omega) z
        omega
  · have ea := congrArg Int.natAbs (fA_mul (a := a) h)
    have eb := congrArg Int.natAbs (fB_mul (a := a) h)
    rw [Int.natAbs_mul, dv_abs] at ea eb
    have g : gc a b = Nat.gcd (gc a b * (fA a b).natAbs) (gc a b * (fB a b).natAbs) := by
      conv => lhs; unfold gc; rw [ea, eb]
    rw [Nat.gcd_mul_left] at g
    have : gc a b * 1 = gc a b * Nat.gcd (fA a b).natAbs (fB a b).natAbs := by rw [Nat.mul_one]; exact g
    exact (Nat.eq_of_mul_eq_mul_left hp this).symm
theorem low_inj {x y z u : Int} (h1 : Low x y) (h2 : Low z u) (e : x * u = z * y) : x = z ∧ y = u := by
  obtain ⟨p1, c1⟩ := h1
  obtain ⟨p2, c2⟩ := h2
  have en := congrArg Int.natAbs e
  rw [Int.natAbs_mul, Int.natAbs_mul] at en
  have d1 : y.natAbs ∣ u.natAbs := by
    have : y.natAbs ∣ x.natAbs * u.natAbs := ⟨z.natAbs, by rw [en, Nat.mul_comm]⟩
    exact Nat.Coprime.dvd_of_dvd_mul_left (show Nat.Coprime y.natAbs x.natAbs by rw [Nat.coprime_comm]; exact c1) this
  have d2 : u.natAbs ∣ y.natAbs := by
    have : u.natAbs ∣ z.natAbs * y.natAbs := ⟨x.natAbs, by rw [← en, Nat.mul_comm]⟩
    exact Nat.Coprime.dvd_of_dvd_mul_left (show Nat.Coprime u.natAbs z.natAbs by rw [Nat.coprime_comm]; exact c2) this
  have ey : y = u := by
    have := Nat.dvd_antisymm d1 d2
    omega
  subst ey
  exact ⟨Int.eq_of_mul_eq_mul_right (by omega) e, rfl⟩
end Ev

set_option exponentiation.threshold 256
/-! data of any kind, dicts too, as the heap holds them -/
namespace Ev
open PySem PySem.Spec PyProof.Rows L2
def kD : Key → PyData
  | .inl i => .int i
  | .inr x => .str x
mutual
/-- v is d; lists and dicts stand at places of which Z tells something -/
inductive Dx (K : PySem.W.Frag) (Z : Addr → Prop) (H : Hp) : V → PyData → Prop
  | non : Dx K Z H .non .none
  | bl (b : Bool) : Dx K Z H (.bl b) (.bool b)
  | int (i : Int) : Dx K Z H (.int i) (.int i)
  | str (x : Str) : Dx K Z H (.str x) (.str x)
  | lst {a : Addr} {xs : List V} {ds : List PyData} (e : H a = some (.lst xs)) (z : Z a) (h : DxAll K Z H xs ds) : Dx K Z H (.ref a) (.list ds)
  | tup {a : Addr} {xs : List V} {ds : List PyData} (e : SqT K H a xs) (h : DxAll K Z H xs ds) : Dx K Z H (.ref a) (.tuple ds)
  | dct {a : Addr} {kvs : List (Key × V)} {ds : List (PyData × PyData)} (e : H a = some (.dK kvs)) (z : Z a) (h : DxKv K Z H kvs ds) : Dx K Z H (.ref a) (.dict ds)
inductive DxAll (K : PySem.W.Frag) (Z : Addr → Prop) (H : Hp) : List V → List PyData → Prop
  | nil : DxAll K Z H [] []
  | cons {v : V} {vs : List V} {d : PyData} {ds : List PyData} (h : Dx K Z H v d) (r : DxAll K Z H vs ds) : DxAll K Z H (v :: vs) (d :: ds)
inductive DxKv (K : PySem.W.Frag) (Z : Addr → Prop) (H : Hp) : List (Key × V) → List (PyData × PyData) → Prop
  | nil : DxKv K Z H [] []
  | cons {k : Key} {v : V} {vs : List (Key × V)} {d : PyData} {ds : List (PyData × PyData)} (h : Dx K Z H v d) (r : DxKv K Z H vs ds) : DxKv K Z H ((k, v) :: vs) ((kD k, d) :: ds)
end
/-! ### they stay where nothing of theirs is changed -/
mutual
theorem dx_keep {K : PySem.W.Frag} {Z : Addr → Prop} {H H' : Hp} (hT : ∀ a xs, SqT K H a xs → SqT K H' a xs) (hZ : ∀ a o, Z a → H a = some o → H' a = some o) : ∀ {v : V} {d : PyData}, Dx K Z H v d → Dx K Z H' v d
  | _, _, .non => .non
  | _, _, .bl b => .bl b
  | _, _, .int i => .int i
  | _, _, .str x => .str x
  | _, _, .lst e z h => .lst (hZ _ _ z e) z (dxAll_keep hT hZ h)
  | _, _, .tup e h => .tup (hT _ _ e) (dxAll_keep hT hZ h)
  | _, _, .dct e z h => .dct (hZ _ _ z e) z (dxKv_keep hT hZ h)
theorem dxAll_keep {K : PySem.W.Frag} {Z : Addr → Prop} {H H' : Hp} (hT : ∀ a xs, SqT K H a xs → SqT K H' a xs) (hZ : ∀ a o, Z a → H a = some o → H' a = some o) : ∀ {vs : List V} {ds : List PyData}, DxAll K Z H vs ds → DxAll K Z H' vs ds
  | _, _, .nil => .nil
  | _, _, .cons h r => .cons (dx_keep hT hZ h) (dxAll_keep hT hZ r)
theorem dxKv_keep {K : PySem.W.Frag} {Z : Addr → Prop} {H H' : Hp} (hT : ∀ a xs, SqT K H a xs → SqT K H' a xs) (hZ : ∀ a o, Z a → H a = some o → H' a = some o) : ∀ {vs : List (Key × V)} {ds : List (PyData × PyData)}, DxKv K Z H vs ds → DxKv K Z H' vs ds
  | _, _, .nil => .nil
  | _, _, .cons h r => .cons (dx_keep hT hZ h) (dxKv_keep hT hZ r)
end
theorem dx_same {K : PySem.W.Frag} {Z : Addr → Prop} {H H' : Hp} (s : Same H H') {v : V} {d : PyData} (h : Dx K Z H v d) : Dx K Z H' v d := dx_keep (fun _ _ e => Ev.Same.seqT s e) (fun _ _ _ e => s _ _ e) h
theorem dxAll_same {K : PySem.W.Frag} {Z : Addr → Prop} {H H' : Hp} (s : Same H H') {v : List V} {d : List PyData} (h : DxAll K Z H v d) : DxAll K Z H' v d := dxAll_keep (fun _ _ e => Ev.Same.seqT s e) (fun _ _ _ e => s _ _ e) h
/-- beside the loom's two -/
def ZL (L F : Addr) : Addr → Prop := fun a => a ≠ L ∧ a ≠ F
theorem Kp.sqT {K : PySem.W.Frag} {L F a : Addr} {H H' : Hp} {xs : List V} (k : Kp L F H H') (hM : Lm H L F) (h : SqT K H a xs) : SqT K H' a xs := by
  obtain ⟨fs, s, t, h1, h2, h3⟩ := hM
  rcases h with (h | ⟨o, h⟩) | h
  · exact .inl (.inl (k _ _ (ne_of h h1 (by intro z; cases z)) (ne_of h h2 (by intro z; cases z)) h))
  · exact .inl (.inr ⟨o, k _ _ (ne_of h h1 (by intro z; cases z)) (ne_of h h2 (by intro z; cases z)) h⟩)
  · exact .inr h
theorem dx_kp {K : PySem.W.Frag} {L F : Addr} {H H' : Hp} (k : Kp L F H H') (hM : Lm H L F) {v : V} {d : PyData} (h : Dx K (ZL L F) H v d) : Dx K (ZL L F) H' v d := dx_keep (fun _ _ e => k.sqT hM e) (fun _ _ z e => k _ _ z.1 z.2 e) h
theorem dxAll_kp {K : PySem.W.Frag} {L F : Addr} {H H' : Hp} (k : Kp L F H H') (hM : Lm H L F) {v : List V} {d : List PyData} (h : DxAll K (ZL L F) H v d) : DxAll K (ZL L F) H' v d := dxAll_keep (fun _ _ e => k.sqT hM e) (fun _ _ z e => k _ _ z.1 z.2 e) h
/-! ### plain data -/
mutual
theorem dp_of_dx {K : PySem.W.Frag} {Z : Addr → Prop} {H : Hp} : ∀ {v : V} {d : PyData}, Dx K Z H v d → d.hasDict = false → Dp K H v d
  | _, _, .non, _ => .non
  | _, _, .bl b, _ => .bl b
  | _, _, .int i, _ => .int i
  | _, _, .str x, _ => .str x
  | _, _, .lst e z h, n => .lst (SqL.of e) (dpAll_of_dx h (by simpa only [PyData.hasDict] using n))
  | _, _, .tup e h, n => .tup e (dpAll_of_dx h (by simpa only [PyData.hasDict] using n))
  | _, _, .dct e z h, n => by simp only [PyData.hasDict] at n; cases n
theorem dpAll_of_dx {K : PySem.W.Frag} {Z : Addr → Prop} {H : Hp} : ∀ {vs : List V} {ds : List PyData}, DxAll K Z H vs ds → PyData.hasDictAll ds = false → DpAll K H vs ds
  | _, _, .nil, _ => .nil
  | _, _, .cons h r, n => by
    simp only [PyData.hasDictAll, Bool.or_eq_false_iff] at n
    exact .cons (dp_of_dx h n.1) (dpAll_of_dx r n.2)
end
/-! ### as the library reads them -/
section
variable {X : Cx} {pins : List (Addr × Obj)} {σ : L2.St} {H : Hp} {s : Shared} {Z : Addr → Prop}
theorem kv_vals : ∀ {kvs : List (Key × V)} {ws : List (Key × Value)}, KV kvs ws → Vals (kvs.map (·.2)) (ws.map (·.2))
  | _, _, .nil => .nil
  | _, _, .cons h r => .cons h.2 (kv_vals r)
theorem key_reads {h : Heap} {k : Key} {u : Value} (e : keyIs k u = true) : Reads h u (kD k) [] := by
  rcases keyIs_shape e with ⟨i, t, rfl, rfl⟩ | ⟨x, t, rfl, rfl⟩
  · exact .int i t
  · exact .str x t
theorem keys_reads {h : Heap} {P : Program} {w : World} : ∀ {kvs : List (Key × V)} {ws : List (Key × Value)} {es : List DictEntry} {ds : List (PyData × PyData)}, KV kvs ws → Pairs (mixKind P w) es ws → DxKv X.K Z H kvs ds →
    ReadsAll h (es.map (·.key)) (ds.map (·.1)) []
  | _, _, _, _, .nil, .nil, .nil => .nil
  | _, _, _, _, .cons hk r, .cons he hv q, .cons hd t => by
    refine .cons (as := []) (bs := []) (key_reads ?_) (keys_reads r q t)
    rw [mixKind_is] at he
    have e1 := hk.1
    show keyIs _ _ = true
    dsimp only at e1 ⊢
    rw [e1]
    exact he
mutual
theorem dx_reads (I : Inv X pins σ H s) : ∀ {v : V} {d : PyData} {u : Value}, Dx X.K Z H v d → RelV v u → ∃ as, Reads s.heap u d as
  | _, _, _, .non, r => by cases r; exact ⟨_, .none⟩
  | _, _, _, .bl b, r => by cases r; exact ⟨_, .bool b⟩
  | _, _, _, .int i, r => by obtain ⟨t, rfl⟩ := r; exact ⟨_, .int i t⟩
  | _, _, _, .str x, r => by obtain ⟨t, rfl⟩ := r; exact ⟨_, .str x t⟩
  | _, _, _, .lst e z h, r => by
    cases r
    obtain ⟨its, rv, ⟨o, n, ho, hc, _, hd⟩, _⟩ := I.list (SqL.of e)
    obtain ⟨as, hr⟩ := dxAll_reads I h rv
    exact ⟨_, .list ho hc hd hr⟩
  | _, _, _, .tup e h, r => by
    cases r
    obtain ⟨its, rv, ⟨o, ho, hc, n, hd⟩, _⟩ := I.tuple e
    obtain ⟨as, hr⟩ := dxAll_reads I h rv
    exact ⟨_, .tuple ho hc hd hr⟩
  | _, _, _, .dct e z h, r => by
    cases r
    obtain ⟨_, _, ws, rk, o, es, ep, ho, hx, hd, _, hp, _⟩ := dk_of I.hok e
    obtain ⟨as, hr⟩ := dxKv_reads I h rk hp
    exact ⟨_, .dict ho hx.1 hd (keys_reads rk hp h) hr⟩
theorem dxAll_reads (I : Inv X pins σ H s) : ∀ {vs : List V} {ds : List PyData} {us : List Value}, DxAll X.K Z H vs ds → Vals vs us → ∃ as, ReadsAll s.heap us ds as
  | _, _, _, .nil, r => by cases r; exact ⟨_, .nil⟩
  | _, _, _, .cons h t, .cons r1 r2 => by
    obtain ⟨as, q1⟩ := dx_reads I h r1
    obtain ⟨bs, q2⟩ := dxAll_reads I t r2
    exact ⟨_, .cons q1 q2⟩
theorem dxKv_reads (I : Inv X pins σ H s) {P : Program} {w : World} : ∀ {kvs : List (Key × V)} {ds : List (PyData × PyData)} {ws : List (Key × Value)} {es : List DictEntry}, DxKv X.K Z H kvs ds → KV kvs ws → Pairs (mixKind P w) es ws →
    ∃ as, ReadsAll s.heap (es.map (·.val)) (ds.map (·.2)) as
  | _, _, _, _, .nil, .nil, .nil => ⟨_, .nil⟩
  | _, _, _, _, .cons h t, .cons hk r, .cons he hv q => by
    obtain ⟨as, q1⟩ := dx_reads I h hk.2
    obtain ⟨bs, q2⟩ := dxKv_reads I t r q
    refine ⟨_, .cons (as := as) (bs := bs) ?_ q2⟩
    dsimp only
    rw [hv]
    exact q1
end
/-! ### as repr shows them -/
/-- what a shown part leaves behind: deeper places than it are not among its own -/
def RK (X : Cx) (s : Shared) (n : Nat) (u : Value) (t : Str) : Prop := ∃ bs, ReadAtMost s.heap n bs ∧ ReprK X.prog X.w bs s.heap n u t
def RKs (X : Cx) (s : Shared) (n : Nat) (us : List Value) (ts : List Str) : Prop := ∃ bs, ReadAtMost s.heap n bs ∧ ReprAllK X.prog X.w bs s.heap n us ts
theorem RKs.cons {n m : Nat} {u : Value} {us : List Value} {t : Str} {ts : List Str} (a : RK X s n u t) (b : RKs X s m us ts) : RKs X s (max n m) (u :: us) (t :: ts) := by
  obtain ⟨p, hp, kp⟩ := a
  obtain ⟨q, hq, kq⟩ := b
  have l1 : n ≤ max n m := Nat.le_max_left n m
  have l2 : m ≤ max n m := Nat.le_max_right n m
  refine ⟨p ++ q, (hp.mono l1).append (hq.mono l2), .cons ((kp.more fun b hb => List.mem_append_left q hb).level_le l1) (kq.more_le (fun b hb => List.mem_append_right p hb) l2)⟩
theorem RKs.nil : RKs X s 0 [] [] := ⟨[], fun _ h => (nomatch h), .nil⟩
theorem key_repr {k : Key} {u : Value} (e : keyIs k u = true) (hs : (kD k).showable = true) (hz : (kD k).shown.length ≤ sizeLine) : RK X s (kD k).depth u (kD k).shown := by
  rcases keyIs_shape e with ⟨i, t, rfl, rfl⟩ | ⟨x, t, rfl, rfl⟩
  · have hs' : i.natAbs.log2 < 1920 := by simpa only [kD, PyData.showable, decide_eq_true_eq] using hs
    simp only [kD, PyData.shown]
    exact ⟨[], fun _ h => (nomatch h), .of_is (ReprIs.int t hs') _ _ _⟩
  · simp only [kD, PyData.shown] at hz ⊢
    exact ⟨[], fun _ h => (nomatch h), .of_is (ReprIs.str x t hz) _ _ _⟩
theorem ents_more {P : Program} {w : World} {h₀ : Heap} {as as' : List Addr} {d d' : Nat} (hsub : ∀ b ∈ as, b ∈ as') (hd : d ≤ d') : ∀ {es : List DictEntry} {ps : List Str}, ReprEntriesK P w as h₀ d es ps → ReprEntriesK P w as' h₀ d' es ps
  | _, _, .nil => .nil
  | _, _, .cons a b r => .cons ((a.more hsub).level_le hd) ((b.more hsub).level_le hd) (ents_more hsub hd r)
mutual
theorem dx_repr (I : Inv X pins σ H s) : ∀ {v : V} {d : PyData} {u : Value}, Dx X.K Z H v d → RelV v u → d.showable = true → d.shown.length ≤ sizeLine → RK X s d.depth u d.shown
  | _, _, _, .non, r, _, _ => by
    cases r
    simp only [PyData.shown]
    exact ⟨[], fun _ h => (nomatch h), .of_is ReprIs.none _ _ _⟩
  | _, _, _, .bl b, r, _, _ => by
    cases r
    simp only [PyData.shown]
    exact ⟨[], fun _ h => (nomatch h), .of_is (ReprIs.bool b) _ _ _⟩
  | _, _, _, .int i, r, hs, _ => by
    obtain ⟨t, rfl⟩ := r
    have hs' : i.natAbs.log2 < 1920 := by simpa only [PyData.showable, decide_eq_true_eq] using hs
    simp only [PyData.shown]
    exact ⟨[], fun _ h => (nomatch h), .of_is (ReprIs.int t hs') _ _ _⟩
  | _, _, _, .str x, r, _, hz => by
    obtain ⟨t, rfl⟩ := r
    simp only [PyData.shown] at hz ⊢
    exact ⟨[], fun _ h => (nomatch h), .of_is (ReprIs.str x t hz) _ _ _⟩
  | _, _, _, .lst (a := a) (ds := ds) e z h, r, hs, hz => by
    cases r
    have rd := dx_reads I (.lst e z h) (u := .ref a) rfl
    obtain ⟨its, rv, ⟨o, n, ho, hc, _, hd⟩, _⟩ := I.list (SqL.of e)
    simp only [PyData.shown] at hz
    obtain ⟨bs, hb, hk⟩ := dxAll_repr I h rv (by simpa only [PyData.showable] using hs) fun t ht => Nat.le_trans (listText_mem_le ht) hz
    obtain ⟨as, rd⟩ := rd
    simp only [PyData.shown, PyData.depth]
    have own : a ∉ bs := not_mem_of_deeper rd (by simp only [PyData.depth]; omega) hb
    refine ⟨a :: bs, ?_, ?_⟩
    · have := ReadAtMost.cons rd (by simp only [PyData.depth]; omega) hb
      simpa only [PyData.depth] using this
    · cases its with
      | nil =>
        cases rv
        cases h
        simp only [PyData.shownAll, listText_nil]
        exact ReprK.listEmpty ho hc hd
      | cons x l => exact ReprK.list ho hc hd own (by simpa using hk.length_eq) fun i y hy => hk.item i y (by simpa using hy)
  | _, _, _, .tup (a := a) e h, r, hs, hz => by
    cases r
    have rd := dx_reads I (.tup e h) (u := .ref a) rfl
    obtain ⟨its, rv, ⟨o, ho, hc, n, hd⟩, _⟩ := I.tuple e
    simp only [PyData.shown] at hz
    obtain ⟨bs, hb, hk⟩ := dxAll_repr I h rv (by simpa only [PyData.showable] using hs) fun t ht => Nat.le_trans (tupleText_mem_le ht) hz
    obtain ⟨as, rd⟩ := rd
    simp only [PyData.shown, PyData.depth]
    have own : a ∉ bs := not_mem_of_deeper rd (by simp only [PyData.depth]; omega) hb
    refine ⟨a :: bs, ?_, ReprK.tuple ho hc hd own hk⟩
    have := ReadAtMost.cons rd (by simp only [PyData.depth]; omega) hb
    simpa only [PyData.depth] using this
  | _, _, _, .dct (a := a) (ds := ds) e z h, r, hs, hz => by
    cases r
    have rd := dx_reads I (.dct e z h) (u := .ref a) rfl
    obtain ⟨_, sys, ws, rk, o, es, ep, ho, hx, hd, _, hp, _⟩ := dk_of I.hok e
    simp only [PyData.shown] at hz
    obtain ⟨bs, hb, hk⟩ := dxKv_repr I h rk hp (by simpa only [PyData.showable] using hs) fun t ht => Nat.le_trans (dictText_mem_le ht) hz
    obtain ⟨as, rd⟩ := rd
    simp only [PyData.shown, PyData.depth]
    have own : a ∉ bs := not_mem_of_deeper rd (by simp only [PyData.depth]; omega) hb
    refine ⟨a :: bs, ?_, ReprK.dict ho hx.1 hd sys own hk⟩
    have := ReadAtMost.cons rd (by simp only [PyData.depth]; omega) hb
    simpa only [PyData.depth] using this
theorem dxAll_repr (I : Inv X pins σ H s) : ∀ {vs : List V} {ds : List PyData} {us : List Value}, DxAll X.K Z H vs ds → Vals vs us → PyData.showableAll ds = true → (∀ t ∈ PyData.shownAll ds, t.length ≤ sizeLine) → RKs X s (PyData.depthAll ds) us (PyData.shownAll ds)
  | _, _, _, .nil, r, _, _ => by
    cases r
    simp only [PyData.shownAll, PyData.depthAll]
    exact RKs.nil
  | _, _, _, .cons h t, .cons r1 r2, hs, hz => by
    simp only [PyData.showableAll, Bool.and_eq_true] at hs
    simp only [PyData.shownAll, PyData.depthAll] at hz ⊢
    exact RKs.cons (dx_repr I h r1 hs.1 (hz _ (List.mem_cons_self ..))) (dxAll_repr I t r2 hs.2 fun t ht => hz t (List.mem_cons_of_mem _ ht))
theorem dxKv_repr (I : Inv X pins σ H s) {P : Program} {w : World} : ∀ {kvs : List (Key × V)} {ds : List (PyData × PyData)} {ws : List (Key × Value)} {es : List DictEntry}, DxKv X.K Z H kvs ds → KV kvs ws → Pairs (mixKind P w) es ws →
    PyData.showableKv ds = true → (∀ t ∈ PyData.shownKv ds, t.length ≤ sizeLine) → ∃ bs, ReadAtMost s.heap (PyData.depthKv ds) bs ∧ ReprEntriesK X.prog X.w bs s.heap (PyData.depthKv ds) es (PyData.shownKv ds)
  | _, _, _, _, .nil, .nil, .nil, _, _ => by
    simp only [PyData.shownKv]
    exact ⟨[], fun _ h => (nomatch h), .nil⟩
  | _, _, _, _, .cons (k := k) (d := d) (ds := ds) h t, .cons hk r, .cons (e := e) he hv q, hs, hz => by
    simp only [PyData.showableKv, Bool.and_eq_true] at hs
    simp only [PyData.shownKv, PyData.depthKv] at hz ⊢
    have lz := hz _ (List.mem_cons_self ..)
    rw [strLen_append, strLen_append] at lz
    have e1 := hk.1
    have e2 := hk.2
    dsimp only at e1 e2
    rw [mixKind_is, ← e1] at he
    obtain ⟨p, hp, kp⟩ := key_repr (X := X) (s := s) he hs.1.1 (by omega)
    obtain ⟨q1, hq, kq⟩ := dx_repr I h e2 hs.1.2 (by omega)
    obtain ⟨q2, hr, kr⟩ := dxKv_repr I t r q hs.2 fun t ht => hz t (List.mem_cons_of_mem _ ht)
    refine ⟨p ++ (q1 ++ q2), ?_, ?_⟩
    · exact (hp.mono (by omega)).append ((hq.mono (by omega)).append (hr.mono (by omega)))
    · rw [← hv] at kq
      refine .cons ((kp.more fun b hb => List.mem_append_left _ hb).level_le (by omega)) ((kq.more fun b hb => List.mem_append_right _ (List.mem_append_left _ hb)).level_le (by omega)) ?_
      exact ents_more (fun b hb => List.mem_append_right _ (List.mem_append_right _ hb)) (by omega) kr
end
end
section
variable {X : Cx}
/-- repr(x), x data of any kind -/
def rReprX (K : PySem.W.Frag) : List V → Hp → VK → Prop := fun vs H Q =>
  ∃ (v : V) (d : PyData) (Z : Addr → Prop), vs = [v] ∧ Dx K Z H v d ∧ d.showable = true ∧ d.shown.length ≤ sizeLine ∧ d.depth ≤ 60 ∧ Q (.str d.shown) H
theorem call_reprX (hG : X.A.guards = some []) (hu : X.A.units + 64 < cLine) : CallR X (.builtin "repr") (rReprX X.K) := by
  intro pins s σ H vs us Q I r h
  obtain ⟨v, d, Z, rfl, hx, hs, hz, hdep, q⟩ := h
  have keep : ∀ (h' : Heap) (u : Tok) (tk : Nat), (∀ b o, s.heap.get? b = some o → h'.get? b = some o) → EP X pins σ Q (.str d.shown u) { s with heap := h', toks := tk } :=
    fun h' u tk hk => ⟨.str d.shown, H, I.kept hk, ⟨_, rfl⟩, q⟩
  cases hx with
  | non =>
    obtain ⟨u, rfl, ru⟩ := vals1 r
    cases ru
    exact PySem.P.repr_of_none ⟨.str _, H, I.tok _, ⟨_, rfl⟩, q⟩
  | bl b =>
    obtain ⟨u, rfl, ru⟩ := vals1 r
    cases ru
    refine PySem.P.repr_of_bool ⟨.str (PyData.shown (.bool b)), H, I.tok _, ⟨_, rfl⟩, q⟩
  | int i =>
    obtain ⟨u, rfl, t, rfl⟩ := vals1 r
    have hs' : i.natAbs.log2 < 1920 := by simpa only [PyData.showable, decide_eq_true_eq] using hs
    exact PySem.P.repr_of_int hs' ⟨.str _, H, I.tok _, ⟨_, rfl⟩, q⟩
  | str x =>
    obtain ⟨u, rfl, t, rfl⟩ := vals1 r
    exact PySem.P.repr_of_str ⟨.str _, H, I.tok _, ⟨_, rfl⟩, q⟩ hz
  | lst e z h =>
    obtain ⟨u, rfl, ru⟩ := vals1 r
    cases ru
    rename_i a xs ds
    obtain ⟨as, rd⟩ := dx_reads I (.lst e z h) (u := .ref a) rfl
    obtain ⟨its, rv, ⟨o, n, ho, hc, _, hd⟩, _⟩ := I.list (SqL.of e)
    simp only [PyData.shown, PyData.depth] at hz hdep keep
    obtain ⟨bs, hb, hk⟩ := dxAll_repr I h rv (by simpa only [PyData.showable] using hs) fun t ht => Nat.le_trans (listText_mem_le ht) hz
    have own : a ∉ bs := not_mem_of_deeper rd (by simp only [PyData.depth]; omega) hb
    refine call_repr_slot (by omega) ⟨o, ho, hc⟩ F.slot_list_repr.toG ?_
    cases its with
    | nil =>
      cases rv
      cases h
      simp only [PyData.shownAll, listText_nil] at keep
      exact call_list_repr_empty ⟨o, ho, hc⟩ ho hd ⟨_, _, rfl, keep s.heap _ _ fun _ _ e => e⟩
    | cons x l =>
      exact call_list_reprK ho hc hd own (by simpa using hk.length_eq) (fun i y hy => hk.item i y (by simpa using hy)) hG (fun b _ => Clear.nil b) (by show X.A.units + 1 + (_ + 1) < cLine; omega) (fun _ _ e => e) (fun h' u tk hk' => ⟨_, _, rfl, keep h' u tk hk'⟩) hz
  | tup e h =>
    obtain ⟨u, rfl, ru⟩ := vals1 r
    cases ru
    rename_i a xs ds
    obtain ⟨as, rd⟩ := dx_reads I (Dx.tup (Z := Z) e h) (u := .ref a) rfl
    obtain ⟨its, rv, ⟨o, ho, hc, n, hd⟩, _⟩ := I.tuple e
    simp only [PyData.shown, PyData.depth] at hz hdep keep
    obtain ⟨bs, hb, hk⟩ := dxAll_repr I h rv (by simpa only [PyData.showable] using hs) fun t ht => Nat.le_trans (tupleText_mem_le ht) hz
    have own : a ∉ bs := not_mem_of_deeper rd (by simp only [PyData.depth]; omega) hb
    refine call_repr_slot (by omega) ⟨o, ho, hc⟩ F.slot_tuple_repr ?_
    exact call_tuple_reprK ho hc hd own hk hG (fun b _ => Clear.nil b) (by show X.A.units + 1 + (_ + 1) < cLine; omega) (fun _ _ e => e) (fun h' u tk hk' => ⟨_, _, rfl, keep h' u tk hk'⟩) hz
  | dct e z h =>
    obtain ⟨u, rfl, ru⟩ := vals1 r
    cases ru
    rename_i a kvs ds
    obtain ⟨as, rd⟩ := dx_reads I (.dct e z h) (u := .ref a) rfl
    obtain ⟨_, sys, ws, rk, o, es, ep, ho, hx, hd, _, hp, _⟩ := dk_of I.hok e
    simp only [PyData.shown, PyData.depth] at hz hdep keep
    obtain ⟨bs, hb, hk⟩ := dxKv_repr I h rk hp (by simpa only [PyData.showable] using hs) fun t ht => Nat.le_trans (dictText_mem_le ht) hz
    have own : a ∉ bs := not_mem_of_deeper rd (by simp only [PyData.depth]; omega) hb
    refine call_repr_slot (by omega) ⟨o, ho, hx.1⟩ F.slot_dict_repr ?_
    exact call_dict_reprK ho hx.1 hd sys own hk hG (fun b _ => Clear.nil b) (by show X.A.units + 1 + (_ + 1) < cLine; omega) (fun _ _ e => e) (fun h' u tk hk' => ⟨_, _, rfl, keep h' u tk hk'⟩) hz
end
end Ev

set_option exponentiation.threshold 256
/-! data of any kind: kinds, parts, how long they are shown -/
namespace Ev
open PySem PySem.Spec PyProof.Rows L2
/-! ### kinds -/
def tyN : PyData → String
  | .none => "NoneType"
  | .bool _ => "bool"
  | .int _ => "int"
  | .str _ => "str"
  | .list _ => "list"
  | .tuple _ => "tuple"
  | .dict _ => "dict"
def isInt : PyData → Bool
  | .int _ => true
  | .bool _ => true
  | _ => false
def isBool : PyData → Bool
  | .bool _ => true
  | _ => false
def isStr : PyData → Bool
  | .str _ => true
  | _ => false
def isTup : PyData → Bool
  | .tuple _ => true
  | _ => false
def isLst : PyData → Bool
  | .list _ => true
  | _ => false
def isDct : PyData → Bool
  | .dict _ => true
  | _ => false
section
variable {K : PySem.W.Frag} {Z : Addr → Prop} {H : Hp}
theorem kit_int : ∀ d : PyData, PySem.W.kitOne K (.type (tyN d)) (.type "int") = some (isInt d)
  | .none => kit_ty (show kitB "NoneType" "int" = some false by decide +kernel)
  | .bool _ => kit_ty (show kitB "bool" "int" = some true by decide +kernel)
  | .int _ => kit_ty (show kitB "int" "int" = some true by decide +kernel)
  | .str _ => kit_ty (show kitB "str" "int" = some false by decide +kernel)
  | .list _ => kit_ty (show kitB "list" "int" = some false by decide +kernel)
  | .tuple _ => kit_ty (show kitB "tuple" "int" = some false by decide +kernel)
  | .dict _ => kit_ty (show kitB "dict" "int" = some false by decide +kernel)
theorem kit_bool : ∀ d : PyData, PySem.W.kitOne K (.type (tyN d)) (.type "bool") = some (isBool d)
  | .none => kit_ty (show kitB "NoneType" "bool" = some false by decide +kernel)
  | .bool _ => kit_ty (show kitB "bool" "bool" = some true by decide +kernel)
  | .int _ => kit_ty (show kitB "int" "bool" = some false by decide +kernel)
  | .str _ => kit_ty (show kitB "str" "bool" = some false by decide +kernel)
  | .list _ => kit_ty (show kitB "list" "bool" = some false by decide +kernel)
  | .tuple _ => kit_ty (show kitB "tuple" "bool" = some false by decide +kernel)
  | .dict _ => kit_ty (show kitB "dict" "bool" = some false by decide +kernel)
theorem kit_str : ∀ d : PyData, PySem.W.kitOne K (.type (tyN d)) (.type "str") = some (isStr d)
  | .none => kit_ty (show kitB "NoneType" "str" = some false by decide +kernel)
  | .bool _ => kit_ty (show kitB "bool" "str" = some false by decide +kernel)
  | .int _ => kit_ty (show kitB "int" "str" = some false by decide +kernel)
  | .str _ => kit_ty (show kitB "str" "str" = some true by decide +kernel)
  | .list _ => kit_ty (show kitB "list" "str" = some false by decide +kernel)
  | .tuple _ => kit_ty (show kitB "tuple" "str" = some false by decide +kernel)
  | .dict _ => kit_ty (show kitB "dict" "str" = some false by decide +kernel)
theorem kit_tup : ∀ d : PyData, PySem.W.kitOne K (.type (tyN d)) (.type "tuple") = some (isTup d)
  | .none => kit_ty (show kitB "NoneType" "tuple" = some false by decide +kernel)
  | .bool _ => kit_ty (show kitB "bool" "tuple" = some false by decide +kernel)
  | .int _ => kit_ty (show kitB "int" "tuple" = some false by decide +kernel)
  | .str _ => kit_ty (show kitB "str" "tuple" = some false by decide +kernel)
  | .list _ => kit_ty (show kitB "list" "tuple" = some false by decide +kernel)
  | .tuple _ => kit_ty (show kitB "tuple" "tuple" = some true by decide +kernel)
  | .dict _ => kit_ty (show kitB "dict" "tuple" = some false by decide +kernel)
theorem kit_lst : ∀ d : PyData, PySem.W.kitOne K (.type (tyN d)) (.type "list") = some (isLst d)
  | .none => kit_ty (show kitB "NoneType" "list" = some false by decide +kernel)
  | .bool _ => kit_ty (show kitB "bool" "list" = some false by decide +kernel)
  | .int _ => kit_ty (show kitB "int" "list" = some false by decide +kernel)
  | .str _ => kit_ty (show kitB "str" "list" = some false by decide +kernel)
  | .list _ => kit_ty (show kitB "list" "list" = some true by decide +kernel)
  | .tuple _ => kit_ty (show kitB "tuple" "list" = some false by decide +kernel)
  | .dict _ => kit_ty (show kitB "dict" "list" = some false by decide +kernel)
theorem kit_dct : ∀ d : PyData, PySem.W.kitOne K (.type (tyN d)) (.type "dict") = some (isDct d)
  | .none => kit_ty (show kitB "NoneType" "dict" = some false by decide +kernel)
  | .bool _ => kit_ty (show kitB "bool" "dict" = some false by decide +kernel)
  | .int _ => kit_ty (show kitB "int" "dict" = some false by decide +kernel)
  | .str _ => kit_ty (show kitB "str" "dict" = some false by decide +kernel)
  | .list _ => kit_ty (show kitB "list" "dict" = some false by decide +kernel)
  | .tuple _ => kit_ty (show kitB "tuple" "dict" = some false by decide +kernel)
  | .dict _ => kit_ty (show kitB "dict" "dict" = some true by decide +kernel)
theorem dx_ty {v : V} {d : PyData} (h : Dx K Z H v d) : TyX K H v (.type (tyN d)) := by
  cases h with
  | non => exact .base .non
  | bl b => exact .base (.bl b)
  | int i => exact .base (.int i)
  | str x => exact .base (.str x)
  | lst e z h => exact .base (.lst e)
  | tup e h =>
    rcases e with (e | ⟨o, e⟩) | ⟨o, its, n, e, c, _⟩
    · exact .base (.tup e)
    · exact .fTuple e
    · exact .kTuple e c
  | dct e z h => exact .base (.dK e)
/-! ### parts -/
theorem dx_tup {v : V} {ds : List PyData} (h : Dx K Z H v (.tuple ds)) : ∃ a xs, v = .ref a ∧ SqT K H a xs ∧ DxAll K Z H xs ds := by
  cases h with
  | tup e h => exact ⟨_, _, rfl, e, h⟩
theorem dx_lst {v : V} {ds : List PyData} (h : Dx K Z H v (.list ds)) : ∃ a xs, v = .ref a ∧ H a = some (.lst xs) ∧ Z a ∧ DxAll K Z H xs ds := by
  cases h with
  | lst e z h => exact ⟨_, _, rfl, e, z, h⟩
theorem dx_int {v : V} {i : Int} (h : Dx K Z H v (.int i)) : v = .int i := by cases h; rfl
theorem dx_str {v : V} {x : Str} (h : Dx K Z H v (.str x)) : v = .str x := by cases h; rfl
theorem dx_bool {v : V} {b : Bool} (h : Dx K Z H v (.bool b)) : v = .bl b := by cases h; rfl
theorem dx_none {v : V} (h : Dx K Z H v .none) : v = .non := by cases h; rfl
theorem dxAll_len : ∀ {vs : List V} {ds : List PyData}, DxAll K Z H vs ds → vs.length = ds.length
  | _, _, .nil => rfl
  | _, _, .cons _ r => congrArg (· + 1) (dxAll_len r)
theorem dxAll_get : ∀ {vs : List V} {ds : List PyData} {i : Nat} {v : V}, DxAll K Z H vs ds → vs[i]? = some v → ∃ d, ds[i]? = some d ∧ Dx K Z H v d
  | _, _, _, _, .nil, e => by simp at e
  | _, _, 0, _, .cons h _, e => by
    simp at e
    subst e
    exact ⟨_, rfl, h⟩
  | _, _, i + 1, _, .cons _ r, e => dxAll_get (i := i) r (by simpa using e)
theorem dxAll_at : ∀ {vs : List V} {ds : List PyData} {i : Nat} {d : PyData}, DxAll K Z H vs ds → ds[i]? = some d → ∃ v, vs[i]? = some v ∧ Dx K Z H v d
  | _, _, _, _, .nil, e => by simp at e
  | _, _, 0, _, .cons h _, e => by
    simp at e
    subst e
    exact ⟨_, rfl, h⟩
  | _, _, i + 1, _, .cons _ r, e => dxAll_at (i := i) r (by simpa using e)
theorem dxAll_app : ∀ {vs ws : List V} {ds es : List PyData}, DxAll K Z H vs ds → DxAll K Z H ws es → DxAll K Z H (vs ++ ws) (ds ++ es)
  | _, _, _, _, .nil, q => q
  | _, _, _, _, .cons h r, q => .cons h (dxAll_app r q)
theorem dxAll_drop : ∀ (n : Nat) {vs : List V} {ds : List PyData}, DxAll K Z H vs ds → DxAll K Z H (vs.drop n) (ds.drop n)
  | 0, _, _, r => r
  | n + 1, _, _, .nil => .nil
  | n + 1, _, _, .cons _ r => dxAll_drop n r
theorem dxAll_take : ∀ (n : Nat) {vs : List V} {ds : List PyData}, DxAll K Z H vs ds → DxAll K Z H (vs.take n) (ds.take n)
  | 0, _, _, _ => .nil
  | n + 1, _, _, .nil => .nil
  | n + 1, _, _, .cons h r => .cons h (dxAll_take n r)
def cutD (ds : List PyData) (lo hi : Option Int) : List PyData :=
  (ds.drop (HT.sIx ds.length 0 lo)).take (HT.sIx ds.length ds.length hi - HT.sIx ds.length 0 lo)
theorem dxAll_cut {vs : List V} {ds : List PyData} (h : DxAll K Z H vs ds) (lo hi : Option Int) : DxAll K Z H (cutV vs lo hi) (cutD ds lo hi) := by
  unfold cutV cutD
  rw [dxAll_len h]
  exact dxAll_take _ (dxAll_drop _ h)
theorem dxAll_rev : ∀ {vs : List V} {ds : List PyData}, DxAll K Z H vs ds → DxAll K Z H vs.reverse ds.reverse
  | _, _, .nil => .nil
  | _, _, .cons h r => by
    rw [List.reverse_cons, List.reverse_cons]
    exact dxAll_app (dxAll_rev r) (.cons h .nil)
theorem dxAll_mem {vs : List V} {ds : List PyData} {v : V} (h : DxAll K Z H vs ds) (m : v ∈ vs) : ∃ d ∈ ds, Dx K Z H v d := by
  obtain ⟨i, e⟩ := List.getElem?_of_mem m
  obtain ⟨d, ed, hd⟩ := dxAll_get h e
  exact ⟨d, List.mem_of_getElem? ed, hd⟩
/-- one and the same place holds one datum: what is shown twice is shown alike -/
theorem dx_tuple_of {a : Addr} {xs : List V} {ds : List PyData} (e : H a = some (.tup xs)) (h : DxAll K Z H xs ds) : Dx K Z H (.ref a) (.tuple ds) := .tup (SqT.of e) h
end
/-! ### how they are shown -/
structure Ft (n k : Nat) (d : PyData) : Prop where
  sh : d.showable = true
  len : d.shown.length ≤ n
  dp : d.depth ≤ k
theorem Ft.le {n k n' k' : Nat} {d : PyData} (h : Ft n k d) (a : n ≤ n') (b : k ≤ k') : Ft n' k' d := ⟨h.sh, Nat.le_trans h.len a, Nat.le_trans h.dp b⟩
theorem ft_none : Ft 4 0 .none := ⟨rfl, by simp only [PyData.shown]; decide, by simp only [PyData.depth]; decide⟩
theorem ft_bool (b : Bool) : Ft 5 0 (.bool b) := ⟨rfl, by simp only [PyData.shown]; cases b <;> decide, by simp only [PyData.depth]; decide⟩
theorem ft_int {i : Int} (h : i.natAbs.log2 < 1920) : Ft 1921 0 (.int i) := by
  refine ⟨by simpa only [PyData.showable, decide_eq_true_eq] using h, ?_, by simp only [PyData.depth]; decide⟩
  have e := int_text_length_le (k := 1920) (by decide) h
  simp only [PyData.shown]
  show (Str.ofString (toString i)).length ≤ 1921
  rw [PySem.ofString_length]
  exact e
theorem ft_str {x : Str} (h : ∀ c ∈ x.cps.toList, c < 16 ^ 8) : Ft (10 * x.length + 2) 0 (.str x) := by
  refine ⟨rfl, ?_, by simp only [PyData.depth]; decide⟩
  simp only [PyData.shown]
  exact StrLaws.reprText_len x h
theorem all_sh {n k : Nat} : ∀ {ds : List PyData}, (∀ d ∈ ds, Ft n k d) → PyData.showableAll ds = true ∧ ((PyData.shownAll ds).map (·.length)).sum ≤ ds.length * n ∧ (PyData.shownAll ds).length = ds.length ∧ PyData.depthAll ds ≤ k
  | [], _ => by simp only [PyData.showableAll, PyData.shownAll, PyData.depthAll]; exact ⟨trivial, Nat.zero_le _, rfl, Nat.zero_le _⟩
  | d :: ds, h => by
    have a := h d (List.mem_cons_self ..)
    obtain ⟨b1, b2, b3, b4⟩ := all_sh (ds := ds) fun e he => h e (List.mem_cons_of_mem _ he)
    simp only [PyData.showableAll, PyData.shownAll, PyData.depthAll, List.map_cons, List.sum_cons, List.length_cons]
    refine ⟨by rw [a.sh, b1]; rfl, ?_, by omega, Nat.max_le.mpr ⟨a.dp, b4⟩⟩
    rw [Nat.succ_mul]
    have := a.len
    omega
theorem ft_tuple {n k m : Nat} {ds : List PyData} (h : ∀ d ∈ ds, Ft n k d) (l : ds.length ≤ m) : Ft (m * (n + 2) + 3) (k + 1) (.tuple ds) := by
  obtain ⟨b1, b2, b3, b4⟩ := all_sh h
  refine ⟨by simpa only [PyData.showable] using b1, ?_, by simp only [PyData.depth]; omega⟩
  simp only [PyData.shown]
  have e := tupleText_len_le (PyData.shownAll ds)
  have : ds.length * (n + 2) ≤ m * (n + 2) := Nat.mul_le_mul_right _ l
  rw [Nat.mul_add] at this
  rw [b3] at e
  omega
theorem ft_list {n k m : Nat} {ds : List PyData} (h : ∀ d ∈ ds, Ft n k d) (l : ds.length ≤ m) : Ft (m * (n + 2) + 3) (k + 1) (.list ds) := by
  obtain ⟨b1, b2, b3, b4⟩ := all_sh h
  refine ⟨by simpa only [PyData.showable] using b1, ?_, by simp only [PyData.depth]; omega⟩
  simp only [PyData.shown]
  have e := listText_len_le (PyData.shownAll ds)
  have : ds.length * (n + 2) ≤ m * (n + 2) := Nat.mul_le_mul_right _ l
  rw [Nat.mul_add] at this
  rw [b3] at e
  omega
end Ev

set_option exponentiation.threshold 3000
/-! data of any kind: how great they are -/
namespace Ev
open PySem PySem.Spec PyProof.Rows L2
mutual
/-- ints of at most 400 figures, signs as they are -/
def fitx : PyData → Bool
  | .none => true
  | .bool _ => true
  | .int i => decide (i.natAbs < 10 ^ 400)
  | .str x => x.cps.toList.all fun c => decide (c < 1114112)
  | .list xs => fitxs xs
  | .tuple xs => fitxs xs
  | .dict xs => fitxk xs
def fitxs : List PyData → Bool
  | [] => true
  | x :: xs => fitx x && fitxs xs
def fitxk : List (PyData × PyData) → Bool
  | [] => true
  | (k, v) :: xs => fitx k && fitx v && fitxk xs
end
mutual
/-- how many leaves and displays, a text by its signs -/
def szx : PyData → Nat
  | .none => 1
  | .bool _ => 1
  | .int _ => 1
  | .str x => x.length + 1
  | .list xs => szxs xs + 1
  | .tuple xs => szxs xs + 1
  | .dict xs => szxk xs + 1
def szxs : List PyData → Nat
  | [] => 0
  | x :: xs => szx x + szxs xs
def szxk : List (PyData × PyData) → Nat
  | [] => 0
  | (k, v) :: xs => szx k + szx v + szxk xs
end
theorem f400_le : (10 : Nat) ^ 400 < 2 ^ 1400 := by decide +kernel
theorem fitx_log {i : Int} (h : i.natAbs < 10 ^ 400) : i.natAbs.log2 < 1920 := Nat.lt_trans (PySem.Flt.log2_lt_of (k := 1400) (by decide) (Nat.lt_trans h f400_le)) (by decide)
mutual
theorem fitx_show : ∀ d : PyData, fitx d = true → d.showable = true ∧ d.shown.length + 2 ≤ 1930 * szx d
  | .none, _ => by
    simp only [PyData.showable, PyData.shown, szx]
    exact ⟨trivial, by decide⟩
  | .bool b, _ => by
    have e : (PyData.shown (.bool b)).length ≤ 5 := by cases b <;> decide
    simp only [PyData.showable, szx]
    exact ⟨trivial, by omega⟩
  | .int i, h => by
    simp only [fitx, decide_eq_true_eq] at h
    have f := ft_int (fitx_log h)
    refine ⟨f.sh, ?_⟩
    have := f.len
    simp only [szx]
    omega
  | .str x, h => by
    simp only [fitx, List.all_eq_true, decide_eq_true_eq] at h
    have f := ft_str (x := x) fun c hc => Nat.lt_trans (h c hc) (by decide)
    refine ⟨f.sh, ?_⟩
    have := f.len
    simp only [szx]
    omega
  | .list xs, h => by
    simp only [fitx] at h
    obtain ⟨a, b⟩ := fitxs_show xs h
    have e := listText_len_le (PyData.shownAll xs)
    have l := PyData.shownAll_length xs
    simp only [PyData.showable, PyData.shown, szx]
    exact ⟨a, by omega⟩
  | .tuple xs, h => by
    simp only [fitx] at h
    obtain ⟨a, b⟩ := fitxs_show xs h
    have e := tupleText_len_le (PyData.shownAll xs)
    have l := PyData.shownAll_length xs
    simp only [PyData.showable, PyData.shown, szx]
    exact ⟨a, by omega⟩
  | .dict xs, h => by
    simp only [fitx] at h
    obtain ⟨a, b⟩ := fitxk_show xs h
    have e := dictText_len_le (PyData.shownKv xs)
    simp only [PyData.showable, PyData.shown, szx]
    exact ⟨a, by omega⟩
theorem fitxs_show : ∀ xs : List PyData, fitxs xs = true → PyData.showableAll xs = true ∧ ((PyData.shownAll xs).map (·.length)).sum + 2 * xs.length ≤ 1930 * szxs xs
  | [], _ => by
    simp only [PyData.showableAll, PyData.shownAll, szxs]
    exact ⟨trivial, by decide⟩
  | x :: xs, h => by
    simp only [fitxs, Bool.and_eq_true] at h
    obtain ⟨a, b⟩ := fitx_show x h.1
    obtain ⟨c, d⟩ := fitxs_show xs h.2
    simp only [PyData.showableAll, PyData.shownAll, szxs, List.map_cons, List.sum_cons, List.length_cons]
    exact ⟨by rw [a, c]; rfl, by omega⟩
theorem fitxk_show : ∀ xs : List (PyData × PyData), fitxk xs = true → PyData.showableKv xs = true ∧ ((PyData.shownKv xs).map (·.length)).sum + 2 * (PyData.shownKv xs).length ≤ 1930 * szxk xs
  | [], _ => by
    simp only [PyData.showableKv, PyData.shownKv, szxk]
    exact ⟨trivial, by decide⟩
  | (k, v) :: xs, h => by
    simp only [fitxk, Bool.and_eq_true] at h
    obtain ⟨a, b⟩ := fitx_show k h.1.1
    obtain ⟨a2, b2⟩ := fitx_show v h.1.2
    obtain ⟨c, d⟩ := fitxk_show xs h.2
    simp only [PyData.showableKv, PyData.shownKv, szxk, List.map_cons, List.sum_cons, List.length_cons]
    refine ⟨by rw [a, a2, c]; rfl, ?_⟩
    rw [strLen_append, strLen_append]
    have : (": " : Str).length = 2 := rfl
    omega
end
/-- data so great and so deep at most -/
structure Dt (n k : Nat) (d : PyData) : Prop where
  fx : fitx d = true
  sz : szx d ≤ n
  dp : d.depth ≤ k
theorem Dt.le {n k n' k' : Nat} {d : PyData} (h : Dt n k d) (a : n ≤ n') (b : k ≤ k') : Dt n' k' d := ⟨h.fx, Nat.le_trans h.sz a, Nat.le_trans h.dp b⟩
theorem Dt.show {n k : Nat} {d : PyData} (h : Dt n k d) (hn : n ≤ 8000) (hk : k ≤ 60) : d.showable = true ∧ d.shown.length ≤ sizeLine ∧ d.depth ≤ 60 := by
  obtain ⟨a, b⟩ := fitx_show d h.fx
  refine ⟨a, ?_, Nat.le_trans h.dp hk⟩
  have := h.sz
  rw [sizeLine_eq]
  omega
theorem dt_none : Dt 1 0 .none := ⟨rfl, by simp only [szx]; decide, by simp only [PyData.depth]; decide⟩
theorem dt_bool (b : Bool) : Dt 1 0 (.bool b) := ⟨rfl, by simp only [szx]; exact Nat.le_refl _, by simp only [PyData.depth]; exact Nat.le_refl _⟩
theorem dt_int {i : Int} (h : i.natAbs < 10 ^ 400) : Dt 1 0 (.int i) := ⟨by simp only [fitx]; exact decide_eq_true h, by simp only [szx]; exact Nat.le_refl _, by simp only [PyData.depth]; exact Nat.le_refl _⟩
theorem dt_small {i : Int} (h : i.natAbs < 1000000) : Dt 1 0 (.int i) := dt_int (Nat.lt_trans h (by decide +kernel))
theorem dt_str {x : Str} (h : ∀ c ∈ x.cps.toList, c < 1114112) : Dt (x.length + 1) 0 (.str x) :=
  ⟨by simp only [fitx, List.all_eq_true, decide_eq_true_eq]; exact h, by simp only [szx]; exact Nat.le_refl _, by simp only [PyData.depth]; exact Nat.le_refl _⟩
/-- of a row: all so deep, all together so great -/
structure Dts (n k : Nat) (ds : List PyData) : Prop where
  fx : fitxs ds = true
  sz : szxs ds ≤ n
  dp : PyData.depthAll ds ≤ k
theorem Dts.nil : Dts 0 0 [] := ⟨rfl, by simp only [szxs]; exact Nat.le_refl _, by simp only [PyData.depthAll]; exact Nat.le_refl _⟩
theorem Dts.cons {n m k l : Nat} {d : PyData} {ds : List PyData} (a : Dt n k d) (b : Dts m l ds) : Dts (n + m) (max k l) (d :: ds) := by
  have h1 := a.sz
  have h2 := b.sz
  have h3 := a.dp
  have h4 := b.dp
  refine ⟨by simp only [fitxs, a.fx, b.fx, Bool.and_self], by simp only [szxs]; omega, by simp only [PyData.depthAll]; omega⟩
theorem Dts.le {n k n' k' : Nat} {d : List PyData} (h : Dts n k d) (a : n ≤ n') (b : k ≤ k') : Dts n' k' d := ⟨h.fx, Nat.le_trans h.sz a, Nat.le_trans h.dp b⟩
theorem Dts.tuple {n k : Nat} {ds : List PyData} (h : Dts n k ds) : Dt (n + 1) (k + 1) (.tuple ds) := by
  have h1 := h.sz
  have h2 := h.dp
  exact ⟨by simp only [fitx]; exact h.fx, by simp only [szx]; omega, by simp only [PyData.depth]; omega⟩
theorem Dts.list {n k : Nat} {ds : List PyData} (h : Dts n k ds) : Dt (n + 1) (k + 1) (.list ds) := by
  have h1 := h.sz
  have h2 := h.dp
  exact ⟨by simp only [fitx]; exact h.fx, by simp only [szx]; omega, by simp only [PyData.depth]; omega⟩
theorem dts_all {n k : Nat} : ∀ {ds : List PyData}, (∀ d ∈ ds, Dt n k d) → Dts (ds.length * n) k ds
  | [], _ => ⟨rfl, by simp only [szxs]; exact Nat.zero_le _, by simp only [PyData.depthAll]; exact Nat.zero_le _⟩
  | d :: ds, h => by
    have a := h d (List.mem_cons_self ..)
    have b := dts_all (ds := ds) fun e he => h e (List.mem_cons_of_mem _ he)
    have c := Dts.cons a b
    rw [List.length_cons, Nat.succ_mul]
    exact c.le (by omega) (by omega)
theorem Dt.of_tuple {n k : Nat} {ds : List PyData} (h : Dt n k (.tuple ds)) : ∀ d ∈ ds, Dt n k d := by
  have go : ∀ (ds : List PyData), fitxs ds = true → ∀ d ∈ ds, fitx d = true ∧ szx d ≤ szxs ds ∧ d.depth ≤ PyData.depthAll ds := by
    intro ds
    induction ds with
    | nil => intro _ d hd; cases hd
    | cons x xs ih =>
      intro hf d hd
      simp only [fitxs, Bool.and_eq_true] at hf
      simp only [szxs, PyData.depthAll]
      rcases List.mem_cons.mp hd with rfl | hd
      · exact ⟨hf.1, by omega, by omega⟩
      · obtain ⟨a, b, c⟩ := ih hf.2 d hd
        exact ⟨a, by omega, by omega⟩
  intro d hd
  have h1 := h.fx
  have h2 := h.sz
  have h3 := h.dp
  simp only [fitx] at h1
  simp only [szx] at h2
  simp only [PyData.depth] at h3
  obtain ⟨a, b, c⟩ := go ds h1 d hd
  exact ⟨a, by omega, by omega⟩
end Ev

set_option exponentiation.threshold 256
/-! for i, x in enumerate(a tuple) -/
namespace Ev
open PySem PySem.Spec PyProof.Rows L2
open PySem.Sem (wp)
theorem draws_tup {prog : Program} {w : World} {A : Around} (hh : A.handled = none) (it l : Addr) (hne : l ≠ it) (xs : Array Value) :
    Draws prog w A it [it, l] xs.size (fun i v => xs[i]? = some v) (fun i h => h.IsTupleIter it l i ∧ h.IsTuple l xs) where
  live := fun _ _ p => let ⟨o, q, _⟩ := p.1; ⟨o, q⟩
  frame := fun _ _ _ p k => ⟨p.1.at fun o e => k it (List.mem_cons_self ..) o e, p.2.at fun o e => k l (List.mem_cons_of_mem _ (List.mem_cons_self ..)) o e⟩
  item := fun i s Q E hi p hQ => by
    have hx : xs[i]? = some xs[i] := Array.getElem?_eq_getElem hi
    exact RZ.nextOf_tuple_item p.1 p.2 hx fun h' a b => hQ _ h' s.toks hx ⟨a, p.2.at fun o e => b.extBut l o hne e⟩ b
  done := fun s Q E p hE => RZ.nextOf_tuple_end hh p.1 p.2 (Array.getElem?_eq_none (Nat.le_refl _)) hE
theorem en_new {v : Value} {o : Obj} {G : Heap → Prop} (B : Begins v o G) :
    Meets (Builtin.«enumerate.__new__» ⟨[.type "enumerate", v], []⟩) (fun _ R s => G s.heap ∧
      R (.ok (.ret (.ref (s.heap.push o).objs.size))) { s with heap := (s.heap.push o).push { cls := .type "enumerate", data := .fields #[.none, .bool false, .ref s.heap.objs.size, rawInt 0, .none, .none] } }) :=
  .of_wp fun prog w A R s z => by
    obtain ⟨h0, gg, dd, tt, oo⟩ := s
    obtain ⟨z1, z2⟩ := z
    have sb := sub_enumerate
    have go : ∀ {A' : Around} {E : Value → Shared → Prop} {Q : Value → Shared → Prop}, Q (.ref h0.objs.size) ⟨h0.push o, gg, dd, tt, oo⟩ → wpAny (model prog w) A' (pyIter v) Q E ⟨h0, gg, dd, tt, oo⟩ :=
      fun q => B.iter prog w _ _ ⟨h0, gg, dd, tt, oo⟩ _ z1 q
    wp_walk using go
    refine wpAny_stack_any fun stk => wpAny_pure ?_
    split
    · rename_i c _ _ _ _ _
      cases (c == Value.type "enumerate")
      · wp_walk using go
        exact ⟨_, rfl, z2⟩
      · wp_walk using go
        exact ⟨_, rfl, z2⟩
    · wp_walk using go
      exact ⟨_, rfl, z2⟩
section
variable {prog : Program} {w : World} {A : Around} {E : Value → Shared → Prop} {s : Shared}
theorem call_en {v : Value} {o : Obj} {G : Heap → Prop} {Q : Value → Shared → Prop} (B : Begins v o G) (g : G s.heap)
    (q : ∀ h', IsEnum h' (s.heap.objs.size + 1) s.heap.objs.size 0 .none → h'.get? s.heap.objs.size = some o → (∀ b u, s.heap.get? b = some u → h'.get? b = some u) → Q (.ref (s.heap.objs.size + 1)) { s with heap := h' }) :
    wpAny (model prog w) A (call (.type "enumerate") [v]) Q E s := by
  refine callType_new F.called_enumerate (by decide) (F.typeCall_enumerate_1 _) (F.newCall_enumerate_1 _) (fun obj => F.args_object_init_2 obj _) F.entry_enumerate_new (en_new B) ⟨g, ?_⟩
  have n1 : (s.heap.push o).objs.size = s.heap.objs.size + 1 := Heap.size_push ..
  show _ ∧ _
  have made : IsEnum ((s.heap.push o).push { cls := .type "enumerate", data := .fields #[.none, .bool false, .ref s.heap.objs.size, rawInt 0, .none, .none] }) (s.heap.push o).objs.size s.heap.objs.size 0 .none :=
    Heap.get?_push_size _ rfl
  rw [n1] at made ⊢
  have up : ∀ b u, s.heap.get? b = some u → ((s.heap.push o).push { cls := .type "enumerate", data := .fields #[.none, .bool false, .ref s.heap.objs.size, rawInt 0, .none, .none] }).get? b = some u :=
    fun b u e => Heap.get?_push_of_some _ (Heap.get?_push_of_some _ e)
  exact ⟨⟨_, made, rfl⟩, q _ made (Heap.get?_push_of_some _ (Heap.get?_push_size _ B.free)) up⟩
theorem en_stop {e it l : Addr} {i k : Nat} {old : Value} {xs : Array Value} {Q : Option Value → Shared → Prop} (hh : A.handled = none) (he : IsEnum s.heap e it k old) (hi : s.heap.IsTupleIter it l i) (hl : s.heap.IsTuple l xs) (n : xs[i]? = none)
    (q : ∀ h', Heap.ExtBut it s.heap h' → Q none { s with heap := h' }) : wpAny (model prog w) A (pyNext (.ref e)) Q E s := by
  have ty : s.TypeIs (.ref e) "enumerate" := ⟨_, he, rfl⟩
  unfold pyNext
  have slot := F.slot_enumerate_next
  refine wpAny_bind (wpAny_attempt (wpAny_callSpecial?_slot (name := Str.ofString "__next__") ty slot (wpAny_call_entry slot ty F.entry_enumerate_next ?_ (F.args_enumerate_next_1 _))))
  show wpAny _ _ (field (.ref e) 2 >>= _) _ _ s
  refine wpAny_bind (wpAny_field he rfl (x := .ref it) rfl (wpAny_bind (RZ.nextOf_tuple_end hh hi hl n fun h' a ext ho => ?_)))
  obtain ⟨o, ho, hc⟩ := ho
  exact wpAny_bind (wpAny_isInstance (T := "StopIteration") (b := true) ⟨o, ho, hc⟩ isSubtype_stop (wpAny_pure (q _ ext)))
end
/-- the tuple at a as it stands at each turn, each item in a new pair -/
def IteT (K : PySem.W.Frag) (a : Addr) : It :=
  ⟨fun i H => ∃ (xs : List V) (x : V), SqT K H a xs ∧ xs[i]? = some x,
   fun i H v H' => ∃ t x, v = .ref t ∧ H t = none ∧ H' = upd H t (.tup [.int (i : Nat), x]) ∧ ∀ xs, SqT K H a xs → xs[i]? = some x,
   fun i H => ∃ xs : List V, SqT K H a xs ∧ xs.length ≤ i⟩
theorem turn_enT {P : Program} {w : World} {K : PySem.W.Frag} {elts : List Expr} {kk : Nat} {tpos : Pos} (a e it : Addr) (nae : a ≠ e) (nai : a ≠ it) :
    Turn P w K (.Tuple elts kk tpos) (IteT K a) [e, it] e (fun i h => (∃ old, IsEnum h e it ((i : Nat) : Int) old) ∧ h.IsTupleIter it a i ∧ e ≠ it) where
  mem := List.mem_cons_self ..
  obj := fun i h p b hb => by
    obtain ⟨⟨old, p1⟩, ⟨o, p2, p3, p4⟩, _⟩ := p
    rcases List.mem_cons.mp hb with rfl | hb
    · exact ⟨_, p1, fun v q => nomatch q⟩
    · have z := List.mem_singleton.mp hb
      subst z
      exact ⟨o, p2, fun v q => by rw [p4] at q; cases q⟩
  keep := fun i h h' p k => by
    obtain ⟨⟨old, p1⟩, p2, p3⟩ := p
    exact ⟨⟨old, k e (List.mem_cons_self ..) _ p1⟩, p2.at fun o q => k it (List.mem_cons_of_mem _ (List.mem_cons_self ..)) o q, p3⟩
  item := by
    intro X hP hw hK hc i pins s σ H E I hf p hg
    subst hP hw hK
    obtain ⟨⟨old, p1⟩, p2, p3⟩ := p
    obtain ⟨xs, x, hq, hx⟩ := hg
    obtain ⟨its, rv, pt, hz⟩ := I.tuple hq
    obtain ⟨u, hu, ru⟩ := rv.get hx
    have lt1 : e < s.heap.objs.size := Heap.lt_size p1
    have lt2 : it < s.heap.objs.size := by
      obtain ⟨o, q, _⟩ := id p2
      exact Heap.lt_size q
    have hi : i < its.toArray.size := by
      rw [List.size_toArray]
      exact (List.getElem?_eq_some_iff.mp hu).1
    have D := draws_tup (prog := X.prog) (w := X.w) (A := X.A.in1) (I.ok.hd hc) it a nai its.toArray
    have off : e ∉ [it, a] := fun hm => by
      rcases List.mem_cons.mp hm with z | hm
      · exact p3 z
      · exact nae (List.mem_singleton.mp hm).symm
    refine wpAny_pyNext_enum_itemD D p1 ⟨p2, pt⟩ hi p3 off fun y h' tk hy out st2 hT hs hk => ?_
    have ey : y = u := by
      have : its.toArray[i]? = some u := by simpa using hu
      rw [this] at hy
      exact (Option.some.inj hy).symm
    subst ey
    refine ⟨_, rfl, wpAny_letOwnedTupleGo_enum (s := { s with heap := h', toks := tk + 1 }) out fun h2 p1' sb => ?_⟩
    have hT2 : h2.get? s.heap.objs.size = some { cls := .type "tuple", data := .seq #[.int i tk, y] } := (sb.2 _ (Nat.ne_of_gt lt1)).trans hT
    have ok : ObjOk X.prog X.w (upd H s.heap.objs.size (.tup [.int (i : Nat), x])) h2 s.heap.objs.size (.tup [.int (i : Nat), x]) :=
      ⟨by show 2 ≤ sizeLine; decide, [.int i tk, y], .cons ⟨_, rfl⟩ (.cons ru .nil), ⟨_, hT2, rfl, _, rfl⟩⟩
    have far : ∀ b ob, b ∉ [e, it] → s.heap.get? b = some ob → h2.get? b = some ob := fun b ob hb q => by
      have n1 : b ≠ e := fun z => hb (by rw [z]; exact List.mem_cons_self ..)
      have n2 : b ≠ it := fun z => hb (by rw [z]; exact List.mem_cons_of_mem _ (List.mem_cons_self ..))
      exact (sb.2 b n1).trans (hk b ob n1 n2 q)
    have I1 := I.turnedNew (ch := [e, it]) (t' := tk + 1) far hf (Nat.le_refl _) ok
    refine ⟨.ref s.heap.objs.size, _, I1, rfl, ⟨_, x, rfl, I.hok.fresh (Nat.le_refl _), rfl, fun ys hy => by rw [I.tuple_inj hy hq]; exact hx⟩, ⟨⟨y, ?_⟩, st2.1.at fun o q => (sb.2 it (Ne.symm p3)).trans q, p3⟩, fun b hb => ?_⟩
    · have e1 : ((i + 1 : Nat) : Int) = (i : Int) + 1 := by omega
      rw [e1]
      exact p1'
    · have hb' : b < s.heap.objs.size := by
        rcases List.mem_cons.mp hb with z | z
        · rw [z]; exact lt1
        · rw [List.mem_singleton.mp z]; exact lt2
      rw [upd_ne (Nat.ne_of_lt hb')]
      exact (hf b hb).1
  done := by
    intro X hP hw hK hc i pins s σ H E I hf p hg
    subst hP hw hK
    obtain ⟨⟨old, p1⟩, p2, p3⟩ := p
    obtain ⟨xs, hq, hx⟩ := hg
    obtain ⟨its, rv, pt, hz⟩ := I.tuple hq
    obtain ⟨f0, f1, f2, f3, f4, f5⟩ := hf it (List.mem_cons_of_mem _ (List.mem_cons_self ..))
    have lv := rv.length
    have over : its.toArray[i]? = none := Array.getElem?_eq_none (by rw [List.size_toArray]; omega)
    exact en_stop (I.ok.hd hc) p1 p2 pt over fun h' ext => ⟨rfl, I.turned (t' := s.toks) (fun b o nb q => ext b o nb q) f0 f1 f3 f4 f5⟩
  self := fun A i s Q E p h => let ⟨⟨_, p1⟩, _⟩ := p; wpAny_pyIter_enum p1 h
def iEnT (K : PySem.W.Frag) (ta : TA) : TI := fun σ H R => ta σ H fun vs H1 => ∃ a xs, vs = [.ref a] ∧ SqT K H1 a xs ∧ R (IteT K a) H1
theorem pi_enumT {X : Cx} {e : Expr} {ta : TA} {p pos tpos : Pos} {elts : List Expr} {kk : Nat} (hg : Gl X "enumerate") (hm : X.mg "enumerate" = none) (ha : PA X [e] ta) (hs : starEach [e] X.env = [(false, eval e X.env)] := by rfl) :
    PI X (.Tuple elts kk tpos) (.Call (.Name "enumerate" p) [e] [] pos) (iEnT X.K ta) := by
  refine ⟨fun pins s σ H R I h => ?_⟩
  refine Call_ (ld_blt I hg hm boot_enumerate (PyProof.Rows.callWith_type1 (thn (ha.run pos pins s σ H _ I h) fun us s1 q1 => ?_) hs rfl))
  obtain ⟨vs, H1, I1, r1, a, xs, ev, hq, q⟩ := q1
  subst ev
  obtain ⟨u, rfl, ru⟩ := vals1 r1
  cases ru
  obtain ⟨its, rv, pt, hz⟩ := I1.tuple hq
  obtain ⟨oa, ga, _⟩ := id pt
  have la : a < s1.heap.objs.size := Heap.lt_size ga
  refine call_en (begins_tuple a its.toArray) pt fun h' he ho up => wpAny_pyIter_enum he ?_
  have I2 : Inv X pins σ H1 { s1 with heap := h' } := I1.kept (t' := s1.toks) up
  have n0 : s1.heap.objs.size + 1 ≠ s1.heap.objs.size := Nat.succ_ne_self _
  have st : h'.IsTupleIter s1.heap.objs.size a 0 := ⟨_, ho, rfl, rfl⟩
  refine ⟨s1.heap.objs.size + 1, [s1.heap.objs.size + 1, s1.heap.objs.size], _, _, H1, rfl, I2, turn_enT a (s1.heap.objs.size + 1) s1.heap.objs.size (Nat.ne_of_lt (Nat.lt_succ_of_lt la)) (Nat.ne_of_lt la), ⟨⟨.none, he⟩, st, n0⟩, fun b hb => ?_, q⟩
  have hle : s1.heap.objs.size ≤ b := by
    rcases List.mem_cons.mp hb with z | z
    · rw [z]; exact Nat.le_add_right _ _
    · rw [List.mem_singleton.mp z]; exact Nat.le_refl _
  exact I1.fpOk hle (I1.hok.fresh hle)
theorem walk_enT {K : PySem.W.Frag} {a : Addr} {xs : List V} : Walk (IteT K a) xs.length (fun H => SqT K H a xs) (YPair (fun i => some (.int (i : Nat))) (fun i => xs[i]?)) := by
  refine ⟨fun i _ hi q => ⟨xs, xs[i], q, List.getElem?_eq_getElem hi⟩, fun _ q => ⟨xs, q, Nat.le_refl _⟩, fun i H v H' _ q y => ?_⟩
  obtain ⟨t, x, y1, y2, y3, y4⟩ := y
  exact ⟨t, .int (i : Nat), x, y1, y2, y3, rfl, y4 xs q⟩
end Ev

set_option exponentiation.threshold 256
/-! sums of throws: powers of a polynomial, by its parts -/
namespace Ev
def opL : List (Nat × Int) → (Nat → Int) → Nat → Int
  | [], _, _ => 0
  | (a, c) :: l, q, n => (if a ≤ n then c * q (n - a) else 0) + opL l q n
def delta (n : Nat) : Int := if n = 0 then 1 else 0
def pw (l : List (Nat × Int)) : Nat → Nat → Int
  | 0 => delta
  | m + 1 => opL l (pw l m)
theorem opL_cong {q r : Nat → Int} : ∀ (l : List (Nat × Int)) (n : Nat), (∀ k, k ≤ n → q k = r k) → opL l q n = opL l r n
  | [], _, _ => rfl
  | (a, c) :: l, n, h => by
    unfold opL
    rw [opL_cong l n h, h (n - a) (Nat.sub_le _ _)]
theorem opL_add (x y : Nat → Int) : ∀ (l : List (Nat × Int)) (n : Nat), opL l (fun k => x k + y k) n = opL l x n + opL l y n
  | [], _ => rfl
  | (a, c) :: l, n => by
    unfold opL
    rw [opL_add x y l n]
    split <;> grind
theorem opL_mul (m : Int) (x : Nat → Int) : ∀ (l : List (Nat × Int)) (n : Nat), opL l (fun k => m * x k) n = m * opL l x n
  | [], _ => by simp [opL]
  | (a, c) :: l, n => by
    unfold opL
    rw [opL_mul m x l n]
    split <;> grind
theorem opL_zero : ∀ (l : List (Nat × Int)) (n : Nat), opL l (fun _ => 0) n = 0
  | [], _ => rfl
  | (a, c) :: l, n => by
    unfold opL
    rw [opL_zero l n]
    split <;> simp
theorem opL_sh (a : Nat) (c : Int) (q : Nat → Int) : ∀ (l : List (Nat × Int)) (n : Nat), opL l (fun k => if a ≤ k then c * q (k - a) else 0) n = if a ≤ n then c * opL l q (n - a) else 0
  | [], n => by
    unfold opL
    split <;> simp
  | (b, d) :: l, n => by
    unfold opL
    rw [opL_sh a c q l n]
    have e : n - b - a = n - a - b := by omega
    show (if b ≤ n then d * (if a ≤ n - b then c * q (n - b - a) else 0) else 0) + (if a ≤ n then c * opL l q (n - a) else 0) = if a ≤ n then c * ((if b ≤ n - a then d * q (n - a - b) else 0) + opL l q (n - a)) else 0
    by_cases h1 : b ≤ n
    · by_cases h2 : a ≤ n
      · by_cases h3 : a ≤ n - b
        · rw [if_pos h1, if_pos h3, if_pos h2, if_pos h2, if_pos (show b ≤ n - a by omega), e]
          grind
        · rw [if_pos h1, if_neg h3, if_pos h2, if_pos h2, if_neg (show ¬ b ≤ n - a by omega)]
          grind
      · rw [if_pos h1, if_neg (show ¬ a ≤ n - b by omega), if_neg h2, if_neg h2]
        grind
    · by_cases h2 : a ≤ n
      · rw [if_neg h1, if_pos h2, if_pos h2, if_neg (show ¬ b ≤ n - a by omega)]
        grind
      · rw [if_neg h1, if_neg h2, if_neg h2]
        grind
theorem opL_comm (k : List (Nat × Int)) (q : Nat → Int) : ∀ (l : List (Nat × Int)) (n : Nat), opL l (opL k q) n = opL k (opL l q) n
  | [], n => by
    have e : opL ([] : List (Nat × Int)) q = fun _ => 0 := rfl
    rw [e, opL_zero]
    rfl
  | (a, c) :: l, n => by
    have e : opL ((a, c) :: l) q = fun n => (if a ≤ n then c * q (n - a) else 0) + opL l q n := by
      funext n
      rfl
    rw [e, opL_add, opL_sh, ← opL_comm k q l n]
    rfl
def dl (l : List (Nat × Int)) : List (Nat × Int) := l.map fun p => (p.1, (p.1 : Int) * p.2)
def th (q : Nat → Int) (n : Nat) : Int := (n : Int) * q n
theorem th_op (q : Nat → Int) : ∀ (l : List (Nat × Int)) (n : Nat), th (opL l q) n = opL l (th q) n + opL (dl l) q n
  | [], n => by simp [th, opL, dl]
  | (a, c) :: l, n => by
    have ih := th_op q l n
    show (n : Int) * ((if a ≤ n then c * q (n - a) else 0) + opL l q n) = ((if a ≤ n then c * th q (n - a) else 0) + opL l (th q) n) + ((if a ≤ n then ((a : Int) * c) * q (n - a) else 0) + opL (dl l) q n)
    have ih' : (n : Int) * opL l q n = opL l (th q) n + opL (dl l) q n := ih
    by_cases h : a ≤ n
    · rw [if_pos h, if_pos h, if_pos h]
      have e : ((n - a : Nat) : Int) = (n : Int) - a := by omega
      unfold th at *
      rw [e]
      grind
    · rw [if_neg h, if_neg h, if_neg h]
      grind
theorem pw_rec (l : List (Nat × Int)) : ∀ (m n : Nat), opL l (th (pw l m)) n = (m : Int) * opL (dl l) (pw l m) n
  | 0, n => by
    have e : th (pw l 0) = fun _ => 0 := by
      funext k
      unfold th pw delta
      by_cases h : k = 0
      · subst h; simp
      · rw [if_neg h]; simp
    rw [e, opL_zero]
    simp
  | m + 1, n => by
    have e : th (pw l (m + 1)) = fun k => (m : Int) * opL (dl l) (pw l m) k + opL (dl l) (pw l m) k := by
      funext k
      show th (opL l (pw l m)) k = _
      rw [th_op, pw_rec l m k]
    rw [e, opL_add, opL_mul]
    have c := opL_comm (dl l) (pw l m) l n
    have c2 : opL (dl l) (pw l (m + 1)) n = opL (dl l) (opL l (pw l m)) n := rfl
    rw [c2, c]
    grind
/-- what the weights ahead tell of the next one -/
def recT (m : Nat) (q : Nat → Int) : List (Nat × Int) → Nat → Int
  | [], _ => 0
  | (a, c) :: l, n => (if a ≤ n then ((m : Int) * a - n + a) * c * q (n - a) else 0) + recT m q l n
theorem recT_eq (m : Nat) (q : Nat → Int) : ∀ (l : List (Nat × Int)) (n : Nat), recT m q l n = (m : Int) * opL (dl l) q n - opL l (th q) n
  | [], n => by simp [recT, opL, dl]
  | (a, c) :: l, n => by
    have ih := recT_eq m q l n
    show (if a ≤ n then ((m : Int) * a - n + a) * c * q (n - a) else 0) + recT m q l n = (m : Int) * ((if a ≤ n then ((a : Int) * c) * q (n - a) else 0) + opL (dl l) q n) - ((if a ≤ n then c * th q (n - a) else 0) + opL l (th q) n)
    by_cases h : a ≤ n
    · rw [if_pos h, if_pos h, if_pos h, ih]
      have e : ((n - a : Nat) : Int) = (n : Int) - a := by omega
      unfold th
      rw [e]
      grind
    · rw [if_neg h, if_neg h, if_neg h, ih]
      grind
theorem pw_next (f : Int) (r : List (Nat × Int)) (m n : Nat) : f * n * pw ((0, f) :: r) m n = recT m (pw ((0, f) :: r) m) r n := by
  have h := pw_rec ((0, f) :: r) m n
  have e1 : opL ((0, f) :: r) (th (pw ((0, f) :: r) m)) n = f * th (pw ((0, f) :: r) m) n + opL r (th (pw ((0, f) :: r) m)) n := by
    show (if 0 ≤ n then f * th _ (n - 0) else 0) + _ = _
    rw [if_pos (Nat.zero_le _), Nat.sub_zero]
  have e2 : opL (dl ((0, f) :: r)) (pw ((0, f) :: r) m) n = opL (dl r) (pw ((0, f) :: r) m) n := by
    show (if 0 ≤ n then ((0 : Nat) : Int) * f * pw _ _ (n - 0) else 0) + _ = _
    rw [if_pos (Nat.zero_le _)]
    simp
    rfl
  rw [e1, e2] at h
  rw [recT_eq]
  have e3 : th (pw ((0, f) :: r) m) n = (n : Int) * pw ((0, f) :: r) m n := rfl
  rw [e3] at h
  grind
theorem pw_zero (f : Int) {r : List (Nat × Int)} (h : ∀ p ∈ r, 1 ≤ p.1) : ∀ m, pw ((0, f) :: r) m 0 = f ^ m
  | 0 => by
    rw [Int.pow_zero]
    rfl
  | m + 1 => by
    have z : ∀ (l : List (Nat × Int)), (∀ p ∈ l, 1 ≤ p.1) → ∀ q : Nat → Int, opL l q 0 = 0 := by
      intro l
      induction l with
      | nil => intros; rfl
      | cons p l ih =>
        intro hl q
        have h1 := hl p (List.mem_cons_self ..)
        show (if p.1 ≤ 0 then p.2 * q (0 - p.1) else 0) + opL l q 0 = 0
        rw [if_neg (by omega), ih (fun x hx => hl x (List.mem_cons_of_mem _ hx)), Int.zero_add]
    show (if 0 ≤ 0 then f * pw ((0, f) :: r) m (0 - 0) else 0) + opL r (pw ((0, f) :: r) m) 0 = _
    rw [if_pos (Nat.le_refl _), z r h, pw_zero f h m, Int.pow_succ]
    grind
theorem opL_nn {q : Nat → Int} (hq : ∀ n, 0 ≤ q n) : ∀ (l : List (Nat × Int)) (n : Nat), (∀ p ∈ l, 0 ≤ p.2) → 0 ≤ opL l q n
  | [], _, _ => Int.le_refl _
  | (a, c) :: l, n, h => by
    have h1 := opL_nn hq l n fun p hp => h p (List.mem_cons_of_mem _ hp)
    have h2 : 0 ≤ c := h (a, c) (List.mem_cons_self ..)
    show 0 ≤ (if a ≤ n then c * q (n - a) else 0) + opL l q n
    by_cases h3 : a ≤ n
    · rw [if_pos h3]
      have := Int.mul_nonneg h2 (hq (n - a))
      omega
    · rw [if_neg h3]
      omega
theorem pw_nn {l : List (Nat × Int)} (h : ∀ p ∈ l, 0 ≤ p.2) : ∀ m n, 0 ≤ pw l m n
  | 0, n => by
    show 0 ≤ (if n = 0 then (1 : Int) else 0)
    split <;> decide
  | m + 1, n => opL_nn (pw_nn h m) l n h
def wsum (l : List (Nat × Int)) : Int := (l.map (·.2)).sum
theorem opL_le {q : Nat → Int} {B : Int} (hq : ∀ n, 0 ≤ q n ∧ q n ≤ B) (hB : 0 ≤ B) : ∀ (l : List (Nat × Int)) (n : Nat), (∀ p ∈ l, 0 ≤ p.2) → opL l q n ≤ wsum l * B
  | [], _, _ => by simp [opL, wsum]
  | (a, c) :: l, n, h => by
    have h1 := opL_le hq hB l n fun p hp => h p (List.mem_cons_of_mem _ hp)
    have h2 : 0 ≤ c := h (a, c) (List.mem_cons_self ..)
    have e : wsum ((a, c) :: l) * B = c * B + wsum l * B := by
      unfold wsum
      rw [List.map_cons, List.sum_cons, Int.add_mul]
    rw [e]
    show (if a ≤ n then c * q (n - a) else 0) + opL l q n ≤ _
    by_cases h3 : a ≤ n
    · rw [if_pos h3]
      have := Int.mul_le_mul_of_nonneg_left (hq (n - a)).2 h2
      omega
    · rw [if_neg h3]
      have := Int.mul_nonneg h2 hB
      omega
theorem wsum_nn {l : List (Nat × Int)} (h : ∀ p ∈ l, 0 ≤ p.2) : 0 ≤ wsum l := by
  induction l with
  | nil => exact Int.le_refl _
  | cons p l ih =>
    unfold wsum at *
    rw [List.map_cons, List.sum_cons]
    have := h p (List.mem_cons_self ..)
    have := ih fun x hx => h x (List.mem_cons_of_mem _ hx)
    omega
theorem pw_le {l : List (Nat × Int)} (h : ∀ p ∈ l, 0 ≤ p.2) : ∀ m n, pw l m n ≤ wsum l ^ m
  | 0, n => by
    show (if n = 0 then (1 : Int) else 0) ≤ _
    rw [Int.pow_zero]
    split <;> decide
  | m + 1, n => by
    have z := opL_le (q := pw l m) (B := wsum l ^ m) (fun k => ⟨pw_nn h m k, pw_le h m k⟩) (Int.pow_nonneg (wsum_nn h)) l n h
    rw [Int.pow_succ, Int.mul_comm]
    exact z
/-- beyond the greatest of all nothing comes -/
theorem pw_top {l : List (Nat × Int)} {t : Nat} (h : ∀ p ∈ l, p.1 ≤ t) : ∀ m n, t * m < n → pw l m n = 0
  | 0, n, hn => by
    show (if n = 0 then (1 : Int) else 0) = 0
    rw [if_neg (by omega)]
  | m + 1, n, hn => by
    have hn' : t * m + t < n := by rw [Nat.mul_succ] at hn; exact hn
    have z : ∀ (k : List (Nat × Int)), (∀ p ∈ k, p.1 ≤ t) → opL k (pw l m) n = 0 := by
      intro k
      induction k with
      | nil => intros; rfl
      | cons p k ih =>
        intro hk
        have h1 := hk p (List.mem_cons_self ..)
        show (if p.1 ≤ n then p.2 * pw l m (n - p.1) else 0) + opL k (pw l m) n = 0
        rw [if_pos (by omega), pw_top h m (n - p.1) (by omega), ih (fun x hx => hk x (List.mem_cons_of_mem _ hx))]
        simp
    exact z l h
/-- numbers counted in steps from the least one -/
def spread (lo st : Nat) (l : List (Nat × Int)) : List (Nat × Int) := l.map fun p => (lo + st * p.1, p.2)
def spreadF (lo st : Nat) (q : Nat → Int) (n : Nat) : Int := if lo ≤ n ∧ st ∣ (n - lo) then q ((n - lo) / st) else 0
theorem op_spread {lo st b : Nat} (hs : 0 < st) (q : Nat → Int) : ∀ (l : List (Nat × Int)) (n : Nat),
    opL (spread lo st l) (spreadF b st q) n = spreadF (b + lo) st (opL l q) n
  | [], n => by
    show 0 = if b + lo ≤ n ∧ st ∣ (n - (b + lo)) then (0 : Int) else 0
    split <;> rfl
  | (a, c) :: l, n => by
    have ih := op_spread (lo := lo) (b := b) hs q l n
    show (if lo + st * a ≤ n then c * spreadF b st q (n - (lo + st * a)) else 0) + opL (spread lo st l) (spreadF b st q) n = _
    rw [ih]
    unfold spreadF
    by_cases h : b + lo ≤ n ∧ st ∣ (n - (b + lo))
    · obtain ⟨h1, k, hk⟩ := h
      have hn : n = b + lo + st * k := by omega
      subst hn
      have ek : (b + lo + st * k - (b + lo)) / st = k := by
        rw [Nat.add_sub_cancel_left, Nat.mul_div_cancel_left _ hs]
      have hd : b + lo ≤ b + lo + st * k ∧ st ∣ b + lo + st * k - (b + lo) := ⟨by omega, ⟨k, by omega⟩⟩
      rw [if_pos hd, if_pos hd, ek]
      show _ = (if a ≤ k then c * q (k - a) else 0) + opL l q k
      congr 1
      by_cases hak : a ≤ k
      · obtain ⟨j, rfl⟩ : ∃ j, k = a + j := ⟨k - a, by omega⟩
        have e : st * (a + j) = st * a + st * j := Nat.mul_add _ _ _
        have e2 : b + lo + st * (a + j) - (lo + st * a) = b + st * j := by omega
        rw [if_pos (by omega), e2, if_pos ⟨by omega, ⟨j, by omega⟩⟩, if_pos hak, show b + st * j - b = st * j by omega, Nat.mul_div_cancel_left _ hs, Nat.add_sub_cancel_left]
      · obtain ⟨j, rfl⟩ : ∃ j, a = k + 1 + j := ⟨a - k - 1, by omega⟩
        have e : st * (k + 1 + j) = st * k + st + st * j := by rw [Nat.mul_add, Nat.mul_add, Nat.mul_one]
        rw [if_neg hak]
        split
        · rename_i h3
          rw [if_neg (by intro z; omega)]
          simp
        · rfl
    · rw [if_neg h, if_neg h, Int.add_zero]
      split
      · rename_i h3
        rw [if_neg]
        · simp
        · rintro ⟨h4, k, hk⟩
          refine h ⟨by omega, a + k, ?_⟩
          rw [Nat.mul_add]
          omega
      · rfl
theorem pw_spread {lo st : Nat} (hs : 0 < st) (l : List (Nat × Int)) : ∀ m, pw (spread lo st l) m = spreadF (lo * m) st (pw l m)
  | 0 => by
    funext n
    show (if n = 0 then (1 : Int) else 0) = if lo * 0 ≤ n ∧ st ∣ (n - lo * 0) then (if (n - lo * 0) / st = 0 then (1 : Int) else 0) else 0
    rw [Nat.mul_zero, Nat.sub_zero]
    by_cases h : n = 0
    · subst h
      rw [if_pos rfl, if_pos ⟨Nat.le_refl _, ⟨0, rfl⟩⟩, if_pos (Nat.zero_div _)]
    · rw [if_neg h]
      split
      · rename_i h2
        obtain ⟨_, k, rfl⟩ := h2
        rw [Nat.mul_div_cancel_left _ hs, if_neg]
        intro z
        subst z
        exact h rfl
      · rfl
  | m + 1 => by
    funext n
    show opL (spread lo st l) (pw (spread lo st l) m) n = _
    rw [pw_spread hs l m, op_spread hs]
    rw [Nat.mul_succ]
    rfl
theorem pw_single (lo : Nat) (f : Int) (m n : Nat) : pw [(lo, f)] m n = if n = lo * m then f ^ m else 0 := by
  have e : [(lo, f)] = spread lo 1 [(0, f)] := rfl
  rw [e, pw_spread (by decide)]
  have z : ∀ m k, pw [(0, f)] m k = if k = 0 then f ^ m else 0 := by
    intro m
    induction m with
    | zero =>
      intro k
      rw [Int.pow_zero]
      rfl
    | succ m ih =>
      intro k
      show (if 0 ≤ k then f * pw [(0, f)] m (k - 0) else 0) + 0 = _
      rw [if_pos (Nat.zero_le _), Nat.sub_zero, ih, Int.pow_succ]
      split <;> grind
  unfold spreadF
  rw [Nat.div_one, z]
  by_cases h : n = lo * m
  · subst h
    rw [if_pos ⟨Nat.le_refl _, ⟨_, (Nat.one_mul _).symm⟩⟩, Nat.sub_self, if_pos rfl, if_pos rfl]
  · rw [if_neg h]
    split
    · rename_i h2
      rw [if_neg (by omega)]
    · rfl
end Ev

set_option exponentiation.threshold 20000
/-! math.lcm and math.comb, by the hand layer; sizes of powers -/
namespace Ev
open PySem PySem.Spec PyProof.Rows L2
def rLcm : List V → Hp → VK → Prop := fun vs H Q => ∃ a b : Int, vs = [.int a, .int b] ∧ a.natAbs < 2 ^ 13000 ∧ b.natAbs < 2 ^ 13000 ∧ Q (.int ((Nat.lcm a.natAbs b.natAbs : Nat) : Int)) H
theorem lcm_small {m n : Nat} (hm : m < 2 ^ 13000) (hn : n < 2 ^ 13000) : (Nat.lcm m n).log2 < 26001 := by
  refine PySem.Flt.log2_lt_of (n := Nat.lcm m n) (by decide) ?_
  have h1 := PySem.W.mc_lcm_le m n
  have h2 : m * n < 2 ^ 13000 * 2 ^ 13000 := Nat.mul_lt_mul'' hm hn
  rw [← Nat.pow_add] at h2
  exact Nat.lt_of_le_of_lt h1 (Nat.lt_trans h2 (Nat.pow_lt_pow_right (by decide) (by decide)))
theorem cr_lcm {X : Cx} : CallR X (.builtin "math.lcm") rLcm := by
  intro pins s σ H vs us Q I r h
  obtain ⟨a, b, rfl, ha, hb, q⟩ := h
  obtain ⟨t, u, rfl⟩ := Vals.int2 r
  have l1 : (max 1 a.natAbs).log2 < 13000 := PySem.Flt.log2_lt_of (by decide) (Nat.max_lt.mpr ⟨Nat.one_lt_pow (by decide) (by decide), ha⟩)
  have l2 : (max a.natAbs b.natAbs).log2 < 13000 := PySem.Flt.log2_lt_of (by decide) (Nat.max_lt.mpr ⟨ha, hb⟩)
  have l3 := lcm_small ha hb
  have e := PySem.W.mc_lcm_one a.natAbs
  have big : 26001 ≤ bitsLine := by decide
  refine call_function_meets PySem.W.MGF.kind_lcm PySem.W.MGF.plain_lcm PySem.W.MGF.entry_lcm (PySem.W.MGF.args_lcm _ _) (PySem.W.mg_run_lcm a t b u (by omega) (by omega) ?_).meets ?_
  · rw [e]
    show (Nat.lcm a.natAbs b.natAbs).log2 < bitsLine
    omega
  · rw [e]
    exact ⟨.int _, H, I.tok _, ⟨_, rfl⟩, q⟩
def rComb : List V → Hp → VK → Prop := fun vs H Q => ∃ a b : Int, vs = [.int a, .int b] ∧ 0 ≤ a ∧ 0 ≤ b ∧ a < 2 ^ 64 ∧ b ≤ 9000 ∧ Q (.int (PySem.W.mcComb a b)) H
theorem cr_comb {X : Cx} : CallR X (.builtin "math.comb") rComb := by
  intro pins s σ H vs us Q I r h
  obtain ⟨a, b, rfl, ha, hb, h1, h2, q⟩ := h
  obtain ⟨t, u, rfl⟩ := Vals.int2 r
  exact PySem.W.mc_comb ha hb h1 (.inl h2) fun _ => ⟨.int _, H, I.tok _, ⟨_, rfl⟩, q⟩
theorem pow_lt {b : Int} {s : Nat} (h : b.natAbs < 2 ^ s) (n : Nat) : (b ^ n).natAbs < 2 ^ (s * n + 1) := by
  rw [Int.natAbs_pow]
  have h1 : b.natAbs ^ n ≤ (2 ^ s) ^ n := Nat.pow_le_pow_left (Nat.le_of_lt h) n
  rw [← Nat.pow_mul] at h1
  exact Nat.lt_of_le_of_lt h1 (Nat.pow_lt_pow_right (by decide) (Nat.lt_succ_self _))
theorem and_one (e : Nat) : Builtin.bitAnd (e : Int) 1 = ((e % 2 : Nat) : Int) := by
  have z : Builtin.bitAnd (e : Int) (2 ^ 1 - 1) = (e : Int) % 2 ^ 1 := Bits.bitAnd_mask 1 (by omega)
  rw [show ((2 : Int) ^ 1 - 1) = 1 by decide, show ((2 : Int) ^ 1) = 2 by decide] at z
  omega
/-! ### rows of pairs -/
abbrev prD (x y : Int) : PyData := .tuple [.int x, .int y]
section
variable {K : PySem.W.Frag} {Z : Addr → Prop} {H : Hp}
theorem dx_prD {v : V} {x y : Int} (h : Dx K Z H v (prD x y)) : ∃ a, v = .ref a ∧ SqT K H a [.int x, .int y] := by
  obtain ⟨a, xs, rfl, hs, hd⟩ := dx_tup h
  cases hd with
  | cons h1 r1 =>
    cases r1 with
    | cons h2 r2 =>
      cases r2
      rw [dx_int h1, dx_int h2] at hs
      exact ⟨a, rfl, hs⟩
theorem dx_word {v : V} {x : Str} {d : PyData} (h : Dx K Z H v (.tuple [.str x, d])) : ∃ a u, v = .ref a ∧ SqT K H a [.str x, u] ∧ Dx K Z H u d := by
  obtain ⟨a, xs, rfl, hs, hd⟩ := dx_tup h
  cases hd with
  | cons h1 r1 =>
    cases r1 with
    | cons h2 r2 =>
      cases r2
      rw [dx_str h1] at hs
      exact ⟨a, _, rfl, hs, h2⟩
theorem prD_dx {a : Addr} {x y : Int} (h : SqT K H a [.int x, .int y]) : Dx K Z H (.ref a) (prD x y) := .tup h (.cons (.int _) (.cons (.int _) .nil))
theorem prs_at {vs : List V} {l : List (Int × Int)} {i : Nat} {v : V} (h : DxAll K Z H vs (l.map fun q => prD q.1 q.2)) (e : vs[i]? = some v) :
    ∃ x y a, l[i]? = some (x, y) ∧ v = .ref a ∧ SqT K H a [.int x, .int y] := by
  obtain ⟨d, h1, h2⟩ := dxAll_get h e
  rw [List.getElem?_map] at h1
  cases q : l[i]? with
  | none => rw [q] at h1; cases h1
  | some p =>
    rw [q] at h1
    cases h1
    obtain ⟨a, ea, hs⟩ := dx_prD h2
    exact ⟨p.1, p.2, a, rfl, ea, hs⟩
theorem prs_to {vs : List V} {l : List (Int × Int)} {i : Nat} {p : Int × Int} (h : DxAll K Z H vs (l.map fun q => prD q.1 q.2)) (e : l[i]? = some p) :
    ∃ a, vs[i]? = some (.ref a) ∧ SqT K H a [.int p.1, .int p.2] := by
  obtain ⟨v, h1, h2⟩ := dxAll_at h (i := i) (d := prD p.1 p.2) (by rw [List.getElem?_map, e]; rfl)
  obtain ⟨a, rfl, hs⟩ := dx_prD h2
  exact ⟨a, h1, hs⟩
theorem ix0 {x : V} {xs : List V} : atI (x :: xs) 0 = some x := atI_nat (j := 0) rfl
theorem ix1 {x y : V} {xs : List V} : atI (x :: y :: xs) 1 = some y := atI_nat (j := 1) rfl
theorem dxAll_new {p : Addr} {o : HO} {vs : List V} {ds : List PyData} (hp : H p = none) (h : DxAll K Z H vs ds) : DxAll K Z (upd H p o) vs ds := dxAll_same (same_new hp) h
end
/-! ### the whole of which weights are parts -/
def wholeN (l : List (Int × Int × Int)) : Nat := l.foldl (fun w q => Nat.lcm w q.2.2.natAbs) 1
def sdD (q : Int × Int × Int) : PyData := .tuple [.int q.1, .tuple [.int q.2.1, .int q.2.2]]
def wts (l : List (Int × Int × Int)) : List (Int × Int) := l.map fun q => (q.1, q.2.1 * ((wholeN l : Int) / q.2.2))
theorem fold_lcm_dvd : ∀ (l : List (Int × Int × Int)) (w : Nat), w ∣ l.foldl (fun w q => Nat.lcm w q.2.2.natAbs) w
  | [], w => Nat.dvd_refl _
  | q :: l, w => Nat.dvd_trans (Nat.dvd_lcm_left _ _) (fold_lcm_dvd l _)
theorem fold_lcm_pos : ∀ (l : List (Int × Int × Int)) (w : Nat), 0 < w → (∀ q ∈ l, 1 ≤ q.2.2) → 0 < l.foldl (fun w q => Nat.lcm w q.2.2.natAbs) w
  | [], w, h, _ => h
  | q :: l, w, h, hl => fold_lcm_pos l _ (Nat.lcm_pos h (by have := hl q (List.mem_cons_self ..); omega)) fun x hx => hl x (List.mem_cons_of_mem _ hx)
theorem fold_lcm_mem : ∀ (l : List (Int × Int × Int)) (w : Nat), ∀ q ∈ l, q.2.2.natAbs ∣ l.foldl (fun w q => Nat.lcm w q.2.2.natAbs) w
  | [], w, q, h => nomatch h
  | p :: l, w, q, h => by
    rcases List.mem_cons.mp h with rfl | h
    · exact Nat.dvd_trans (Nat.dvd_lcm_right _ _) (fold_lcm_dvd l _)
    · exact fold_lcm_mem l _ q h
theorem whole_take {l : List (Int × Int × Int)} {i : Nat} {q : Int × Int × Int} (h : l[i]? = some q) : wholeN (l.take (i + 1)) = Nat.lcm (wholeN (l.take i)) q.2.2.natAbs := by
  unfold wholeN
  rw [List.take_add_one, h, List.foldl_append]
  rfl
theorem whole_part (l : List (Int × Int × Int)) (i : Nat) : wholeN (l.take i) ∣ wholeN l := by
  have e : wholeN l = (l.drop i).foldl (fun w q => Nat.lcm w q.2.2.natAbs) (wholeN (l.take i)) := by
    unfold wholeN
    rw [← List.foldl_append, List.take_append_drop]
  rw [e]
  exact fold_lcm_dvd _ _
theorem whole_pos {l : List (Int × Int × Int)} (h : ∀ q ∈ l, 1 ≤ q.2.2) : 0 < wholeN l := fold_lcm_pos l 1 (by decide) h
theorem whole_mem {l : List (Int × Int × Int)} {q : Int × Int × Int} (h : q ∈ l) : q.2.2.natAbs ∣ wholeN l := fold_lcm_mem l 1 q h
/-! ### lists and dicts that are new since a heap -/
/-- beside the loom's two, and new -/
def ZN (L F : Addr) (H : Hp) : Addr → Prop := fun a => a ≠ L ∧ a ≠ F ∧ H a = none
theorem none_back {L F p : Addr} {H G : Hp} (k : Kp L F H G) (h : G p = none) (l : p ≠ L) (f : p ≠ F) : H p = none := by
  cases e : H p with
  | none => rfl
  | some u =>
    rw [k p u l f e] at h
    cases h
theorem dx_kpn {K : PySem.W.Frag} {L F : Addr} {B H H' : Hp} (k : Kp L F H H') (hM : Lm H L F) {v : V} {d : PyData} (h : Dx K (ZN L F B) H v d) : Dx K (ZN L F B) H' v d :=
  dx_keep (fun _ _ e => k.sqT hM e) (fun _ _ z e => k _ _ z.1 z.2.1 e) h
theorem dxAll_kpn {K : PySem.W.Frag} {L F : Addr} {B H H' : Hp} (k : Kp L F H H') (hM : Lm H L F) {v : List V} {d : List PyData} (h : DxAll K (ZN L F B) H v d) : DxAll K (ZN L F B) H' v d :=
  dxAll_keep (fun _ _ e => k.sqT hM e) (fun _ _ z e => k _ _ z.1 z.2.1 e) h
mutual
theorem dx_monoL {K : PySem.W.Frag} {Z Z' : Addr → Prop} {H : Hp} (hz : ∀ a, Z a → Z' a) : ∀ {v : V} {d : PyData}, Dx K Z H v d → Dx K Z' H v d
  | _, _, .non => .non
  | _, _, .bl b => .bl b
  | _, _, .int i => .int i
  | _, _, .str x => .str x
  | _, _, .lst e z h => .lst e (hz _ z) (dxAll_monoL hz h)
  | _, _, .tup e h => .tup e (dxAll_monoL hz h)
  | _, _, .dct e z h => .dct e (hz _ z) (dxKv_monoL hz h)
theorem dxAll_monoL {K : PySem.W.Frag} {Z Z' : Addr → Prop} {H : Hp} (hz : ∀ a, Z a → Z' a) : ∀ {vs : List V} {ds : List PyData}, DxAll K Z H vs ds → DxAll K Z' H vs ds
  | _, _, .nil => .nil
  | _, _, .cons h r => .cons (dx_monoL hz h) (dxAll_monoL hz r)
theorem dxKv_monoL {K : PySem.W.Frag} {Z Z' : Addr → Prop} {H : Hp} (hz : ∀ a, Z a → Z' a) : ∀ {vs : List (Key × V)} {ds : List (PyData × PyData)}, DxKv K Z H vs ds → DxKv K Z' H vs ds
  | _, _, .nil => .nil
  | _, _, .cons h r => .cons (dx_monoL hz h) (dxKv_monoL hz r)
end
/-- new since a later heap is new since an earlier one -/
theorem dx_back {K : PySem.W.Frag} {L F : Addr} {B B' H : Hp} (k : Kp L F B B') {v : V} {d : PyData} (h : Dx K (ZN L F B') H v d) : Dx K (ZN L F B) H v d :=
  dx_monoL (fun _ z => ⟨z.1, z.2.1, none_back k z.2.2 z.1 z.2.1⟩) h
theorem dxAll_back {K : PySem.W.Frag} {L F : Addr} {B B' H : Hp} (k : Kp L F B B') {v : List V} {d : List PyData} (h : DxAll K (ZN L F B') H v d) : DxAll K (ZN L F B) H v d :=
  dxAll_monoL (fun _ z => ⟨z.1, z.2.1, none_back k z.2.2 z.1 z.2.1⟩) h
theorem dx_zl {K : PySem.W.Frag} {L F : Addr} {B H : Hp} {v : V} {d : PyData} (h : Dx K (ZN L F B) H v d) : Dx K (ZL L F) H v d := dx_monoL (fun _ z => ⟨z.1, z.2.1⟩) h
mutual
/-- no list, no dict -/
def noL : PyData → Bool
  | .list _ => false
  | .dict _ => false
  | .tuple xs => noLs xs
  | _ => true
def noLs : List PyData → Bool
  | [] => true
  | x :: xs => noL x && noLs xs
end
mutual
theorem dx_any {K : PySem.W.Frag} {Z Z' : Addr → Prop} {H : Hp} : ∀ {v : V} {d : PyData}, Dx K Z H v d → noL d = true → Dx K Z' H v d
  | _, _, .non, _ => .non
  | _, _, .bl b, _ => .bl b
  | _, _, .int i, _ => .int i
  | _, _, .str x, _ => .str x
  | _, _, .lst e z h, n => by simp [noL] at n
  | _, _, .tup e h, n => .tup e (dxAll_any h (by simpa only [noL] using n))
  | _, _, .dct e z h, n => by simp [noL] at n
theorem dxAll_any {K : PySem.W.Frag} {Z Z' : Addr → Prop} {H : Hp} : ∀ {vs : List V} {ds : List PyData}, DxAll K Z H vs ds → noLs ds = true → DxAll K Z' H vs ds
  | _, _, .nil, _ => .nil
  | _, d :: ds, .cons h r, n => by
    have n' : (noL d && noLs ds) = true := by simpa only [noLs] using n
    rw [Bool.and_eq_true] at n'
    exact .cons (dx_any h n'.1) (dxAll_any r n'.2)
end
end Ev

set_option exponentiation.threshold 256
/-! t[::-1], t a tuple that is not empty -/
namespace Ev
open PySem PySem.Spec PyProof.Rows L2
section
variable {prog : Program} {w : World} {A : Around} {E : Value → Shared → Prop} {s : Shared}
theorem applied_rev {sl : Addr} {vl vu vs : Value} {n : Nat} {Q : Int × Int × Nat → Shared → Prop} (hs : s.heap.IsSliceOf sl vl vu vs) (pl : IsPart vl none) (pu : IsPart vu none) (ps : IsPart vs (some (-1)))
    (h : Q ((n : Int) - 1, -1, n) s) : wpAny (model prog w) A (Builtin.Slice.sliceApplied (.ref sl) (pure (n : Int))) Q E s := by
  obtain ⟨os, hos, hcs, hds⟩ := id hs
  unfold Builtin.Slice.sliceApplied Builtin.Slice.sliceFields
  refine wpAny_bind (wpAny_bind (wpAny_field hos hds (x := vl) rfl (wpAny_bind (wpAny_field hos hds (x := vu) rfl (wpAny_bind (wpAny_field hos hds (x := vs) rfl (wpAny_pure ?_)))))))
  refine wpAny_bind (HT.slicePart_ ps ?_)
  show wpAny _ _ (if ((-1 : Int) == 0) = true then _ else _) _ _ s
  rw [if_neg (by decide)]
  refine wpAny_bind (HT.slicePart_ pl (wpAny_bind (HT.slicePart_ pu (wpAny_bind (wpAny_pure ?_)))))
  show wpAny _ _ (match Builtin.Slice.sliceAdjust none none (-1) (n : Int) with | (lo, hi) => pure (lo, (-1 : Int), Builtin.Slice.slicePlaces lo hi (-1))) _ _ s
  have e : Builtin.Slice.sliceAdjust none none (-1) (n : Int) = ((n : Int) - 1, -1) := rfl
  rw [e]
  show wpAny _ _ (pure ((n : Int) - 1, (-1 : Int), Builtin.Slice.slicePlaces ((n : Int) - 1) (-1) (-1))) _ _ s
  have e2 : Builtin.Slice.slicePlaces ((n : Int) - 1) (-1) (-1) = n := by
    unfold Builtin.Slice.slicePlaces
    rw [if_neg (by decide)]
    by_cases h0 : (n : Int) - 1 > -1
    · rw [if_pos h0, show (- -1 : Int) = 1 by decide, Int.ediv_one]
      omega
    · rw [if_neg h0]
      omega
  rw [e2]
  exact wpAny_pure h
theorem pick_rev (xs : Array Value) : ((List.range xs.size).filterMap fun (m : Nat) => xs[((xs.size : Int) - 1 + (m : Int) * (-1)).toNat]?).toArray = xs.toList.reverse.toArray := by
  have e : (List.range xs.size).filterMap (fun (m : Nat) => xs[((xs.size : Int) - 1 + (m : Int) * (-1)).toNat]?) = ((List.range xs.size).map fun k => xs.size - 1 - k).filterMap (xs[·]?) := by
    have e1 : (List.range xs.size).map (fun (m : Nat) => ((xs.size : Int) - 1 + (m : Int) * (-1)).toNat) = (List.range xs.size).map fun k => xs.size - 1 - k := by
      refine List.map_congr_left fun m hm => ?_
      have h := List.mem_range.mp hm
      omega
    rw [← e1, List.filterMap_map]
    rfl
  rw [e, PySem.W.krv_range, List.filterMap_reverse, PySem.W.krv_all]
theorem getItem_rev {t sl : Addr} {items : Array Value} {vl vu vs : Value} {Q : Value → Shared → Prop} (ht : IsTup s.heap t items) (hs : s.heap.IsSliceOf sl vl vu vs) (pl : IsPart vl none) (pu : IsPart vu none) (ps : IsPart vs (some (-1)))
    (h : Q (.ref s.heap.objs.size) { s with heap := s.heap.push { cls := .type "tuple", data := .seq items.toList.reverse.toArray } })
    (hsz : items.size ≤ sizeLine) : wpAny (model prog w) A (getItem (.ref t) (.ref sl)) Q E s := by
  have htake : sizeOk (.seq items.toList.reverse.toArray) := by
    show items.toList.reverse.toArray.size ≤ sizeLine
    rw [List.size_toArray, List.length_reverse, Array.length_toList]
    exact hsz
  obtain ⟨os, hos, hcs, hds⟩ := id hs
  have hTs : s.TypeIs (.ref sl) "slice" := ⟨os, hos, hcs⟩
  unfold getItem
  try with_reducible refine wpAny_holding ?_
  first | refine wpAny_bind (wpAny_pure ?_) | skip
  refine wpAny_bind (wpAny_sequenceKey ht.typeIs (by decide) ?_)
  refine wpAny_bind (wpAny_callSpecial?_slot (name := Str.ofString "__getitem__") ht.typeIs PyProof.Rows.slot_tuple_getitem
    (wpAny_call_entry PyProof.Rows.slot_tuple_getitem ht.typeIs entry_tuple_getitem ?_ (args_tuple_getitem _ _)))
  show wpAny _ _ (Builtin.Tuple.tupleItemsOf (.ref t) >>= _) _ _ s
  refine wpAny_bind (tupleItemsOf_ ht ?_)
  refine wpAny_bind (wpAny_typeOf hTs ?_)
  rw [if_pos (by decide)]
  refine wpAny_bind (applied_rev hs pl pu ps ?_)
  have hno : ¬ ((((items.size : Int) - 1) == 0 && (-1 : Int) == 1 && items.size == items.size) = true) := by
    intro q
    rw [Bool.and_eq_true, Bool.and_eq_true] at q
    exact absurd q.1.2 (by decide)
  show wpAny _ _ (if ((((items.size : Int) - 1) == 0 && (-1 : Int) == 1 && items.size == items.size) = true) then _ else _) _ _ s
  rw [if_neg hno, pick_rev]
  first
    | exact wpAny_bind (m := Builtin.Tuple.tupleExact _) (wpAny_newObj_type (wpAny_pure ⟨_, rfl, wpAny_pure h⟩) htake)
    | exact wpAny_bind (m := Builtin.Tuple.tupleExact _) (wpAny_newObj_type (wpAny_bind (wpAny_pure (wpAny_pure ⟨_, rfl, wpAny_pure h⟩))) htake)
    | exact wpAny_bind (wpAny_bind (m := Builtin.Tuple.tupleExact _) (wpAny_newObj_type (wpAny_pure (wpAny_pure ⟨_, rfl, wpAny_pure h⟩)) htake))
    | exact wpAny_bind (wpAny_bind (m := Builtin.Tuple.tupleExact _) (wpAny_newObj_type (wpAny_pure ⟨_, rfl, wpAny_pure h⟩) htake))
end
section
variable {X : Cx}
def tRevT (K : PySem.W.Frag) (te : TE) : TE := fun σ H Q => te σ H fun x H1 => ∃ a xs, x = .ref a ∧ SqT K H1 a xs ∧ ∀ p, H1 p = none → Q (.ref p) (upd H1 p (.tup xs.reverse))
theorem pe_revT {e : Expr} {te : TE} {k : Nat} {p1 p2 p3 pos : Pos} (he : PE X e te) : PE X (.Subscript e (.Slice none none (some (.UnaryOp .USub (.Constant (.int 1) k p1) p2)) p3) pos) (tRevT X.K te) := by
  refine ⟨fun pins s σ H Q I h => ?_⟩
  refine Subscript_ (thn (he.run pins s σ H _ I h) fun v s1 ⟨x, H1, I1, r1, q1⟩ => ?_)
  obtain ⟨a, xs, ex, hx, q⟩ := q1
  subst ex
  cases r1
  have hst : PO X (some (.UnaryOp .USub (.Constant (.int 1) k p1) p2)) (tPart (tUn (rU fun i => .int (-i)) (tC (.int 1)))) := po_some (pe_un un_neg pe_int)
  refine wpAny_Slice (thn (po_none.run pins s1 σ H1 (fun o H2 => o = none ∧ H2 = H1) I1 ⟨rfl, rfl⟩) fun vl s2 ⟨l, H2, I2, pl, el, e2⟩ => ?_)
  subst el e2
  refine thn (po_none.run pins s2 σ H2 (fun o H3 => o = none ∧ H3 = H2) I2 ⟨rfl, rfl⟩) fun vu s3 ⟨u, H3, I3, pu, eu, e3⟩ => ?_
  subst eu e3
  refine thn (hst.run pins s3 σ H3 (fun o H4 => o = some (-1) ∧ H4 = H3) I3 ⟨1, rfl, -1, rfl, rfl, rfl⟩) fun vs s4 ⟨o, H4, I4, ps, eo, e4⟩ => ?_
  subst eo e4
  have I5 : Inv X pins σ H4 { s4 with heap := s4.heap.push { cls := .type "slice", data := .fields #[vl, vu, vs] } } := I4.kept (t' := s4.toks) fun b ob q => Heap.get?_push_of_some _ q
  obtain ⟨its, r, ht, hz⟩ := I5.tuple hx
  have hlen := r.length
  show wpAny (model X.prog X.w) X.A (subscriptTail e (.Slice none none (some (.UnaryOp .USub (.Constant (.int 1) k p1) p2)) p3) (.ref a) (.ref s4.heap.objs.size)) (EP X pins σ Q) X.xe { s4 with heap := s4.heap.push { cls := .type "slice", data := .fields #[vl, vu, vs] } }
  refine tail_any (ops := [.ref a, .ref s4.heap.objs.size]) ht.typeIs (PyProof.Rows.slot_tuple_getitem.lookup) ?_ (by with_unfolding_all rfl)
  refine getItem_rev ht (Heap.IsSliceOf.new _ vl vu vs) pl pu ps ?_ (by rw [List.size_toArray]; omega)
  refine ⟨.ref _, _, I5.laid (t' := s4.toks) (o := .tup xs.reverse) (fun b ob q => Heap.get?_push_of_some _ q) (Nat.le_refl _) ?_, rfl, q _ (I5.hok.fresh (Nat.le_refl _))⟩
  exact ⟨by rw [List.length_reverse]; exact hz, _, r.reverse, IsTup.new _ _⟩
/-- t + u: somewhere stand the items of both -/
def rCatS (K : PySem.W.Frag) : R2 := fun x y H Q => ∃ a b xs ys, x = .ref a ∧ y = .ref b ∧ SqT K H a xs ∧ SqT K H b ys ∧ xs.length + ys.length ≤ sizeLine ∧
  ∀ (H' : Hp) (p : Addr), Same H H' → SqT K H' p (xs ++ ys) → Q (.ref p) H'
theorem op_catS : OpR X (binaryOp .Add) (rCatS X.K) := by
  intro pins s σ H x y v u Q I rx ry h
  obtain ⟨a, b, xs, ys, rfl, rfl, ha, hb, hz, q⟩ := h
  refine op_catA pins s σ H _ _ v u Q I rx ry ⟨a, b, xs, ys, rfl, rfl, ha, hb, hz, fun e => ?_, fun _ e => ?_, fun _ _ p hp => ?_⟩
  · subst e
    exact q H b (Same.refl H) hb
  · subst e
    refine q H a (Same.refl H) ?_
    rw [List.append_nil]
    exact ha
  · exact q _ p (same_new hp) (SqT.of upd_same)
/-- t[lo:hi]: somewhere stand its items -/
def rSlS (K : PySem.W.Frag) : V → Option Int → Option Int → Hp → VK → Prop := fun x lo hi H Q => ∃ a xs, x = .ref a ∧ SqT K H a xs ∧ ∀ (H' : Hp) (p : Addr), Same H H' → SqT K H' p (cutV xs lo hi) → Q (.ref p) H'
theorem sl_tupS : SlR X (rSlS X.K) := by
  intro pins s σ H x v vl vu lo hi sl Q I rx hs pl pu h
  obtain ⟨a, xs, rfl, hx, q⟩ := h
  refine sl_tupA pins s σ H _ v vl vu lo hi sl Q I rx hs pl pu ⟨a, xs, rfl, hx, fun e => ?_, fun _ p hp => q _ p (same_new hp) (SqT.of upd_same)⟩
  refine q H a (Same.refl H) ?_
  have z : cutV xs lo hi = xs := by
    unfold cutV
    rw [e.1, e.2, List.drop_zero, Nat.sub_zero, List.take_of_length_le (Nat.le_refl _)]
  rw [z]
  exact hx
end
end Ev

set_option exponentiation.threshold 256
namespace Ev
open PySem PySem.Spec PyProof.Rows L2 SX
/-! ### decimal writing -/
open TL (numL numL_lt numL_step numL_digits numL_ne numL_free numL_val numL_inj numL_len)
def intL (i : Int) : List Nat := if i < 0 then 45 :: numL i.natAbs else numL i.natAbs
theorem int_text (i : Int) : Str.ofString (toString i) = S (intL i) := by
  cases i with
  | ofNat m =>
    have e : intL (Int.ofNat m) = numL m := if_neg (by show ¬ ((m : Int) < 0); omega)
    rw [e]
    exact num_S m
  | negSucc m =>
    have e : intL (Int.negSucc m) = 45 :: numL (m + 1) := if_pos (Int.negSucc_lt_zero m)
    rw [e]
    refine TL.ext_tl ?_
    have t : toString (Int.negSucc m) = "-" ++ Nat.repr (m + 1) := rfl
    rw [t, TL.tl_ofString, String.toList_append, List.map_append]
    have h := TL.tl_num (m + 1)
    rw [TL.tl_ofString] at h
    have z : (toString (((m + 1 : Nat)) : Int)) = Nat.repr (m + 1) := rfl
    rw [z] at h
    rw [h]
    rfl
/-- k figures of r, noughts ahead -/
def padL : Nat → Nat → List Nat
  | 0, _ => []
  | k + 1, r => padL k (r / 10) ++ [48 + r % 10]
theorem padL_len : ∀ k r, (padL k r).length = k
  | 0, _ => rfl
  | k + 1, r => by
    show (padL k (r / 10) ++ [48 + r % 10]).length = k + 1
    rw [List.length_append, padL_len k, List.length_singleton]
theorem padL_zero : ∀ k, padL k 0 = List.replicate k 48
  | 0 => rfl
  | k + 1 => by
    show padL k (0 / 10) ++ [48 + 0 % 10] = _
    rw [show 0 / 10 = 0 from rfl, padL_zero k, List.replicate_succ']
theorem pow_mul10 (q k r : Nat) : (q * 10 ^ (k + 1) + r) / 10 = q * 10 ^ k + r / 10 ∧ (q * 10 ^ (k + 1) + r) % 10 = r % 10 := by
  have e : q * 10 ^ (k + 1) = 10 * (q * 10 ^ k) := by rw [Nat.pow_succ, ← Nat.mul_assoc, Nat.mul_comm]
  rw [e]
  constructor <;> omega
theorem numL_cat {q : Nat} (hq : 1 ≤ q) : ∀ k r, r < 10 ^ k → numL (q * 10 ^ k + r) = numL q ++ padL k r
  | 0, r, h => by
    have e : r = 0 := by simpa using h
    subst e
    show numL (q * 10 ^ 0 + 0) = numL q ++ []
    rw [Nat.pow_zero, Nat.mul_one, Nat.add_zero, List.append_nil]
  | k + 1, r, h => by
    obtain ⟨e1, e2⟩ := pow_mul10 q k r
    have big : 10 ≤ q * 10 ^ (k + 1) + r := by
      have : 1 * 10 ^ (k + 1) ≤ q * 10 ^ (k + 1) := Nat.mul_le_mul_right _ hq
      have : 10 ^ (k + 1) = 10 ^ k * 10 := Nat.pow_succ 10 k
      have : 0 < 10 ^ k := Nat.pow_pos (by decide)
      omega
    rw [numL_step big, e1, e2, numL_cat hq k (r / 10) (by rw [Nat.pow_succ] at h; omega), List.append_assoc]
    rfl
theorem padL_eq : ∀ k r, r < 10 ^ (k + 1) → padL (k + 1) r = List.replicate (k + 1 - (numL r).length) 48 ++ numL r
  | 0, r, h => by
    have h' : r < 10 := by simpa using h
    rw [numL_lt h']
    show padL 0 (r / 10) ++ [48 + r % 10] = _
    rw [Nat.mod_eq_of_lt h']
    rfl
  | k + 1, r, h => by
    show padL (k + 1) (r / 10) ++ [48 + r % 10] = _
    by_cases hr : r < 10
    · rw [numL_lt hr, Nat.div_eq_of_lt hr, padL_zero, Nat.mod_eq_of_lt hr]
      rfl
    · have ih := padL_eq k (r / 10) (by rw [Nat.pow_succ] at h; omega)
      rw [ih, numL_step (by omega : 10 ≤ r), List.append_assoc, List.length_append, List.length_singleton]
      congr 2
      omega
theorem zfill_num {k r : Nat} (h : r < 10 ^ (k + 1)) : Txt.zfill (S (numL r)) (((k + 1 : Nat)) : Int) = S (padL (k + 1) r) := by
  have hl := numL_len (by omega) h
  have hz : (S (numL r)).length = (numL r).length := S_len _
  unfold Txt.zfill
  split
  · rename_i z
    rw [hz] at z
    have e : (numL r).length = k + 1 := by omega
    rw [padL_eq k r h, e, Nat.sub_self]
    rfl
  · rw [hz]
    have e1 : (((k + 1 : Nat) : Int)).toNat - (numL r).length = k + 1 - (numL r).length := by omega
    rw [e1, padL_eq k r h]
    unfold zfilled
    have hd : ∀ c, (S (numL r)).cps[0]? = some c → 48 ≤ c ∧ c ≤ 57 := fun c hc => by
      refine numL_digits r c ?_
      have : (numL r)[0]? = some c := by
        have z : (S (numL r)).cps[0]? = (numL r)[0]? := by simp [S]
        rw [← z]; exact hc
      exact List.mem_of_getElem? this
    have body : Builtin.Str.padded (S (numL r)) (k + 1 - (numL r).length) 0 48 = S (List.replicate (k + 1 - (numL r).length) 48 ++ numL r) := by
      refine TL.ext_tl ?_
      show (Array.replicate (k + 1 - (numL r).length) 48 ++ (numL r).toArray ++ Array.replicate 0 48).toList = _
      simp [S]
    split
    · rename_i e
      have := hd _ e
      omega
    · rename_i e
      have := hd _ e
      omega
    · exact body
/-! ### the text of a fraction -/
def fracL (a b : Int) : List Nat := if b = 1 then intL a else intL a ++ 47 :: intL b
/-! ### reading -/
def isDig (c : Nat) : Bool := decide (48 ≤ c) && decide (c ≤ 57)
def unsign (t : List Nat) : List Nat := if t.head? = some 45 then t.drop 1 else t
def rdI (t : List Nat) : Option Int :=
  if 1 ≤ (unsign t).length ∧ (unsign t).length ≤ 400 ∧ (unsign t).all isDig = true ∧ ((unsign t).head? = some 48 → t = [48]) then
    some (if t.head? = some 45 then -(NumText.digitsVal (unsign t) : Int) else (NumText.digitsVal (unsign t) : Int))
  else none
theorem removeprefix_minus (t : List Nat) : Txt.removeprefix (S t) (S [45]) = S (unsign t) := by
  rw [StrLaws.removeprefix_eq]
  have e : Builtin.Str.subAt (S t) (S [45]) 0 = decide (t.head? = some 45) := by
    rw [StrLaws.subAt_eq]
    show ((t.drop 0).take 1 == [45]) = _
    cases t with
    | nil => rfl
    | cons c r =>
      show ([c] == [45]) = decide (some c = some 45)
      by_cases h : c = 45
      · subst h; rfl
      · rw [decide_eq_false (fun z => h (Option.some.inj z))]
        simp [h]
  rw [e, S_len, S_len]
  unfold unsign
  by_cases h : t.head? = some 45
  · have hl : 1 ≤ t.length := by
      cases t with
      | nil => cases h
      | cons c r => simp
    have hl' : 0 + [45].length ≤ t.length := by simpa using hl
    rw [decide_eq_true h, decide_eq_true hl', Bool.and_self, if_pos rfl, if_pos h]
    show S ((t.drop 1).take (t.length - 1)) = S (t.drop 1)
    rw [List.take_of_length_le (by rw [List.length_drop]; omega)]
  · rw [decide_eq_false h, Bool.and_false, if_neg Bool.false_ne_true, if_neg h]
/-! ### sep.join(reversed(a list of texts)) -/
section
variable {prog : Program} {w : World} {A : Around} {E : Value → Shared → Prop} {s : Shared}
theorem join_rev {x : Str} {t : Tok} {it l : Addr} {items : Array Value} {ys : List Str} {Q : Value → Shared → Prop} (hh : A.handled = none)
    (hit : s.heap.IsRevIter it l ((items.size : Int) - 1)) (hl : s.heap.IsList l items) (hne : l ≠ it) (hn : items.size ≤ sizeLine)
    (hP : ∀ acc : Array Value, ItemsOf (fun i v => items[items.size - 1 - i]? = some v) acc items.size → StrsAre acc.toList ys)
    (hok : (ys.map (·.length)).sum + ys.length * x.length ≤ 16777216)
    (hq : ∀ (h' : Heap) (t' : Tok) (k : Nat), (∀ b o, b ≠ it → s.heap.get? b = some o → h'.get? b = some o) → Q (.str (Txt.join x ys) t') { s with heap := h', toks := k }) :
    wpAny (model prog w) A (call (.builtin "str.join") [.str x t, .ref it]) Q E s := by
  refine wpAny_call (codeAny_call_builtin F.slot_str_join.plain F.entry_str_join (F.slot_str_join.check _ _ _ _ _ _ _ _ (typeIs_str _ _ _) (F.args_str_join_2 _ _) ?_))
  rw [join_tree_other]
  have hT : s.TypeIs (.ref it) "list_reverseiterator" := hit.typeIs
  refine wpAny_bind (wpAny_typeOf hT ?_)
  show wpAny _ A.in1 ((pyIter (.ref it)).tryCatch _ >>= fun it => collect it >>= fun items => joinTail x items) _ _ s
  refine wpAny_bind (wpAny_tryCatch (wpAny_pyIter_revIter hit ?_))
  refine wpAny_bind (RT.collect_rev (A := A.in1) hh hit hl hne hn fun h' tk acc hk hacc => ?_)
  obtain ⟨ls, el, ht⟩ := strsAre_values (hP acc hacc)
  subst ht
  rw [el]
  have hok' := joinOk_of hok
  unfold JoinOk at hok'
  rw [Bool.not_eq_true'] at hok'
  have g : Gives (joinTail x (strValues ls)) (joinMade x ls) := by
    have g0 := gives_joinTail x ls hok'
    rcases ls with _ | ⟨p, _ | ⟨q, r⟩⟩ <;> exact g0
  exact g prog w A (wants Q E) _ (post_join ls ⟨joinFit_length hok', fun t' k => hq h' t' k hk⟩)
end
theorem strs_rev {ys : List Str} {its : List Value} (r : Vals (ys.map V.str) its) {acc : Array Value}
    (h : ItemsOf (fun i v => its.toArray[its.toArray.size - 1 - i]? = some v) acc its.toArray.size) : StrsAre acc.toList ys.reverse := by
  have z := RT.vals_rev r h
  rw [← List.map_reverse] at z
  exact strs_of_vals z
section
variable {X : Cx}
theorem pe_joinRev {o e : Expr} {to te : TE} {apos pos p pos2 : Pos} (hc : X.calm = true) (ho : PE X o to) (hg : Gl X "reversed") (hm : X.mg "reversed" = none) (he : PE X e te)
    (hs1 : starEach [.Call (.Name "reversed" p) [e] [] pos2] X.env = [(false, eval (.Call (.Name "reversed" p) [e] [] pos2) X.env)] := by rfl)
    (hs : starEach [e] X.env = (false, eval e X.env) :: starEach [] X.env := by rfl)
    (hbase : attributeBase o "join" X.env (eval o X.env) = eval o X.env := by rfl) (hline : (apos.endLine == pos.line) = true := by rfl) :
    PE X (.Call (.Attribute o "join" apos) [.Call (.Name "reversed" p) [e] [] pos2] [] pos)
      (fun σ H Q => to σ H fun x H1 => (∃ a, x = .str a) ∧ te σ H1 fun v H2 => ∃ (a : Str) (q : Addr) (ys : List Str), x = .str a ∧ v = .ref q ∧ SqL X.K H2 q (ys.map V.str) ∧
        (ys.map (·.length)).sum + ys.length * a.length ≤ 16777216 ∧ Q (.str (Txt.join a ys.reverse)) H2) := by
  refine ⟨fun pins s σ H Q I h => ?_⟩
  refine PySem.Call_method1 hbase hs1 hline (thn (ho.run pins s σ H _ I h) fun v s1 ⟨x, H1, I1, r1, q1⟩ => ?_)
  obtain ⟨⟨a, rfl⟩, q1⟩ := q1
  obtain ⟨t, rfl⟩ := _root_.id r1
  refine ⟨"str", _, F.plainAttrs_str, F.slot_str_join, F.type_str_join, typeIs_str _ _ _, (fun _ e => nomatch e), Calls.callWith_builtin rfl (Calls.evalArgs_plain (Calls.spliced_cons ?_))⟩
  refine Call_ (ld_blt I1 hg hm PyProof.Rows.boot_reversed (PyProof.Rows.callWith_type1 (args_cons (thn (he.run pins s1 σ H1 _ I1 q1) fun u s2 ⟨v, H2, I2, r2, q2⟩ => args_nil ?_) hs) hs rfl))
  obtain ⟨a', q, ys, ea, ev, hq, hz, q2⟩ := q2
  cases ea
  subst ev
  cases r2
  obtain ⟨its, rv, p', hsz⟩ := I2.list hq
  refine call_reversed_list p'.isList (Calls.spliced_nil ?_)
  have k0 : ∀ b o, s2.heap.get? b = some o → (s2.heap.push (revObj q ((its.toArray.size : Int) - 1))).get? b = some o := fun b o e => Heap.get?_push_of_some _ e
  have I3 : Inv X pins σ H2 { s2 with heap := s2.heap.push (revObj q ((its.toArray.size : Int) - 1)) } := I2.kept (t' := s2.toks) k0
  obtain ⟨f0, f1, f2, f3, f4, f5⟩ := I2.fpOk (H' := H2) (b := s2.heap.objs.size) (Nat.le_refl _) (I2.hok.fresh (Nat.le_refl _))
  have hl := p'.isList
  obtain ⟨ol, hol, _⟩ := _root_.id hl
  have hne : q ≠ s2.heap.objs.size := Nat.ne_of_lt (Heap.lt_size hol)
  have hn : its.toArray.size ≤ sizeLine := by rw [List.size_toArray, ← rv.length]; exact hsz
  have hz' : ((ys.reverse).map (·.length)).sum + ys.reverse.length * a.length ≤ 16777216 := by
    rw [List.map_reverse, List.sum_reverse, List.length_reverse]
    exact hz
  refine join_rev (s := { s2 with heap := s2.heap.push (revObj q ((its.toArray.size : Int) - 1)) }) (I2.ok.hd hc) ⟨_, Heap.get?_push_size _ rfl, rfl, rfl⟩ (hl.push _) hne hn (fun acc hacc => strs_rev rv hacc) hz' fun h' t' k hk => ?_
  exact ⟨.str _, H2, I3.turned (t' := k) (fun b o hb e => hk b o hb e) f0 f1 f3 f4 f5, ⟨t', rfl⟩, q2⟩
end
theorem joinL_nil : ∀ l : List (List Nat), TL.joinL [] l = l.flatten
  | [] => rfl
  | [p] => by
    show p = p ++ []
    rw [List.append_nil]
  | p :: q :: r => by
    show p ++ ([] ++ TL.joinL [] (q :: r)) = p ++ (q :: r).flatten
    rw [List.nil_append, joinL_nil (q :: r)]
theorem join_empty (ys : List (List Nat)) : Txt.join "" (ys.map S) = S ys.flatten := by
  have e : ("" : Str) = S [] := rfl
  rw [e, join_S, joinL_nil]
theorem lens_sum : ∀ ys : List (List Nat), ((ys.map S).map (·.length)).sum = ys.flatten.length
  | [] => rfl
  | y :: ys => by
    rw [List.map_cons, List.map_cons, List.sum_cons, lens_sum ys, S_len, List.flatten_cons, List.length_append]
theorem flat_rev_len : ∀ ys : List (List Nat), ys.reverse.flatten.length = ys.flatten.length
  | [] => rfl
  | y :: ys => by
    rw [List.reverse_cons, List.flatten_append, List.length_append, flat_rev_len ys, List.flatten_cons, List.length_append, List.flatten_cons, List.flatten_nil]
    simp only [List.length_append, List.length_nil]
    omega
theorem intL_len {n : Int} {k : Nat} (hk : 0 < k) (h : n.natAbs < 10 ^ k) : (intL n).length ≤ k + 1 := by
  have := numL_len hk h
  unfold intL
  split
  · rw [List.length_cons]; omega
  · omega
theorem figures_in (c : Nat) : decide (c ∈ ("0123456789" : Str).cps.toList) = isDig c := by
  have e : ("0123456789" : Str).cps.toList = [48, 49, 50, 51, 52, 53, 54, 55, 56, 57] := by decide +kernel
  rw [e]
  unfold isDig
  by_cases h : 48 ≤ c ∧ c ≤ 57
  · rw [decide_eq_true h.1, decide_eq_true h.2]
    refine decide_eq_true ?_
    have : c = 48 ∨ c = 49 ∨ c = 50 ∨ c = 51 ∨ c = 52 ∨ c = 53 ∨ c = 54 ∨ c = 55 ∨ c = 56 ∨ c = 57 := by omega
    simpa using this
  · have z : (decide (48 ≤ c) && decide (c ≤ 57)) = false := by
      rw [Bool.and_eq_false_iff, decide_eq_false_iff_not, decide_eq_false_iff_not]
      omega
    rw [z]
    refine decide_eq_false fun hm => h ?_
    simp only [List.mem_cons, List.not_mem_nil, or_false] at hm
    omega
theorem S_at (u : List Nat) (i : Nat) : (S u).cps[i]? = u[i]? := by simp [S]
theorem S_size (u : List Nat) : (S u).cps.size = u.length := by simp [S]
theorem dig_all {u : List Nat} (h : u.all isDig = true) : NumText.AllDigits u := fun c hc => by
  have z := List.all_eq_true.mp h c hc
  unfold isDig at z
  rw [Bool.and_eq_true, decide_eq_true_eq, decide_eq_true_eq] at z
  exact z
/-- int(text) of what rdI takes -/
theorem intText_rd {t : List Nat} {n : Int} (h : rdI t = some n) : intText? (S t) = some n ∧ (S t).length ≤ 640 := by
  unfold rdI at h
  split at h
  · rename_i c
    obtain ⟨c1, c2, c3, c4⟩ := c
    cases h
    have hd := dig_all c3
    unfold unsign at c1 c2 c3 hd ⊢
    by_cases hm : t.head? = some 45
    · rw [if_pos hm] at c1 c2 c3 hd
      rw [if_pos hm, if_pos hm]
      cases t with
      | nil => cases hm
      | cons x r =>
        have ex : x = 45 := Option.some.inj hm
        subst ex
        have e : (45 :: r).drop 1 = r := rfl
        rw [e] at c1 c2 hd ⊢
        refine ⟨intText_neg (x := S (45 :: r)) (cs := r) rfl hd (fun z => by rw [z] at c1; exact absurd c1 (by decide)) ?_, ?_⟩
        · rw [S_len, List.length_cons]; omega
        · rw [S_len, List.length_cons]; omega
    · rw [if_neg hm] at c1 c2 c3 hd
      rw [if_neg hm, if_neg hm]
      refine ⟨intText_digits (x := S t) hd (fun z => ?_) (by rw [S_len]; omega), by rw [S_len]; omega⟩
      have z' : t = [] := z
      rw [z'] at c1
      exact absurd c1 (by decide)
  · cases h
/-! ### reading a fraction -/
def rdF (t : List Nat) : Option (Int × Int) := match TL.par [47] [] t with
  | none => match rdI t with
    | some a => some (a, 1)
    | none => none
  | some (p, q) => match rdI p with
    | none => none
    | some a => match rdI q with
      | none => none
      | some b => if b < 2 ∨ 1 < Nat.gcd a.natAbs b.natAbs then none else some (a, b)
theorem par_len {c : List Nat} : ∀ {l acc p q : List Nat}, TL.par c acc l = some (p, q) → p.length + q.length ≤ acc.length + l.length
  | [], acc, p, q, h => by cases h
  | x :: r, acc, p, q, h => by
    by_cases hp : TL.pre c (x :: r) = true
    · rw [TL.par_hit hp] at h
      cases h
      rw [List.length_drop]
      omega
    · rw [TL.par_miss (by cases z : TL.pre c (x :: r) with | true => exact absurd z hp | false => rfl)] at h
      have := par_len h
      rw [List.length_append, List.length_singleton] at this
      rw [List.length_cons]
      omega
/-! ### more of texts -/
section
variable {X : Cx}
/-- a text so many times -/
theorem op_mulS : OpR X (binaryOp .Mult) (fun x y H Q => ∃ a n, x = .str a ∧ y = .int n ∧ MulOk a n ∧ Q (.str (Txt.mul a n)) H) := by
  intro pins s σ H x y v u Q I rx ry h
  obtain ⟨a, n, rfl, rfl, hz, q⟩ := h
  obtain ⟨t, rfl⟩ := rx
  obtain ⟨t', rfl⟩ := ry
  exact SB.mul hz fun t' tk => ⟨.str (Txt.mul a n), H, I.tok _, ⟨_, rfl⟩, q⟩
end
/-- each text is one of its signs -/
theorem S_of (x : Str) : x = S x.cps.toList := TL.ext_tl (by simp [S])
theorem len_S (x : Str) : x.cps.toList.length = x.length := by
  rw [Array.length_toList]
  rfl
end Ev

set_option exponentiation.threshold 256
/-! the layer of data, 1: what names hold as data, and how the heap bears it -/
namespace Ev
open PySem PySem.Spec PyProof.Rows L2
/-- the names of the loom's three -/
class Lo where
  far : Str
  st : Str
  tm : Str
/-- what a name holds: nothing that is known, data, a list of its own, the loom -/
inductive SV where
  | un
  | d (x : PyData)
  | own (xs : List PyData)
  | lm
  | rm (n : Int)
abbrev En := List SV
/-- what others may change: the loom's two, a list of one number -/
structure Lw where
  lm : Option (Addr × Addr) := none
  rm : List Addr := []
structure Gh where
  lo : Lw
  H0 : Hp
  Z0 : Addr → Prop
section
variable [Lo]
def ldD (F : Addr) (s t : Int) : List (Key × V) := [(Sum.inr Lo.far, .ref F), (Sum.inr Lo.st, .int s), (Sum.inr Lo.tm, .int t)]
def LmD (H : Hp) (L F : Addr) : Prop := ∃ (fs : List Int) (s t : Int), H L = some (.dK (ldD F s t)) ∧ H F = some (.lst (fs.map V.int)) ∧ fs.length ≤ 63
theorem LmD.same {H H' : Hp} {L F : Addr} (h : LmD H L F) (s : Same H H') : LmD H' L F := by
  obtain ⟨fs, a, b, h1, h2, h3⟩ := h
  exact ⟨fs, a, b, s _ _ h1, s _ _ h2, h3⟩
theorem LmD.ex {H : Hp} {L F : Addr} (h : LmD H L F) : H L ≠ none ∧ H F ≠ none := by
  obtain ⟨fs, a, b, h1, h2, h3⟩ := h
  refine ⟨fun z => ?_, fun z => ?_⟩
  · rw [h1] at z
    cases z
  · rw [h2] at z
    cases z
def RmD (H : Hp) (R : Addr) : Prop := ∃ n : Int, H R = some (.lst [.int n])
def Lw.has (w : Lw) (p : Addr) : Prop := (∃ L F, w.lm = some (L, F) ∧ (p = L ∨ p = F)) ∨ p ∈ w.rm
structure Lw.ok (w : Lw) (H : Hp) : Prop where
  lm : ∀ L F, w.lm = some (L, F) → LmD H L F
  rm : ∀ R, R ∈ w.rm → RmD H R ∧ ∀ L F, w.lm = some (L, F) → R ≠ L ∧ R ≠ F
theorem Lw.ok.same {w : Lw} {H H' : Hp} (h : w.ok H) (s : Same H H') : w.ok H' := ⟨fun L F e => (h.lm L F e).same s, fun R e => by
  obtain ⟨⟨n, a⟩, b⟩ := h.rm R e
  exact ⟨⟨n, s _ _ a⟩, b⟩⟩
theorem Lw.ok.ex {w : Lw} {H : Hp} (h : w.ok H) {p : Addr} (m : w.has p) : H p ≠ none := by
  rcases m with ⟨L, F, e, rfl | rfl⟩ | e
  · exact (h.lm _ _ e).ex.1
  · exact (h.lm _ _ e).ex.2
  · obtain ⟨⟨n, a⟩, b⟩ := h.rm _ e
    rw [a]
    exact fun z => nomatch z
theorem Lw.ok.upd {w : Lw} {H : Hp} {p : Addr} {o : HO} (h : w.ok H) (n : ¬ w.has p) : w.ok (upd H p o) := ⟨fun L F e => by
    obtain ⟨fs, s, t, l1, l2, l3⟩ := h.lm L F e
    exact ⟨fs, s, t, by rw [upd_ne (fun z => n (.inl ⟨L, F, e, .inl z.symm⟩))]; exact l1, by rw [upd_ne (fun z => n (.inl ⟨L, F, e, .inr z.symm⟩))]; exact l2, l3⟩, fun R e => by
    obtain ⟨⟨k, a⟩, b⟩ := h.rm R e
    exact ⟨⟨k, by rw [upd_ne (fun (z : R = p) => n (.inr (z ▸ e)))]; exact a⟩, b⟩⟩
/-- how a heap may come of another one: these may change, the rest stays -/
structure Gr (w : Lw) (H H' : Hp) : Prop where
  kp : ∀ (p : Addr) (o : HO), ¬ w.has p → H p = some o → H' p = some o
  ok : w.ok H → w.ok H'
theorem Gr.of_same {lo : Lw} {H H' : Hp} (s : Same H H') : Gr lo H H' := ⟨fun p o _ e => s p o e, fun h => h.same s⟩
theorem Gr.refl {lo : Lw} (H : Hp) : Gr lo H H := .of_same (Same.refl H)
theorem Gr.trans {lo : Lw} {H H1 H2 : Hp} (a : Gr lo H H1) (b : Gr lo H1 H2) : Gr lo H H2 := ⟨fun p o n e => b.kp p o n (a.kp p o n e), fun h => b.ok (a.ok h)⟩
theorem hd_mem : ∀ {l : List Addr} {a : Addr}, l.head? = some a → a ∈ l
  | b :: l, a, h => by
    cases h
    exact List.mem_cons_self ..
/-- one step: the rooms stay too -/
structure Gk (w : Lw) (H H' : Hp) : Prop where
  gr : Gr w H H'
  rm : ∀ (p : Addr) (o : HO), p ∈ w.rm → H p = some o → H' p = some o
theorem Gk.of_same {lo : Lw} {H H' : Hp} (s : Same H H') : Gk lo H H' := ⟨.of_same s, fun p o _ e => s p o e⟩
/-- what others did who had no room -/
theorem Gk.of_lm {lo : Lw} {H H' : Hp} (h : Gr ⟨lo.lm, []⟩ H H') (ok : lo.ok H) : Gk lo H H' := by
  have ne : ∀ p, p ∈ lo.rm → ¬ (Lw.mk lo.lm []).has p := fun p m z => by
    rcases z with ⟨L, F, e, z⟩ | z
    · obtain ⟨_, n⟩ := ok.rm p m
      obtain ⟨n1, n2⟩ := n L F e
      rcases z with z | z
      · exact n1 z
      · exact n2 z
    · cases z
  refine ⟨⟨fun p o n e => h.kp p o (fun z => n ?_) e, fun k => ⟨fun L F e => (h.ok ⟨fun L F e => k.lm L F e, fun r z => nomatch z⟩).lm L F e, fun r m => ?_⟩⟩, fun p o m e => h.kp p o (ne p m) e⟩
  · rcases z with z | z
    · exact .inl z
    · cases z
  · obtain ⟨⟨m1, h1⟩, h2⟩ := k.rm r m
    exact ⟨⟨m1, h.kp r _ (ne r m) h1⟩, h2⟩
theorem Gr.keep {lo : Lw} {H H' : Hp} (a : Gr lo H H') {p : Addr} {o : HO} (n : ¬ lo.has p) (e : H p = some o) : H' p = some o := a.kp p o n e
def Zof (g : Gh) (O : List Addr) : Addr → Prop := fun a => (g.Z0 a ∨ g.H0 a = none) ∧ a ∉ O
structure LoomOk (g : Gh) (O : List Addr) (H : Hp) : Prop where
  ok : g.lo.ok H
  nz : ∀ p, g.lo.has p → ¬ Zof g O p
variable {K : PySem.W.Frag}
theorem sqT_ne {H : Hp} {w : Lw} {a : Addr} {xs : List V} (hM : w.ok H) (h : Rd H a (.tup xs)) : ¬ w.has a := by
  rintro (⟨L, F, e, z⟩ | e)
  · obtain ⟨fs, s, t, h1, h2, h3⟩ := hM.lm L F e
    rcases z with rfl | rfl
    · rcases h with h | ⟨o, h⟩ <;> rw [h1] at h <;> cases h
    · rcases h with h | ⟨o, h⟩ <;> rw [h2] at h <;> cases h
  · obtain ⟨⟨n, h1⟩, _⟩ := hM.rm _ e
    rcases h with h | ⟨o, h⟩ <;> rw [h1] at h <;> cases h
theorem Gr.sqT {g : Gh} {O : List Addr} {H H' : Hp} (r : Gr g.lo H H') (lk : LoomOk g O H) {a : Addr} {xs : List V} (h : SqT K H a xs) : SqT K H' a xs := by
  rcases h with h | h
  · have n : ¬ g.lo.has a := sqT_ne lk.ok h
    rcases h with h | ⟨o, h⟩
    · exact .inl (.inl (r.keep n h))
    · exact .inl (.inr ⟨o, r.keep n h⟩)
  · exact .inr h
theorem dx_gr {g : Gh} {O : List Addr} {H H' : Hp} (r : Gr g.lo H H') (lk : LoomOk g O H) {v : V} {d : PyData} (h : Dx K (Zof g O) H v d) : Dx K (Zof g O) H' v d :=
  dx_keep (fun _ _ e => r.sqT lk e) (fun a o z e => r.keep (fun w => lk.nz a w z) e) h
theorem dxAll_gr {g : Gh} {O : List Addr} {H H' : Hp} (r : Gr g.lo H H') (lk : LoomOk g O H) {v : List V} {d : List PyData} (h : DxAll K (Zof g O) H v d) : DxAll K (Zof g O) H' v d :=
  dxAll_keep (fun _ _ e => r.sqT lk e) (fun a o z e => r.keep (fun w => lk.nz a w z) e) h
def SlotOk (K : PySem.W.Frag) (g : Gh) (O : List Addr) (H : Hp) : SV → Option V → Prop
  | .un, _ => True
  | .d x, v => ∃ w, v = some w ∧ Dx K (Zof g O) H w x
  | .own xs, v => ∃ p vs, v = some (.ref p) ∧ p ∈ O ∧ g.H0 p = none ∧ H p = some (.lst vs) ∧ DxAll K (Zof g O) H vs xs ∧ ¬ g.lo.has p
  | .lm, v => ∃ L F, g.lo.lm = some (L, F) ∧ v = some (.ref L)
  | .rm n, v => ∃ R, g.lo.rm.head? = some R ∧ v = some (.ref R) ∧ H R = some (.lst [.int n])
def atv (σ : L2.St) (i : Nat) : Option V := (σ[i]?).join
theorem atv_some {σ : L2.St} {i : Nat} {v : V} (h : atv σ i = some v) : σ[i]? = some (some v) := by
  unfold atv at h
  cases e : σ[i]? with
  | none => rw [e] at h; cases h
  | some w => rw [e] at h; rw [← h]; rfl
theorem atv_set {σ : L2.St} {i j : Nat} {v : V} (h : i < σ.length) : atv (σ.set i (some v)) j = if i = j then some v else atv σ j := by
  unfold atv
  rw [List.getElem?_set]
  by_cases e : i = j
  · subst e
    simp [h]
  · simp [e]
structure Rep (K : PySem.W.Frag) (g : Gh) (O : List Addr) (ρ : En) (σ : L2.St) (H : Hp) : Prop where
  len : ρ.length = σ.length
  at_ : ∀ (i : Nat) (s : SV), ρ[i]? = some s → SlotOk K g O H s (atv σ i)
  uniq : ∀ (i j : Nat) (xs ys : List PyData) (p : Addr), ρ[i]? = some (.own xs) → ρ[j]? = some (.own ys) → atv σ i = some (.ref p) → atv σ j = some (.ref p) → i = j
  live : ∀ p ∈ O, H p ≠ none
  base : Gr g.lo g.H0 H
  loom : LoomOk g O H
/-- what was data stays data -/
def Kps (K : PySem.W.Frag) (g : Gh) (O : List Addr) (H : Hp) (O' : List Addr) (H' : Hp) : Prop := ∀ v d, Dx K (Zof g O) H v d → Dx K (Zof g O') H' v d
theorem Kps.refl {g : Gh} {O : List Addr} {H : Hp} : Kps K g O H O H := fun _ _ h => h
theorem Kps.trans {g : Gh} {O O1 O2 : List Addr} {H H1 H2 : Hp} (a : Kps K g O H O1 H1) (b : Kps K g O1 H1 O2 H2) : Kps K g O H O2 H2 := fun v d h => b v d (a v d h)
theorem Kps.all {g : Gh} {O O1 : List Addr} {H H1 : Hp} (a : Kps K g O H O1 H1) : ∀ {vs : List V} {ds : List PyData}, DxAll K (Zof g O) H vs ds → DxAll K (Zof g O1) H1 vs ds
  | _, _, .nil => .nil
  | _, _, .cons h r => .cons (a _ _ h) (Kps.all a r)
variable {g : Gh} {O : List Addr} {ρ : En} {σ : L2.St} {H H' : Hp}
theorem Rep.zone (R : Rep K g O ρ σ H) {a : Addr} (h : Zof g O a ∨ H a = none) : Zof g O a := by
  rcases h with h | h
  · exact h
  · refine ⟨.inr ?_, fun m => R.live a m h⟩
    cases e : g.H0 a with
    | none => rfl
    | some o =>
      have := R.base.keep (p := a) (fun q => R.loom.ok.ex q h) e
      rw [h] at this
      cases this
theorem Rep.grow (R : Rep K g O ρ σ H) (rk : Gk g.lo H H') : Rep K g O ρ σ H' := by
  have r := rk.gr
  have lk : LoomOk g O H' := ⟨r.ok R.loom.ok, R.loom.nz⟩
  refine ⟨R.len, fun i s e => ?_, R.uniq, fun p hp => ?_, R.base.trans r, lk⟩
  · have q := R.at_ i s e
    cases s with
    | un => exact trivial
    | d x =>
      obtain ⟨w, h1, h2⟩ := q
      exact ⟨w, h1, dx_gr r R.loom h2⟩
    | own xs =>
      obtain ⟨p, vs, h1, h2, h3, h4, h5, h6⟩ := q
      exact ⟨p, vs, h1, h2, h3, r.keep h6 h4, dxAll_gr r R.loom h5, h6⟩
    | lm => exact q
    | rm n =>
      obtain ⟨R1, h1, h2, h3⟩ := q
      exact ⟨R1, h1, h2, rk.rm R1 _ (hd_mem h1) h3⟩
  · intro z
    cases e : H p with
    | none => exact R.live p hp e
    | some o =>
      by_cases hl : g.lo.has p
      · exact lk.ok.ex hl z
      · rw [r.keep hl e] at z
        cases z
theorem Rep.kps (R : Rep K g O ρ σ H) (r : Gr g.lo H H') : Kps K g O H O H' := fun _ _ h => dx_gr r R.loom h
theorem Rep.res (R : Rep K g O ρ σ H) (r : Gk g.lo H H') {v : V} {d : PyData} (h : Dx K (fun a => Zof g O a ∨ H a = none) H' v d) : Rep K g O ρ σ H' ∧ Kps K g O H O H' ∧ Dx K (Zof g O) H' v d :=
  ⟨R.grow r, R.kps r.gr, dx_monoL (fun _ z => R.zone z) h⟩
theorem Rep.var (R : Rep K g O ρ σ H) {i : Nat} {d : PyData} (e : ρ[i]? = some (.d d)) : ∃ v, σ[i]? = some (some v) ∧ Dx K (Zof g O) H v d := by
  obtain ⟨w, h1, h2⟩ := R.at_ i _ e
  exact ⟨w, atv_some h1, h2⟩
theorem Rep.set (R : Rep K g O ρ σ H) {i : Nat} {v : V} {d : PyData} (h : Dx K (Zof g O) H v d) : Rep K g O (ρ.set i (.d d)) (σ.set i (some v)) H := by
  by_cases hi : i < σ.length
  · refine ⟨by rw [List.length_set, List.length_set]; exact R.len, fun j s e => ?_, fun j k xs ys p e1 e2 a1 a2 => ?_, R.live, R.base, R.loom⟩
    · rw [List.getElem?_set] at e
      rw [atv_set hi]
      by_cases ij : i = j
      · rw [if_pos ij] at e ⊢
        rw [if_pos (by rw [R.len]; exact hi)] at e
        cases e
        exact ⟨v, rfl, h⟩
      · rw [if_neg ij] at e ⊢
        exact R.at_ j s e
    · rw [List.getElem?_set] at e1 e2
      rw [atv_set hi] at a1 a2
      by_cases ij : i = j
      · rw [if_pos ij] at e1
        split at e1 <;> cases e1
      · by_cases ik : i = k
        · rw [if_pos ik] at e2
          split at e2 <;> cases e2
        · rw [if_neg ij] at e1 a1
          rw [if_neg ik] at e2 a2
          exact R.uniq j k xs ys p e1 e2 a1 a2
  · rw [List.set_eq_of_length_le (Nat.le_of_not_lt hi), List.set_eq_of_length_le (by rw [R.len]; exact Nat.le_of_not_lt hi)]
    exact R
theorem Rep.setLm (R : Rep K g O ρ σ H) {i : Nat} {L F : Addr} (h : g.lo.lm = some (L, F)) : Rep K g O (ρ.set i .lm) (σ.set i (some (.ref L))) H := by
  by_cases hi : i < σ.length
  · refine ⟨by rw [List.length_set, List.length_set]; exact R.len, fun j s e => ?_, fun j k xs ys p e1 e2 a1 a2 => ?_, R.live, R.base, R.loom⟩
    · rw [List.getElem?_set] at e
      rw [atv_set hi]
      by_cases ij : i = j
      · rw [if_pos ij] at e ⊢
        rw [if_pos (by rw [R.len]; exact hi)] at e
        cases e
        exact ⟨L, F, h, rfl⟩
      · rw [if_neg ij] at e ⊢
        exact R.at_ j s e
    · rw [List.getElem?_set] at e1 e2
      rw [atv_set hi] at a1 a2
      by_cases ij : i = j
      · rw [if_pos ij] at e1
        split at e1 <;> cases e1
      · by_cases ik : i = k
        · rw [if_pos ik] at e2
          split at e2 <;> cases e2
        · rw [if_neg ij] at e1 a1
          rw [if_neg ik] at e2 a2
          exact R.uniq j k xs ys p e1 e2 a1 a2
  · rw [List.set_eq_of_length_le (Nat.le_of_not_lt hi), List.set_eq_of_length_le (by rw [R.len]; exact Nat.le_of_not_lt hi)]
    exact R
/-- what is known of a new list -/
structure New (g : Gh) (ρ : En) (σ : L2.St) (p : Addr) : Prop where
  h0 : g.H0 p = none
  sl : ∀ (j : Nat) (ys : List PyData), ρ[j]? = some (.own ys) → atv σ j ≠ some (.ref p)
  nl : ¬ g.lo.has p
theorem Rep.setOwn {p : Addr} {vs : List V} {xs : List PyData} (R : Rep K g O ρ σ H) (hm : p ∈ O) (n : New g ρ σ p) {i : Nat} (e : H p = some (.lst vs)) (h : DxAll K (Zof g O) H vs xs) :
    Rep K g O (ρ.set i (.own xs)) (σ.set i (some (.ref p))) H := by
  by_cases hi : i < σ.length
  · refine ⟨by rw [List.length_set, List.length_set]; exact R.len, fun j s e1 => ?_, fun j k xs ys q e1 e2 a1 a2 => ?_, R.live, R.base, R.loom⟩
    · rw [List.getElem?_set] at e1
      rw [atv_set hi]
      by_cases ij : i = j
      · rw [if_pos ij] at e1 ⊢
        rw [if_pos (by rw [R.len]; exact hi)] at e1
        cases e1
        exact ⟨p, vs, rfl, hm, n.h0, e, h, n.nl⟩
      · rw [if_neg ij] at e1 ⊢
        exact R.at_ j s e1
    · rw [List.getElem?_set] at e1 e2
      rw [atv_set hi] at a1 a2
      by_cases ij : i = j
      · by_cases ik : i = k
        · exact ij.symm.trans ik
        · rw [if_pos ij] at a1
          rw [if_neg ik] at e2 a2
          cases a1
          exact absurd a2 (n.sl k ys e2)
      · by_cases ik : i = k
        · rw [if_pos ik] at a2
          rw [if_neg ij] at e1 a1
          cases a2
          exact absurd a1 (n.sl j xs e1)
        · rw [if_neg ij] at e1 a1
          rw [if_neg ik] at e2 a2
          exact R.uniq j k xs ys q e1 e2 a1 a2
  · rw [List.set_eq_of_length_le (Nat.le_of_not_lt hi), List.set_eq_of_length_le (by rw [R.len]; exact Nat.le_of_not_lt hi)]
    exact R
theorem zof_drop {p : Addr} {a : Addr} (h : Zof g (p :: O) a) : Zof g O a := ⟨h.1, fun m => h.2 (List.mem_cons_of_mem _ m)⟩
theorem Rep.drop {p : Addr} (R : Rep K g (p :: O) ρ σ H) (n : New g ρ σ p) : Rep K g O ρ σ H := by
  refine ⟨R.len, fun i s e => ?_, R.uniq, fun q hq => R.live q (List.mem_cons_of_mem _ hq), R.base, R.loom.ok, fun q hq => ?_⟩
  · have q := R.at_ i s e
    cases s with
    | un => exact trivial
    | d x =>
      obtain ⟨w, h1, h2⟩ := q
      exact ⟨w, h1, dx_monoL (fun _ => zof_drop) h2⟩
    | own xs =>
      obtain ⟨r, vs, h1, h2, h3, h4, h5, h6⟩ := q
      refine ⟨r, vs, h1, ?_, h3, h4, dxAll_monoL (fun _ => zof_drop) h5, h6⟩
      rcases List.mem_cons.mp h2 with z | z
      · subst z
        exact absurd h1 (n.sl i xs e)
      · exact z
    | lm => exact q
    | rm n => exact q
  · refine fun z => R.loom.nz q hq ⟨z.1, fun m => ?_⟩
    rcases List.mem_cons.mp m with w | w
    · exact n.nl (w ▸ hq)
    · exact z.2 w
theorem Kps.drop {p : Addr} {O1 : List Addr} (k : Kps K g O H (p :: O1) H') : Kps K g O H O1 H' := fun v d h => dx_monoL (fun _ => zof_drop) (k v d h)
mutual
theorem dx_away {Z : Addr → Prop} {p : Addr} (hp : H p = none) : ∀ {v : V} {d : PyData}, Dx K Z H v d → Dx K (fun a => Z a ∧ a ≠ p) H v d
  | _, _, .non => .non
  | _, _, .bl b => .bl b
  | _, _, .int i => .int i
  | _, _, .str x => .str x
  | _, _, .lst e z h => .lst e ⟨z, ne_of_none e hp⟩ (dxAll_away hp h)
  | _, _, .tup e h => .tup e (dxAll_away hp h)
  | _, _, .dct e z h => .dct e ⟨z, ne_of_none e hp⟩ (dxKv_away hp h)
theorem dxAll_away {Z : Addr → Prop} {p : Addr} (hp : H p = none) : ∀ {v : List V} {d : List PyData}, DxAll K Z H v d → DxAll K (fun a => Z a ∧ a ≠ p) H v d
  | _, _, .nil => .nil
  | _, _, .cons h r => .cons (dx_away hp h) (dxAll_away hp r)
theorem dxKv_away {Z : Addr → Prop} {p : Addr} (hp : H p = none) : ∀ {v : List (Key × V)} {d : List (PyData × PyData)}, DxKv K Z H v d → DxKv K (fun a => Z a ∧ a ≠ p) H v d
  | _, _, .nil => .nil
  | _, _, .cons h r => .cons (dx_away hp h) (dxKv_away hp r)
end
theorem zof_cons {p a : Addr} (h : Zof g O a ∧ a ≠ p) : Zof g (p :: O) a := ⟨h.1.1, fun m => by
  rcases List.mem_cons.mp m with w | w
  · exact h.2 w
  · exact h.1.2 w⟩
/-- a new object comes and is ours -/
theorem Rep.fresh (R : Rep K g O ρ σ H) {p : Addr} (hp : H p = none) (o : HO) : Rep K g (p :: O) ρ σ (upd H p o) ∧ New g ρ σ p ∧ Kps K g O H (p :: O) (upd H p o) := by
  have sm : Same H (upd H p o) := same_new hp
  have R1 := R.grow (Gk.of_same sm)
  have z0 := R.zone (a := p) (.inr hp)
  have nl : ¬ g.lo.has p := fun e => R.loom.nz p e z0
  have h0 : g.H0 p = none := by
    cases e : g.H0 p with
    | none => rfl
    | some u =>
      have := R.base.keep nl e
      rw [hp] at this
      cases this
  have up : ∀ {v d}, Dx K (Zof g O) H v d → Dx K (Zof g (p :: O)) (upd H p o) v d := fun h => dx_same sm (dx_monoL (fun _ => zof_cons) (dx_away hp h))
  have ups : ∀ {vs ds}, DxAll K (Zof g O) H vs ds → DxAll K (Zof g (p :: O)) (upd H p o) vs ds := fun h => dxAll_same sm (dxAll_monoL (fun _ => zof_cons) (dxAll_away hp h))
  refine ⟨⟨R.len, fun i s e => ?_, R.uniq, fun q hq => ?_, R1.base, R1.loom.ok, fun q hq z => R1.loom.nz q hq (zof_drop z)⟩, ⟨h0, fun j ys e z => ?_, nl⟩, fun v d h => up h⟩
  · have q := R.at_ i s e
    cases s with
    | un => exact trivial
    | d x =>
      obtain ⟨w, h1, h2⟩ := q
      exact ⟨w, h1, up h2⟩
    | own xs =>
      obtain ⟨r, vs, h1, h2, h3, h4, h5, h6⟩ := q
      exact ⟨r, vs, h1, List.mem_cons_of_mem _ h2, h3, sm _ _ h4, ups h5, h6⟩
    | lm => exact q
    | rm n =>
      obtain ⟨R1, h1, h2, h3⟩ := q
      exact ⟨R1, h1, h2, sm _ _ h3⟩
  · rcases List.mem_cons.mp hq with rfl | hq
    · rw [upd_same]
      exact fun z => nomatch z
    · exact R1.live q hq
  · obtain ⟨r, vs, h1, h2, h3, h4, h5, h6⟩ := R.at_ j _ e
    rw [z] at h1
    cases h1
    rw [hp] at h4
    cases h4
/-- a list of one's own is changed -/
theorem Rep.write (R : Rep K g O ρ σ H) {i : Nat} {xs ys : List PyData} {p : Addr} {vs ws : List V} (e : ρ[i]? = some (.own xs)) (ea : atv σ i = some (.ref p)) (e1 : H p = some (.lst vs)) (h : DxAll K (Zof g O) H ws ys) :
    Rep K g O (ρ.set i (.own ys)) σ (upd H p (.lst ws)) ∧ Kps K g O H O (upd H p (.lst ws)) := by
  obtain ⟨p', vs', h1, h2, h3, h4, h5, h6⟩ := R.at_ i _ e
  rw [ea] at h1
  cases h1
  have tupK : ∀ a (zs : List V), SqT K H a zs → SqT K (upd H p (.lst ws)) a zs := fun a zs q => by
    rcases q with (q | ⟨o, q⟩) | q
    · exact .inl (.inl (by rw [upd_ne (ne_of q e1 (by intro z; cases z))]; exact q))
    · exact .inl (.inr ⟨o, by rw [upd_ne (ne_of q e1 (by intro z; cases z))]; exact q⟩)
    · exact .inr q
  have zK : ∀ a o, Zof g O a → H a = some o → (upd H p (.lst ws)) a = some o := fun a o z q => by
    rw [upd_ne (fun (w : a = p) => z.2 (by rw [w]; exact h2))]
    exact q
  have up : ∀ {v d}, Dx K (Zof g O) H v d → Dx K (Zof g O) (upd H p (.lst ws)) v d := fun h => dx_keep tupK zK h
  have ups : ∀ {v d}, DxAll K (Zof g O) H v d → DxAll K (Zof g O) (upd H p (.lst ws)) v d := fun h => dxAll_keep tupK zK h
  have hi : i < ρ.length := (List.getElem?_eq_some_iff.mp e).1
  have gr : Gr g.lo g.H0 (upd H p (.lst ws)) := ⟨fun a o n q => by
    rw [upd_ne (ne_of_none q h3)]
    exact R.base.kp a o n q, fun hl => (R.base.ok hl).upd h6⟩
  refine ⟨⟨by rw [List.length_set]; exact R.len, fun j s ej => ?_, fun j k xs1 ys1 q e2 e3 a1 a2 => ?_, fun q hq => ?_, gr, R.loom.ok.upd h6, R.loom.nz⟩, fun _ _ => up⟩
  · rw [List.getElem?_set] at ej
    by_cases ij : i = j
    · rw [if_pos ij, if_pos hi] at ej
      cases ej
      subst ij
      exact ⟨p, ws, ea, h2, h3, upd_same, ups h, h6⟩
    · rw [if_neg ij] at ej
      have q := R.at_ j s ej
      cases s with
      | un => exact trivial
      | d x =>
        obtain ⟨w, b1, b2⟩ := q
        exact ⟨w, b1, up b2⟩
      | own zs =>
        obtain ⟨r, us, b1, b2, b3, b4, b5, b6⟩ := q
        have nr : r ≠ p := fun w => ij (R.uniq i j xs zs p e ej ea (w ▸ b1))
        exact ⟨r, us, b1, b2, b3, by rw [upd_ne nr]; exact b4, ups b5, b6⟩
      | lm => exact q
      | rm n =>
        obtain ⟨R1, b1, b2, b3⟩ := q
        exact ⟨R1, b1, b2, by rw [upd_ne (fun (z : R1 = p) => h6 (.inr (z ▸ hd_mem b1)))]; exact b3⟩
  · rw [List.getElem?_set] at e2 e3
    have f : ∀ k zs, (if i = k then (if i < ρ.length then some (SV.own ys) else none) else ρ[k]?) = some (.own zs) → ∃ zs', ρ[k]? = some (.own zs') := fun k zs q => by
      by_cases ik : i = k
      · subst ik
        exact ⟨xs, e⟩
      · rw [if_neg ik] at q
        exact ⟨zs, q⟩
    obtain ⟨_, q1⟩ := f j _ e2
    obtain ⟨_, q2⟩ := f k _ e3
    exact R.uniq j k _ _ q q1 q2 a1 a2
  · intro z
    by_cases hq2 : q = p
    · subst hq2
      rw [upd_same] at z
      cases z
    · rw [upd_ne hq2] at z
      exact R.live q hq z
/-- a list of one's own is no longer changed: it is data -/
theorem Rep.freeze (R : Rep K g O ρ σ H) {i : Nat} {xs : List PyData} (e : ρ[i]? = some (.own xs)) : ∃ O', Rep K g O' (ρ.set i (.d (.list xs))) σ H ∧ Kps K g O H O' H := by
  obtain ⟨p, vs, h1, h2, h3, h4, h5, h6⟩ := R.at_ i _ e
  have hi : i < ρ.length := (List.getElem?_eq_some_iff.mp e).1
  have zm : ∀ a, Zof g O a → Zof g (O.filter (· ≠ p)) a := fun a z => ⟨z.1, fun m => z.2 (List.mem_filter.mp m).1⟩
  have zp : Zof g (O.filter (· ≠ p)) p := ⟨.inr h3, fun m => by simpa using (List.mem_filter.mp m).2⟩
  refine ⟨O.filter (· ≠ p), ⟨by rw [List.length_set]; exact R.len, fun j s ej => ?_, fun j k xs1 ys1 q e2 e3 a1 a2 => ?_, fun q hq => R.live q (List.mem_filter.mp hq).1, R.base, R.loom.ok, fun q hq z => R.loom.nz q hq ⟨z.1, fun m => z.2 (List.mem_filter.mpr ⟨m, by simpa using fun (w : q = p) => h6 (w ▸ hq)⟩)⟩⟩, fun v d h => dx_monoL zm h⟩
  · rw [List.getElem?_set] at ej
    by_cases ij : i = j
    · rw [if_pos ij, if_pos hi] at ej
      cases ej
      subst ij
      exact ⟨.ref p, h1, .lst h4 zp (dxAll_monoL zm h5)⟩
    · rw [if_neg ij] at ej
      have q := R.at_ j s ej
      cases s with
      | un => exact trivial
      | d x =>
        obtain ⟨w, b1, b2⟩ := q
        exact ⟨w, b1, dx_monoL zm b2⟩
      | own zs =>
        obtain ⟨r, us, b1, b2, b3, b4, b5, b6⟩ := q
        have nr : r ≠ p := fun w => ij (R.uniq i j xs zs p e ej h1 (w ▸ b1))
        exact ⟨r, us, b1, List.mem_filter.mpr ⟨b2, by simpa using nr⟩, b3, b4, dxAll_monoL zm b5, b6⟩
      | lm => exact q
      | rm n => exact q
  · rw [List.getElem?_set] at e2 e3
    by_cases ij : i = j
    · rw [if_pos ij] at e2
      split at e2 <;> cases e2
    · by_cases ik : i = k
      · rw [if_pos ik] at e3
        split at e3 <;> cases e3
      · rw [if_neg ij] at e2
        rw [if_neg ik] at e3
        exact R.uniq j k _ _ q e2 e3 a1 a2
end
end Ev

set_option exponentiation.threshold 256
/-! the layer of data, 2: readings of expressions, over data -/
namespace Ev
open PySem PySem.Spec PyProof.Rows L2
/-- of what comes, and what the names hold then -/
abbrev Wp (α : Type) := En → (α → En → Prop) → Prop
def Mono {α : Type} (t : Wp α) : Prop := ∀ (ρ : En) (P Q : α → En → Prop), (∀ a ρ', P a ρ' → Q a ρ') → t ρ P → t ρ Q
/-- how a result is borne -/
abbrev Bear (α β : Type) := Gh → List Addr → List Addr → En → L2.St → Hp → β → α → Prop
section
variable [Lo]
/-- what stays: what is ours, what was data, the lists that are pending -/
structure Kp1 (K : PySem.W.Frag) (g : Gh) (O : List Addr) (ρ : En) (σ : L2.St) (H : Hp) (O' : List Addr) (ρ' : En) (H' : Hp) : Prop where
  sub : ∀ p, p ∈ O → p ∈ O'
  dat : Kps K g O H O' H'
  pnd : ∀ p vs, p ∈ O → Ev.New g ρ σ p → H p = some (.lst vs) → Ev.New g ρ' σ p ∧ H' p = some (.lst vs)
section
variable {K : PySem.W.Frag} {g : Gh} {O O1 O2 : List Addr} {ρ ρ1 ρ2 : En} {σ : L2.St} {H H1 H2 : Hp}
theorem Kp1.refl : Kp1 K g O ρ σ H O ρ H := ⟨fun _ h => h, Kps.refl, fun _ _ _ n e => ⟨n, e⟩⟩
theorem Kp1.trans (a : Kp1 K g O ρ σ H O1 ρ1 H1) (b : Kp1 K g O1 ρ1 σ H1 O2 ρ2 H2) : Kp1 K g O ρ σ H O2 ρ2 H2 :=
  ⟨fun p h => b.sub p (a.sub p h), a.dat.trans b.dat, fun p vs m n e => by
    obtain ⟨n1, e1⟩ := a.pnd p vs m n e
    exact b.pnd p vs (a.sub p m) n1 e1⟩
theorem Rep.kp1 (R : Rep K g O ρ σ H) (s : Same H H1) : Kp1 K g O ρ σ H O ρ H1 := ⟨fun _ h => h, R.kps (Gr.of_same s), fun _ _ _ n e => ⟨n, s _ _ e⟩⟩
theorem Rep.kp1g (R : Rep K g O ρ σ H) (s : Gr g.lo H H1) : Kp1 K g O ρ σ H O ρ H1 := ⟨fun _ h => h, R.kps s, fun _ _ _ n e => ⟨n, s.keep n.nl e⟩⟩
theorem Rep.fresh1 (R : Rep K g O ρ σ H) {p : Addr} (hp : H p = none) (o : HO) : Rep K g (p :: O) ρ σ (upd H p o) ∧ Ev.New g ρ σ p ∧ Kp1 K g O ρ σ H (p :: O) ρ (upd H p o) := by
  obtain ⟨a, b, c⟩ := R.fresh hp o
  exact ⟨a, b, fun _ h => List.mem_cons_of_mem _ h, c, fun q vs _ n e => ⟨n, same_new hp _ _ e⟩⟩
theorem Kp1.drop {p : Addr} (k : Kp1 K g O ρ σ H (p :: O1) ρ1 H1) (n : p ∉ O) : Kp1 K g O ρ σ H O1 ρ1 H1 :=
  ⟨fun q h => (List.mem_cons.mp (k.sub q h)).elim (fun e => absurd (e ▸ h) n) id, k.dat.drop, k.pnd⟩
end
def lift {α β : Type} (K : PySem.W.Frag) (P : Bear α β) (t : Wp α) : L2.St → Hp → (β → Hp → Prop) → Prop := fun σ H Q =>
  ∃ g O ρ, Rep K g O ρ σ H ∧ t ρ fun a ρ' => ∀ O' H' b, Rep K g O' ρ' σ H' → Kp1 K g O ρ σ H O' ρ' H' → P g O O' ρ' σ H' b a → Q b H'
theorem lift_go {α β : Type} {K : PySem.W.Frag} {P : Bear α β} {t : Wp α} {σ : L2.St} {H : Hp} {Q : β → Hp → Prop} {g : Gh} {O : List Addr} {ρ : En} {G : α → En → Prop} (m : Mono t) (R : Rep K g O ρ σ H) (q : t ρ G)
    (k : ∀ a ρ1 O1 H1 b, Rep K g O1 ρ1 σ H1 → Kp1 K g O ρ σ H O1 ρ1 H1 → P g O O1 ρ1 σ H1 b a → G a ρ1 → Q b H1) : lift K P t σ H Q :=
  ⟨g, O, ρ, R, m ρ _ _ (fun a ρ' p O' H' b R' kk hp => k a ρ' O' H' b R' kk hp p) q⟩
/-- the top of a list may be one's own -/
def DxS (K : PySem.W.Frag) (Z : Addr → Prop) (H : Hp) (v : V) : PyData → Prop
  | .list xs => ∃ a vs, v = .ref a ∧ H a = some (.lst vs) ∧ DxAll K Z H vs xs
  | d => Dx K Z H v d
theorem dx_s {K : PySem.W.Frag} {Z : Addr → Prop} {H : Hp} {v : V} {d : PyData} (h : Dx K Z H v d) : DxS K Z H v d := by
  cases h with
  | lst e z h => exact ⟨_, _, rfl, e, h⟩
  | non => exact .non
  | bl b => exact .bl b
  | int i => exact .int i
  | str x => exact .str x
  | tup e h => exact .tup e h
  | dct e z h => exact .dct e z h
/-- with some zone it is data -/
theorem dxs_any {K : PySem.W.Frag} {Z : Addr → Prop} {H : Hp} {v : V} {d : PyData} (h : DxS K Z H v d) : Dx K (fun _ => True) H v d := by
  cases d with
  | list xs =>
    obtain ⟨a, vs, rfl, e, h⟩ := h
    exact .lst e trivial (dxAll_monoL (fun _ _ => trivial) h)
  | _ => exact dx_monoL (fun _ _ => trivial) (show Dx K Z H v _ from h)
def PD (K : PySem.W.Frag) : Bear PyData V := fun g _ O _ _ H v d => Dx K (Zof g O) H v d
def PR (K : PySem.W.Frag) : Bear PyData V := fun g _ O _ _ H v d => DxS K (Zof g O) H v d
def PB : Bear Bool Bool := fun _ _ _ _ _ _ b a => b = a
def PL (K : PySem.W.Frag) : Bear (List PyData) (List V) := fun g _ O _ _ H vs ds => DxAll K (Zof g O) H vs ds
/-- a new list -/
def PF (K : PySem.W.Frag) : Bear (List PyData) V := fun g Oi O ρ σ H v xs => ∃ p vs O1, v = .ref p ∧ O = p :: O1 ∧ p ∉ O1 ∧ p ∉ Oi ∧ Ev.New g ρ σ p ∧ H p = some (.lst vs) ∧ DxAll K (Zof g O) H vs xs
def ArgOk (K : PySem.W.Frag) (lo : Lw) (Z : Addr → Prop) (H : Hp) : SV → V → Prop
  | .d x, v => Dx K Z H v x
  | .lm, v => ∃ L F, lo.lm = some (L, F) ∧ v = .ref L
  | _, _ => False
inductive ArgsOk (K : PySem.W.Frag) (lo : Lw) (Z : Addr → Prop) (H : Hp) : List SV → List V → Prop
  | nil : ArgsOk K lo Z H [] []
  | cons {s : SV} {v : V} {ss : List SV} {vs : List V} (h : ArgOk K lo Z H s v) (r : ArgsOk K lo Z H ss vs) : ArgsOk K lo Z H (s :: ss) (v :: vs)
def PAr (K : PySem.W.Frag) : Bear (List SV) (List V) := fun g _ O _ _ H vs ss => ArgsOk K g.lo (Zof g O) H ss vs
variable {X : Cx}
theorem _root_.L2.PE.weaken {e : Expr} {t t' : TE} (h : PE X e t) (w : ∀ σ H Q, t' σ H Q → t σ H Q) : PE X e t' := ⟨fun pins s σ H Q I q => h.run pins s σ H Q I (w σ H Q q)⟩
theorem _root_.L2.PT.weaken {e : Expr} {t t' : TT} (h : PT X e t) (w : ∀ σ H Q, t' σ H Q → t σ H Q) : PT X e t' := ⟨fun pins s σ H Q I q => h.run pins s σ H Q I (w σ H Q q)⟩
theorem _root_.L2.PW.weaken {e : Expr} {t t' : TT} (h : PW X e t) (w : ∀ σ H Q, t' σ H Q → t σ H Q) : PW X e t' := ⟨fun wh pins s σ H Q I q => h.run wh pins s σ H Q I (w σ H Q q)⟩
theorem _root_.L2.PA.weaken {es : List Expr} {t t' : TA} (h : PA X es t) (w : ∀ σ H Q, t' σ H Q → t σ H Q) : PA X es t' := ⟨fun pos pins s σ H Q I q => h.run pos pins s σ H Q I (w σ H Q q)⟩
/-! ### the judgements -/
structure DE (X : Cx) (e : Expr) (t : Wp PyData) : Prop where
  mono : Mono t
  run : PE X e (lift X.K (PD X.K) t)
structure DR (X : Cx) (e : Expr) (t : Wp PyData) : Prop where
  mono : Mono t
  run : PE X e (lift X.K (PR X.K) t)
structure DF (X : Cx) (e : Expr) (t : Wp (List PyData)) : Prop where
  mono : Mono t
  run : PE X e (lift X.K (PF X.K) t)
structure DT (X : Cx) (e : Expr) (t : Wp Bool) : Prop where
  mono : Mono t
  run : PT X e (lift X.K PB t)
structure DW (X : Cx) (e : Expr) (t : Wp Bool) : Prop where
  mono : Mono t
  run : PW X e (lift X.K PB t)
structure DA (X : Cx) (es : List Expr) (t : Wp (List PyData)) : Prop where
  mono : Mono t
  run : PA X es (lift X.K (PL X.K) t)
structure DG (X : Cx) (es : List Expr) (t : Wp (List SV)) : Prop where
  mono : Mono t
  run : PA X es (lift X.K (PAr X.K) t)
variable {a b c e : Expr} {es : List Expr} {ta tb tc : Wp PyData} {pos : Pos}
theorem DE.r (h : DE X e ta) : DR X e ta := ⟨h.mono, h.run.weaken fun σ H Q ⟨g, O, ρ, R, q⟩ => lift_go h.mono R q fun d ρ1 O1 H1 v R1 k dx p => p O1 H1 v R1 k (dx_s dx)⟩
def dLs (t : Wp (List PyData)) : Wp PyData := fun ρ Q => t ρ fun xs ρ' => Q (.list xs) ρ'
theorem DF.de {t : Wp (List PyData)} (h : DF X e t) : DE X e (dLs t) := by
  refine ⟨fun ρ P Q k q => h.mono ρ _ _ (fun xs ρ' p => k _ _ p) q, h.run.weaken fun σ H Q ⟨g, O, ρ, R, q⟩ => lift_go h.mono R q fun xs ρ1 O1 H1 v R1 k hp p => ?_⟩
  obtain ⟨l, vs, O2, rfl, rfl, nm, ni, n, e, dx⟩ := hp
  exact p O2 H1 _ (R1.drop n) (k.drop ni) (.lst e ⟨.inr n.h0, nm⟩ (dxAll_monoL (fun _ => zof_drop) dx))
/-! ### constants and names -/
def dC (d : PyData) : Wp PyData := fun ρ Q => Q d ρ
theorem de_const {v : V} {d : PyData} (h : PE X e (tC v)) (hd : ∀ Z H, Dx X.K Z H v d) : DE X e (dC d) :=
  ⟨fun ρ P Q k q => k _ _ q, h.weaken fun σ H Q ⟨g, O, ρ, R, q⟩ => q O H v R Kp1.refl (hd _ _)⟩
theorem de_int {i : Int} {j} : DE X (.Constant (.int i) j pos) (dC (.int i)) := de_const pe_int fun _ _ => .int i
theorem de_bl {i : Bool} {j} : DE X (.Constant (.bool i) j pos) (dC (.bool i)) := de_const pe_bl fun _ _ => .bl i
theorem de_non {j} : DE X (.Constant .none j pos) (dC .none) := de_const pe_non fun _ _ => .non
theorem de_str {x : Str} {j} : DE X (.Constant (.str x) j pos) (dC (.str x)) := de_const pe_str fun _ _ => .str x
def dV (i : Nat) : Wp PyData := fun ρ Q => match ρ[i]? with
  | some (.d d) => Q d ρ
  | _ => False
theorem dV_ex {i : Nat} {ρ : En} {Q : PyData → En → Prop} (h : dV i ρ Q) : ∃ d, ρ[i]? = some (.d d) ∧ Q d ρ := by
  unfold dV at h
  split at h
  · exact ⟨_, by assumption, h⟩
  · exact h.elim
theorem dV_of {i : Nat} {ρ : En} {Q : PyData → En → Prop} {d : PyData} (e : ρ[i]? = some (.d d)) (h : Q d ρ) : dV i ρ Q := by
  unfold dV
  rw [e]
  exact h
theorem de_v {i : Nat} (h : PE X e (tVar i)) : DE X e (dV i) := by
  refine ⟨fun ρ P Q k q => ?_, h.weaken fun σ H Q ⟨g, O, ρ, R, q⟩ => ?_⟩
  · obtain ⟨d, e, p⟩ := dV_ex q
    exact dV_of e (k _ _ p)
  · obtain ⟨d, e, p⟩ := dV_ex q
    obtain ⟨v, e1, dx⟩ := R.var e
    exact ⟨v, e1, p O H v R Kp1.refl dx⟩
/-- a list of one's own, looked at -/
def dO (i : Nat) : Wp PyData := fun ρ Q => match ρ[i]? with
  | some (.own xs) => Q (.list xs) ρ
  | _ => False
theorem dO_ex {i : Nat} {ρ : En} {Q : PyData → En → Prop} (h : dO i ρ Q) : ∃ xs, ρ[i]? = some (.own xs) ∧ Q (.list xs) ρ := by
  unfold dO at h
  split at h
  · exact ⟨_, by assumption, h⟩
  · exact h.elim
theorem dO_of {i : Nat} {ρ : En} {Q : PyData → En → Prop} {xs : List PyData} (e : ρ[i]? = some (.own xs)) (h : Q (.list xs) ρ) : dO i ρ Q := by
  unfold dO
  rw [e]
  exact h
theorem Rep.own {K : PySem.W.Frag} {g : Gh} {O : List Addr} {ρ : En} {σ : L2.St} {H : Hp} (R : Rep K g O ρ σ H) {i : Nat} {xs : List PyData} (e : ρ[i]? = some (.own xs)) :
    ∃ p vs, σ[i]? = some (some (.ref p)) ∧ H p = some (.lst vs) ∧ DxAll K (Zof g O) H vs xs := by
  obtain ⟨p, vs, h1, h2, h3, h4, h5, h6⟩ := R.at_ i _ e
  exact ⟨p, vs, atv_some h1, h4, h5⟩
theorem dr_o {i : Nat} (h : PE X e (tVar i)) : DR X e (dO i) := by
  refine ⟨fun ρ P Q k q => ?_, h.weaken fun σ H Q ⟨g, O, ρ, R, q⟩ => ?_⟩
  · obtain ⟨d, e, p⟩ := dO_ex q
    exact dO_of e (k _ _ p)
  · obtain ⟨d, e, p⟩ := dO_ex q
    obtain ⟨l, vs, e1, e2, dx⟩ := R.own e
    exact ⟨.ref l, e1, p O H _ R Kp1.refl ⟨l, vs, rfl, e2, dx⟩⟩
/-! ### operators, over data -/
abbrev OD := PyData → PyData → (PyData → Prop) → Prop
/-- what comes of a value rule: data, in a heap that has grown -/
def Res (K : PySem.W.Frag) (Z : Addr → Prop) (H : Hp) (Q : V → Hp → Prop) (d : PyData) : Prop := ∀ v H', Same H H' → Dx K (fun a => Z a ∨ H a = none) H' v d → Q v H'
structure OpD (X : Cx) (f : Value → Value → Sem Value) (od : OD) : Prop where
  mono : ∀ x y P Q, (∀ r, P r → Q r) → od x y P → od x y Q
  run : OpR X f (fun v u H Q => ∃ Z x y, DxS X.K Z H v x ∧ DxS X.K Z H u y ∧ od x y (Res X.K Z H Q))
theorem res_fin {K : PySem.W.Frag} {g : Gh} {O : List Addr} {ρ : En} {σ : L2.St} {H : Hp} {Q : V → Hp → Prop} {r : PyData} (R : Rep K g O ρ σ H)
    (q : ∀ O' H' v, Rep K g O' ρ σ H' → Kp1 K g O ρ σ H O' ρ H' → Dx K (Zof g O') H' v r → Q v H') : Res K (Zof g O) H Q r := fun v H' sm dx => by
  obtain ⟨a, b, c⟩ := R.res (Gk.of_same sm) dx
  exact q O H' v a (R.kp1 sm) c
def dOp (od : OD) (ta tb : Wp PyData) : Wp PyData := fun ρ Q => ta ρ fun x ρ1 => tb ρ1 fun y ρ2 => od x y fun r => Q r ρ2
theorem mono_op {od : OD} (m : ∀ x y P Q, (∀ r, P r → Q r) → od x y P → od x y Q) (ha : Mono ta) (hb : Mono tb) : Mono (dOp od ta tb) :=
  fun ρ P Q k q => ha ρ _ _ (fun x ρ1 q1 => hb ρ1 _ _ (fun y ρ2 q2 => m x y _ _ (fun r p => k r ρ2 p) q2) q1) q
theorem op_go {f : Value → Value → Sem Value} {od : OD} (ho : OpD X f od) (ha : DE X a ta) (hb : DR X b tb) : ∀ σ H Q, lift X.K (PD X.K) (dOp od ta tb) σ H Q →
    tOp (fun v u H Q => ∃ Z x y, DxS X.K Z H v x ∧ DxS X.K Z H u y ∧ od x y (Res X.K Z H Q)) (lift X.K (PD X.K) ta) (lift X.K (PR X.K) tb) σ H Q := fun σ H Q ⟨g, O, ρ, R, q⟩ =>
  lift_go ha.mono R q fun x ρ1 O1 H1 v R1 k1 dx q1 => lift_go hb.mono R1 q1 fun y ρ2 O2 H2 u R2 k2 dy q2 =>
    ⟨Zof g O2, x, y, dx_s (k2.dat _ _ dx), dy, ho.mono _ _ _ _ (fun r p => res_fin R2 fun O' H' w R' k' dw => p O' H' w R' ((k1.trans k2).trans k') dw) q2⟩
theorem de_op {op : Operator} {od : OD} (ho : OpD X (binaryOp op) od) (ha : DE X a ta) (hb : DR X b tb) : DE X (.BinOp a op b pos) (dOp od ta tb) :=
  ⟨mono_op ho.mono ha.mono hb.mono, (pe_op ho.run ha.run hb.run).weaken (op_go ho ha hb)⟩
/-- the first is a list of one's own -/
def dOpO (od : OD) (i : Nat) (tb : Wp PyData) : Wp PyData := fun ρ Q => match ρ[i]? with
  | some (.own _) => tb ρ fun y ρ2 => match ρ2[i]? with
    | some (.own xs) => od (.list xs) y fun r => Q r ρ2
    | _ => False
  | _ => False
theorem mono_opo {od : OD} {i : Nat} (m : ∀ x y P Q, (∀ r, P r → Q r) → od x y P → od x y Q) (hb : Mono tb) : Mono (dOpO od i tb) := fun ρ P Q k q => by
  unfold dOpO at q ⊢
  split at q
  · refine hb ρ _ _ (fun y ρ2 q2 => ?_) q
    split at q2
    · exact m _ _ _ _ (fun r p => k r ρ2 p) q2
    · exact q2.elim
  · exact q.elim
theorem opo_go {f : Value → Value → Sem Value} {od : OD} {i : Nat} (ho : OpD X f od) (hb : DR X b tb) : ∀ σ H Q, lift X.K (PD X.K) (dOpO od i tb) σ H Q →
    tOp (fun v u H Q => ∃ Z x y, DxS X.K Z H v x ∧ DxS X.K Z H u y ∧ od x y (Res X.K Z H Q)) (tVar i) (lift X.K (PR X.K) tb) σ H Q := fun σ H Q ⟨g, O, ρ, R, q⟩ => by
  unfold dOpO at q
  split at q
  · rename_i e
    obtain ⟨p0, _, h0, _⟩ := R.own e
    refine ⟨.ref p0, h0, lift_go hb.mono R q fun y ρ2 O2 H2 u R2 k2 dy q2 => ?_⟩
    dsimp only at q2
    split at q2
    · rename_i xs e
      obtain ⟨p, vs, h1, h2, h3⟩ := R2.own e
      rw [h0] at h1
      cases h1
      exact ⟨Zof g O2, .list xs, y, ⟨p0, vs, rfl, h2, h3⟩, dy, ho.mono _ _ _ _ (fun r pr => res_fin R2 fun O' H' w R' k' dw => pr O' H' w R' (k2.trans k') dw) q2⟩
    · exact q2.elim
  · exact q.elim
theorem de_opo {op : Operator} {od : OD} {i : Nat} (ho : OpD X (binaryOp op) od) (ha : PE X a (tVar i)) (hb : DR X b tb) : DE X (.BinOp a op b pos) (dOpO od i tb) :=
  ⟨mono_opo ho.mono hb.mono, (pe_op ho.run ha hb.run).weaken (opo_go ho hb)⟩
theorem de_cmp {op : CmpOp} {od : OD} (ho : OpD X (compareOp op) od) (ha : DE X a ta) (hb : DR X b tb) (hm : behindInMarks op b = false) : DE X (.Compare a [op] [b] pos) (dOp od ta tb) :=
  ⟨mono_op ho.mono ha.mono hb.mono, (pe_cmpR ho.run ha.run hb.run hm).weaken (op_go ho ha hb)⟩
theorem de_cmpo {op : CmpOp} {od : OD} {i : Nat} (ho : OpD X (compareOp op) od) (ha : PE X a (tVar i)) (hb : DR X b tb) (hm : behindInMarks op b = false) : DE X (.Compare a [op] [b] pos) (dOpO od i tb) :=
  ⟨mono_opo ho.mono hb.mono, (pe_cmpR ho.run ha hb.run hm).weaken (opo_go ho hb)⟩
/-! ### tests -/
def dB (t : Wp PyData) : Wp Bool := fun ρ Q => t ρ fun d ρ' => match d with
  | .bool b => Q b ρ'
  | _ => False
theorem mono_B {t : Wp PyData} (h : Mono t) : Mono (dB t) := fun ρ P Q k q => h ρ _ _ (fun d ρ' p => by
  cases d with
  | bool b => exact k _ _ p
  | _ => exact p.elim) q
theorem bool_go {t : TE} {ta : Wp PyData} (m : Mono ta) (w : ∀ σ H Q, lift X.K (PD X.K) ta σ H Q → t σ H Q) : ∀ σ H Q, lift X.K PB (dB ta) σ H Q → t σ H fun x H' => ∃ k, x = .bl k ∧ Q k H' := fun σ H Q ⟨g, O, ρ, R, q⟩ =>
  w σ H _ (lift_go m R q fun d ρ1 O1 H1 v R1 k1 dx p => by
    cases d with
    | bool b =>
      have e := dx_bool dx
      subst e
      exact ⟨b, rfl, p O1 H1 b R1 k1 rfl⟩
    | _ => exact p.elim)
theorem dt_val (h : DE X e ta) (he : ∀ whole, isTrue e X.env whole = (do let v ← whole; standAt e.pos; holding [v] (truthy v)) := by intro _; rfl) : DT X e (dB ta) :=
  ⟨mono_B h.mono, (pt_val h.run he).weaken (bool_go h.mono fun _ _ _ q => q)⟩
theorem dt_cmp {op : CmpOp} {od : OD} (ho : OpD X (compareOp op) od) (ha : DE X a ta) (hb : DR X b tb) (hm : behindInMarks op b = false) : DT X (.Compare a [op] [b] pos) (dB (dOp od ta tb)) :=
  ⟨mono_B (mono_op ho.mono ha.mono hb.mono), (pt_cmpR ho.run ha.run hb.run hm).weaken (bool_go (mono_op ho.mono ha.mono hb.mono) (op_go ho ha hb))⟩
theorem dt_cmpo {op : CmpOp} {od : OD} {i : Nat} (ho : OpD X (compareOp op) od) (ha : PE X a (tVar i)) (hb : DR X b tb) (hm : behindInMarks op b = false) : DT X (.Compare a [op] [b] pos) (dB (dOpO od i tb)) :=
  ⟨mono_B (mono_opo ho.mono hb.mono), (pt_cmpR ho.run ha hb.run hm).weaken (bool_go (mono_opo ho.mono hb.mono) (opo_go ho hb))⟩
/-- a < b < c -/
def dCh (od od' : OD) (ta tb tc : Wp PyData) : Wp PyData := fun ρ Q => ta ρ fun x ρ1 => tb ρ1 fun y ρ2 => od x y fun r => match r with
  | .bool b => if b = true then tc ρ2 fun z ρ3 => od' y z fun r' => Q r' ρ3 else Q (.bool false) ρ2
  | _ => False
theorem mono_ch {od od' : OD} (m : ∀ x y P Q, (∀ r, P r → Q r) → od x y P → od x y Q) (m' : ∀ x y P Q, (∀ r, P r → Q r) → od' x y P → od' x y Q) (ha : Mono ta) (hb : Mono tb) (hc : Mono tc) : Mono (dCh od od' ta tb tc) :=
  fun ρ P Q k q => ha ρ _ _ (fun x ρ1 q1 => hb ρ1 _ _ (fun y ρ2 q2 => m x y _ _ (fun r p => by
    match r, p with
    | .bool true, p => exact hc ρ2 _ _ (fun z ρ3 p3 => m' y z _ _ (fun r' p' => k _ _ p') p3) p
    | .bool false, p => exact k _ _ p) q2) q1) q
theorem ch_go {f f' : Value → Value → Sem Value} {od od' : OD} (ho : OpD X f od) (ho' : OpD X f' od') (ha : DE X a ta) (hb : DE X b tb) (hc : DE X c tc) : ∀ σ H Q, lift X.K (PD X.K) (dCh od od' ta tb tc) σ H Q →
    tChain (fun v u H Q => ∃ Z x y, DxS X.K Z H v x ∧ DxS X.K Z H u y ∧ od x y (Res X.K Z H Q)) (fun v u H Q => ∃ Z x y, DxS X.K Z H v x ∧ DxS X.K Z H u y ∧ od' x y (Res X.K Z H Q)) (lift X.K (PD X.K) ta) (lift X.K (PD X.K) tb) (lift X.K (PD X.K) tc) σ H Q := fun σ H Q ⟨g, O, ρ, R, q⟩ =>
  lift_go ha.mono R q fun x ρ1 O1 H1 v R1 k1 dx q1 => lift_go hb.mono R1 q1 fun y ρ2 O2 H2 u R2 k2 dy q2 =>
    ⟨Zof g O2, x, y, dx_s (k2.dat _ _ dx), dx_s dy, ho.mono _ _ _ _ (fun r p => res_fin R2 fun O' H' w R' k' dw => by
      match r, p with
      | .bool true, p =>
        have e := dx_bool dw
        subst e
        refine ⟨true, rfl, ?_⟩
        rw [if_pos rfl]
        exact lift_go hc.mono R' p fun z ρ3 O3 H3 w3 R3 k3 dz q3 => ⟨Zof g O3, y, z, dx_s ((k'.trans k3).dat _ _ dy), dx_s dz, ho'.mono _ _ _ _ (fun r' p' => res_fin R3 fun O4 H4 w4 R4 k4 d4 => p' O4 H4 w4 R4 ((((k1.trans k2).trans k').trans k3).trans k4) d4) q3⟩
      | .bool false, p =>
        have e := dx_bool dw
        subst e
        refine ⟨false, rfl, ?_⟩
        rw [if_neg Bool.false_ne_true]
        exact p O' H' _ R' ((k1.trans k2).trans k') (.bl false)) q2⟩
theorem de_chain {op op' : CmpOp} {od od' : OD} (ho : OpD X (compareOp op) od) (ho' : OpD X (compareOp op') od') (ha : DE X a ta) (hb : DE X b tb) (hc : DE X c tc) (hm : lastMarks [op, op'] [b, c] = false := by with_unfolding_all rfl) :
    DE X (.Compare a [op, op'] [b, c] pos) (dCh od od' ta tb tc) :=
  ⟨mono_ch ho.mono ho'.mono ha.mono hb.mono hc.mono, (pe_chain ho.run ho'.run ha.run hb.run hc.run hm).weaken (ch_go ho ho' ha hb hc)⟩
theorem dt_chain {op op' : CmpOp} {od od' : OD} (ho : OpD X (compareOp op) od) (ho' : OpD X (compareOp op') od') (ha : DE X a ta) (hb : DE X b tb) (hc : DE X c tc) (hm : lastMarks [op, op'] [b, c] = false := by with_unfolding_all rfl) :
    DT X (.Compare a [op, op'] [b, c] pos) (dB (dCh od od' ta tb tc)) :=
  ⟨mono_B (mono_ch ho.mono ho'.mono ha.mono hb.mono hc.mono), (pt_chain ho.run ho'.run ha.run hb.run hc.run hm).weaken (bool_go (mono_ch ho.mono ho'.mono ha.mono hb.mono hc.mono) (ch_go ho ho' ha hb hc))⟩
def dAnd (t u : Wp Bool) : Wp Bool := fun ρ Q => t ρ fun b ρ1 => if b = true then u ρ1 Q else Q false ρ1
def dOr (t u : Wp Bool) : Wp Bool := fun ρ Q => t ρ fun b ρ1 => if b = true then Q true ρ1 else u ρ1 Q
def dNot (t : Wp Bool) : Wp Bool := fun ρ Q => t ρ fun b ρ1 => Q (!b) ρ1
variable {sa sb : Wp Bool} {rest : List Expr}
theorem mono_and (h1 : Mono sa) (h2 : Mono sb) : Mono (dAnd sa sb) := fun ρ P Q k q => h1 ρ _ _ (fun b ρ1 p => by
  cases b with
  | true => exact h2 ρ1 _ _ k p
  | false => exact k _ _ p) q
theorem mono_or (h1 : Mono sa) (h2 : Mono sb) : Mono (dOr sa sb) := fun ρ P Q k q => h1 ρ _ _ (fun b ρ1 p => by
  cases b with
  | false => exact h2 ρ1 _ _ k p
  | true => exact k _ _ p) q
theorem mono_not (h1 : Mono sa) : Mono (dNot sa) := fun ρ P Q k q => h1 ρ _ _ (fun b ρ1 p => k _ _ p) q
theorem DW.pt (h : DW X e sa) : DT X e sa := ⟨h.mono, h.run.pt⟩
theorem dw_and1 (ha : DT X a sa) : DW X (.BoolOp .And [a] pos) sa := ⟨ha.mono, pw_and1 ha.run⟩
theorem dw_or1 (ha : DT X a sa) : DW X (.BoolOp .Or [a] pos) sa := ⟨ha.mono, pw_or1 ha.run⟩
theorem dw_and (ha : DT X a sa) (hb : DW X (.BoolOp .And (b :: rest) pos) sb) : DW X (.BoolOp .And (a :: b :: rest) pos) (dAnd sa sb) :=
  ⟨mono_and ha.mono hb.mono, (pw_and ha.run hb.run).weaken fun σ H Q ⟨g, O, ρ, R, q⟩ => lift_go ha.mono R q fun k ρ1 O1 H1 b R1 k1 e q1 => by
    subst e
    cases b with
    | true =>
      rw [if_pos rfl] at q1 ⊢
      exact lift_go hb.mono R1 q1 fun k' ρ2 O2 H2 b' R2 k2 e q2 => q2 O2 H2 b' R2 (k1.trans k2) e
    | false =>
      rw [if_neg Bool.false_ne_true] at q1 ⊢
      exact q1 O1 H1 _ R1 k1 rfl⟩
theorem dw_or (ha : DT X a sa) (hb : DW X (.BoolOp .Or (b :: rest) pos) sb) : DW X (.BoolOp .Or (a :: b :: rest) pos) (dOr sa sb) :=
  ⟨mono_or ha.mono hb.mono, (pw_or ha.run hb.run).weaken fun σ H Q ⟨g, O, ρ, R, q⟩ => lift_go ha.mono R q fun k ρ1 O1 H1 b R1 k1 e q1 => by
    subst e
    cases b with
    | false =>
      rw [if_neg Bool.false_ne_true] at q1 ⊢
      exact lift_go hb.mono R1 q1 fun k' ρ2 O2 H2 b' R2 k2 e q2 => q2 O2 H2 b' R2 (k1.trans k2) e
    | true =>
      rw [if_pos rfl] at q1 ⊢
      exact q1 O1 H1 _ R1 k1 rfl⟩
theorem dt_not (ha : DT X a sa) : DT X (.UnaryOp .Not a pos) (dNot sa) :=
  ⟨mono_not ha.mono, (pt_not ha.run).weaken fun σ H Q ⟨g, O, ρ, R, q⟩ => lift_go ha.mono R q fun k ρ1 O1 H1 b R1 k1 e q1 => by
    subst e
    exact q1 O1 H1 _ R1 k1 rfl⟩
/-- .. as values -/
def dAndV (ta tb : Wp PyData) : Wp PyData := fun ρ Q => ta ρ fun x ρ1 => match x with
  | .bool b => if b = true then tb ρ1 Q else Q (.bool false) ρ1
  | _ => False
def dOrV (ta tb : Wp PyData) : Wp PyData := fun ρ Q => ta ρ fun x ρ1 => match x with
  | .bool b => if b = true then Q (.bool true) ρ1 else tb ρ1 Q
  | _ => False
def dNotV (ta : Wp PyData) : Wp PyData := fun ρ Q => ta ρ fun x ρ1 => match x with
  | .bool b => Q (.bool (!b)) ρ1
  | _ => False
theorem de_one {op} (h : DE X a ta) : DE X (.BoolOp op [a] pos) ta := ⟨h.mono, pe_one h.run⟩
theorem de_and (ha : DE X a ta) (hb : DE X (.BoolOp .And (b :: rest) pos) tb) : DE X (.BoolOp .And (a :: b :: rest) pos) (dAndV ta tb) := by
  refine ⟨fun ρ P Q k q => ha.mono ρ _ _ (fun x ρ1 p => ?_) q, (pe_and ha.run hb.run).weaken fun σ H Q ⟨g, O, ρ, R, q⟩ => lift_go ha.mono R q fun x ρ1 O1 H1 v R1 k1 dx q1 => ?_⟩
  · match x, p with
    | .bool true, p => exact hb.mono ρ1 _ _ k p
    | .bool false, p => exact k _ _ p
  · match x, q1, dx with
    | .bool true, q1, dx =>
      have e := dx_bool dx
      subst e
      refine ⟨true, rfl, ?_⟩
      rw [if_pos rfl]
      exact lift_go hb.mono R1 q1 fun k' ρ2 O2 H2 b' R2 k2 e q2 => q2 O2 H2 b' R2 (k1.trans k2) e
    | .bool false, q1, dx =>
      have e := dx_bool dx
      subst e
      refine ⟨false, rfl, ?_⟩
      rw [if_neg Bool.false_ne_true]
      exact q1 O1 H1 _ R1 k1 (.bl false)
theorem de_or (ha : DE X a ta) (hb : DE X (.BoolOp .Or (b :: rest) pos) tb) : DE X (.BoolOp .Or (a :: b :: rest) pos) (dOrV ta tb) := by
  refine ⟨fun ρ P Q k q => ha.mono ρ _ _ (fun x ρ1 p => ?_) q, (pe_or ha.run hb.run).weaken fun σ H Q ⟨g, O, ρ, R, q⟩ => lift_go ha.mono R q fun x ρ1 O1 H1 v R1 k1 dx q1 => ?_⟩
  · match x, p with
    | .bool true, p => exact k _ _ p
    | .bool false, p => exact hb.mono ρ1 _ _ k p
  · match x, q1, dx with
    | .bool true, q1, dx =>
      have e := dx_bool dx
      subst e
      refine ⟨true, rfl, ?_⟩
      rw [if_pos rfl]
      exact q1 O1 H1 _ R1 k1 (.bl true)
    | .bool false, q1, dx =>
      have e := dx_bool dx
      subst e
      refine ⟨false, rfl, ?_⟩
      rw [if_neg Bool.false_ne_true]
      exact lift_go hb.mono R1 q1 fun k' ρ2 O2 H2 b' R2 k2 e q2 => q2 O2 H2 b' R2 (k1.trans k2) e
theorem de_not (ha : DE X a ta) : DE X (.UnaryOp .Not a pos) (dNotV ta) := by
  refine ⟨fun ρ P Q k q => ha.mono ρ _ _ (fun x ρ1 p => ?_) q, (pe_not ha.run).weaken fun σ H Q ⟨g, O, ρ, R, q⟩ => lift_go ha.mono R q fun x ρ1 O1 H1 v R1 k1 dx q1 => ?_⟩
  · match x, p with
    | .bool b, p => exact k _ _ p
  · match x, q1, dx with
    | .bool b, q1, dx =>
      have e := dx_bool dx
      subst e
      exact ⟨b, rfl, q1 O1 H1 _ R1 k1 (.bl _)⟩
def dIf (t : Wp Bool) (ta tb : Wp PyData) : Wp PyData := fun ρ Q => t ρ fun b ρ1 => if b = true then ta ρ1 Q else tb ρ1 Q
theorem de_if (hc : DT X c sa) (ha : DE X a ta) (hb : DE X b tb) : DE X (.IfExp c a b pos) (dIf sa ta tb) := by
  refine ⟨fun ρ P Q k q => hc.mono ρ _ _ (fun x ρ1 p => ?_) q, (pe_ifExp hc.run ha.run hb.run).weaken fun σ H Q ⟨g, O, ρ, R, q⟩ => lift_go hc.mono R q fun x ρ1 O1 H1 v R1 k1 e q1 => ?_⟩
  · cases x with
    | true => exact ha.mono ρ1 _ _ k p
    | false => exact hb.mono ρ1 _ _ k p
  · subst e
    cases v with
    | true =>
      rw [if_pos rfl] at q1 ⊢
      exact lift_go ha.mono R1 q1 fun k' ρ2 O2 H2 b' R2 k2 e q2 => q2 O2 H2 b' R2 (k1.trans k2) e
    | false =>
      rw [if_neg Bool.false_ne_true] at q1 ⊢
      exact lift_go hb.mono R1 q1 fun k' ρ2 O2 H2 b' R2 k2 e q2 => q2 O2 H2 b' R2 (k1.trans k2) e
/-! ### argument lists, displays -/
def dNil : Wp (List PyData) := fun ρ Q => Q [] ρ
def dCons (ta : Wp PyData) (t : Wp (List PyData)) : Wp (List PyData) := fun ρ Q => ta ρ fun x ρ1 => t ρ1 fun xs ρ2 => Q (x :: xs) ρ2
variable {tl : Wp (List PyData)} {ts : Wp (List SV)}
theorem da_nil : DA X [] dNil := ⟨fun ρ P Q k q => k _ _ q, pa_nil.weaken fun σ H Q ⟨g, O, ρ, R, q⟩ => q O H [] R Kp1.refl .nil⟩
theorem da_cons (ha : DE X e ta) (hr : DA X es tl) (hs : starEach (e :: es) X.env = (false, eval e X.env) :: starEach es X.env := by rfl) : DA X (e :: es) (dCons ta tl) :=
  ⟨fun ρ P Q k q => ha.mono ρ _ _ (fun x ρ1 p => hr.mono ρ1 _ _ (fun xs ρ2 p2 => k _ _ p2) p) q, (pa_cons ha.run hr.run hs).weaken fun σ H Q ⟨g, O, ρ, R, q⟩ => lift_go ha.mono R q fun x ρ1 O1 H1 v R1 k1 dx q1 =>
    lift_go hr.mono R1 q1 fun xs ρ2 O2 H2 vs R2 k2 dxs q2 => q2 O2 H2 (v :: vs) R2 (k1.trans k2) (.cons (k2.dat _ _ dx) dxs)⟩
def gNilD : Wp (List SV) := fun ρ Q => Q [] ρ
def gConsD (ta : Wp PyData) (t : Wp (List SV)) : Wp (List SV) := fun ρ Q => ta ρ fun x ρ1 => t ρ1 fun xs ρ2 => Q (.d x :: xs) ρ2
def gLm (i : Nat) (t : Wp (List SV)) : Wp (List SV) := fun ρ Q => match ρ[i]? with
  | some .lm => t ρ fun xs ρ2 => Q (.lm :: xs) ρ2
  | _ => False
theorem ArgsOk.kps {K : PySem.W.Frag} {g : Gh} {O O1 : List Addr} {H H1 : Hp} (k : Kps K g O H O1 H1) : ∀ {ss : List SV} {vs : List V}, ArgsOk K g.lo (Zof g O) H ss vs → ArgsOk K g.lo (Zof g O1) H1 ss vs
  | _, _, .nil => .nil
  | _, _, .cons (s := s) h r => .cons (by
      cases s with
      | d x => exact k _ _ h
      | lm => exact h
      | rm => exact h
      | un => exact h
      | own xs => exact h) (ArgsOk.kps k r)
theorem dg_nil : DG X [] gNilD := ⟨fun ρ P Q k q => k _ _ q, pa_nil.weaken fun σ H Q ⟨g, O, ρ, R, q⟩ => q O H [] R Kp1.refl .nil⟩
theorem dg_cons (ha : DE X e ta) (hr : DG X es ts) (hs : starEach (e :: es) X.env = (false, eval e X.env) :: starEach es X.env := by rfl) : DG X (e :: es) (gConsD ta ts) :=
  ⟨fun ρ P Q k q => ha.mono ρ _ _ (fun x ρ1 p => hr.mono ρ1 _ _ (fun xs ρ2 p2 => k _ _ p2) p) q, (pa_cons ha.run hr.run hs).weaken fun σ H Q ⟨g, O, ρ, R, q⟩ => lift_go ha.mono R q fun x ρ1 O1 H1 v R1 k1 dx q1 =>
    lift_go hr.mono R1 q1 fun xs ρ2 O2 H2 vs R2 k2 dxs q2 => q2 O2 H2 (v :: vs) R2 (k1.trans k2) (.cons (k2.dat _ _ dx) dxs)⟩
theorem dg_lm {i : Nat} (ha : PE X e (tVar i)) (hr : DG X es ts) (hs : starEach (e :: es) X.env = (false, eval e X.env) :: starEach es X.env := by rfl) : DG X (e :: es) (gLm i ts) := by
  refine ⟨fun ρ P Q k q => ?_, (pa_cons ha hr.run hs).weaken fun σ H Q ⟨g, O, ρ, R, q⟩ => ?_⟩
  · unfold gLm at q ⊢
    split at q
    · exact hr.mono ρ _ _ (fun xs ρ2 p2 => k _ _ p2) q
    · exact q.elim
  · unfold gLm at q
    split at q
    · rename_i e
      obtain ⟨L, F, hl, hv⟩ := R.at_ i _ e
      exact ⟨.ref L, atv_some hv, lift_go hr.mono R q fun xs ρ2 O2 H2 vs R2 k2 dxs q2 => q2 O2 H2 (.ref L :: vs) R2 k2 (.cons ⟨L, F, hl, rfl⟩ dxs)⟩
    · exact q.elim
def dTup (t : Wp (List PyData)) : Wp PyData := fun ρ Q => t ρ fun xs ρ1 => xs.length ≤ sizeLine ∧ Q (.tuple xs) ρ1
def dLst (t : Wp (List PyData)) : Wp (List PyData) := fun ρ Q => t ρ fun xs ρ1 => xs.length ≤ sizeLine ∧ Q xs ρ1
theorem de_tup {x1} (h : DA X es tl) : DE X (.Tuple es x1 pos) (dTup tl) :=
  ⟨fun ρ P Q k q => h.mono ρ _ _ (fun x ρ1 p => ⟨p.1, k _ _ p.2⟩) q, (pe_tup h.run).weaken fun σ H Q ⟨g, O, ρ, R, q⟩ => lift_go h.mono R q fun xs ρ1 O1 H1 vs R1 k1 dx q1 =>
    ⟨by rw [dxAll_len dx]; exact q1.1, fun p hp => by
      have sm : Same H1 (upd H1 p (.tup vs)) := same_new hp
      exact q1.2 O1 _ _ (R1.grow (Gk.of_same sm)) (k1.trans (R1.kp1 sm)) (.tup (SqT.of upd_same) (dxAll_same sm dx))⟩⟩
theorem df_lst (h : DA X es tl) : DF X (.List es pos) (dLst tl) :=
  ⟨fun ρ P Q k q => h.mono ρ _ _ (fun x ρ1 p => ⟨p.1, k _ _ p.2⟩) q, (pe_lst h.run).weaken fun σ H Q ⟨g, O, ρ, R, q⟩ => lift_go h.mono R q fun xs ρ1 O1 H1 vs R1 k1 dx q1 =>
    ⟨by rw [dxAll_len dx]; exact q1.1, fun p hp => by
      obtain ⟨R2, n, k2⟩ := R1.fresh1 hp (.lst vs)
      exact q1.2 (p :: O1) _ _ R2 (k1.trans k2) ⟨p, vs, O1, rfl, rfl, fun m => R1.live p m hp, fun m => R1.live p (k1.sub p m) hp, n, upd_same, k2.dat.all dx⟩⟩⟩
end
end Ev

set_option exponentiation.threshold 256
/-! the layer of data, 3: operators, subscripts, built-ins, over data -/
namespace Ev
open PySem PySem.Spec PyProof.Rows L2
section
variable [Lo] {X : Cx}
/-! ### operators -/
def addD : OD := fun x y Q => match x, y with
  | .int i, .int j => Q (.int (i + j))
  | .str a, .str b => a.length + b.length ≤ sizeLine ∧ Q (.str (a ++ b))
  | .tuple a, .tuple b => a.length + b.length ≤ sizeLine ∧ Q (.tuple (a ++ b))
  | .list a, .list b => a.length + b.length ≤ sizeLine ∧ Q (.list (a ++ b))
  | _, _ => False
theorem o_add : OpD X (binaryOp .Add) addD := by
  refine ⟨fun x y P Q k q => ?_, fun pins s σ H v u V U Q I rv ru ⟨Z, x, y, dx, dy, q⟩ => ?_⟩
  · unfold addD at q ⊢
    split at q <;> first | exact k _ q | exact ⟨q.1, k _ q.2⟩ | exact q.elim
  · unfold addD at q
    split at q
    · cases dx_int dx
      cases dx_int dy
      exact op_add pins s σ H _ _ V U Q I rv ru ⟨_, _, rfl, rfl, q _ H (Same.refl _) (.int _)⟩
    · cases dx_str dx
      cases dx_str dy
      exact op_add_str pins s σ H _ _ V U Q I rv ru ⟨_, _, rfl, rfl, q.1, q.2 _ H (Same.refl _) (.str _)⟩
    · obtain ⟨a, xs, rfl, h1, h2⟩ := dx_tup dx
      obtain ⟨b, ys, rfl, h3, h4⟩ := dx_tup dy
      exact op_catS pins s σ H _ _ V U Q I rv ru ⟨a, b, xs, ys, rfl, rfl, h1, h3, by rw [dxAll_len h2, dxAll_len h4]; exact q.1,
        fun H' p sm hp => q.2 _ H' sm (.tup hp (dxAll_monoL (fun _ z => .inl z) (dxAll_app (dxAll_same sm h2) (dxAll_same sm h4))))⟩
    · obtain ⟨a, xs, rfl, h1, h2⟩ := dx
      obtain ⟨b, ys, rfl, h3, h4⟩ := dy
      exact op_cat pins s σ H _ _ V U Q I rv ru ⟨a, b, xs, ys, rfl, rfl, h1, h3, by rw [dxAll_len h2, dxAll_len h4]; exact q.1,
        fun p hp => q.2 _ _ (same_new hp) (.lst upd_same (.inr hp) (dxAll_monoL (fun _ z => .inl z) (dxAll_app (dxAll_same (same_new hp) h2) (dxAll_same (same_new hp) h4))))⟩
    · exact q.elim
/-- an operation on ints -/
def intD (C : Int → Int → Prop) (f : Int → Int → PyData) : OD := fun x y Q => match x, y with
  | .int i, .int j => C i j ∧ Q (f i j)
  | _, _ => False
theorem o_int {fn : Value → Value → Sem Value} {C : Int → Int → Prop} {f : Int → Int → Int} (h : OpR X fn (rI C fun i j => .int (f i j))) : OpD X fn (intD C fun i j => .int (f i j)) := by
  refine ⟨fun x y P Q k q => ?_, fun pins s σ H v u V U Q I rv ru ⟨Z, x, y, dx, dy, q⟩ => ?_⟩
  · unfold intD at q ⊢
    split at q <;> first | exact ⟨q.1, k _ q.2⟩ | exact q.elim
  · unfold intD at q
    split at q
    · cases dx_int dx
      cases dx_int dy
      exact h pins s σ H _ _ V U Q I rv ru ⟨_, _, rfl, rfl, q.1, q.2 _ H (Same.refl _) (.int _)⟩
    · exact q.elim
/-- an operation on ints, without a condition -/
def intF (f : Int → Int → PyData) : OD := fun x y Q => match x, y with
  | .int i, .int j => Q (f i j)
  | _, _ => False
theorem o_int0 {fn : Value → Value → Sem Value} {f : Int → Int → Int} (h : OpR X fn (rI0 fun i j => .int (f i j))) : OpD X fn (intF fun i j => .int (f i j)) := by
  refine ⟨fun x y P Q k q => ?_, fun pins s σ H v u V U Q I rv ru ⟨Z, x, y, dx, dy, q⟩ => ?_⟩
  · unfold intF at q ⊢
    split at q <;> first | exact k _ q | exact q.elim
  · unfold intF at q
    split at q
    · cases dx_int dx
      cases dx_int dy
      exact h pins s σ H _ _ V U Q I rv ru ⟨_, _, rfl, rfl, q _ H (Same.refl _) (.int _)⟩
    · exact q.elim
theorem o_cmp0 {fn : Value → Value → Sem Value} {f : Int → Int → Bool} (h : OpR X fn (rI0 fun i j => .bl (f i j))) : OpD X fn (intF fun i j => .bool (f i j)) := by
  refine ⟨fun x y P Q k q => ?_, fun pins s σ H v u V U Q I rv ru ⟨Z, x, y, dx, dy, q⟩ => ?_⟩
  · unfold intF at q ⊢
    split at q <;> first | exact k _ q | exact q.elim
  · unfold intF at q
    split at q
    · cases dx_int dx
      cases dx_int dy
      exact h pins s σ H _ _ V U Q I rv ru ⟨_, _, rfl, rfl, q _ H (Same.refl _) (.bl _)⟩
    · exact q.elim
abbrev subD : OD := intF fun i j => .int (i - j)
theorem o_sub : OpD X (binaryOp .Sub) subD := o_int0 op_sub
/-- below so many bits that all goes -/
def Big (i : Int) : Prop := i.natAbs < 2 ^ 9000
theorem Big.log {i : Int} (h : Big i) : i.natAbs.log2 < 9000 := PySem.Flt.log2_lt_of (by decide) h
abbrev mulD : OD := intD (fun i j => Big i ∧ Big j) fun i j => .int (i * j)
theorem o_mul : OpD X (binaryOp .Mult) mulD := o_int fun pins s σ H x y v u Q I rx ry ⟨i, j, e1, e2, ⟨h1, h2⟩, q⟩ => op_mulW pins s σ H x y v u Q I rx ry ⟨i, j, e1, e2, by
  have a := h1.log
  have b := h2.log
  show _ < 1000000
  omega, q⟩
abbrev divD : OD := intD (fun _ j => j ≠ 0 ∧ Big j) fun i j => .int (i.fdiv j)
theorem o_div : OpD X (binaryOp .FloorDiv) divD := o_int fun pins s σ H x y v u Q I rx ry ⟨i, j, e1, e2, ⟨h1, h2⟩, q⟩ => op_fdivZ pins s σ H x y v u Q I rx ry ⟨i, j, e1, e2, ⟨h1, by
  have b := h2.log
  omega⟩, q⟩
abbrev modD : OD := intD (fun _ j => j ≠ 0) fun i j => .int (i.fmod j)
theorem o_mod : OpD X (binaryOp .Mod) modD := o_int op_modN
abbrev powD : OD := intD (fun i j => 0 ≤ j ∧ j ≤ 1000000 ∧ i.natAbs < 2 ^ 64) fun i j => .int (i ^ j.toNat)
theorem o_pow : OpD X (binaryOp .Pow) powD := o_int op_pow
abbrev ltD : OD := intF fun i j => .bool (decide (i < j))
abbrev leD : OD := intF fun i j => .bool (decide (i ≤ j))
abbrev gtD : OD := intF fun i j => .bool (decide (j < i))
abbrev geD : OD := intF fun i j => .bool (decide (j ≤ i))
theorem o_lt : OpD X (compareOp .Lt) ltD := o_cmp0 op_lt
theorem o_le : OpD X (compareOp .LtE) leD := o_cmp0 op_le
theorem o_gt : OpD X (compareOp .Gt) gtD := o_cmp0 op_gt
theorem o_ge : OpD X (compareOp .GtE) geD := o_cmp0 op_ge
/-- xs * k -/
def repD : OD := fun x y Q => match x, y with
  | .list xs, .int k => k < 2 ^ 30 ∧ -(2 ^ 30) < k ∧ xs.length * k.toNat ≤ sizeLine ∧ Q (.list (List.replicate k.toNat xs).flatten)
  | .tuple xs, .int k => xs ≠ [] ∧ 2 ≤ k ∧ k ≤ 1000 ∧ xs.length ≤ 1000 ∧ Q (.tuple (List.replicate k.toNat xs).flatten)
  | _, _ => False
theorem dxAll_rep {K : PySem.W.Frag} {Z : Addr → Prop} {H : Hp} {vs : List V} {ds : List PyData} (h : DxAll K Z H vs ds) : ∀ n, DxAll K Z H (List.replicate n vs).flatten (List.replicate n ds).flatten
  | 0 => .nil
  | n + 1 => by
    rw [List.replicate_succ, List.replicate_succ, List.flatten_cons, List.flatten_cons]
    exact dxAll_app h (dxAll_rep h n)
theorem o_rep : OpD X (binaryOp .Mult) repD := by
  refine ⟨fun x y P Q k q => ?_, fun pins s σ H v u V U Q I rv ru ⟨Z, x, y, dx, dy, q⟩ => ?_⟩
  · unfold repD at q ⊢
    split at q
    · exact ⟨q.1, q.2.1, q.2.2.1, k _ q.2.2.2⟩
    · exact ⟨q.1, q.2.1, q.2.2.1, q.2.2.2.1, k _ q.2.2.2.2⟩
    · exact q.elim
  · unfold repD at q
    split at q
    · obtain ⟨a, xs, rfl, h1, h2⟩ := dx
      cases dx_int dy
      obtain ⟨q1, q2, q3, q4⟩ := q
      exact op_rep pins s σ H _ _ V U Q I rv ru ⟨a, _, xs, rfl, rfl, h1, by omega, by omega, by rw [dxAll_len h2]; exact q3,
        fun p hp => q4 _ _ (same_new hp) (.lst upd_same (.inr hp) (dxAll_monoL (fun _ z => .inl z) (dxAll_rep (dxAll_same (same_new hp) h2) _)))⟩
    · obtain ⟨a, xs, rfl, h1, h2⟩ := dx_tup dx
      cases dx_int dy
      obtain ⟨q1, q2, q3, q4, q5⟩ := q
      have l := dxAll_len h2
      refine op_repT pins s σ H _ _ V U Q I rv ru ⟨a, _, xs, rfl, rfl, h1, fun z => ?_, q2, q3, by rw [l]; exact q4,
        fun p hp => q5 _ _ (same_new hp) (.tup (SqT.of upd_same) (dxAll_monoL (fun _ z => .inl z) (dxAll_rep (dxAll_same (same_new hp) h2) _)))⟩
      subst z
      cases h2
      exact q1 rfl
    · exact q.elim
/-- data that == tells apart item by item -/
def plainD (d : PyData) : Bool := !d.hasDict && SeqAt.shaped d
def eqD : OD := fun x y Q => match x, y with
  | .int i, .int j => Q (.bool (decide (i = j)))
  | .str a, .str b => Q (.bool (decide (a = b)))
  | x, y => plainD x = true ∧ plainD y = true ∧ Q (.bool (PyData.eqv x y))
def neD : OD := fun x y Q => match x, y with
  | .int i, .int j => Q (.bool (!decide (i = j)))
  | .str a, .str b => Q (.bool (!decide (a = b)))
  | x, y => plainD x = true ∧ plainD y = true ∧ Q (.bool (!PyData.eqv x y))
theorem plain_of {d : PyData} (h : plainD d = true) : d.hasDict = false ∧ SeqAt.shaped d = true := by
  unfold plainD at h
  rw [Bool.and_eq_true, Bool.not_eq_true'] at h
  exact h
theorem dec_vint (i j : Int) : decide (V.int i = V.int j) = decide (i = j) := by
  by_cases h : i = j
  · subst h; simp
  · rw [decide_eq_false h, decide_eq_false (fun z => h (V.int.inj z))]
theorem dec_vstr (i j : Str) : decide (V.str i = V.str j) = decide (i = j) := by
  by_cases h : i = j
  · subst h; simp
  · rw [decide_eq_false h, decide_eq_false (fun z => h (V.str.inj z))]
theorem o_eq (hu : X.A.units + 64 < cLine) : OpD X (compareOp .Eq) eqD := by
  refine ⟨fun x y P Q k q => ?_, fun pins s σ H v u V U Q I rv ru ⟨Z, x, y, dx, dy, q⟩ => ?_⟩
  · unfold eqD at q ⊢
    split at q
    · exact k _ q
    · exact k _ q
    · exact ⟨q.1, q.2.1, k _ q.2.2⟩
  · unfold eqD at q
    split at q
    · cases dx_int dx
      cases dx_int dy
      exact op_eq pins s σ H _ _ V U Q I rv ru ⟨rfl, by rw [dec_vint]; exact q _ H (Same.refl _) (.bl _)⟩
    · cases dx_str dx
      cases dx_str dy
      exact op_eq pins s σ H _ _ V U Q I rv ru ⟨rfl, by rw [dec_vstr]; exact q _ H (Same.refl _) (.bl _)⟩
    · obtain ⟨a1, a2⟩ := plain_of q.1
      obtain ⟨b1, b2⟩ := plain_of q.2.1
      exact op_eqD hu pins s σ H _ _ V U Q I rv ru ⟨x, y, dp_of_dx (dxs_any dx) a1, dp_of_dx (dxs_any dy) b1, a2, b2, q.2.2 _ H (Same.refl _) (.bl _)⟩
theorem o_ne (hu : X.A.units + 64 < cLine) : OpD X (compareOp .NotEq) neD := by
  refine ⟨fun x y P Q k q => ?_, fun pins s σ H v u V U Q I rv ru ⟨Z, x, y, dx, dy, q⟩ => ?_⟩
  · unfold neD at q ⊢
    split at q
    · exact k _ q
    · exact k _ q
    · exact ⟨q.1, q.2.1, k _ q.2.2⟩
  · unfold neD at q
    split at q
    · cases dx_int dx
      cases dx_int dy
      exact op_ne pins s σ H _ _ V U Q I rv ru ⟨rfl, by rw [dec_vint]; exact q _ H (Same.refl _) (.bl _)⟩
    · cases dx_str dx
      cases dx_str dy
      exact op_ne pins s σ H _ _ V U Q I rv ru ⟨rfl, by rw [dec_vstr]; exact q _ H (Same.refl _) (.bl _)⟩
    · obtain ⟨a1, a2⟩ := plain_of q.1
      obtain ⟨b1, b2⟩ := plain_of q.2.1
      exact op_neD hu pins s σ H _ _ V U Q I rv ru ⟨x, y, dp_of_dx (dxs_any dx) a1, dp_of_dx (dxs_any dy) b1, a2, b2, q.2.2 _ H (Same.refl _) (.bl _)⟩
/-- what is flat, as a value -/
def toV : PyData → V
  | .none => .non
  | .bool b => .bl b
  | .int i => .int i
  | .str x => .str x
  | _ => .non
def flatD : PyData → Bool
  | .none => true
  | .bool _ => true
  | .int _ => true
  | .str _ => true
  | _ => false
theorem flat_v {K : PySem.W.Frag} {Z : Addr → Prop} {H : Hp} {v : V} {d : PyData} (h : DxS K Z H v d) (f : flatD d = true) : v = toV d ∧ flatV v = true := by
  cases d with
  | none => cases dx_none h; exact ⟨rfl, rfl⟩
  | bool b => cases dx_bool h; exact ⟨rfl, rfl⟩
  | int i => cases dx_int h; exact ⟨rfl, rfl⟩
  | str x => cases dx_str h; exact ⟨rfl, rfl⟩
  | _ => cases f
theorem flat_all {K : PySem.W.Frag} {Z : Addr → Prop} {H : Hp} : ∀ {vs : List V} {ds : List PyData}, DxAll K Z H vs ds → ds.all flatD = true → vs = ds.map toV ∧ vs.all flatV = true
  | _, _, .nil, _ => ⟨rfl, rfl⟩
  | _, _, .cons h r, f => by
    rw [List.all_cons, Bool.and_eq_true] at f
    obtain ⟨a, b⟩ := flat_v (dx_s h) f.1
    obtain ⟨c, d⟩ := flat_all r f.2
    exact ⟨by rw [List.map_cons, ← a, ← c], by rw [List.all_cons, b, d]; rfl⟩
def inDb (x : PyData) (ys : List PyData) : Bool := inV (toV x) (ys.map toV)
def inD (neg : Bool) : OD := fun x y Q => match y with
  | .list ys => flatD x = true ∧ ys.all flatD = true ∧ Q (.bool (if neg then !inDb x ys else inDb x ys))
  | .tuple ys => flatD x = true ∧ ys.all flatD = true ∧ Q (.bool (if neg then !inDb x ys else inDb x ys))
  | _ => False
theorem o_inx {f : Value → Value → Sem Value} {neg : Bool} (h : OpR X f (rIn X.K neg)) : OpD X f (inD neg) := by
  refine ⟨fun x y P Q k q => ?_, fun pins s σ H v u V U Q I rv ru ⟨Z, x, y, dx, dy, q⟩ => ?_⟩
  · unfold inD at q ⊢
    split at q <;> first | exact ⟨q.1, q.2.1, k _ q.2.2⟩ | exact q.elim
  · unfold inD at q
    split at q
    · obtain ⟨a, xs, rfl, h1, h2⟩ := dy
      obtain ⟨e1, e2⟩ := flat_v dx q.1
      obtain ⟨e3, e4⟩ := flat_all h2 q.2.1
      refine h pins s σ H _ _ V U Q I rv ru ⟨a, xs, rfl, .inl (SqL.of h1), e2, e4, ?_⟩
      have := q.2.2 _ H (Same.refl _) (.bl _)
      unfold inDb at this
      rw [e1, e3]
      exact this
    · obtain ⟨a, xs, rfl, h1, h2⟩ := dx_tup dy
      obtain ⟨e1, e2⟩ := flat_v dx q.1
      obtain ⟨e3, e4⟩ := flat_all h2 q.2.1
      refine h pins s σ H _ _ V U Q I rv ru ⟨a, xs, rfl, .inr h1, e2, e4, ?_⟩
      have := q.2.2 _ H (Same.refl _) (.bl _)
      unfold inDb at this
      rw [e1, e3]
      exact this
    · exact q.elim
theorem o_in : OpD X (compareOp .In) (inD false) := o_inx op_in_seq
theorem o_notIn : OpD X (compareOp .NotIn) (inD true) := o_inx op_notIn_seq
/-- is None -/
def isNone : PyData → Bool
  | .none => true
  | _ => false
def isND (neg : Bool) : OD := fun x y Q => match y with
  | .none => Q (.bool (if neg then !isNone x else isNone x))
  | _ => False
theorem dec_non {K : PySem.W.Frag} {Z : Addr → Prop} {H : Hp} {v : V} {d : PyData} (h : DxS K Z H v d) : decide (v = .non) = isNone d := by
  cases d with
  | none => cases dx_none h; rfl
  | bool b => cases dx_bool h; rfl
  | int i => cases dx_int h; rfl
  | str x => cases dx_str h; rfl
  | list xs =>
    obtain ⟨a, vs, rfl, _⟩ := h
    rfl
  | tuple xs =>
    obtain ⟨a, vs, rfl, _⟩ := dx_tup h
    rfl
  | dict kvs =>
    cases h
    rfl
theorem o_isN : OpD X (compareOp .Is) (isND false) := by
  refine ⟨fun x y P Q k q => ?_, fun pins s σ H v u V U Q I rv ru ⟨Z, x, y, dx, dy, q⟩ => ?_⟩
  · unfold isND at q ⊢
    split at q <;> first | exact k _ q | exact q.elim
  · unfold isND at q
    split at q
    · cases dx_none dy
      refine op_isN pins s σ H _ _ V U Q I rv ru ⟨rfl, ?_⟩
      rw [dec_non dx]
      exact q _ H (Same.refl _) (.bl _)
    · exact q.elim
theorem o_notN : OpD X (compareOp .IsNot) (isND true) := by
  refine ⟨fun x y P Q k q => ?_, fun pins s σ H v u V U Q I rv ru ⟨Z, x, y, dx, dy, q⟩ => ?_⟩
  · unfold isND at q ⊢
    split at q <;> first | exact k _ q | exact q.elim
  · unfold isND at q
    split at q
    · cases dx_none dy
      refine op_notN pins s σ H _ _ V U Q I rv ru ⟨rfl, ?_⟩
      rw [dec_non dx]
      exact q _ H (Same.refl _) (.bl _)
    · exact q.elim
/-! ### subscripts -/
variable {a b e : Expr} {ta tb : Wp PyData} {pos : Pos}
def ixD : OD := fun x y Q => match x, y with
  | .tuple xs, .int i => match atI xs i with | some d => Q d | none => False
  | .list xs, .int i => match atI xs i with | some d => Q d | none => False
  | .str z, .int i => z.length ≤ sizeLine ∧ match atI z.cps.toList i with | some c => Q (.str ⟨#[c]⟩) | none => False
  | _, _ => False
theorem ixD_mono : ∀ x y P Q, (∀ r, P r → Q r) → ixD x y P → ixD x y Q := fun x y P Q k q => by
  unfold ixD at q ⊢
  split at q
  · split at q
    · exact k _ q
    · exact q
  · split at q
    · exact k _ q
    · exact q
  · refine ⟨q.1, ?_⟩
    have q2 := q.2
    split at q2
    · exact k _ q2
    · exact q2
  · exact q
theorem at_dx {K : PySem.W.Frag} {Z : Addr → Prop} {H : Hp} {vs : List V} {ds : List PyData} {i : Int} {d : PyData} (h : DxAll K Z H vs ds) (e : atI ds i = some d) : ∃ v, atI vs i = some v ∧ Dx K Z H v d := by
  unfold atI at e ⊢
  rw [dxAll_len h]
  cases q : ixN ds.length i with
  | none => rw [q] at e; cases e
  | some j =>
    rw [q] at e
    exact dxAll_at h e
theorem ixD_run {Z : Addr → Prop} {H : Hp} {v u : V} {x y : PyData} {Q : VK} (dx : DxS X.K Z H v x) (dy : DxS X.K Z H u y) (q : ixD x y (Res X.K Z H Q)) : rIx X.K v u H Q := by
  unfold ixD at q
  split at q
  · obtain ⟨a, vs, rfl, h1, h2⟩ := dx_tup dx
    cases dx_int dy
    split at q
    · obtain ⟨w, e1, e2⟩ := at_dx h2 (by assumption)
      exact .inr (.inl ⟨a, vs, _, w, rfl, rfl, h1, e1, q w H (Same.refl _) (dx_monoL (fun _ z => .inl z) e2)⟩)
    · exact q.elim
  · obtain ⟨a, vs, rfl, h1, h2⟩ := dx
    cases dx_int dy
    split at q
    · obtain ⟨w, e1, e2⟩ := at_dx h2 (by assumption)
      exact .inl ⟨a, vs, _, w, rfl, rfl, SqL.of h1, e1, q w H (Same.refl _) (dx_monoL (fun _ z => .inl z) e2)⟩
    · exact q.elim
  · cases dx_str dx
    cases dx_int dy
    have q2 := q.2
    split at q2
    · exact .inr (.inr ⟨_, _, _, rfl, rfl, q.1, by assumption, q2 _ H (Same.refl _) (.str _)⟩)
    · exact q2.elim
  · exact q.elim
theorem de_ix (ha : DE X a ta) (hb : DE X b tb) (hs : PlainIx b) : DE X (.Subscript a b pos) (dOp ixD ta tb) :=
  ⟨mono_op ixD_mono ha.mono hb.mono, (pe_ix ix_seq ha.run hb.run hs).weaken fun σ H Q ⟨g, O, ρ, R, q⟩ => lift_go ha.mono R q fun x ρ1 O1 H1 v R1 k1 dx q1 => lift_go hb.mono R1 q1 fun y ρ2 O2 H2 u R2 k2 dy q2 =>
    ixD_run (dx_s (k2.dat _ _ dx)) (dx_s dy) (ixD_mono _ _ _ _ (fun r p => res_fin R2 fun O' H' w R' k' dw => p O' H' w R' ((k1.trans k2).trans k') dw) q2)⟩
theorem de_ixo {i : Nat} (ha : PE X a (tVar i)) (hb : DE X b tb) (hs : PlainIx b) : DE X (.Subscript a b pos) (dOpO ixD i tb) :=
  ⟨mono_opo ixD_mono hb.mono, (pe_ix ix_seq ha hb.run hs).weaken fun σ H Q ⟨g, O, ρ, R, q⟩ => by
    unfold dOpO at q
    split at q
    · rename_i e
      obtain ⟨p0, _, h0, _⟩ := R.own e
      refine ⟨.ref p0, h0, lift_go hb.mono R q fun y ρ2 O2 H2 u R2 k2 dy q2 => ?_⟩
      dsimp only at q2
      split at q2
      · rename_i xs e
        obtain ⟨p, vs, h1, h2, h3⟩ := R2.own e
        rw [h0] at h1
        cases h1
        exact ixD_run (x := .list xs) ⟨p0, vs, rfl, h2, h3⟩ (dx_s dy) (ixD_mono _ _ _ _ (fun r pr => res_fin R2 fun O' H' w R' k' dw => pr O' H' w R' (k2.trans k') dw) q2)
      · exact q2.elim
    · exact q.elim⟩
/-! ### slices -/
def PO1 : Bear (Option Int) (Option Int) := fun _ _ _ _ _ _ b a => b = a
structure DO (X : Cx) (oe : Option Expr) (t : Wp (Option Int)) : Prop where
  mono : Mono t
  run : PO X oe (lift X.K PO1 t)
def dNo : Wp (Option Int) := fun ρ Q => Q none ρ
def dSo (t : Wp PyData) : Wp (Option Int) := fun ρ Q => t ρ fun d ρ' => match d with | .int i => Q (some i) ρ' | _ => False
theorem _root_.L2.PO.weaken {oe : Option Expr} {t t' : TO} (h : PO X oe t) (w : ∀ σ H Q, t' σ H Q → t σ H Q) : PO X oe t' := ⟨fun pins s σ H Q I q => h.run pins s σ H Q I (w σ H Q q)⟩
theorem do_none : DO X none dNo := ⟨fun ρ P Q k q => k _ _ q, po_none.weaken fun σ H Q ⟨g, O, ρ, R, q⟩ => q O H none R Kp1.refl rfl⟩
theorem do_some (h : DE X e ta) : DO X (some e) (dSo ta) := by
  refine ⟨fun ρ P Q k q => h.mono ρ _ _ (fun d ρ' p => ?_) q, (po_some h.run).weaken fun σ H Q ⟨g, O, ρ, R, q⟩ => lift_go h.mono R q fun d ρ1 O1 H1 v R1 k1 dx p => ?_⟩
  · cases d with
    | int i => exact k _ _ p
    | _ => exact p.elim
  · cases d with
    | int i =>
      cases dx_int dx
      exact ⟨i, rfl, p O1 H1 _ R1 k1 rfl⟩
    | _ => exact p.elim
def cutSq (x : PyData) (lo hi : Option Int) (Q : PyData → Prop) : Prop := match x with
  | .tuple xs => Q (.tuple (cutD xs lo hi))
  | .list xs => Q (.list (cutD xs lo hi))
  | .str z => z.length ≤ sizeLine ∧ Q (.str (cutS z lo hi))
  | _ => False
theorem cutSq_mono {x : PyData} {lo hi : Option Int} {P Q : PyData → Prop} (k : ∀ r, P r → Q r) (q : cutSq x lo hi P) : cutSq x lo hi Q := by
  unfold cutSq at q ⊢
  split at q <;> first | exact k _ q | exact ⟨q.1, k _ q.2⟩ | exact q.elim
theorem sl_any : SlR X (fun v lo hi H Q => ∃ Z x, DxS X.K Z H v x ∧ cutSq x lo hi (Res X.K Z H Q)) := by
  intro pins s σ H v V vl vu lo hi sl Q I rv hs pl pu ⟨Z, x, dx, q⟩
  unfold cutSq at q
  split at q
  · obtain ⟨a, vs, rfl, h1, h2⟩ := dx_tup dx
    exact sl_tupS pins s σ H _ V vl vu lo hi sl Q I rv hs pl pu ⟨a, vs, rfl, h1, fun H' p sm hp => q _ H' sm (.tup hp (dxAll_monoL (fun _ z => .inl z) (dxAll_cut (dxAll_same sm h2) lo hi)))⟩
  · obtain ⟨a, vs, rfl, h1, h2⟩ := dx
    exact sl_list pins s σ H _ V vl vu lo hi sl Q I rv hs pl pu ⟨a, vs, rfl, SqL.of h1, fun p hp => q _ _ (same_new hp) (.lst upd_same (.inr hp) (dxAll_monoL (fun _ z => .inl z) (dxAll_cut (dxAll_same (same_new hp) h2) lo hi)))⟩
  · cases dx_str dx
    exact sl_str pins s σ H _ V vl vu lo hi sl Q I rv hs pl pu ⟨_, rfl, q.1, q.2 _ H (Same.refl _) (.str _)⟩
  · exact q.elim
variable {lo hi : Option Expr} {sl sh : Wp (Option Int)} {p2 : Pos}
def dSl (ta : Wp PyData) (sl sh : Wp (Option Int)) : Wp PyData := fun ρ Q => ta ρ fun x ρ1 => sl ρ1 fun l ρ2 => sh ρ2 fun h ρ3 => cutSq x l h fun r => Q r ρ3
theorem de_sl (ha : DE X a ta) (hl : DO X lo sl) (hh : DO X hi sh) : DE X (.Subscript a (.Slice lo hi none p2) pos) (dSl ta sl sh) :=
  ⟨fun ρ P Q k q => ha.mono ρ _ _ (fun x ρ1 p => hl.mono ρ1 _ _ (fun l ρ2 p => hh.mono ρ2 _ _ (fun h ρ3 p => cutSq_mono (fun r p => k _ _ p) p) p) p) q,
    (pe_slice sl_any ha.run hl.run hh.run).weaken fun σ H Q ⟨g, O, ρ, R, q⟩ => lift_go ha.mono R q fun x ρ1 O1 H1 v R1 k1 dx q1 => lift_go hl.mono R1 q1 fun l ρ2 O2 H2 l' R2 k2 el q2 => lift_go hh.mono R2 q2 fun h ρ3 O3 H3 h' R3 k3 eh q3 => by
      cases el
      cases eh
      exact ⟨Zof g O3, x, dx_s ((k2.trans k3).dat _ _ dx), cutSq_mono (fun r p => res_fin R3 fun O' H' w R' k' dw => p O' H' w R' (((k1.trans k2).trans k3).trans k') dw) q3⟩⟩
def dSlO (i : Nat) (sl sh : Wp (Option Int)) : Wp PyData := fun ρ Q => match ρ[i]? with
  | some (.own _) => sl ρ fun l ρ2 => sh ρ2 fun h ρ3 => match ρ3[i]? with
    | some (.own xs) => Q (.list (cutD xs l h)) ρ3
    | _ => False
  | _ => False
theorem de_slo {i : Nat} (ha : PE X a (tVar i)) (hl : DO X lo sl) (hh : DO X hi sh) : DE X (.Subscript a (.Slice lo hi none p2) pos) (dSlO i sl sh) := by
  refine ⟨fun ρ P Q k q => ?_, (pe_slice sl_any ha hl.run hh.run).weaken fun σ H Q ⟨g, O, ρ, R, q⟩ => ?_⟩
  · unfold dSlO at q ⊢
    split at q
    · refine hl.mono ρ _ _ (fun l ρ2 p => hh.mono ρ2 _ _ (fun h ρ3 p => ?_) p) q
      split at p
      · exact k _ _ p
      · exact p.elim
    · exact q.elim
  · unfold dSlO at q
    split at q
    · rename_i e
      obtain ⟨p0, _, h0, _⟩ := R.own e
      refine ⟨.ref p0, h0, lift_go hl.mono R q fun l ρ2 O2 H2 l' R2 k2 el q2 => lift_go hh.mono R2 q2 fun h ρ3 O3 H3 h' R3 k3 eh q3 => ?_⟩
      cases el
      cases eh
      dsimp only at q3
      split at q3
      · rename_i xs e
        obtain ⟨p, vs, h1, h2, h3⟩ := R3.own e
        rw [h0] at h1
        cases h1
        exact ⟨Zof g O3, .list xs, ⟨p0, vs, rfl, h2, h3⟩, (show cutSq (.list xs) l h _ from res_fin R3 fun O' H' w R' k' dw => q3 O' H' w R' ((k2.trans k3).trans k') dw)⟩
      · exact q3.elim
    · exact q.elim
/-! ### built-ins of one argument -/
abbrev UD := PyData → (PyData → Prop) → Prop
structure C1 (X : Cx) (f : Value) (ud : UD) : Prop where
  mono : ∀ x P Q, (∀ r, P r → Q r) → ud x P → ud x Q
  run : CallR X f (fun vs H Q => ∃ Z v x, vs = [v] ∧ DxS X.K Z H v x ∧ ud x (Res X.K Z H Q))
def d1 (ud : UD) (ta : Wp PyData) : Wp PyData := fun ρ Q => ta ρ fun x ρ1 => ud x fun r => Q r ρ1
theorem c1_go {f : Value} {ud : UD} (hc : C1 X f ud) (ha : DR X a ta) : ∀ σ H Q, lift X.K (PD X.K) (d1 ud ta) σ H Q →
    tCB (fun vs H Q => ∃ Z v x, vs = [v] ∧ DxS X.K Z H v x ∧ ud x (Res X.K Z H Q)) (tCons (lift X.K (PR X.K) ta) tNil) σ H Q := fun σ H Q ⟨g, O, ρ, R, q⟩ =>
  lift_go ha.mono R q fun x ρ1 O1 H1 v R1 k1 dx q1 => ⟨Zof g O1, v, x, rfl, dx, hc.mono _ _ _ (fun r p => res_fin R1 fun O' H' w R' k' dw => p O' H' w R' (k1.trans k') dw) q1⟩
theorem mono_d1 {ud : UD} (m : ∀ x P Q, (∀ r, P r → Q r) → ud x P → ud x Q) (h : Mono ta) : Mono (d1 ud ta) := fun ρ P Q k q => h ρ _ _ (fun x ρ1 p => m _ _ _ (fun r p => k _ _ p) p) q
theorem de_c1 {id : String} {x : Str} {p : Pos} {ud : UD} (hc : C1 X (.builtin id) ud) (hg : Gl X x) (hm : X.mg x = none) (hv : bootBuiltins x = some (.builtin id)) (ha : DR X a ta)
    (hs : starEach (a :: []) X.env = (false, eval a X.env) :: starEach [] X.env := by rfl) (hn : x ≠ "__name__" := by decide) (hdb : (x == ("__debug__" : Str)) = false := by decide)
    (hpl : (backTo pos (starEach [] X.env)).any (·.1) = false := by rfl) : DE X (.Call (.Name x p) [a] [] pos) (d1 ud ta) :=
  ⟨mono_d1 hc.mono ha.mono, (pe_callB hc.run hg hm hv (pa_cons ha.run pa_nil hs) hn hdb hs hpl).weaken (c1_go hc ha)⟩
theorem de_cT {id : String} {x : Str} {p : Pos} {ud : UD} (hc : C1 X (.type id) ud) (hg : Gl X x) (hm : X.mg x = none) (hv : bootBuiltins x = some (.type id)) (ha : DR X a ta)
    (hs : starEach (a :: []) X.env = (false, eval a X.env) :: starEach [] X.env := by rfl) (hn : x ≠ "__name__" := by decide) (hdb : (x == ("__debug__" : Str)) = false := by decide)
    (hpl : (backTo pos (starEach [] X.env)).any (·.1) = false := by rfl) : DE X (.Call (.Name x p) [a] [] pos) (d1 ud ta) :=
  ⟨mono_d1 hc.mono ha.mono, (pe_callTy hc.run hg hm hv (pa_cons ha.run pa_nil hs) hn hdb hs hpl).weaken (c1_go hc ha)⟩
def lenD : UD := fun x Q => match x with
  | .tuple xs => Q (.int xs.length)
  | .list xs => Q (.int xs.length)
  | .str z => z.length ≤ sizeLine ∧ Q (.int z.length)
  | _ => False
theorem c_len : C1 X (.builtin "len") lenD := by
  refine ⟨fun x P Q k q => ?_, fun pins s σ H vs us Q I r ⟨Z, v, x, e, dx, q⟩ => ?_⟩
  · unfold lenD at q ⊢
    split at q <;> first | exact k _ q | exact ⟨q.1, k _ q.2⟩ | exact q.elim
  · subst e
    unfold lenD at q
    split at q
    · obtain ⟨a, ws, rfl, h1, h2⟩ := dx_tup dx
      exact call_len_seq pins s σ H _ us Q I r ⟨a, ws, rfl, .inr h1, by rw [dxAll_len h2]; exact q _ H (Same.refl _) (.int _)⟩
    · obtain ⟨a, ws, rfl, h1, h2⟩ := dx
      exact call_len_seq pins s σ H _ us Q I r ⟨a, ws, rfl, .inl (SqL.of h1), by rw [dxAll_len h2]; exact q _ H (Same.refl _) (.int _)⟩
    · cases dx_str dx
      exact call_len_str pins s σ H _ us Q I r ⟨_, rfl, q.1, q.2 _ H (Same.refl _) (.int _)⟩
    · exact q.elim
def absD : UD := fun x Q => match x with
  | .int i => Q (.int i.natAbs)
  | _ => False
theorem c_abs : C1 X (.builtin "abs") absD := by
  refine ⟨fun x P Q k q => ?_, fun pins s σ H vs us Q I r ⟨Z, v, x, e, dx, q⟩ => ?_⟩
  · unfold absD at q ⊢
    split at q <;> first | exact k _ q | exact q.elim
  · subst e
    unfold absD at q
    split at q
    · cases dx_int dx
      exact call_abs pins s σ H _ us Q I r ⟨_, rfl, by rw [absI]; exact q _ H (Same.refl _) (.int _)⟩
    · exact q.elim
def toIntD : UD := fun x Q => match x with
  | .int i => Q (.int i)
  | .bool b => Q (.int (if b then 1 else 0))
  | _ => False
theorem c_int : C1 X (.type "int") toIntD := by
  refine ⟨fun x P Q k q => ?_, fun pins s σ H vs us Q I r ⟨Z, v, x, e, dx, q⟩ => ?_⟩
  · unfold toIntD at q ⊢
    split at q <;> first | exact k _ q | exact q.elim
  · subst e
    unfold toIntD at q
    split at q
    · cases dx_int dx
      exact call_int1 pins s σ H _ us Q I r (.inl ⟨_, rfl, q _ H (Same.refl _) (.int _)⟩)
    · cases dx_bool dx
      exact call_int1 pins s σ H _ us Q I r (.inr ⟨_, rfl, q _ H (Same.refl _) (.int _)⟩)
    · exact q.elim
def toStrD : UD := fun x Q => match x with
  | .int i => i.natAbs.log2 < 1920 ∧ Q (.str (Str.ofString (toString i)))
  | _ => False
theorem c_str : C1 X (.type "str") toStrD := by
  refine ⟨fun x P Q k q => ?_, fun pins s σ H vs us Q I r ⟨Z, v, x, e, dx, q⟩ => ?_⟩
  · unfold toStrD at q ⊢
    split at q <;> first | exact ⟨q.1, k _ q.2⟩ | exact q.elim
  · subst e
    unfold toStrD at q
    split at q
    · cases dx_int dx
      exact call_str_int pins s σ H _ us Q I r ⟨_, rfl, q.1, q.2 _ H (Same.refl _) (.str _)⟩
    · exact q.elim
/-- what repr shows -/
def showD (d : PyData) : Prop := d.showable = true ∧ d.shown.length ≤ sizeLine ∧ d.depth ≤ 60
def reprD : UD := fun x Q => showD x ∧ Q (.str x.shown)
theorem c_repr (hG : X.A.guards = some []) (hu : X.A.units + 64 < cLine) : C1 X (.builtin "repr") reprD := by
  refine ⟨fun x P Q k q => ⟨q.1, k _ q.2⟩, fun pins s σ H vs us Q I r ⟨Z, v, x, e, dx, q⟩ => ?_⟩
  subst e
  exact call_reprX hG hu pins s σ H _ us Q I r ⟨v, x, _, rfl, dxs_any dx, q.1.1, q.1.2.1, q.1.2.2, q.2 _ H (Same.refl _) (.str _)⟩
def tupleD : UD := fun x Q => match x with
  | .tuple xs => Q (.tuple xs)
  | .list xs => Q (.tuple xs)
  | _ => False
theorem c_tuple : C1 X (.type "tuple") tupleD := by
  refine ⟨fun x P Q k q => ?_, fun pins s σ H vs us Q I r ⟨Z, v, x, e, dx, q⟩ => ?_⟩
  · unfold tupleD at q ⊢
    split at q <;> first | exact k _ q | exact q.elim
  · subst e
    unfold tupleD at q
    split at q
    · obtain ⟨a, ws, rfl, h1, h2⟩ := dx_tup dx
      exact call_tuple_of pins s σ H _ us Q I r ⟨a, ws, rfl, .inr ⟨h1, q _ H (Same.refl _) (.tup h1 (dxAll_monoL (fun _ z => .inl z) h2))⟩⟩
    · obtain ⟨a, ws, rfl, h1, h2⟩ := dx
      exact call_tuple_of pins s σ H _ us Q I r ⟨a, ws, rfl, .inl ⟨SqL.of h1, fun l hl => q _ _ (same_new hl) (.tup (SqT.of upd_same) (dxAll_monoL (fun _ z => .inl z) (dxAll_same (same_new hl) h2)))⟩⟩
    · exact q.elim
def asBools : List PyData → Option (List Bool)
  | [] => some []
  | .bool b :: r => (asBools r).map (b :: ·)
  | _ :: _ => none
theorem asBools_map {xs : List PyData} {bs : List Bool} (h : asBools xs = some bs) : xs = bs.map PyData.bool := by
  induction xs generalizing bs with
  | nil => cases h; rfl
  | cons x xs ih =>
    cases x with
    | bool b =>
      simp only [asBools] at h
      cases e : asBools xs with
      | none => rw [e] at h; cases h
      | some cs =>
        rw [e] at h
        cases h
        rw [ih e]
        rfl
    | _ => cases h
theorem dx_bools {K : PySem.W.Frag} {Z : Addr → Prop} {H : Hp} : ∀ {vs : List V} {bs : List Bool}, DxAll K Z H vs (bs.map PyData.bool) → vs = bs.map V.bl
  | _, [], .nil => rfl
  | _, b :: bs, .cons h r => by
    cases dx_bool h
    rw [dx_bools r]
    rfl
def foldB (f : List Bool → Bool) : UD := fun x Q => match x with
  | .list xs => match asBools xs with | some bs => Q (.bool (f bs)) | none => False
  | _ => False
theorem foldB_mono {f : List Bool → Bool} : ∀ x P Q, (∀ r, P r → Q r) → foldB f x P → foldB f x Q := fun x P Q k q => by
  unfold foldB at q ⊢
  split at q
  · split at q
    · exact k _ q
    · exact q
  · exact q
theorem c_all (hc : X.calm = true) : C1 X (.builtin "all") (foldB fun bs => bs.all id) := by
  refine ⟨foldB_mono, fun pins s σ H vs us Q I r ⟨Z, v, x, e, dx, q⟩ => ?_⟩
  subst e
  unfold foldB at q
  split at q
  · obtain ⟨a, ws, rfl, h1, h2⟩ := dx
    split at q
    · rename_i bs eb
      rw [asBools_map eb] at h2
      have := dx_bools h2
      subst this
      exact cr_all hc pins s σ H _ us Q I r ⟨a, bs, rfl, SqL.of h1, q _ H (Same.refl _) (.bl _)⟩
    · exact q.elim
  · exact q.elim
theorem c_any (hc : X.calm = true) : C1 X (.builtin "any") (foldB fun bs => bs.any id) := by
  refine ⟨foldB_mono, fun pins s σ H vs us Q I r ⟨Z, v, x, e, dx, q⟩ => ?_⟩
  subst e
  unfold foldB at q
  split at q
  · obtain ⟨a, ws, rfl, h1, h2⟩ := dx
    split at q
    · rename_i bs eb
      rw [asBools_map eb] at h2
      have := dx_bools h2
      subst this
      exact cr_any hc pins s σ H _ us Q I r ⟨a, bs, rfl, SqL.of h1, q _ H (Same.refl _) (.bl _)⟩
    · exact q.elim
  · exact q.elim
/-- list(..): a new list -/
def dList (ta : Wp PyData) : Wp (List PyData) := fun ρ Q => ta ρ fun x ρ1 => match x with
  | .list xs => Q xs ρ1
  | .tuple xs => Q xs ρ1
  | _ => False
theorem df_list {x : Str} {p : Pos} (hg : Gl X x) (hm : X.mg x = none) (hv : bootBuiltins x = some (.type "list")) (ha : DR X a ta)
    (hs : starEach (a :: []) X.env = (false, eval a X.env) :: starEach [] X.env := by rfl) (hn : x ≠ "__name__" := by decide) (hdb : (x == ("__debug__" : Str)) = false := by decide)
    (hpl : (backTo pos (starEach [] X.env)).any (·.1) = false := by rfl) : DF X (.Call (.Name x p) [a] [] pos) (dList ta) := by
  refine ⟨fun ρ P Q k q => ha.mono ρ _ _ (fun x ρ1 p => ?_) q, (pe_callTy call_list_of hg hm hv (pa_cons ha.run pa_nil hs) hn hdb hs hpl).weaken fun σ H Q ⟨g, O, ρ, R, q⟩ => lift_go ha.mono R q fun x ρ1 O1 H1 v R1 k1 dx q1 => ?_⟩
  · split at p <;> first | exact k _ _ p | exact p.elim
  · have go : ∀ (l : Addr) (ws : List V) (xs : List PyData), H1 l = none → DxAll X.K (Zof g O1) H1 ws xs → (∀ O' H' b, Rep X.K g O' ρ1 σ H' → Kp1 X.K g O ρ σ H O' ρ1 H' → PF X.K g O O' ρ1 σ H' b xs → Q b H') → Q (.ref l) (upd H1 l (.lst ws)) := fun l ws xs hl h2 q => by
      obtain ⟨R2, n, k2⟩ := R1.fresh1 hl (.lst ws)
      exact q (l :: O1) _ _ R2 (k1.trans k2) ⟨l, ws, O1, rfl, rfl, fun m => R1.live l m hl, fun m => R1.live l (k1.sub l m) hl, n, upd_same, k2.dat.all h2⟩
    split at q1
    · obtain ⟨a, ws, rfl, h1, h2⟩ := dx
      exact ⟨a, ws, rfl, .inl (SqL.of h1), fun l hl => go l ws _ hl h2 q1⟩
    · obtain ⟨a, ws, rfl, h1, h2⟩ := dx_tup dx
      exact ⟨a, ws, rfl, .inr h1, fun l hl => go l ws _ hl h2 q1⟩
    · exact q1.elim
/-! ### isinstance -/
def dIsi (k : PyData → Bool) (ta : Wp PyData) : Wp PyData := fun ρ Q => ta ρ fun x ρ1 => Q (.bool (k x)) ρ1
theorem de_isi {T : Str} {tn : String} {x : Str} {p pt : Pos} {k : PyData → Bool} (hk : ∀ d, PySem.W.kitOne X.K (.type (tyN d)) (.type tn) = some (k d)) (hg : Gl X x) (hm : X.mg x = none) (hv : bootBuiltins x = some (.builtin "isinstance"))
    (ha : DE X a ta) (hT : PE X (.Name T pt) (tC (.ty tn)))
    (hs1 : starEach (a :: [.Name T pt]) X.env = (false, eval a X.env) :: starEach [.Name T pt] X.env := by rfl)
    (hs2 : starEach (.Name T pt :: []) X.env = (false, eval (.Name T pt) X.env) :: starEach [] X.env := by rfl) (hn : x ≠ "__name__" := by decide) (hdb : (x == ("__debug__" : Str)) = false := by decide)
    (hpl : (backTo pos (starEach [.Name T pt] X.env)).any (·.1) = false := by rfl) : DE X (.Call (.Name x p) [a, .Name T pt] [] pos) (dIsi k ta) :=
  ⟨fun ρ P Q kk q => ha.mono ρ _ _ (fun x ρ1 p => kk _ _ p) q, (pe_callB call_isi hg hm hv (pa_cons ha.run (pa_cons hT pa_nil hs2) hs1) hn hdb hs1 hpl).weaken fun σ H Q ⟨g, O, ρ, R, q⟩ => lift_go ha.mono R q fun x ρ1 O1 H1 v R1 k1 dx q1 =>
    ⟨_, _, _, _, k x, rfl, .ty tn, dx_ty dx, hk x, q1 O1 H1 _ R1 k1 (.bl _)⟩⟩
end
end Ev

set_option exponentiation.threshold 256
/-! the layer of data, 4: calls of own defs, statements, loops, comprehensions, what a def promises -/
namespace Ev
open PySem PySem.Spec PyProof.Rows L2
/-- what is told of a def: of such arguments some such datum comes -/
abbrev RelD := List SV → (PyData → Prop) → Prop
def Sof (R : RelD) : List SV → (PyData → Prop) → Prop := fun ss Q => ∃ P, R ss P ∧ ∀ d, P d → Q d
section
variable [Lo]
def spD (K : PySem.W.Frag) (R : RelD) : Sp := fun vs H Q _ => ∃ (g : Gh) (ss : List SV), g.H0 = H ∧ ArgsOk K g.lo (Zof g []) H ss vs ∧ LoomOk g [] H ∧
  Sof R ss fun d => ∀ v H', Gr g.lo H H' → Dx K (fun a => g.Z0 a ∨ H a = none) H' v d → Q v H'
theorem argsOk_len {K : PySem.W.Frag} {lo : Lw} {Z : Addr → Prop} {H : Hp} : ∀ {ss : List SV} {vs : List V}, ArgsOk K lo Z H ss vs → vs.length = ss.length
  | _, _, .nil => rfl
  | _, _, .cons _ r => congrArg (· + 1) (argsOk_len r)
theorem argsOk_mono {K : PySem.W.Frag} {lo : Lw} {Z Z' : Addr → Prop} {H : Hp} (z : ∀ a, Z a → Z' a) : ∀ {ss : List SV} {vs : List V}, ArgsOk K lo Z H ss vs → ArgsOk K lo Z' H ss vs
  | _, _, .nil => .nil
  | _, _, .cons (s := s) h r => .cons (by
      cases s with
      | d x => exact dx_monoL z h
      | lm => exact h
      | rm => exact h
      | un => exact h
      | own xs => exact h) (argsOk_mono z r)
theorem argsOk_lo {K : PySem.W.Frag} {lo lo' : Lw} {Z : Addr → Prop} {H : Hp} (e : lo'.lm = lo.lm) : ∀ {ss : List SV} {vs : List V}, ArgsOk K lo Z H ss vs → ArgsOk K lo' Z H ss vs
  | _, _, .nil => .nil
  | _, _, .cons (s := s) h r => .cons (by
      cases s with
      | d x => exact h
      | lm =>
        obtain ⟨L, F, h1, h2⟩ := h
        exact ⟨L, F, e.trans h1, h2⟩
      | rm => exact h
      | un => exact h
      | own xs => exact h) (argsOk_lo e r)
/-! ### the call of a def -/
theorem call_go {K : PySem.W.Frag} {g : Gh} {O : List Addr} {ρ : En} {σ : L2.St} {H : Hp} {R : RelD} {ss : List SV} {vs : List V} {Q : VK} {E : XK} (rp : Rep K g O ρ σ H) (ha : ArgsOk K g.lo (Zof g O) H ss vs)
    (q : Sof R ss fun d => ∀ O' H' v, Rep K g O' ρ σ H' → Kp1 K g O ρ σ H O' ρ H' → Dx K (Zof g O') H' v d → Q v H') : spD K R vs H Q E := by
  have sub : ∀ p, (Lw.mk g.lo.lm []).has p → g.lo.has p := fun p z => z.elim .inl fun z => nomatch z
  have ha2 : ArgsOk K g.lo (Zof ⟨⟨g.lo.lm, []⟩, H, Zof g O⟩ []) H ss vs := argsOk_mono (fun a z => ⟨.inl z, by simp⟩) ha
  have lok : (Lw.mk g.lo.lm []).ok H := ⟨fun L F e => rp.loom.ok.lm L F e, fun r z => nomatch z⟩
  refine ⟨⟨⟨g.lo.lm, []⟩, H, Zof g O⟩, ss, rfl, argsOk_lo (lo := g.lo) (lo' := ⟨g.lo.lm, []⟩) rfl ha2, ⟨lok, fun p hp z => z.1.elim (rp.loom.nz p (sub p hp)) (lok.ex hp)⟩, ?_⟩
  · obtain ⟨P, h1, h2⟩ := q
    refine ⟨P, h1, fun d hd v H' gr dx => ?_⟩
    have gk := Gk.of_lm gr rp.loom.ok
    obtain ⟨a, b, c⟩ := rp.res gk dx
    exact h2 d hd O H' v a (rp.kp1g gk.gr) c
variable {X : Cx}
section
variable {k : Nat} {f : Addr} {fd : FuncData} {ps : List Str} {R : RelD} {x : Str} {p pos : Pos} {e : Expr} {es : List Expr} {ts : Wp (List SV)} {E : XK}
def dCall (R : RelD) (ts : Wp (List SV)) : Wp PyData := fun ρ Q => ts ρ fun ss ρ1 => Sof R ss fun d => Q d ρ1
theorem mono_call (h : Mono ts) : Mono (dCall R ts) := fun ρ P Q k q => h ρ _ _ (fun ss ρ1 ⟨P, a, b⟩ => ⟨P, a, fun d hd => k _ _ (b d hd)⟩) q
theorem de_call (F : FnOk X.prog X.w X.K X.mg X.base CX0 k f fd ps (spD X.K R)) (hr : Room k X.A) (hg : Gl X x) (hm : X.mg x = some (.ref f)) (hk : PySem.W.keepIn X.K (.ref f) = true) (hb : Binds X.K fd ps []) (hx : Passes CX0 X E)
    (ha : DG X (e :: es) ts) (hdb : (x == ("__debug__" : Str)) = false := by decide) (he : starEach (e :: es) X.env = (false, eval e X.env) :: starEach es X.env := by rfl) (hpl : (backTo pos (starEach es X.env)).any (·.1) = false := by rfl) :
    DE X (.Call (.Name x p) (e :: es) [] pos) (dCall R ts) :=
  ⟨mono_call ha.mono, (pe_call F hr hg hm hk hb .nil hx ha.run hdb he hpl).weaken fun σ H Q ⟨g, O, ρ, rp, q⟩ => lift_go ha.mono rp q fun ss ρ1 O1 H1 vs R1 k1 hs q1 => by
    rw [List.append_nil]
    obtain ⟨P, a, b⟩ := q1
    exact call_go R1 hs ⟨P, a, fun d hd O' H' v R' k' dx => b d hd O' H' v R' (k1.trans k') dx⟩⟩
theorem de_call0 (F : FnOk X.prog X.w X.K X.mg X.base CX0 k f fd ps (spD X.K R)) (hr : Room k X.A) (hg : Gl X x) (hm : X.mg x = some (.ref f)) (hk : PySem.W.keepIn X.K (.ref f) = true) (hb : Binds X.K fd ps []) (hx : Passes CX0 X E)
    (hdb : (x == ("__debug__" : Str)) = false := by decide) : DE X (.Call (.Name x p) [] [] pos) (dCall R gNilD) :=
  ⟨mono_call (dg_nil (X := X)).mono, (pe_call0 F hr hg hm hk hb .nil hx hdb).weaken fun σ H Q ⟨g, O, ρ, rp, q⟩ => by
    show spD X.K R ([] ++ []) H Q E
    exact call_go rp .nil q⟩
theorem de_callG (F : FnG X.prog X.w X.K X.mg X.base CX0 k f fd ps (spD X.K R)) (hG : X.A.guards = some []) (hr : Room k X.A) (hg : Gl X x) (hm : X.mg x = some (.ref f)) (hk : PySem.W.keepIn X.K (.ref f) = true) (hb : Binds X.K fd ps []) (hx : Passes CX0 X E)
    (ha : DG X (e :: es) ts) (hdb : (x == ("__debug__" : Str)) = false := by decide) (he : starEach (e :: es) X.env = (false, eval e X.env) :: starEach es X.env := by rfl) (hpl : (backTo pos (starEach es X.env)).any (·.1) = false := by rfl) :
    DE X (.Call (.Name x p) (e :: es) [] pos) (dCall R ts) :=
  ⟨mono_call ha.mono, (pe_callG F hG hr hg hm hk hb hx ha.run hdb he hpl).weaken fun σ H Q ⟨g, O, ρ, rp, q⟩ => lift_go ha.mono rp q fun ss ρ1 O1 H1 vs R1 k1 hs q1 => by
    obtain ⟨P, a, b⟩ := q1
    exact call_go R1 hs ⟨P, a, fun d hd O' H' v R' k' dx => b d hd O' H' v R' (k1.trans k') dx⟩⟩
/-! keywords alone -/
structure DK (X : Cx) (kws : List Keyword) (t : Wp (List SV)) : Prop where
  mono : Mono t
  run : PK X kws (lift X.K (PAr X.K) t)
theorem _root_.L2.PK.weaken {kws : List Keyword} {t t' : TA} (h : PK X kws t) (w : ∀ σ H Q, t' σ H Q → t σ H Q) : PK X kws t' := ⟨fun pos pins s σ H Q I q => h.run pos pins s σ H Q I (w σ H Q q)⟩
variable {kws : List Keyword} {ta : Wp PyData}
theorem dk_nil : DK X [] gNilD := ⟨fun ρ P Q k q => k _ _ q, pk_nil.weaken fun σ H Q ⟨g, O, ρ, R, q⟩ => q O H [] R Kp1.refl .nil⟩
theorem dk_cons {nm : Option Str} {kpos : Pos} (ha : DE X e ta) (hr : DK X kws ts) : DK X (⟨nm, e, kpos⟩ :: kws) (gConsD ta ts) :=
  ⟨fun ρ P Q k q => ha.mono ρ _ _ (fun x ρ1 p => hr.mono ρ1 _ _ (fun xs ρ2 p2 => k _ _ p2) p) q, (pk_cons ha.run hr.run).weaken fun σ H Q ⟨g, O, ρ, R, q⟩ => lift_go ha.mono R q fun x ρ1 O1 H1 v R1 k1 dx q1 =>
    lift_go hr.mono R1 q1 fun xs ρ2 O2 H2 vs R2 k2 dxs q2 => q2 O2 H2 (v :: vs) R2 (k1.trans k2) (.cons (k2.dat _ _ dx) dxs)⟩
def putS (pm : List Nat) (ss : List SV) : List SV := pm.map fun i => ss.getD i .un
theorem argsOk_at {K : PySem.W.Frag} {lo : Lw} {Z : Addr → Prop} {H : Hp} : ∀ {ss : List SV} {vs : List V} {i : Nat}, ArgsOk K lo Z H ss vs → i < ss.length → ArgOk K lo Z H (ss.getD i .un) (vs.getD i .non)
  | _, _, 0, .cons h _, _ => h
  | _, _, i + 1, .cons _ r, l => argsOk_at (i := i) r (Nat.lt_of_succ_lt_succ l)
theorem argsOk_put {K : PySem.W.Frag} {lo : Lw} {Z : Addr → Prop} {H : Hp} {ss : List SV} {vs : List V} (h : ArgsOk K lo Z H ss vs) : ∀ (pm : List Nat), (∀ i ∈ pm, i < ss.length) → ArgsOk K lo Z H (putS pm ss) (putV pm vs)
  | [], _ => .nil
  | i :: pm, l => .cons (argsOk_at h (l i (List.mem_cons_self ..))) (argsOk_put h pm fun j hj => l j (List.mem_cons_of_mem _ hj))
def dCallK (R : RelD) (pm : List Nat) (n : Nat) (ts : Wp (List SV)) : Wp PyData := fun ρ Q => ts ρ fun ss ρ1 => ss.length = n ∧ Sof R (putS pm ss) fun d => Q d ρ1
theorem de_callK {ks : List Str} {pm : List Nat} (F : FnOk X.prog X.w X.K X.mg X.base CX0 k f fd ps (spD X.K R)) (hr : Room k X.A) (hg : Gl X x) (hm : X.mg x = some (.ref f))
    (hk : PySem.W.keepIn X.K (.ref f) = true) (hb : KB0 X.K fd ps ks pm) (hx : Passes CX0 X E) (hkw : DK X kws ts) (hpm : ∀ i ∈ pm, i < ks.length := by decide)
    (hall : (backToKw pos (keywordEach kws X.env)).all (·.1.isSome) = true := by rfl)
    (hks : (backToKw pos (keywordEach kws X.env)).filterMap (·.1) = ks := by rfl) (hdb : (x == ("__debug__" : Str)) = false := by decide)
    (hpl : ((backTo pos (starEach [] X.env)).any (·.1) || (backToKw pos (keywordEach kws X.env)).any (·.1.isNone)) = false := by rfl) :
    DE X (.Call (.Name x p) [] kws pos) (dCallK R pm ks.length ts) :=
  ⟨fun ρ P Q k q => hkw.mono ρ _ _ (fun ss ρ1 ⟨l, P, a, b⟩ => ⟨l, P, a, fun d hd => k _ _ (b d hd)⟩) q,
    (pe_callK0 F hr hg hm hk hb hx hkw.run hall hks hdb hpl).weaken fun σ H Q ⟨g, O, ρ, rp, q⟩ => lift_go hkw.mono rp q fun ss ρ1 O1 H1 vs R1 k1 hs q1 => by
      obtain ⟨l, P, a, b⟩ := q1
      refine ⟨(argsOk_len hs).trans l, ?_⟩
      exact call_go R1 (argsOk_put hs pm fun i hi => by rw [l]; exact hpm i hi) ⟨P, a, fun d hd O' H' v R' k' dx => b d hd O' H' v R' (k1.trans k') dx⟩⟩
end
/-! ### statements -/
structure DEnds where
  nx : En → Prop
  rt : PyData → En → Prop
  bk : En → Prop := fun _ => False
  ct : En → Prop := fun _ => False
structure DEnds.le (D D' : DEnds) : Prop where
  nx : ∀ ρ, D.nx ρ → D'.nx ρ
  rt : ∀ d ρ, D.rt d ρ → D'.rt d ρ
  bk : ∀ ρ, D.bk ρ → D'.bk ρ
  ct : ∀ ρ, D.ct ρ → D'.ct ρ
abbrev DTs := DEnds → En → Prop
def MonoS (t : DTs) : Prop := ∀ (D D' : DEnds) (ρ : En), D.le D' → t D ρ → t D' ρ
/-- the ends, as the heap bears them, seen from O, H -/
def ends (K : PySem.W.Frag) (g : Gh) (D : Ends) (O : List Addr) (H : Hp) : DEnds where
  nx := fun ρ' => ∀ O' σ' H', Rep K g O' ρ' σ' H' → Kps K g O H O' H' → D.nx σ' H'
  rt := fun d ρ' => ∀ O' σ' H' v, Rep K g O' ρ' σ' H' → Dx K (Zof g O') H' v d → D.rt v H'
  bk := fun ρ' => ∀ O' σ' H', Rep K g O' ρ' σ' H' → Kps K g O H O' H' → D.bk σ' H'
  ct := fun ρ' => ∀ O' σ' H', Rep K g O' ρ' σ' H' → Kps K g O H O' H' → D.ct σ' H'
def liftS (K : PySem.W.Frag) (t : DTs) : TS := fun D σ H => ∃ g O ρ, Rep K g O ρ σ H ∧ t (ends K g D O H) ρ
theorem ends_later {K : PySem.W.Frag} {g : Gh} {D : Ends} {O O1 : List Addr} {H H1 : Hp} (k : Kps K g O H O1 H1) : (ends K g D O H).le (ends K g D O1 H1) :=
  ⟨fun ρ q O' σ' H' R k' => q O' σ' H' R (k.trans k'), fun d ρ q => q, fun ρ q O' σ' H' R k' => q O' σ' H' R (k.trans k'), fun ρ q O' σ' H' R k' => q O' σ' H' R (k.trans k')⟩
structure DS (X : Cx) (st : Stmt) (t : DTs) : Prop where
  mono : MonoS t
  run : PS X st (liftS X.K t)
structure DSs (X : Cx) (st : List Stmt) (t : DTs) : Prop where
  mono : MonoS t
  run : PSs X st (liftS X.K t)
theorem _root_.L2.PS.weaken {st : Stmt} {t t' : TS} (h : PS X st t) (w : ∀ D σ H, t' D σ H → t D σ H) : PS X st t' := ⟨fun pins s σ H D I q => h.run pins s σ H D I (w D σ H q)⟩
theorem _root_.L2.PSs.weaken {st : List Stmt} {t t' : TS} (h : PSs X st t) (w : ∀ D σ H, t' D σ H → t D σ H) : PSs X st t' := ⟨fun pins s σ H D I q => h.run pins s σ H D I (w D σ H q)⟩
section
variable {st : Stmt} {rest : List Stmt} {t u : DTs} {e c : Expr} {te : Wp PyData} {tc : Wp Bool} {pos : Pos}
def dNext : DTs := fun D ρ => D.nx ρ
def dSeq (t u : DTs) : DTs := fun D ρ => t { D with nx := u D } ρ
theorem dss_nil : DSs X [] dNext := ⟨fun D D' ρ l q => l.nx _ q, pss_nil.weaken fun D σ H ⟨g, O, ρ, R, q⟩ => q O σ H R Kps.refl⟩
theorem dss_one (h : DS X st t) : DSs X [st] t := ⟨h.mono, pss_one h.run⟩
theorem dss_cons (h1 : DS X st t) (h2 : DSs X rest u) : DSs X (st :: rest) (dSeq t u) :=
  ⟨fun D D' ρ l q => h1.mono { D with nx := u D } { D' with nx := u D' } ρ ⟨fun ρ' p => h2.mono _ _ _ l p, l.rt, l.bk, l.ct⟩ q, (pss_cons h1.run h2.run).weaken fun D σ H ⟨g, O, ρ, R, q⟩ =>
    ⟨g, O, ρ, R, h1.mono { ends X.K g D O H with nx := u (ends X.K g D O H) } _ ρ ⟨fun ρ' p O' σ' H' R' k => ⟨g, O', ρ', R', h2.mono _ _ _ (ends_later k) p⟩, fun d ρ p => p, fun ρ p => p, fun ρ p => p⟩ q⟩⟩
/-- a list of one's own is given up -/
def dFrz (i : Nat) (t : DTs) : DTs := fun D ρ => match ρ[i]? with
  | some (.own xs) => t D (ρ.set i (.d (.list xs)))
  | _ => False
theorem dss_frz {sts : List Stmt} (i : Nat) (h : DSs X sts t) : DSs X sts (dFrz i t) := by
  refine ⟨fun D D' ρ l q => ?_, h.run.weaken fun D σ H ⟨g, O, ρ, R, q⟩ => ?_⟩
  · unfold dFrz at q ⊢
    split at q
    · exact h.mono _ _ _ l q
    · exact q.elim
  · unfold dFrz at q
    split at q
    · obtain ⟨O', R', k⟩ := R.freeze (by assumption)
      exact ⟨g, O', _, R', h.mono _ _ _ (ends_later k) q⟩
    · exact q.elim
theorem ds_pass : DS X (.Pass pos) dNext := ⟨fun D D' ρ l q => l.nx _ q, ps_pass.weaken fun D σ H ⟨g, O, ρ, R, q⟩ => q O σ H R Kps.refl⟩
def dBrk : DTs := fun D ρ => D.bk ρ
def dCnt : DTs := fun D ρ => D.ct ρ
theorem ds_break : DS X (.Break pos) dBrk := ⟨fun D D' ρ l q => l.bk _ q, ps_break.weaken fun D σ H ⟨g, O, ρ, R, q⟩ => q O σ H R Kps.refl⟩
theorem ds_cont : DS X (.Continue pos) dCnt := ⟨fun D D' ρ l q => l.ct _ q, ps_continue.weaken fun D σ H ⟨g, O, ρ, R, q⟩ => q O σ H R Kps.refl⟩
def dDrop (te : Wp PyData) : DTs := fun D ρ => te ρ fun _ ρ1 => D.nx ρ1
theorem ds_expr (he : DE X e te) (hs : swapsWith e none pos.line X.env = pure false := by rfl) : DS X (.Expr e pos) (dDrop te) :=
  ⟨fun D D' ρ l q => he.mono ρ _ _ (fun _ _ p => l.nx _ p) q, (ps_expr he.run hs).weaken fun D σ H ⟨g, O, ρ, R, q⟩ => lift_go he.mono R q fun d ρ1 O1 H1 v R1 k1 dx q1 => q1 O1 σ H1 R1 k1.dat⟩
def dRet (te : Wp PyData) : DTs := fun D ρ => te ρ fun d ρ1 => D.rt d ρ1
theorem ds_ret (he : DE X e te) : DS X (.Return (some e) pos) (dRet te) :=
  ⟨fun D D' ρ l q => he.mono ρ _ _ (fun _ _ p => l.rt _ _ p) q, (ps_ret he.run).weaken fun D σ H ⟨g, O, ρ, R, q⟩ => lift_go he.mono R q fun d ρ1 O1 H1 v R1 k1 dx q1 => q1 O1 σ H1 v R1 dx⟩
def dRetN : DTs := fun D ρ => D.rt .none ρ
theorem ds_retN : DS X (.Return none pos) dRetN := ⟨fun D D' ρ l q => l.rt _ _ q, ps_retN.weaken fun D σ H ⟨g, O, ρ, R, q⟩ => q O σ H _ R .non⟩
def dIfS (c : Wp Bool) (t u : DTs) : DTs := fun D ρ => c ρ fun b ρ1 => if b = true then t D ρ1 else u D ρ1
theorem ds_if {a b : List Stmt} (hc : DT X c tc) (ha : DSs X a t) (hb : DSs X b u) : DS X (.If c a b pos) (dIfS tc t u) := by
  refine ⟨fun D D' ρ l q => hc.mono ρ _ _ (fun b ρ1 p => ?_) q, (ps_if hc.run ha.run hb.run).weaken fun D σ H ⟨g, O, ρ, R, q⟩ => lift_go hc.mono R q fun k ρ1 O1 H1 b R1 k1 e q1 => ?_⟩
  · cases b with
    | true => exact ha.mono _ _ _ l p
    | false => exact hb.mono _ _ _ l p
  · subst e
    cases b with
    | true =>
      rw [if_pos rfl] at q1 ⊢
      exact ⟨g, O1, ρ1, R1, ha.mono _ _ _ (ends_later k1.dat) q1⟩
    | false =>
      rw [if_neg Bool.false_ne_true] at q1 ⊢
      exact ⟨g, O1, ρ1, R1, hb.mono _ _ _ (ends_later k1.dat) q1⟩
def dNever : DTs := fun _ _ => False
theorem ds_never : DS X st dNever := ⟨fun D D' ρ l q => q, ps_never.weaken fun D σ H ⟨g, O, ρ, R, q⟩ => q⟩
theorem dss_never {sts : List Stmt} : DSs X sts dNever := ⟨fun D D' ρ l q => q, pss_never.weaken fun D σ H ⟨g, O, ρ, R, q⟩ => q⟩
/-! names are set -/
/-- what a name may hold -/
def PX (K : PySem.W.Frag) : Bear SV V := fun g Oi O ρ σ H v s => match s with
  | .d x => Dx K (Zof g O) H v x
  | .own xs => ∃ p vs, v = .ref p ∧ p ∈ O ∧ p ∉ Oi ∧ Ev.New g ρ σ p ∧ H p = some (.lst vs) ∧ DxAll K (Zof g O) H vs xs
  | .lm => ∃ L F, g.lo.lm = some (L, F) ∧ v = .ref L
  | .rm _ => False
  | .un => False
structure DX (X : Cx) (e : Expr) (t : Wp SV) : Prop where
  mono : Mono t
  run : PE X e (lift X.K (PX X.K) t)
def xD (t : Wp PyData) : Wp SV := fun ρ Q => t ρ fun d ρ' => Q (.d d) ρ'
def xF (t : Wp (List PyData)) : Wp SV := fun ρ Q => t ρ fun xs ρ' => Q (.own xs) ρ'
theorem DE.x (h : DE X e te) : DX X e (xD te) := ⟨fun ρ P Q k q => h.mono ρ _ _ (fun d ρ' p => k _ _ p) q, h.run.weaken fun σ H Q ⟨g, O, ρ, R, q⟩ => lift_go h.mono R q fun d ρ1 O1 H1 v R1 k1 dx p => p O1 H1 v R1 k1 dx⟩
theorem DF.x {tf : Wp (List PyData)} (h : DF X e tf) : DX X e (xF tf) := ⟨fun ρ P Q k q => h.mono ρ _ _ (fun d ρ' p => k _ _ p) q, h.run.weaken fun σ H Q ⟨g, O, ρ, R, q⟩ => lift_go h.mono R q fun d ρ1 O1 H1 v R1 k1 hp p => p O1 H1 v R1 k1 (by
  obtain ⟨a, vs, O2, e1, e2, n1, n2, n3, h1, h2⟩ := hp
  exact ⟨a, vs, e1, by rw [e2]; exact List.mem_cons_self .., n2, n3, h1, h2⟩)⟩
theorem Rep.setX {K : PySem.W.Frag} {g : Gh} {Oi O : List Addr} {ρ : En} {σ : L2.St} {H : Hp} (R : Rep K g O ρ σ H) {i : Nat} {v : V} {s : SV} (h : PX K g Oi O ρ σ H v s) : Rep K g O (ρ.set i s) (σ.set i (some v)) H := by
  cases s with
  | d x => exact R.set h
  | own xs =>
    obtain ⟨p, vs, rfl, m, _, n, e, dx⟩ := h
    exact R.setOwn m n e dx
  | lm =>
    obtain ⟨L, F, e, rfl⟩ := h
    exact R.setLm e
  | rm => exact h.elim
  | un => exact h.elim
def dSet (i : Nat) (t : Wp SV) : DTs := fun D ρ => t ρ fun s ρ1 => D.nx (ρ1.set i s)
theorem ds_set {i : Nat} {x : Str} {tx : Wp SV} {pos' : Pos} (hN : X.N.Nodup) (hi : X.N[i]? = some x) (hx : Loc X.env.scope x) (he : DX X e tx) (hs : swapsWith e (some (.Name x pos')) pos.line X.env = pure false := by rfl)
    (hf : X.fn x = true ∨ X.env.scope.names.lookup x = some .local := by first | exact .inl rfl | exact .inr rfl | assumption) : DS X (.Assign [.Name x pos'] e pos) (dSet i tx) :=
  ⟨fun D D' ρ l q => he.mono ρ _ _ (fun _ _ p => l.nx _ p) q, (ps_set hN hi hx he.run hs hf).weaken fun D σ H ⟨g, O, ρ, R, q⟩ => lift_go he.mono R q fun s ρ1 O1 H1 v R1 k1 hp q1 => q1 O1 _ H1 (R1.setX hp) k1.dat⟩
/-- two at once -/
theorem PX.kp {K : PySem.W.Frag} {g : Gh} {Oi O O1 : List Addr} {ρ ρ1 : En} {σ : L2.St} {H H1 : Hp} {v : V} {s : SV} (h : PX K g Oi O ρ σ H v s) (k : Kp1 K g O ρ σ H O1 ρ1 H1) : PX K g Oi O1 ρ1 σ H1 v s := by
  cases s with
  | d x => exact k.dat _ _ h
  | own xs =>
    obtain ⟨p, vs, e, m, m2, n, e1, dx⟩ := h
    obtain ⟨n1, e2⟩ := k.pnd p vs m n e1
    exact ⟨p, vs, e, k.sub _ m, m2, n1, e2, k.dat.all dx⟩
  | lm => exact h
  | rm => exact h
  | un => exact h
/-- set behind another one was set -/
theorem PX.behind {K : PySem.W.Frag} {g : Gh} {Oi O1 O : List Addr} {ρ : En} {σ : L2.St} {H : Hp} {v w : V} {s r : SV} {i : Nat} (h : PX K g O1 O ρ σ H w r) (h1 : PX K g Oi O ρ σ H v s) (m1 : ∀ p xs, s = .own xs → v = .ref p → p ∈ O1) (hi : i < σ.length) :
    PX K g O1 O (ρ.set i s) (σ.set i (some v)) H w r := by
  cases r with
  | d x => exact h
  | own xs =>
    obtain ⟨p, vs, e, m, m2, n, e1, dx⟩ := h
    refine ⟨p, vs, e, m, m2, ⟨n.h0, fun j ys ej => ?_, n.nl⟩, e1, dx⟩
    rw [List.getElem?_set] at ej
    rw [atv_set hi]
    by_cases ij : i = j
    · rw [if_pos ij] at ej ⊢
      split at ej
      · have es : s = .own ys := Option.some.inj ej
        intro z
        exact m2 (m1 p ys es (Option.some.inj z))
      · cases ej
    · rw [if_neg ij] at ej ⊢
      exact n.sl j ys ej
  | lm => exact h
  | rm => exact h
  | un => exact h
def dPar (i j : Nat) (t u : Wp SV) : DTs := fun D ρ => t ρ fun s ρ1 => u ρ1 fun r ρ2 => D.nx ((ρ2.set i s).set j r)
theorem px_mem {K : PySem.W.Frag} {g : Gh} {Oi O : List Addr} {ρ : En} {σ : L2.St} {H : Hp} {v : V} {s : SV} (h : PX K g Oi O ρ σ H v s) : ∀ p xs, s = .own xs → v = .ref p → p ∈ O := by
  intro p xs es ev
  subst es
  obtain ⟨q, vs, e, m, _⟩ := h
  rw [ev] at e
  cases e
  exact m
theorem ds_par {i j : Nat} {x y : Str} {a b : Expr} {ta tb : Wp SV} {px py pt : Pos} {kt k2 pt2} (hc : X.calm = true) (hN : X.N.Nodup) (hi : X.N[i]? = some x) (hj : X.N[j]? = some y) (hij : i ≠ j)
    (hx : X.env.scope.names.lookup x = some .local) (hy : X.env.scope.names.lookup y = some .local) (ha : DX X a ta) (hb : DX X b tb)
    (hw : swappedStores [.Tuple [.Name x px, .Name y py] kt pt] (.Tuple [a, b] k2 pt2) X.env = pure (some [x, y]))
    (hs1 : starEach (a :: [b]) X.env = (false, eval a X.env) :: starEach [b] X.env := by rfl) (hs2 : starEach (b :: []) X.env = (false, eval b X.env) :: starEach [] X.env := by rfl)
    (hl : X.N.length = X.N.length := by rfl)
    (hs : swapsWithSole [.Tuple [.Name x px, .Name y py] kt pt] (.Tuple [a, b] k2 pt2) pos.line X.env = pure false := by rfl) :
    DS X (.Assign [.Tuple [.Name x px, .Name y py] kt pt] (.Tuple [a, b] k2 pt2) pos) (dPar i j ta tb) := by
  refine ⟨fun D D' ρ l q => ha.mono ρ _ _ (fun s ρ1 p => hb.mono ρ1 _ _ (fun r ρ2 p => l.nx _ p) p) q, ?_⟩
  have base := ps_par hc hN hi hj hij hx hy (pa_cons ha.run (pa_cons hb.run pa_nil hs2) hs1) hw hs
  refine ⟨fun pins s σ H D I h => base.run pins s σ H D I ?_⟩
  obtain ⟨g, O, ρ, R, q⟩ := h
  refine lift_go ha.mono R q fun s ρ1 O1 H1 v R1 k1 hp q1 => lift_go hb.mono R1 q1 fun r ρ2 O2 H2 w R2 kk2 hp2 q2 => ⟨v, w, rfl, ?_⟩
  have hi' : i < σ.length := by
    rw [I.len]
    exact (List.getElem?_eq_some_iff.mp hi).1
  have h1 := hp.kp kk2
  exact q2 O2 _ H2 ((R2.setX h1).setX (hp2.behind h1 (px_mem hp) hi')) (k1.trans kk2).dat
end
end
end Ev

set_option exponentiation.threshold 256
/-! the layer of data, 5: lists of one's own, loops, comprehensions, promises -/
namespace Ev
open PySem PySem.Spec PyProof.Rows L2
section
variable [Lo] {X : Cx}
section
variable {st : Stmt} {rest : List Stmt} {t u : DTs} {e c : Expr} {te ti : Wp PyData} {tc : Wp Bool} {pos : Pos} {i j l : Nat}
def dPar3 (i j l : Nat) (t u w : Wp SV) : DTs := fun D ρ => t ρ fun s ρ1 => u ρ1 fun r ρ2 => w ρ2 fun q ρ3 => D.nx (((ρ3.set i s).set j r).set l q)
theorem ds_par3 {x y z : Str} {a b c : Expr} {ta tb td : Wp SV} {px py pz pt : Pos} {kt k2 pt2} (hc : X.calm = true) (hN : X.N.Nodup) (hi : X.N[i]? = some x) (hj : X.N[j]? = some y) (hl : X.N[l]? = some z) (hij : i ≠ j) (hil : i ≠ l) (hjl : j ≠ l)
    (hx : X.env.scope.names.lookup x = some .local) (hy : X.env.scope.names.lookup y = some .local) (hz : X.env.scope.names.lookup z = some .local) (ha : DX X a ta) (hb : DX X b tb) (hd : DX X c td)
    (hw : swappedStores [.Tuple [.Name x px, .Name y py, .Name z pz] kt pt] (.Tuple [a, b, c] k2 pt2) X.env = pure (some [x, y, z]))
    (hs1 : starEach (a :: [b, c]) X.env = (false, eval a X.env) :: starEach [b, c] X.env := by rfl) (hs2 : starEach (b :: [c]) X.env = (false, eval b X.env) :: starEach [c] X.env := by rfl) (hs3 : starEach (c :: []) X.env = (false, eval c X.env) :: starEach [] X.env := by rfl)
    (hs : swapsWithSole [.Tuple [.Name x px, .Name y py, .Name z pz] kt pt] (.Tuple [a, b, c] k2 pt2) pos.line X.env = pure false := by rfl) :
    DS X (.Assign [.Tuple [.Name x px, .Name y py, .Name z pz] kt pt] (.Tuple [a, b, c] k2 pt2) pos) (dPar3 i j l ta tb td) := by
  refine ⟨fun D D' ρ l q => ha.mono ρ _ _ (fun s ρ1 p => hb.mono ρ1 _ _ (fun r ρ2 p => hd.mono ρ2 _ _ (fun _ _ p => l.nx _ p) p) p) q, ?_⟩
  have base := ps_par3 hc hN hi hj hl hij hil hjl hx hy hz (pa_cons ha.run (pa_cons hb.run (pa_cons hd.run pa_nil hs3) hs2) hs1) hw hs
  refine ⟨fun pins s σ H D I h => base.run pins s σ H D I ?_⟩
  obtain ⟨g, O, ρ, R, q⟩ := h
  refine lift_go ha.mono R q fun s ρ1 O1 H1 v R1 k1 hp q1 => lift_go hb.mono R1 q1 fun r ρ2 O2 H2 w R2 kk2 hp2 q2 => lift_go hd.mono R2 q2 fun m ρ3 O3 H3 y R3 kk3 hp3 q3 => ⟨v, w, y, rfl, ?_⟩
  have hi' : i < σ.length := by
    rw [I.len]
    exact (List.getElem?_eq_some_iff.mp hi).1
  have hj' : j < σ.length := by
    rw [I.len]
    exact (List.getElem?_eq_some_iff.mp hj).1
  have h1 := hp.kp (kk2.trans kk3)
  have h2 := hp2.kp kk3
  have m1 := px_mem hp
  have m2 := px_mem hp2
  have A := R3.setX (i := i) h1
  have B := A.setX (i := j) (h2.behind h1 m1 hi')
  have C := (hp3.behind h1 (fun p xs a b => kk2.sub _ (m1 p xs a b)) hi').behind (h2.behind h1 m1 hi') m2 (by rw [List.length_set]; exact hj')
  exact q3 O3 _ H3 (B.setX (i := l) C) ((k1.trans kk2).trans kk3).dat
/-! name op= e -/
def dAug (i : Nat) (od : OD) (te : Wp PyData) : DTs := fun D ρ => match ρ[i]? with
  | some (.d x) => te ρ fun y ρ1 => od x y fun r => D.nx (ρ1.set i (.d r))
  | _ => False
structure IpD (X : Cx) (op : Operator) (od : OD) : Prop where
  mono : ∀ x y P Q, (∀ r, P r → Q r) → od x y P → od x y Q
  run : PIp X op (fun v u H Q => ∃ Z x y, DxS X.K Z H v x ∧ DxS X.K Z H u y ∧ od x y (Res X.K Z H Q))
theorem ds_aug {x : Str} {op : Operator} {od : OD} {pos' : Pos} (ho : IpD X op od) (hN : X.N.Nodup) (hi : X.N[i]? = some x) (hx : Loc X.env.scope x) (he : DE X e te) (hf : X.fn x = true ∨ X.env.scope.names.lookup x = some .local := by first | exact .inl rfl | exact .inr rfl | assumption) :
    DS X (.AugAssign (.Name x pos') op e pos) (dAug i od te) := by
  refine ⟨fun D D' ρ l q => ?_, (ps_aug hN hi hx he.run ho.run hf).weaken fun D σ H ⟨g, O, ρ, R, q⟩ => ?_⟩
  · unfold dAug at q ⊢
    split at q
    · exact he.mono ρ _ _ (fun y ρ1 p => ho.mono _ _ _ _ (fun r p => l.nx _ p) p) q
    · exact q.elim
  · unfold dAug at q
    split at q
    · rename_i x e
      obtain ⟨v, e1, dx⟩ := R.var e
      exact ⟨v, e1, lift_go he.mono R q fun y ρ1 O1 H1 u R1 k1 dy q1 => ⟨Zof g O1, x, y, dx_s (k1.dat _ _ dx), dx_s dy, ho.mono _ _ _ _ (fun r p => res_fin R1 fun O' H' w R' k' dw => p O' _ H' (R'.set dw) (k1.trans k').dat) q1⟩⟩
    · exact q.elim
theorem i_add : IpD X .Add (intF fun i j => .int (i + j)) := by
  refine ⟨fun x y P Q k q => ?_, fun pins s σ H v u V U Q I rv ru ⟨Z, x, y, dx, dy, q⟩ => ?_⟩
  · unfold intF at q ⊢
    split at q <;> first | exact k _ q | exact q.elim
  · unfold intF at q
    split at q
    · cases dx_int dx
      cases dx_int dy
      exact ip_add pins s σ H _ _ V U Q I rv ru ⟨_, _, rfl, rfl, q _ H (Same.refl _) (.int _)⟩
    · exact q.elim
/-! ### lists of one's own -/
theorem Rep.write1 {K : PySem.W.Frag} {g : Gh} {O : List Addr} {ρ : En} {σ : L2.St} {H : Hp} (R : Rep K g O ρ σ H) {xs ys : List PyData} {p : Addr} {vs ws : List V} (e : ρ[i]? = some (.own xs)) (ea : atv σ i = some (.ref p)) (e1 : H p = some (.lst vs)) (h : DxAll K (Zof g O) H ws ys) :
    Rep K g O (ρ.set i (.own ys)) σ (upd H p (.lst ws)) ∧ Kp1 K g O ρ σ H O (ρ.set i (.own ys)) (upd H p (.lst ws)) := by
  obtain ⟨a, b⟩ := R.write e ea e1 h
  refine ⟨a, fun _ m => m, b, fun q us m n eq => ⟨⟨n.h0, fun j zs ej => ?_, n.nl⟩, ?_⟩⟩
  · rw [List.getElem?_set] at ej
    by_cases ij : i = j
    · subst ij
      exact n.sl i xs e
    · rw [if_neg ij] at ej
      exact n.sl j zs ej
  · rw [upd_ne (fun w => n.sl i xs e (by rw [ea, w]))]
    exact eq
theorem atv_of {σ : L2.St} {v : V} (h : σ[i]? = some (some v)) : atv σ i = some v := by
  unfold atv
  rw [h]
  rfl
variable {o : Expr} {apos cpos : Pos} {es : List Expr}
/-- xs.append(e) -/
def dApp (i : Nat) (te : Wp PyData) : Wp PyData := fun ρ Q => match ρ[i]? with
  | some (.own _) => te ρ fun d ρ1 => match ρ1[i]? with
    | some (.own xs) => xs.length < sizeLine ∧ Q .none (ρ1.set i (.own (xs ++ [d])))
    | _ => False
  | _ => False
theorem dApp_mono (h : Mono te) : Mono (dApp i te) := fun ρ P Q k q => by
  unfold dApp at q ⊢
  split at q
  · refine h ρ _ _ (fun d ρ1 p => ?_) q
    split at p
    · exact ⟨p.1, k _ _ p.2⟩
    · exact p.elim
  · exact q.elim
theorem de_append (ho : PE X o (tVar i)) (he : DE X e te)
    (hs1 : starEach (e :: []) X.env = (false, eval e X.env) :: starEach [] X.env := by rfl)
    (hbase : attributeBase o "append" X.env (eval o X.env) = eval o X.env := by rfl)
    (hfew : ((backTo cpos (starEach (e :: []) X.env)).all (fun x => !x.1) && (backToKw cpos (keywordEach [] X.env)).all (fun x => x.1.isSome)
      && decide ((e :: ([] : List Expr)).length + ([] : List Keyword).length + (if ([] : List Keyword).isEmpty then 0 else 1) < 30)) = true := by rfl)
    (hline : (apos.endLine == cpos.line) = true := by rfl) (hplain : (backTo cpos (starEach [] X.env)).any (·.1) = false := by rfl) :
    DE X (.Call (.Attribute o "append" apos) [e] [] cpos) (dApp i te) := by
  refine ⟨dApp_mono he.mono, (pe_bm PySem.F.plainAttrs_list PySem.F.slot_list_append PySem.F.type_list_append mt_append ho (pa_cons he.run pa_nil hs1) hbase hfew hline hs1 hplain).weaken fun σ H Q ⟨g, O, ρ, R, q⟩ => ?_⟩
  unfold dApp at q
  split at q
  · rename_i e0
    obtain ⟨p0, vs0, h0, h00, _⟩ := R.own e0
    refine ⟨.ref p0, h0, .inl ⟨rfl, _, SqL.of h00⟩, lift_go he.mono R q fun d ρ1 O1 H1 v R1 k1 dx q1 => ?_⟩
    dsimp only at q1
    split at q1
    · rename_i xs e1
      obtain ⟨p, vs, g1, g2, g3⟩ := R1.own e1
      rw [h0] at g1
      cases g1
      obtain ⟨R2, k2⟩ := R1.write1 e1 (atv_of h0) g2 (dxAll_app g3 (.cons dx .nil))
      exact ⟨p0, vs, v, rfl, rfl, g2, by rw [dxAll_len g3]; exact q1.1, q1.2 O1 _ _ R2 (k1.trans k2) .non⟩
    · exact q1.elim
  · exact q.elim
/-- xs.extend(a list) -/
def dExt (i : Nat) (te : Wp PyData) : Wp PyData := fun ρ Q => match ρ[i]? with
  | some (.own _) => te ρ fun d ρ1 => match d, ρ1[i]? with
    | .list ys, some (.own xs) => xs.length + ys.length ≤ sizeLine ∧ Q .none (ρ1.set i (.own (xs ++ ys)))
    | _, _ => False
  | _ => False
theorem de_extend (ho : PE X o (tVar i)) (he : DR X e te)
    (hs1 : starEach (e :: []) X.env = (false, eval e X.env) :: starEach [] X.env := by rfl)
    (hbase : attributeBase o "extend" X.env (eval o X.env) = eval o X.env := by rfl)
    (hfew : ((backTo cpos (starEach (e :: []) X.env)).all (fun x => !x.1) && (backToKw cpos (keywordEach [] X.env)).all (fun x => x.1.isSome)
      && decide ((e :: ([] : List Expr)).length + ([] : List Keyword).length + (if ([] : List Keyword).isEmpty then 0 else 1) < 30)) = true := by rfl)
    (hline : (apos.endLine == cpos.line) = true := by rfl) (hplain : (backTo cpos (starEach [] X.env)).any (·.1) = false := by rfl) :
    DE X (.Call (.Attribute o "extend" apos) [e] [] cpos) (dExt i te) := by
  refine ⟨fun ρ P Q k q => ?_, (pe_bm PySem.F.plainAttrs_list PySem.F.slot_list_extend PySem.F.type_list_extend mt_extend ho (pa_cons he.run pa_nil hs1) hbase hfew hline hs1 hplain).weaken fun σ H Q ⟨g, O, ρ, R, q⟩ => ?_⟩
  · unfold dExt at q ⊢
    split at q
    · refine he.mono ρ _ _ (fun d ρ1 p => ?_) q
      split at p
      · exact ⟨p.1, k _ _ p.2⟩
      · exact p.elim
    · exact q.elim
  unfold dExt at q
  split at q
  · rename_i e0
    obtain ⟨p0, vs0, h0, h00, _⟩ := R.own e0
    refine ⟨.ref p0, h0, .inl ⟨rfl, _, SqL.of h00⟩, lift_go he.mono R q fun d ρ1 O1 H1 v R1 k1 dx q1 => ?_⟩
    dsimp only at q1
    split at q1
    · rename_i ys xs e1
      obtain ⟨p, vs, g1, g2, g3⟩ := R1.own e1
      rw [h0] at g1
      cases g1
      obtain ⟨b, zs, rfl, b1, b2⟩ := dx
      obtain ⟨R2, k2⟩ := R1.write1 e1 (atv_of h0) g2 (dxAll_app g3 b2)
      exact ⟨p0, b, vs, zs, rfl, rfl, g2, b1, by rw [dxAll_len g3, dxAll_len b2]; exact q1.1, q1.2 O1 _ _ R2 (k1.trans k2) .non⟩
    · exact q1.elim
  · exact q.elim
/-- xs.pop() -/
def dPop (i : Nat) : Wp PyData := fun ρ Q => match ρ[i]? with
  | some (.own xs) => match xs[xs.length - 1]? with
    | some y => Q y (ρ.set i (.own xs.dropLast))
    | none => False
  | _ => False
theorem dxAll_dropLast {K : PySem.W.Frag} {Z : Addr → Prop} {H : Hp} {vs : List V} {ds : List PyData} (h : DxAll K Z H vs ds) : DxAll K Z H vs.dropLast ds.dropLast := by
  rw [List.dropLast_eq_take, List.dropLast_eq_take, dxAll_len h]
  exact dxAll_take _ h
theorem de_pop (ho : PE X o (tVar i)) (hbase : attributeBase o "pop" X.env (eval o X.env) = eval o X.env := by rfl) (hline : (apos.endLine == cpos.line) = true := by rfl) :
    DE X (.Call (.Attribute o "pop" apos) [] [] cpos) (dPop i) := by
  refine ⟨fun ρ P Q k q => ?_, (pe_bm0 PySem.F.plainAttrs_list PySem.F.slot_list_pop PySem.F.type_list_pop mt_pop ho hbase hline).weaken fun σ H Q ⟨g, O, ρ, R, q⟩ => ?_⟩
  · unfold dPop at q ⊢
    split at q
    · split at q
      · exact k _ _ q
      · exact q
    · exact q
  · unfold dPop at q
    split at q
    · rename_i xs e0
      obtain ⟨p0, vs, h0, h00, h3⟩ := R.own e0
      split at q
      · rename_i y ey
        obtain ⟨R2, k2⟩ := R.write1 e0 (atv_of h0) h00 (dxAll_dropLast h3)
        obtain ⟨w, ew, dw⟩ := dxAll_at h3 ey
        exact ⟨.ref p0, h0, .inl ⟨rfl, _, SqL.of h00⟩, p0, vs, w, rfl, rfl, h00, by rw [dxAll_len h3]; exact ew, q O _ _ R2 k2 (k2.dat _ _ dw)⟩
      · exact q.elim
    · exact q.elim
/-- xs.pop(k) -/
def dPopAt (i : Nat) (te : Wp PyData) : Wp PyData := fun ρ Q => match ρ[i]? with
  | some (.own _) => te ρ fun d ρ1 => match d, ρ1[i]? with
    | .int k, some (.own xs) => 0 ≤ k ∧ k < 2 ^ 62 ∧ match xs[k.toNat]? with
      | some y => Q y (ρ1.set i (.own (xs.eraseIdx k.toNat)))
      | none => False
    | _, _ => False
  | _ => False
theorem dxAll_erase {K : PySem.W.Frag} {Z : Addr → Prop} {H : Hp} : ∀ {vs : List V} {ds : List PyData} (n : Nat), DxAll K Z H vs ds → DxAll K Z H (vs.eraseIdx n) (ds.eraseIdx n)
  | _, _, _, .nil => .nil
  | _, _, 0, .cons h r => r
  | _, _, n + 1, .cons h r => .cons h (dxAll_erase n r)
theorem de_popAt (ho : PE X o (tVar i)) (he : DE X e te)
    (hs1 : starEach (e :: []) X.env = (false, eval e X.env) :: starEach [] X.env := by rfl)
    (hbase : attributeBase o "pop" X.env (eval o X.env) = eval o X.env := by rfl)
    (hfew : ((backTo cpos (starEach (e :: []) X.env)).all (fun x => !x.1) && (backToKw cpos (keywordEach [] X.env)).all (fun x => x.1.isSome)
      && decide ((e :: ([] : List Expr)).length + ([] : List Keyword).length + (if ([] : List Keyword).isEmpty then 0 else 1) < 30)) = true := by rfl)
    (hline : (apos.endLine == cpos.line) = true := by rfl) (hplain : (backTo cpos (starEach [] X.env)).any (·.1) = false := by rfl) :
    DE X (.Call (.Attribute o "pop" apos) [e] [] cpos) (dPopAt i te) := by
  refine ⟨fun ρ P Q k q => ?_, (pe_bm PySem.F.plainAttrs_list PySem.F.slot_list_pop PySem.F.type_list_pop mt_popAt ho (pa_cons he.run pa_nil hs1) hbase hfew hline hs1 hplain).weaken fun σ H Q ⟨g, O, ρ, R, q⟩ => ?_⟩
  · unfold dPopAt at q ⊢
    split at q
    · refine he.mono ρ _ _ (fun d ρ1 p => ?_) q
      split at p
      · refine ⟨p.1, p.2.1, ?_⟩
        have p2 := p.2.2
        split at p2
        · exact k _ _ p2
        · exact p2
      · exact p.elim
    · exact q.elim
  unfold dPopAt at q
  split at q
  · rename_i e0
    obtain ⟨p0, vs0, h0, h00, _⟩ := R.own e0
    refine ⟨.ref p0, h0, .inl ⟨rfl, _, SqL.of h00⟩, lift_go he.mono R q fun d ρ1 O1 H1 v R1 k1 dx q1 => ?_⟩
    dsimp only at q1
    split at q1
    · rename_i n xs e1
      obtain ⟨p, vs, g1, g2, g3⟩ := R1.own e1
      rw [h0] at g1
      cases g1
      cases dx_int dx
      obtain ⟨n0, n1, q2⟩ := q1
      split at q2
      · rename_i y ey
        obtain ⟨R2, k2⟩ := R1.write1 e1 (atv_of h0) g2 (dxAll_erase n.toNat g3)
        obtain ⟨w, ew, dw⟩ := dxAll_at g3 ey
        have hl : n.toNat < vs.length := (List.getElem?_eq_some_iff.mp ew).1
        refine ⟨p0, vs, n, n.toNat, w, rfl, rfl, g2, by omega, by omega, ?_, ew, q2 O1 _ _ R2 (k1.trans k2) (k2.dat _ _ dw)⟩
        exact (ixN_seq (n := vs.length) (i := n) (j := n.toNat) (by unfold ixN; rw [if_pos n0, if_pos (by omega)])).1
      · exact q2.elim
    · exact q1.elim
  · exact q.elim
/-- xs[k] = e -/
def dSetI (i : Nat) (te ti : Wp PyData) : DTs := fun D ρ => te ρ fun d ρ1 => match ρ1[i]? with
  | some (.own _) => ti ρ1 fun k ρ2 => match k, ρ2[i]? with
    | .int n, some (.own xs) => match ixN xs.length n with
      | some m => D.nx (ρ2.set i (.own (xs.set m d)))
      | none => False
    | _, _ => False
  | _ => False
theorem dxAll_set {K : PySem.W.Frag} {Z : Addr → Prop} {H : Hp} {v : V} {d : PyData} (hd : Dx K Z H v d) : ∀ {vs : List V} {ds : List PyData} (n : Nat), DxAll K Z H vs ds → DxAll K Z H (vs.set n v) (ds.set n d)
  | _, _, _, .nil => .nil
  | _, _, 0, .cons h r => .cons hd r
  | _, _, n + 1, .cons h r => .cons h (dxAll_set hd n r)
theorem ds_setI {k : Expr} {p : Pos} (ho : PE X o (tVar i)) (he : DE X e te) (hk : DE X k ti)
    (ha : ∀ v, assign (.Subscript o k p) X.env v = (do
      let ov ← holding [v] (eval o X.env)
      let iv ← holding [v, ov] (eval k X.env)
      standAt p
      holding [v, ov, iv] (setItem ov iv v)
      release [v, ov, iv] []) := by intro _; rfl)
    (hs : swapsWithSole [.Subscript o k p] e pos.line X.env = pure false := by rfl) (hw : swappedStores [.Subscript o k p] e X.env = pure none := by rfl)
    (h1 : (assignEach [.Subscript o k p] X.env).map (·.2) = [assign (.Subscript o k p) X.env] := by rfl) : DS X (.Assign [.Subscript o k p] e pos) (dSetI i te ti) := by
  refine ⟨fun D D' ρ l q => he.mono ρ _ _ (fun d ρ1 p => ?_) q, (ps_asg he.run (pg_sub ho hk.run set_list ha) hs hw h1).weaken fun D σ H ⟨g, O, ρ, R, q⟩ => lift_go he.mono R q fun d ρ1 O1 H1 v R1 k1 dx q1 => ?_⟩
  · split at p
    · refine hk.mono ρ1 _ _ (fun n ρ2 p => ?_) p
      split at p
      · split at p
        · exact l.nx _ p
        · exact p
      · exact p.elim
    · exact p.elim
  · split at q1
    · rename_i e0
      obtain ⟨p0, vs0, h0, h00, _⟩ := R1.own e0
      refine ⟨.ref p0, h0, lift_go hk.mono R1 q1 fun n ρ2 O2 H2 u R2 k2 dn q2 => ?_⟩
      split at q2
      · rename_i n xs e1
        obtain ⟨p, vs, g1, g2, g3⟩ := R2.own e1
        rw [h0] at g1
        cases g1
        cases dx_int dn
        split at q2
        · rename_i m em
          obtain ⟨R3, k3⟩ := R2.write1 e1 (atv_of h0) g2 (dxAll_set (k2.dat _ _ dx) m g3)
          exact ⟨p0, vs, n, m, rfl, rfl, g2, by rw [dxAll_len g3]; exact em, q2 O2 _ _ R3 ((k1.trans k2).trans k3).dat⟩
        · exact q2.elim
      · exact q2.elim
    · exact q1.elim
/-! ### targets -/
abbrev Wg := PyData → En → (En → Prop) → Prop
abbrev Wgs := List PyData → En → (En → Prop) → Prop
def liftG (K : PySem.W.Frag) (is : List Nat) (t : Wg) : TG := fun v σ H Q => ∃ g O ρ d, Rep K g O ρ σ H ∧ Dx K (Zof g O) H v d ∧ t d ρ fun ρ' => ∀ σ', Rep K g O ρ' σ' H → σ'.length = σ.length → (∀ j, j ∉ is → σ'[j]? = σ[j]?) → Q σ' H
def liftGs (K : PySem.W.Frag) (is : List Nat) (t : Wgs) : TGs := fun vs σ H Q => ∃ g O ρ ds, Rep K g O ρ σ H ∧ DxAll K (Zof g O) H vs ds ∧ t ds ρ fun ρ' => ∀ σ', Rep K g O ρ' σ' H → σ'.length = σ.length → (∀ j, j ∉ is → σ'[j]? = σ[j]?) → Q σ' H
def wipeD (ρ : En) : List Nat → En
  | [] => ρ
  | v :: vs => (wipeD ρ vs).set v .un
/-- ρ' is ρ but for the names at is, which hold data -/
structure OnlyAt (is : List Nat) (ρ ρ' : En) : Prop where
  len : ρ'.length = ρ.length
  off : ∀ j, j ∉ is → ρ'[j]? = ρ[j]?
  no : ∀ j xs, j ∈ is → ρ'[j]? ≠ some (.own xs)
structure DGt (X : Cx) (tg : Expr) (is : List Nat) (t : Wg) : Prop where
  mono : ∀ d ρ P Q, (∀ ρ', P ρ' → Q ρ') → t d ρ P → t d ρ Q
  only : ∀ d ρ P, t d ρ P → t d ρ fun ρ' => P ρ' ∧ OnlyAt is ρ ρ'
  run : PG X tg (liftG X.K is t)
structure DGts (X : Cx) (tgs : List Expr) (is : List Nat) (t : Wgs) : Prop where
  mono : ∀ d ρ P Q, (∀ ρ', P ρ' → Q ρ') → t d ρ P → t d ρ Q
  only : ∀ d ρ P, t d ρ P → t d ρ fun ρ' => P ρ' ∧ OnlyAt is ρ ρ'
  run : PGs X tgs (liftGs X.K is t)
theorem _root_.L2.PG.weaken {tg : Expr} {t t' : TG} (h : PG X tg t) (w : ∀ v σ H Q, t' v σ H Q → t v σ H Q) : PG X tg t' := ⟨fun pins s σ H v u Q I r q => h.run pins s σ H v u Q I r (w v σ H Q q)⟩
theorem _root_.L2.PGs.weaken {tg : List Expr} {t t' : TGs} (h : PGs X tg t) (w : ∀ v σ H Q, t' v σ H Q → t v σ H Q) : PGs X tg t' := ⟨fun pins s σ H v u Q I r q => h.run pins s σ H v u Q I r (w v σ H Q q)⟩
def wName (i : Nat) : Wg := fun d ρ Q => Q (ρ.set i (.d d))
def wNil : Wgs := fun ds ρ Q => match ds with | [] => Q ρ | _ => False
def wCons (t : Wg) (u : Wgs) : Wgs := fun ds ρ Q => match ds with | d :: r => t d ρ fun ρ' => u r ρ' Q | _ => False
def wTup (n : Nat) (t : Wgs) : Wg := fun d ρ Q => match d with | .tuple ds => ds.length = n ∧ t ds ρ Q | _ => False
theorem dg_name {x : Str} (hN : X.N.Nodup) (hi : X.N[i]? = some x) (hx : Loc X.env.scope x) (hf : X.fn x = true ∨ X.env.scope.names.lookup x = some .local := by first | exact .inl rfl | exact .inr rfl | assumption) : DGt X (.Name x pos) [i] (wName i) :=
  ⟨fun d ρ P Q k q => k _ q, fun d ρ P q => ⟨q, List.length_set .., fun j hj => List.getElem?_set_ne (fun e => hj (by rw [e]; exact List.mem_singleton.mpr rfl)), fun j xs hj => by
      have e := List.mem_singleton.mp hj
      subst e
      rw [List.getElem?_set, if_pos rfl]
      split <;> intro z <;> cases z⟩, (pg_name hN hi hx hf).weaken fun v σ H Q ⟨g, O, ρ, d, R, dx, q⟩ => q _ (R.set dx) (List.length_set ..) fun j hj => by
    rw [List.getElem?_set_ne]
    intro e
    exact hj (by rw [e]; exact List.mem_singleton.mpr rfl)⟩
theorem dgs_nil : DGts X [] [] wNil := ⟨fun d ρ P Q k q => by
  unfold wNil at q ⊢
  split at q
  · exact k _ q
  · exact q, fun d ρ P q => by
  unfold wNil at q ⊢
  split at q
  · exact ⟨q, rfl, fun _ _ => rfl, fun j xs hj => nomatch hj⟩
  · exact q, pgs_nil.weaken fun vs σ H Q ⟨g, O, ρ, ds, R, dx, q⟩ => by
  unfold wNil at q
  split at q
  · cases dx
    exact ⟨rfl, q σ R rfl fun _ _ => rfl⟩
  · exact q.elim⟩
theorem dgs_cons {tg : Expr} {tgs : List Expr} {is js : List Nat} {t : Wg} {u : Wgs} (h1 : DGt X tg is t) (h2 : DGts X tgs js u)
    (hs : (assignEach (tg :: tgs) X.env).map (·.2) = assign tg X.env :: (assignEach tgs X.env).map (·.2) := by rfl) : DGts X (tg :: tgs) (is ++ js) (wCons t u) := ⟨fun d ρ P Q k q => by
  unfold wCons at q ⊢
  split at q
  · exact h1.mono _ _ _ _ (fun ρ' p => h2.mono _ _ _ _ k p) q
  · exact q, fun d ρ P q => by
  unfold wCons at q ⊢
  split at q
  · refine h1.mono _ _ _ _ (fun ρ' p => h2.mono _ _ _ _ (fun ρ2 p2 => ⟨p2.1, p2.2.len.trans p.2.len, fun j hj => (p2.2.off j fun m => hj (List.mem_append_right _ m)).trans (p.2.off j fun m => hj (List.mem_append_left _ m)), fun j xs hj => ?_⟩) (h2.only _ _ _ p.1)) (h1.only _ _ _ q)
    by_cases m : j ∈ js
    · exact p2.2.no j xs m
    · rw [p2.2.off j m]
      exact p.2.no j xs ((List.mem_append.mp hj).resolve_right m)
  · exact q, (pgs_cons h1.run h2.run hs).weaken fun vs σ H Q ⟨g, O, ρ, ds, R, dx, q⟩ => by
  unfold wCons at q
  split at q
  · cases dx with
    | cons hd hr =>
      exact ⟨_, _, rfl, g, O, ρ, _, R, hd, h1.mono _ _ _ _ (fun ρ' p σ' R' l' k' => ⟨g, O, ρ', _, R', hr, h2.mono _ _ _ _ (fun ρ2 p2 σ2 R2 l2 k2 => p2 σ2 R2 (l2.trans l') fun j hj => (k2 j fun m => hj (List.mem_append_right _ m)).trans (k' j fun m => hj (List.mem_append_left _ m))) p⟩) q⟩
  · exact q.elim⟩
theorem dg_tup {es : List Expr} {k : Nat} {t : Wgs} {n : Nat} {is : List Nat} (hc : X.calm = true) (h : DGts X es is t)
    (hn : (assignEach es X.env).length = n := by rfl) (hst : (assignEach es X.env).findIdx? (·.1) = none := by rfl) : DGt X (.Tuple es k pos) is (wTup n t) := ⟨fun d ρ P Q k q => by
  unfold wTup at q ⊢
  split at q
  · exact ⟨q.1, h.mono _ _ _ _ k q.2⟩
  · exact q, fun d ρ P q => by
  unfold wTup at q ⊢
  split at q
  · exact ⟨q.1, h.only _ _ _ q.2⟩
  · exact q, (pg_tup hc h.run hn hst).weaken fun v σ H Q ⟨g, O, ρ, d, R, dx, q⟩ => by
  unfold wTup at q
  split at q
  · obtain ⟨a, vs, rfl, h1, h2⟩ := dx_tup dx
    exact ⟨a, vs, rfl, h1, by rw [dxAll_len h2]; exact q.1, g, O, ρ, _, R, h2, q.2⟩
  · exact q.elim⟩
/-- target = e -/
def dAsg (te : Wp PyData) (t : Wg) : DTs := fun D ρ => te ρ fun d ρ1 => t d ρ1 D.nx
theorem ds_asg {tg : Expr} {is : List Nat} {t : Wg} (he : DE X e te) (hg : DGt X tg is t) (hs : swapsWithSole [tg] e pos.line X.env = pure false := by rfl) (hw : swappedStores [tg] e X.env = pure none := by rfl)
    (h1 : (assignEach [tg] X.env).map (·.2) = [assign tg X.env] := by rfl) : DS X (.Assign [tg] e pos) (dAsg te t) :=
  ⟨fun D D' ρ l q => he.mono ρ _ _ (fun d ρ1 p => hg.mono _ _ _ _ l.nx p) q, (ps_asg he.run hg.run hs hw h1).weaken fun D σ H ⟨g, O, ρ, R, q⟩ => lift_go he.mono R q fun d ρ1 O1 H1 v R1 k1 dx q1 =>
    ⟨g, O1, ρ1, d, R1, dx, hg.mono _ _ _ _ (fun ρ' p σ' R' l' k' => p O1 σ' H1 R' k1.dat) q1⟩⟩
end
end
end Ev

set_option exponentiation.threshold 256
/-! the layer of data, 6: what is walked, for, while, comprehensions, promises -/
namespace Ev
open PySem PySem.Spec PyProof.Rows L2
section
variable [Lo] {X : Cx}
/-! ### what is walked -/
structure WalkD (K : PySem.W.Frag) (g : Gh) (J : It) (xs : List PyData) (G : List Addr → Hp → Prop) : Prop where
  keep : ∀ O H O' H', Kps K g O H O' H' → G O H → G O' H'
  goes : ∀ O H i, G O H → i < xs.length → J.go i H
  stops : ∀ O H, G O H → J.stop xs.length H
  yields : ∀ O H i x H', G O H → i < xs.length → J.yld i H x H' → Same H H' ∧ ∃ d, xs[i]? = some d ∧ Dx K (fun a => Zof g O a ∨ H a = none) H' x d
def PJt (K : PySem.W.Frag) : Bear (List PyData) It := fun g _ O _ _ H J xs => ∃ G, G O H ∧ WalkD K g J xs G
structure DI (X : Cx) (tg iter : Expr) (t : Wp (List PyData)) : Prop where
  mono : Mono t
  run : PI X tg iter (lift X.K (PJt X.K) t)
theorem _root_.L2.PI.weaken {tg e : Expr} {t t' : TI} (h : PI X tg e t) (w : ∀ σ H Q, t' σ H Q → t σ H Q) : PI X tg e t' := ⟨fun pins s σ H Q I q => h.run pins s σ H Q I (w σ H Q q)⟩
variable {tg e a b : Expr} {te ta tb : Wp PyData} {pos p : Pos}
theorem walk_tupD {K : PySem.W.Frag} {g : Gh} {l : Addr} {vs : List V} {xs : List PyData} {O : List Addr} {H : Hp} (h : SqT K H l vs) (hd : DxAll K (Zof g O) H vs xs) :
    ∃ G : List Addr → Hp → Prop, G O H ∧ WalkD K g (Itt K l) xs G := by
  refine ⟨fun O' H' => ∃ ws, SqT K H' l ws ∧ DxAll K (Zof g O') H' ws xs, ⟨vs, h, hd⟩, fun O1 H1 O2 H2 k ⟨ws, a, b⟩ => ?_, fun O1 H1 i ⟨ws, a, b⟩ hi => ?_, fun O1 H1 ⟨ws, a, b⟩ => ⟨ws, a, by rw [dxAll_len b]; exact Nat.le_refl _⟩, fun O1 H1 i x H2 ⟨ws, a, b⟩ hi y => ?_⟩
  · obtain ⟨a', ws', e, h1, h2⟩ := dx_tup (k _ _ (.tup a b))
    cases e
    exact ⟨ws', h1, h2⟩
  · exact ⟨ws, ws[i]'(by rw [dxAll_len b]; exact hi), a, List.getElem?_eq_getElem _⟩
  · obtain ⟨rfl, y⟩ := y
    obtain ⟨d, e1, e2⟩ := dxAll_get b (y ws a)
    exact ⟨Same.refl _, d, e1, dx_monoL (fun _ z => .inl z) e2⟩
theorem walk_lstD {K : PySem.W.Frag} {g : Gh} {l : Addr} {vs : List V} {xs : List PyData} {O : List Addr} {H : Hp} (h : H l = some (.lst vs)) (z : Zof g O l) (hd : DxAll K (Zof g O) H vs xs) :
    ∃ G : List Addr → Hp → Prop, G O H ∧ WalkD K g (Itl K l) xs G := by
  refine ⟨fun O' H' => Dx K (Zof g O') H' (.ref l) (.list xs), .lst h z hd, fun O1 H1 O2 H2 k q => k _ _ q, fun O1 H1 i q hi => ?_, fun O1 H1 q => ?_, fun O1 H1 i x H2 q hi y => ?_⟩
  · obtain ⟨_, ws, e, a, _, b⟩ := dx_lst q
    cases e
    exact ⟨ws, ws[i]'(by rw [dxAll_len b]; exact hi), SqL.of a, List.getElem?_eq_getElem _⟩
  · obtain ⟨_, ws, e, a, _, b⟩ := dx_lst q
    cases e
    exact ⟨ws, SqL.of a, by rw [dxAll_len b]; exact Nat.le_refl _⟩
  · obtain ⟨_, ws, e, a, _, b⟩ := dx_lst q
    cases e
    obtain ⟨rfl, y⟩ := y
    obtain ⟨d, e1, e2⟩ := dxAll_get b (y ws (SqL.of a))
    exact ⟨Same.refl _, d, e1, dx_monoL (fun _ z => .inl z) e2⟩
def wTupI (te : Wp PyData) : Wp (List PyData) := fun ρ Q => te ρ fun d ρ1 => match d with | .tuple xs => Q xs ρ1 | _ => False
def wLstI (te : Wp PyData) : Wp (List PyData) := fun ρ Q => te ρ fun d ρ1 => match d with | .list xs => Q xs ρ1 | _ => False
theorem mono_tupI (h : Mono te) : Mono (wTupI te) := fun ρ P Q k q => h ρ _ _ (fun d ρ1 p => by
  split at p
  · exact k _ _ p
  · exact p) q
theorem mono_lstI (h : Mono te) : Mono (wLstI te) := fun ρ P Q k q => h ρ _ _ (fun d ρ1 p => by
  split at p
  · exact k _ _ p
  · exact p) q
theorem di_tup (h : DE X e te) : DI X tg e (wTupI te) :=
  ⟨mono_tupI h.mono, (pi_tup h.run).weaken fun σ H R ⟨g, O, ρ, rp, q⟩ => lift_go h.mono rp q fun d ρ1 O1 H1 v R1 k1 dx q1 => by
    split at q1
    · obtain ⟨l, vs, rfl, h1, h2⟩ := dx_tup dx
      exact ⟨l, rfl, ⟨vs, h1⟩, q1 O1 H1 _ R1 k1 (walk_tupD h1 h2)⟩
    · exact q1.elim⟩
theorem di_lst (h : DE X e te) : DI X tg e (wLstI te) :=
  ⟨mono_lstI h.mono, (pi_list h.run).weaken fun σ H R ⟨g, O, ρ, rp, q⟩ => lift_go h.mono rp q fun d ρ1 O1 H1 v R1 k1 dx q1 => by
    split at q1
    · obtain ⟨l, vs, rfl, h1, z, h2⟩ := dx_lst dx
      exact ⟨l, rfl, ⟨vs, SqL.of h1⟩, q1 O1 H1 _ R1 k1 (walk_lstD h1 z h2)⟩
    · exact q1.elim⟩
def rngD (lo : Int) (n : Nat) : List PyData := (List.range n).map fun (i : Nat) => .int (lo + (i : Int))
theorem rngD_len (lo : Int) (n : Nat) : (rngD lo n).length = n := by simp [rngD]
theorem rngD_at {lo : Int} {n i : Nat} (h : i < n) : (rngD lo n)[i]? = some (.int (lo + (i : Int))) := by
  unfold rngD
  rw [List.getElem?_map, List.getElem?_range h]
  rfl
theorem walk_rngD {K : PySem.W.Frag} {g : Gh} {lo : Int} {n : Nat} {O : List Addr} {H : Hp} : ∃ G : List Addr → Hp → Prop, G O H ∧ WalkD K g (Itr lo n) (rngD lo n) G := by
  refine ⟨fun _ _ => True, trivial, fun _ _ _ _ _ _ => trivial, fun O1 H1 i _ hi => by rw [rngD_len] at hi; exact hi, fun _ _ _ => by rw [rngD_len]; exact Nat.le_refl _, fun O1 H1 i x H2 _ hi y => ?_⟩
  rw [rngD_len] at hi
  obtain ⟨rfl, rfl⟩ := y
  exact ⟨Same.refl _, _, rngD_at hi, .int _⟩
/-- range(n) -/
def wRng1 (te : Wp PyData) : Wp (List PyData) := fun ρ Q => te ρ fun d ρ1 => match d with | .int j => -(2 ^ 62) ≤ j ∧ j < 2 ^ 62 ∧ Q (rngD 0 j.toNat) ρ1 | _ => False
def wRng2 (ta tb : Wp PyData) : Wp (List PyData) := fun ρ Q => ta ρ fun d ρ1 => tb ρ1 fun d' ρ2 => match d, d' with | .int i, .int j => (-(2 ^ 62) ≤ i ∧ i < 2 ^ 62 ∧ -(2 ^ 62) ≤ j ∧ j < 2 ^ 62) ∧ Q (rngD i (j - i).toNat) ρ2 | _, _ => False
theorem di_rng1 (hg : Gl X "range") (hm : X.mg "range" = none) (ha : DE X a ta) (hs : starEach [a] X.env = [(false, eval a X.env)] := by rfl) : DI X tg (.Call (.Name "range" p) [a] [] pos) (wRng1 ta) :=
  ⟨fun ρ P Q k q => ha.mono ρ _ _ (fun d ρ1 p => by
      split at p
      · exact ⟨p.1, p.2.1, k _ _ p.2.2⟩
      · exact p) q, (pi_range1 hg hm (pa_cons ha.run pa_nil hs) hs).weaken fun σ H R ⟨g, O, ρ, rp, q⟩ => lift_go ha.mono rp q fun d ρ1 O1 H1 v R1 k1 dx q1 => by
    split at q1
    · cases dx_int dx
      exact ⟨_, rfl, q1.1, q1.2.1, q1.2.2 O1 H1 _ R1 k1 walk_rngD⟩
    · exact q1.elim⟩
theorem di_rng2 (hg : Gl X "range") (hm : X.mg "range" = none) (ha : DE X a ta) (hb : DE X b tb) (hs : starEach [a, b] X.env = [(false, eval a X.env), (false, eval b X.env)] := by rfl) (hs1 : starEach (a :: [b]) X.env = (false, eval a X.env) :: starEach [b] X.env := by rfl)
    (hs2 : starEach [b] X.env = [(false, eval b X.env)] := by rfl) : DI X tg (.Call (.Name "range" p) [a, b] [] pos) (wRng2 ta tb) :=
  ⟨fun ρ P Q k q => ha.mono ρ _ _ (fun d ρ1 p => hb.mono ρ1 _ _ (fun d' ρ2 p => by
      split at p
      · exact ⟨p.1, k _ _ p.2⟩
      · exact p) p) q, (pi_range2 hg hm (pa_cons ha.run (pa_cons hb.run pa_nil hs2) hs1) hs hs2).weaken fun σ H R ⟨g, O, ρ, rp, q⟩ => lift_go ha.mono rp q fun d ρ1 O1 H1 v R1 k1 dx q1 => lift_go hb.mono R1 q1 fun d' ρ2 O2 H2 w R2 k2 dy q2 => by
    split at q2
    · cases dx_int dx
      cases dx_int dy
      exact ⟨_, _, rfl, q2.1, q2.2 O2 H2 _ R2 (k1.trans k2) walk_rngD⟩
    · exact q2.elim⟩
/-- pairs of place and item -/
def enumD (xs : List PyData) : List PyData := xs.mapIdx fun (i : Nat) d => .tuple [.int (i : Int), d]
theorem enumD_len (xs : List PyData) : (enumD xs).length = xs.length := by simp [enumD]
theorem enumD_at {xs : List PyData} {i : Nat} {d : PyData} (h : xs[i]? = some d) : (enumD xs)[i]? = some (.tuple [.int (i : Int), d]) := by
  unfold enumD
  rw [List.getElem?_mapIdx, h]
  rfl
theorem yield_pair {K : PySem.W.Frag} {g : Gh} {O : List Addr} {H H2 : Hp} {t : Addr} {x : V} {i : Nat} {d : PyData} (ht : H t = none) (eH : H2 = upd H t (.tup [.int (i : Nat), x])) (hd : Dx K (Zof g O) H x d) :
    Same H H2 ∧ Dx K (fun a => Zof g O a ∨ H a = none) H2 (.ref t) (.tuple [.int (i : Int), d]) := by
  subst eH
  have sm : Same H (upd H t (.tup [.int (i : Nat), x])) := same_new ht
  exact ⟨sm, .tup (SqT.of upd_same) (.cons (.int _) (.cons (dx_monoL (fun _ z => .inl z) (dx_same sm hd)) .nil))⟩
theorem walk_enTD {K : PySem.W.Frag} {g : Gh} {l : Addr} {vs : List V} {xs : List PyData} {O : List Addr} {H : Hp} (h : SqT K H l vs) (hd : DxAll K (Zof g O) H vs xs) :
    ∃ G : List Addr → Hp → Prop, G O H ∧ WalkD K g (IteT K l) (enumD xs) G := by
  refine ⟨fun O' H' => ∃ ws, SqT K H' l ws ∧ DxAll K (Zof g O') H' ws xs, ⟨vs, h, hd⟩, fun O1 H1 O2 H2 k ⟨ws, a, b⟩ => ?_, fun O1 H1 i ⟨ws, a, b⟩ hi => ?_, fun O1 H1 ⟨ws, a, b⟩ => ⟨ws, a, by rw [enumD_len, dxAll_len b]; exact Nat.le_refl _⟩, fun O1 H1 i x H2 ⟨ws, a, b⟩ hi y => ?_⟩
  · obtain ⟨a', ws', e, h1, h2⟩ := dx_tup (k _ _ (.tup a b))
    cases e
    exact ⟨ws', h1, h2⟩
  · rw [enumD_len] at hi
    exact ⟨ws, ws[i]'(by rw [dxAll_len b]; exact hi), a, List.getElem?_eq_getElem _⟩
  · obtain ⟨t, w, rfl, ht, eH, y⟩ := y
    obtain ⟨d, e1, e2⟩ := dxAll_get b (y ws a)
    obtain ⟨s1, s2⟩ := yield_pair ht eH e2
    exact ⟨s1, _, enumD_at e1, s2⟩
theorem walk_enLD {K : PySem.W.Frag} {g : Gh} {l : Addr} {vs : List V} {xs : List PyData} {O : List Addr} {H : Hp} (h : H l = some (.lst vs)) (z : Zof g O l) (hd : DxAll K (Zof g O) H vs xs) :
    ∃ G : List Addr → Hp → Prop, G O H ∧ WalkD K g (Ite K l) (enumD xs) G := by
  refine ⟨fun O' H' => Dx K (Zof g O') H' (.ref l) (.list xs), .lst h z hd, fun O1 H1 O2 H2 k q => k _ _ q, fun O1 H1 i q hi => ?_, fun O1 H1 q => ?_, fun O1 H1 i x H2 q hi y => ?_⟩
  · obtain ⟨_, ws, e, a, _, b⟩ := dx_lst q
    cases e
    rw [enumD_len, ← dxAll_len b] at hi
    exact walk_enum.goes i H1 hi (SqL.of a)
  · obtain ⟨_, ws, e, a, _, b⟩ := dx_lst q
    cases e
    rw [enumD_len, ← dxAll_len b]
    exact walk_enum.stops H1 (SqL.of a)
  · obtain ⟨_, ws, e, a, _, b⟩ := dx_lst q
    cases e
    rw [enumD_len, ← dxAll_len b] at hi
    obtain ⟨t, x1, w, rfl, ht, eH, h1, h2⟩ := walk_enum.yields i H1 x H2 hi (SqL.of a) y
    cases h1
    obtain ⟨d, e1, e2⟩ := dxAll_get b h2
    obtain ⟨s1, s2⟩ := yield_pair ht eH e2
    exact ⟨s1, _, enumD_at e1, s2⟩
def wEnT (te : Wp PyData) : Wp (List PyData) := fun ρ Q => te ρ fun d ρ1 => match d with | .tuple xs => Q (enumD xs) ρ1 | _ => False
def wEnL (te : Wp PyData) : Wp (List PyData) := fun ρ Q => te ρ fun d ρ1 => match d with | .list xs => Q (enumD xs) ρ1 | _ => False
theorem di_enT {elts : List Expr} {kk : Nat} {tpos : Pos} (hg : Gl X "enumerate") (hm : X.mg "enumerate" = none) (ha : DE X a ta) (hs : starEach [a] X.env = [(false, eval a X.env)] := by rfl) :
    DI X (.Tuple elts kk tpos) (.Call (.Name "enumerate" p) [a] [] pos) (wEnT ta) :=
  ⟨fun ρ P Q k q => ha.mono ρ _ _ (fun d ρ1 p => by
      split at p
      · exact k _ _ p
      · exact p) q, (pi_enumT hg hm (pa_cons ha.run pa_nil hs) hs).weaken fun σ H R ⟨g, O, ρ, rp, q⟩ => lift_go ha.mono rp q fun d ρ1 O1 H1 v R1 k1 dx q1 => by
    split at q1
    · obtain ⟨l, vs, rfl, h1, h2⟩ := dx_tup dx
      exact ⟨l, vs, rfl, h1, q1 O1 H1 _ R1 k1 (walk_enTD h1 h2)⟩
    · exact q1.elim⟩
theorem di_enL {elts : List Expr} {kk : Nat} {tpos : Pos} (hg : Gl X "enumerate") (hm : X.mg "enumerate" = none) (ha : DE X a ta) (hs : starEach [a] X.env = [(false, eval a X.env)] := by rfl) :
    DI X (.Tuple elts kk tpos) (.Call (.Name "enumerate" p) [a] [] pos) (wEnL ta) :=
  ⟨fun ρ P Q k q => ha.mono ρ _ _ (fun d ρ1 p => by
      split at p
      · exact k _ _ p
      · exact p) q, (pi_enum hg hm (pa_cons ha.run pa_nil hs) hs).weaken fun σ H R ⟨g, O, ρ, rp, q⟩ => lift_go ha.mono rp q fun d ρ1 O1 H1 v R1 k1 dx q1 => by
    split at q1
    · obtain ⟨l, vs, rfl, h1, z, h2⟩ := dx_lst dx
      exact ⟨l, vs, rfl, SqL.of h1, q1 O1 H1 _ R1 k1 (walk_enLD h1 z h2)⟩
    · exact q1.elim⟩
/-! ### for -/
def forD (gt : Wg) (b : DTs) : List PyData → DTs
  | [], D, ρ => D.nx ρ
  | x :: xs, D, ρ => gt x ρ fun ρ1 => b ⟨forD gt b xs D, D.rt, D.nx, forD gt b xs D⟩ ρ1
theorem forD_mono {gt : Wg} {b : DTs} (m : ∀ d ρ P Q, (∀ ρ', P ρ' → Q ρ') → gt d ρ P → gt d ρ Q) (mb : MonoS b) : ∀ xs, MonoS (forD gt b xs)
  | [], D, D', ρ, l, q => l.nx _ q
  | x :: xs, D, D', ρ, l, q => m _ _ _ _ (fun ρ1 p => mb ⟨forD gt b xs D, D.rt, D.nx, forD gt b xs D⟩ _ _ ⟨fun ρ' => forD_mono m mb xs D D' ρ' l, l.rt, l.nx, fun ρ' => forD_mono m mb xs D D' ρ' l⟩ p) q
def dFor (t : Wp (List PyData)) (gt : Wg) (b : DTs) : DTs := fun D ρ => t ρ fun xs ρ1 => forD gt b xs D ρ1
theorem ds_for {iter : Expr} {body : List Stmt} {t : Wp (List PyData)} {is : List Nat} {gt : Wg} {tb : DTs} (hp : PassesOwn (model X.prog X.w) X.A X.env X.xe) (hc : X.calm = true) (hi : DI X tg iter t) (hg : DGt X tg is gt) (hb : DSs X body tb)
    (hs : ∀ x, foldedSetIterable iter X.env x = pure x := by intro _; rfl) : DS X (.For tg iter body [] pos) (dFor t gt tb) := by
  refine ⟨fun D D' ρ l q => hi.mono ρ _ _ (fun xs ρ1 p => forD_mono hg.mono hb.mono xs D D' ρ1 l p) q, (ps_for hp hc hi.run hg.run hb.run hs).weaken fun D σ H ⟨g, O, ρ, R, q⟩ => lift_go hi.mono R q fun xs ρ1 O1 H1 J R1 k1 hJ q1 => ?_⟩
  obtain ⟨G, hG, w⟩ := hJ
  refine ⟨fun i m σ' H' => m = xs.length - i ∧ i ≤ xs.length ∧ ∃ O2 ρ2, Rep X.K g O2 ρ2 σ' H' ∧ Kps X.K g O H O2 H' ∧ G O2 H' ∧ forD gt tb (xs.drop i) (ends X.K g D O H) ρ2, ⟨xs.length, by simp, Nat.zero_le _, O1, ρ1, R1, k1.dat, hG, q1⟩, ?_⟩
  rintro i m σ2 H2 ⟨rfl, hi2, O2, ρ2, R2, k2, hG2, q2⟩
  by_cases hlt : i < xs.length
  · refine .inr ⟨w.goes O2 H2 i hG2 hlt, fun σ' H' => ∃ O3 ρ3, Rep X.K g O3 ρ3 σ' H' ∧ Kps X.K g O H O3 H' ∧ G O3 H' ∧ forD gt tb (xs.drop (i + 1)) (ends X.K g D O H) ρ3, ?_, ?_⟩
    · rintro σ' H' ⟨O3, ρ3, R3, k3, hG3, q3⟩
      exact ⟨xs.length - (i + 1), by omega, rfl, hlt, O3, ρ3, R3, k3, hG3, q3⟩
    · intro x H3 y
      obtain ⟨sm, d, ed, dx⟩ := w.yields O2 H2 i x H3 hG2 hlt y
      obtain ⟨R3, k3, dx3⟩ := R2.res (Gk.of_same sm) dx
      have e : xs.drop i = d :: xs.drop (i + 1) := by
        rw [List.drop_eq_getElem_cons hlt]
        congr 1
        rw [List.getElem?_eq_getElem hlt] at ed
        exact Option.some.inj ed
      rw [e] at q2
      have kk := k2.trans k3
      refine ⟨g, O2, ρ2, d, R3, dx3, hg.mono _ _ _ _ (fun ρ' pq σ' R' l' _ => ⟨g, O2, ρ', R', hb.mono _ _ _ ?_ pq⟩) q2⟩
      have gg := w.keep _ _ _ _ k3 hG2
      exact ⟨fun ρ4 p4 O4 σ4 H4 R4 k4 => ⟨O4, ρ4, R4, kk.trans k4, w.keep _ _ _ _ k4 gg, p4⟩, fun d ρ q => q, fun ρ4 p4 O4 σ4 H4 R4 k4 => p4 O4 σ4 H4 R4 (kk.trans k4), fun ρ4 p4 O4 σ4 H4 R4 k4 => ⟨O4, ρ4, R4, kk.trans k4, w.keep _ _ _ _ k4 gg, p4⟩⟩
  · have e : i = xs.length := by omega
    subst e
    rw [List.drop_length] at q2
    exact .inl ⟨w.stops O2 H2 hG2, q2 O2 σ2 H2 R2 k2⟩
/-! ### while -/
def dWhile (c : Wp Bool) (b : DTs) : DTs := fun D ρ => ∃ W : Nat → En → Prop, (∃ m, W m ρ) ∧ ∀ m ρ, W m ρ → c ρ fun k ρ1 => if k = true then b ⟨fun ρ2 => ∃ m', m' < m ∧ W m' ρ2, D.rt, D.nx, fun ρ2 => ∃ m', m' < m ∧ W m' ρ2⟩ ρ1 else D.nx ρ1
theorem ds_while {c : Expr} {body : List Stmt} {tc : Wp Bool} {tb : DTs} (hp : PassesOwn (model X.prog X.w) X.A X.env X.xe) (hc : DT X c tc) (hb : DSs X body tb) : DS X (.While c body [] pos) (dWhile tc tb) := by
  refine ⟨fun D D' ρ l ⟨W, w0, turn⟩ => ⟨W, w0, fun m ρ w => hc.mono ρ _ _ (fun k ρ1 p => ?_) (turn m ρ w)⟩, (ps_while hp hc.run hb.run).weaken fun D σ H ⟨g, O, ρ, R, W, ⟨m0, w0⟩, turn⟩ => ?_⟩
  · cases k with
    | true => exact hb.mono ⟨fun ρ2 => ∃ m', m' < m ∧ W m' ρ2, D.rt, D.nx, fun ρ2 => ∃ m', m' < m ∧ W m' ρ2⟩ _ _ ⟨fun ρ' p => p, l.rt, l.nx, fun ρ' p => p⟩ p
    | false => exact l.nx _ p
  · refine ⟨fun m σ' H' => ∃ O' ρ', Rep X.K g O' ρ' σ' H' ∧ Kps X.K g O H O' H' ∧ W m ρ', ⟨m0, O, ρ, R, Kps.refl, w0⟩, fun m σ' H' ⟨O1, ρ1, R1, k1, w1⟩ => lift_go hc.mono R1 (turn m ρ1 w1) fun k ρ2 O2 H2 b R2 k2 e q2 => ?_⟩
    subst e
    cases b with
    | true =>
      rw [if_pos rfl] at q2 ⊢
      refine ⟨fun σ3 H3 => ∃ m', m' < m ∧ ∃ O' ρ', Rep X.K g O' ρ' σ3 H3 ∧ Kps X.K g O H O' H3 ∧ W m' ρ', fun σ3 H3 ⟨m', hm, z⟩ => ⟨m', hm, z⟩, g, O2, ρ2, R2, hb.mono _ _ _ ?_ q2⟩
      have kk := k1.trans k2.dat
      exact ⟨fun ρ3 ⟨m', hm, w3⟩ O3 σ3 H3 R3 k3 => ⟨m', hm, O3, ρ3, R3, kk.trans k3, w3⟩, fun d ρ q => q, fun ρ3 p O3 σ3 H3 R3 k3 => p O3 σ3 H3 R3 (kk.trans k3), fun ρ3 ⟨m', hm, w3⟩ O3 σ3 H3 R3 k3 => ⟨m', hm, O3, ρ3, R3, kk.trans k3, w3⟩⟩
    | false =>
      rw [if_neg Bool.false_ne_true] at q2 ⊢
      exact q2 O2 σ' H2 R2 (k1.trans k2.dat)
end
end Ev

set_option exponentiation.threshold 256
/-! the layer of data, 7: comprehensions, promises -/
namespace Ev
open PySem PySem.Spec PyProof.Rows L2
section
variable [Lo] {X : Cx}
section
variable {K : PySem.W.Frag} {g : Gh} {O : List Addr} {ρ ρ' : En} {σ σ' : L2.St} {H : Hp}
theorem wipeD_len : ∀ (ρ : En) (vs : List Nat), (wipeD ρ vs).length = ρ.length
  | ρ, [] => rfl
  | ρ, v :: vs => by unfold wipeD; rw [List.length_set, wipeD_len ρ vs]
theorem wipeD_off {j : Nat} : ∀ {vs : List Nat}, j ∉ vs → (wipeD ρ vs)[j]? = ρ[j]?
  | [], _ => rfl
  | v :: vs, h => by
    unfold wipeD
    rw [List.getElem?_set_ne (fun e => h (by rw [e]; exact List.mem_cons_self ..)), wipeD_off fun m => h (List.mem_cons_of_mem _ m)]
theorem wipeD_on {j : Nat} : ∀ {vs : List Nat}, j ∈ vs → j < ρ.length → (wipeD ρ vs)[j]? = some .un
  | v :: vs, h, l => by
    unfold wipeD
    by_cases e : v = j
    · subst e
      rw [List.getElem?_set_self (by rw [wipeD_len]; exact l)]
    · rw [List.getElem?_set_ne e]
      exact wipeD_on ((List.mem_cons.mp h).resolve_left fun z => e z.symm) l
theorem wipe_off {j : Nat} : ∀ {vs : List Nat}, j ∉ vs → (wipe σ vs)[j]? = σ[j]?
  | [], _ => rfl
  | v :: vs, h => by
    unfold wipe
    rw [List.getElem?_set_ne (fun e => h (by rw [e]; exact List.mem_cons_self ..)), wipe_off fun m => h (List.mem_cons_of_mem _ m)]
theorem wipe_on {j : Nat} : ∀ {vs : List Nat}, j ∈ vs → j < σ.length → (wipe σ vs)[j]? = some none
  | v :: vs, h, l => by
    unfold wipe
    by_cases e : v = j
    · subst e
      rw [List.getElem?_set_self (by rw [wipe_length]; exact l)]
    · rw [List.getElem?_set_ne e]
      exact wipe_on ((List.mem_cons.mp h).resolve_left fun z => e z.symm) l
theorem wipe_eq {vs : List Nat} (l : σ'.length = σ.length) (h : ∀ j, j ∉ vs → σ'[j]? = σ[j]?) : wipe σ' vs = wipe σ vs := by
  refine List.ext_getElem? fun j => ?_
  by_cases m : j ∈ vs
  · by_cases b : j < σ.length
    · rw [wipe_on m b, wipe_on m (by rw [l]; exact b)]
    · rw [List.getElem?_eq_none (by rw [wipe_length]; omega), List.getElem?_eq_none (by rw [wipe_length]; omega)]
  · rw [wipe_off m, wipe_off m, h j m]
theorem wipe_idem {vs : List Nat} : wipe (wipe σ vs) vs = wipe σ vs := wipe_eq (wipe_length ..) fun j m => wipe_off m
/-- what is forgotten may be anything -/
theorem Rep.un (R : Rep K g O ρ σ H) {vs : List Nat} (l : σ'.length = σ.length) (h : ∀ j, j ∉ vs → σ'[j]? = σ[j]?) (lr : ρ'.length = ρ.length) (h1 : ∀ j, j ∉ vs → ρ'[j]? = ρ[j]?) (h2 : ∀ j s, j ∈ vs → ρ'[j]? = some s → s = .un) : Rep K g O ρ' σ' H := by
  have ow : ∀ j xs, ρ'[j]? = some (.own xs) → j ∉ vs ∧ ρ[j]? = some (.own xs) := fun j xs e => by
    by_cases m : j ∈ vs
    · cases h2 j _ m e
    · exact ⟨m, (h1 j m).symm.trans e⟩
  have at' : ∀ j, j ∉ vs → atv σ' j = atv σ j := fun j m => by
    unfold atv
    rw [h j m]
  refine ⟨lr.trans (R.len.trans l.symm), fun j s e => ?_, fun i j xs ys p e1 e2 a1 a2 => ?_, R.live, R.base, R.loom⟩
  · by_cases m : j ∈ vs
    · rw [h2 j s m e]
      exact trivial
    · rw [at' j m]
      exact R.at_ j s ((h1 j m).symm.trans e)
  · obtain ⟨m1, q1⟩ := ow i xs e1
    obtain ⟨m2, q2⟩ := ow j ys e2
    rw [at' i m1] at a1
    rw [at' j m2] at a2
    exact R.uniq i j xs ys p q1 q2 a1 a2
theorem wipeD_un {vs : List Nat} : ∀ j s, j ∈ vs → (wipeD ρ vs)[j]? = some s → s = .un := fun j s m e => by
  have l : j < ρ.length := by
    rw [← wipeD_len ρ vs]
    exact (List.getElem?_eq_some_iff.mp e).1
  rw [wipeD_on m l] at e
  exact (Option.some.inj e).symm
/-- a pending list is changed -/
theorem Rep.writeP (R : Rep K g O ρ σ H) {p : Addr} {vs ws : List V} (m : p ∈ O) (n : Ev.New g ρ σ p) (e1 : H p = some (.lst vs)) : Rep K g O ρ σ (upd H p (.lst ws)) ∧ Kps K g O H O (upd H p (.lst ws)) := by
  have tupK : ∀ a (zs : List V), SqT K H a zs → SqT K (upd H p (.lst ws)) a zs := fun a zs q => by
    rcases q with (q | ⟨o, q⟩) | q
    · exact .inl (.inl (by rw [upd_ne (ne_of q e1 (by intro z; cases z))]; exact q))
    · exact .inl (.inr ⟨o, by rw [upd_ne (ne_of q e1 (by intro z; cases z))]; exact q⟩)
    · exact .inr q
  have zK : ∀ a o, Zof g O a → H a = some o → (upd H p (.lst ws)) a = some o := fun a o z q => by
    rw [upd_ne (fun (w : a = p) => z.2 (by rw [w]; exact m))]
    exact q
  have up : ∀ {v d}, Dx K (Zof g O) H v d → Dx K (Zof g O) (upd H p (.lst ws)) v d := fun h => dx_keep tupK zK h
  have ups : ∀ {v d}, DxAll K (Zof g O) H v d → DxAll K (Zof g O) (upd H p (.lst ws)) v d := fun h => dxAll_keep tupK zK h
  have gr : Gr g.lo g.H0 (upd H p (.lst ws)) := ⟨fun a o nn q => by
    rw [upd_ne (ne_of_none q n.h0)]
    exact R.base.kp a o nn q, fun hl => (R.base.ok hl).upd n.nl⟩
  refine ⟨⟨R.len, fun j s ej => ?_, R.uniq, fun q hq z => ?_, gr, R.loom.ok.upd n.nl, R.loom.nz⟩, fun _ _ => up⟩
  · have q := R.at_ j s ej
    cases s with
    | un => exact trivial
    | d x =>
      obtain ⟨w, b1, b2⟩ := q
      exact ⟨w, b1, up b2⟩
    | own zs =>
      obtain ⟨r, us, b1, b2, b3, b4, b5, b6⟩ := q
      have nr : r ≠ p := fun w => n.sl j zs ej (w ▸ b1)
      exact ⟨r, us, b1, b2, b3, by rw [upd_ne nr]; exact b4, ups b5, b6⟩
    | lm => exact q
    | rm m =>
      obtain ⟨R1, b1, b2, b3⟩ := q
      exact ⟨R1, b1, b2, by rw [upd_ne (fun (z : R1 = p) => n.nl (.inr (z ▸ hd_mem b1)))]; exact b3⟩
  · by_cases hq2 : q = p
    · subst hq2
      rw [upd_same] at z
      cases z
    · rw [upd_ne hq2] at z
      exact R.live q hq z
end
/-! ### comprehensions -/
structure DTt (X : Cx) (ifs : List Expr) (t : Wp Bool) : Prop where
  mono : Mono t
  run : PTs X ifs (lift X.K PB t)
theorem _root_.L2.PTs.weaken {ifs : List Expr} {t t' : TT} (h : PTs X ifs t) (w : ∀ σ H Q, t' σ H Q → t σ H Q) : PTs X ifs t' := ⟨fun pins s σ H Q I q => h.run pins s σ H Q I (w σ H Q q)⟩
def dYes : Wp Bool := fun ρ Q => Q true ρ
theorem dts_nil : DTt X [] dYes := ⟨fun ρ P Q k q => k _ _ q, pts_nil.weaken fun σ H Q ⟨g, O, ρ, R, q⟩ => q O H true R Kp1.refl rfl⟩
theorem dts_one {c : Expr} {t : Wp Bool} (h : DT X c t) : DTt X [c] t := ⟨h.mono, pts_one h.run⟩
/-- item by item: acc holds what is made so far -/
def lcD (gt : Wg) (tt : Wp Bool) (te : Wp PyData) (ρw : En) : List PyData → List PyData → (List PyData → Prop) → Prop
  | [], acc, Q => Q acc
  | x :: xs, acc, Q => gt x ρw fun ρ2 => tt ρ2 fun b ρ3 => ρ3 = ρ2 ∧
    if b = true then te ρ2 fun d ρ4 => ρ4 = ρ2 ∧ acc.length < sizeLine ∧ lcD gt tt te ρw xs (acc ++ [d]) Q else lcD gt tt te ρw xs acc Q
def dLc (t : Wp (List PyData)) (is : List Nat) (gt : Wg) (tt : Wp Bool) (te : Wp PyData) : Wp (List PyData) := fun ρ Q => t ρ fun xs ρ1 => lcD gt tt te (wipeD ρ1 is) xs [] fun acc => Q acc (wipeD ρ1 is)
theorem lcD_mono {gt : Wg} {tt : Wp Bool} {te : Wp PyData} {ρw : En} (mg : ∀ d ρ P Q, (∀ ρ', P ρ' → Q ρ') → gt d ρ P → gt d ρ Q) (mt : Mono tt) (me : Mono te) : ∀ (xs acc : List PyData) (P Q : List PyData → Prop), (∀ a, P a → Q a) → lcD gt tt te ρw xs acc P → lcD gt tt te ρw xs acc Q
  | [], acc, P, Q, k, q => k _ q
  | x :: xs, acc, P, Q, k, q => mg _ _ _ _ (fun ρ2 p => mt _ _ _ (fun b ρ3 p => ⟨p.1, by
      have p2 := p.2
      cases b with
      | true =>
        rw [if_pos rfl] at p2 ⊢
        exact me _ _ _ (fun d ρ4 p => ⟨p.1, p.2.1, lcD_mono mg mt me xs _ P Q k p.2.2⟩) p2
      | false =>
        rw [if_neg Bool.false_ne_true] at p2 ⊢
        exact lcD_mono mg mt me xs _ P Q k p2⟩) p) q
theorem lc_go {t : Wp (List PyData)} {is : List Nat} {gt : Wg} {tt : Wp Bool} {te : Wp PyData} {K : PySem.W.Frag} {σ : L2.St} {H : Hp} {Q : VK} {g : Gh} {O : List Addr} {ρ : En}
    (mg : ∀ d ρ P Q, (∀ ρ', P ρ' → Q ρ') → gt d ρ P → gt d ρ Q) (og : ∀ d ρ P, gt d ρ P → gt d ρ fun ρ' => P ρ' ∧ OnlyAt is ρ ρ') (mt : Mono tt) (me : Mono te) (mi : Mono t)
    (R : Rep K g O ρ σ H) (q : dLc t is gt tt te ρ fun acc ρ' => ∀ O' H' b, Rep K g O' ρ' σ H' → Kp1 K g O ρ σ H O' ρ' H' → PF K g O O' ρ' σ H' b acc → Q b H') :
    tLc (lift K (PJt K) t) (liftG K is gt) (lift K PB tt) (lift K (PD K) te) is σ H Q := by
  refine lift_go mi R q fun xs ρ1 O1 H1 J R1 k1 hJ q1 D hD => ?_
  obtain ⟨G, hG, w⟩ := hJ
  obtain ⟨R2, nD, k2⟩ := R1.fresh1 hD (.lst [])
  have fO1 : D ∉ O1 := fun m => R1.live D m hD
  have fO : D ∉ O := fun m => fO1 (k1.sub _ m)
  have sub1 : ∀ (j : Nat) (xs' : List PyData), (wipeD ρ1 is)[j]? = some (SV.own xs') → ρ1[j]? = some (SV.own xs') := fun j xs' e => by
    by_cases m : j ∈ is
    · cases wipeD_un j _ m e
    · rw [wipeD_off m] at e
      exact e
  have newW : ∀ p, Ev.New g ρ1 σ p → Ev.New g (wipeD ρ1 is) σ p := fun p n => ⟨n.h0, fun j ys e => n.sl j ys (sub1 j ys e), n.nl⟩
  have Rw : Rep K g (D :: O1) (wipeD ρ1 is) σ (upd H1 D (.lst [])) := R2.un rfl (fun _ _ => rfl) (wipeD_len ..) (fun j m => wipeD_off m) wipeD_un
  have kw : Kp1 K g O ρ σ H (D :: O1) (wipeD ρ1 is) (upd H1 D (.lst [])) := ⟨(k1.trans k2).sub, (k1.trans k2).dat, fun p vs m n e => by
    obtain ⟨a, b⟩ := (k1.trans k2).pnd p vs m n e
    exact ⟨newW p a, b⟩⟩
  refine ⟨fun i m H' => m = xs.length - i ∧ i ≤ xs.length ∧ ∃ O2 acc ws, Rep K g (D :: O2) (wipeD ρ1 is) σ H' ∧ Ev.New g (wipeD ρ1 is) σ D ∧ D ∉ O2 ∧ H' D = some (.lst ws) ∧ DxAll K (Zof g (D :: O2)) H' ws acc ∧
    Kp1 K g O ρ σ H (D :: O2) (wipeD ρ1 is) H' ∧ G (D :: O2) H' ∧
    lcD gt tt te (wipeD ρ1 is) (xs.drop i) acc fun acc => ∀ O' H' b, Rep K g O' (wipeD ρ1 is) σ H' → Kp1 K g O ρ σ H O' (wipeD ρ1 is) H' → PF K g O O' (wipeD ρ1 is) σ H' b acc → Q b H',
    ⟨xs.length, by simp, Nat.zero_le _, O1, [], [], Rw, newW D nD, fO1, upd_same, .nil, kw, w.keep _ _ _ _ k2.dat hG, q1⟩, ?_⟩
  rintro i m H2 ⟨rfl, hi2, O2, acc, ws, R2, n2, f2, e2, d2, k2', hG2, q2⟩
  by_cases hlt : i < xs.length
  · refine .inr ⟨w.goes _ H2 i hG2 hlt, fun H' => ∃ O3 acc ws, Rep K g (D :: O3) (wipeD ρ1 is) σ H' ∧ Ev.New g (wipeD ρ1 is) σ D ∧ D ∉ O3 ∧ H' D = some (.lst ws) ∧ DxAll K (Zof g (D :: O3)) H' ws acc ∧
      Kp1 K g O ρ σ H (D :: O3) (wipeD ρ1 is) H' ∧ G (D :: O3) H' ∧
      lcD gt tt te (wipeD ρ1 is) (xs.drop (i + 1)) acc fun acc => ∀ O' H' b, Rep K g O' (wipeD ρ1 is) σ H' → Kp1 K g O ρ σ H O' (wipeD ρ1 is) H' → PF K g O O' (wipeD ρ1 is) σ H' b acc → Q b H', ?_, ?_⟩
    · rintro H' ⟨O3, acc3, ws3, z⟩
      exact ⟨xs.length - (i + 1), by omega, rfl, hlt, O3, acc3, ws3, z⟩
    · intro x H3 y
      obtain ⟨sm, d, ed, dx⟩ := w.yields _ H2 i x H3 hG2 hlt y
      obtain ⟨R3, k3, dx3⟩ := R2.res (Gk.of_same sm) dx
      have k3' := R2.kp1 sm
      have e : xs.drop i = d :: xs.drop (i + 1) := by
        rw [List.drop_eq_getElem_cons hlt]
        congr 1
        rw [List.getElem?_eq_getElem hlt] at ed
        exact Option.some.inj ed
      rw [e] at q2
      have RB : Rep K g (D :: O2) (wipeD ρ1 is) (wipe σ is) H3 := R3.un (wipe_length ..) (fun j m => wipe_off m) rfl (fun _ _ => rfl) wipeD_un
      refine ⟨g, D :: O2, wipeD ρ1 is, d, RB, dx3, mg _ _ _ _ (fun ρ2 pq σ2 R4 l4 off4 => ?_) (og _ _ _ q2)⟩
      obtain ⟨pq, on⟩ := pq
      have hw : wipe σ2 is = wipe σ is := (wipe_eq l4 off4).trans wipe_idem
      refine ⟨hw, lift_go mt R4 pq fun b ρ3 O5 H5 b' R5 k5 eb pq2 => ?_⟩
      subst eb
      obtain ⟨rfl, pq2⟩ := pq2
      -- what is back behind a turn
      have s2 : ∀ j, j ∉ is → σ2[j]? = σ[j]? := fun j m => (off4 j m).trans (wipe_off m)
      have newB : ∀ p, Ev.New g (wipeD ρ1 is) σ p → Ev.New g ρ3 σ2 p := fun p n => ⟨n.h0, fun j ys ej => by
        by_cases m : j ∈ is
        · exact absurd ej (on.no j ys m)
        · unfold atv
          rw [s2 j m]
          rw [on.off j m] at ej
          exact n.sl j ys ej, n.nl⟩
      have newA : ∀ p, Ev.New g ρ3 σ2 p → Ev.New g (wipeD ρ1 is) σ p := fun p n => ⟨n.h0, fun j ys ej => by
        by_cases m : j ∈ is
        · cases wipeD_un j _ m ej
        · have := n.sl j ys ((on.off j m).trans ej)
          unfold atv at this
          rw [s2 j m] at this
          exact this, n.nl⟩
      have back : ∀ {O6 : List Addr} {H6 : Hp}, Rep K g O6 ρ3 σ2 H6 → Kp1 K g (D :: O2) ρ3 σ2 H3 O6 ρ3 H6 → Rep K g O6 (wipeD ρ1 is) σ H6 ∧ Kp1 K g (D :: O2) (wipeD ρ1 is) σ H3 O6 (wipeD ρ1 is) H6 := fun {O6 H6} R6 k6 =>
        ⟨R6.un (vs := is) (by rw [← wipe_length σ is]; exact l4.symm) (fun j m => (s2 j m).symm) on.len.symm (fun j m => (on.off j m).symm) wipeD_un, k6.sub, k6.dat, fun p vs m n ep => by
          obtain ⟨a, b⟩ := k6.pnd p vs m (newB p n) ep
          exact ⟨newA p a, b⟩⟩
      have norm : ∀ {O6 : List Addr} {H6 : Hp} {ys : List V} {as : List PyData}, D ∈ O6 → Rep K g O6 (wipeD ρ1 is) σ H6 → Kp1 K g O ρ σ H O6 (wipeD ρ1 is) H6 → Ev.New g (wipeD ρ1 is) σ D → H6 D = some (.lst ys) → DxAll K (Zof g O6) H6 ys as → G O6 H6 →
          ∃ O7, Rep K g (D :: O7) (wipeD ρ1 is) σ H6 ∧ D ∉ O7 ∧ Kp1 K g O ρ σ H (D :: O7) (wipeD ρ1 is) H6 ∧ DxAll K (Zof g (D :: O7)) H6 ys as ∧ G (D :: O7) H6 := fun {O6 H6 ys as} mD R6 k6 n6 e6 d6 G6 => by
        have zeq : ∀ a, Zof g O6 a ↔ Zof g (D :: O6.filter (· ≠ D)) a := fun a => by
          unfold Zof
          have : a ∈ O6 ↔ a ∈ D :: O6.filter (· ≠ D) := by
            rw [List.mem_cons, List.mem_filter]
            by_cases h : a = D
            · subst h
              simp [mD]
            · simp [h]
          rw [this]
        have zf : Zof g O6 = Zof g (D :: O6.filter (· ≠ D)) := funext fun a => propext (zeq a)
        have mem : ∀ a, a ∈ O6 → a ∈ D :: O6.filter (· ≠ D) := fun a h => by
          by_cases h2 : a = D
          · subst h2; exact List.mem_cons_self ..
          · exact List.mem_cons_of_mem _ (List.mem_filter.mpr ⟨h, by simpa using h2⟩)
        have mem' : ∀ a, a ∈ D :: O6.filter (· ≠ D) → a ∈ O6 := fun a h => by
          rcases List.mem_cons.mp h with rfl | h
          · exact mD
          · exact (List.mem_filter.mp h).1
        refine ⟨O6.filter (· ≠ D), ⟨R6.len, fun j s ej => ?_, R6.uniq, fun q hq => R6.live q (mem' q hq), R6.base, ?_⟩, fun m => by simpa using (List.mem_filter.mp m).2, ⟨fun q hq => mem q (k6.sub q hq), ?_, k6.pnd⟩, by rw [← zf]; exact d6, ?_⟩
        · have q := R6.at_ j s ej
          cases s with
          | un => exact trivial
          | d x =>
            obtain ⟨w, b1, b2⟩ := q
            exact ⟨w, b1, by rw [← zf]; exact b2⟩
          | own zs =>
            obtain ⟨r, us, b1, b2, b3, b4, b5, b6⟩ := q
            exact ⟨r, us, b1, mem r b2, b3, b4, by rw [← zf]; exact b5, b6⟩
          | lm => exact q
          | rm => exact q
        · have lo := R6.loom
          exact ⟨lo.ok, by rw [← zf]; exact lo.nz⟩
        · have da := k6.dat
          unfold Kps at da ⊢
          rw [← zf]
          exact da
        · refine w.keep _ _ _ _ ?_ G6
          unfold Kps
          rw [← zf]
          exact fun _ _ h => h
      cases b' with
      | true =>
        rw [if_pos rfl] at pq2 ⊢
        refine lift_go me R5 pq2 fun v ρ4 O6 H6 u R6 k6 du pq3 => ?_
        obtain ⟨rfl, hz, pq3⟩ := pq3
        have k56 := k5.trans k6
        obtain ⟨R6', k6'⟩ := back R6 k56
        have mD : D ∈ O6 := k56.sub _ (List.mem_cons_self ..)
        obtain ⟨n6, e6⟩ := k6'.pnd D ws (List.mem_cons_self ..) n2 (sm _ _ e2)
        have dw : DxAll K (Zof g O6) H6 ws acc := k6'.dat.all (k3'.dat.all d2)
        refine ⟨ws, e6, by rw [dxAll_len dw]; exact hz, ?_⟩
        obtain ⟨R7, k7⟩ := R6'.writeP (ws := ws ++ [u]) mD n6 e6
        have k7' : Kp1 K g O6 (wipeD ρ1 is) σ H6 O6 (wipeD ρ1 is) (upd H6 D (.lst (ws ++ [u]))) → True := fun _ => trivial
        have kk : Kp1 K g O ρ σ H O6 (wipeD ρ1 is) (upd H6 D (.lst (ws ++ [u]))) := by
          have k0 := (k2'.trans k3').trans k6'
          refine ⟨k0.sub, k0.dat.trans k7, fun p vs m n ep => ?_⟩
          obtain ⟨a, b⟩ := k0.pnd p vs m n ep
          exact ⟨a, by rw [upd_ne (fun (z : p = D) => fO (z ▸ m))]; exact b⟩
        have GG : G O6 (upd H6 D (.lst (ws ++ [u]))) := w.keep _ _ _ _ k7 (w.keep _ _ _ _ (k3'.trans k6').dat hG2)
        obtain ⟨O7, r1, r2, r3, r4, r5⟩ := norm mD R7 kk n6 upd_same (k7.all (dxAll_app dw (.cons du .nil))) GG
        exact ⟨O7, acc ++ [v], ws ++ [u], r1, n6, r2, upd_same, r4, r3, r5, pq3⟩
      | false =>
        rw [if_neg Bool.false_ne_true] at pq2 ⊢
        obtain ⟨R6', k6'⟩ := back R5 k5
        have mD : D ∈ O5 := k5.sub _ (List.mem_cons_self ..)
        obtain ⟨n6, e6⟩ := k6'.pnd D ws (List.mem_cons_self ..) n2 (sm _ _ e2)
        have dw : DxAll K (Zof g O5) H5 ws acc := k6'.dat.all (k3'.dat.all d2)
        have GG : G O5 H5 := w.keep _ _ _ _ (k3'.trans k6').dat hG2
        obtain ⟨O7, r1, r2, r3, r4, r5⟩ := norm mD R6' ((k2'.trans k3').trans k6') n6 e6 dw GG
        exact ⟨O7, acc, ws, r1, n6, r2, e6, r4, r3, r5, pq2⟩
  · have e : i = xs.length := by omega
    subst e
    rw [List.drop_length] at q2
    exact .inl ⟨w.stops _ H2 hG2, q2 _ H2 _ R2 k2' ⟨D, ws, O2, rfl, rfl, f2, fO, n2, e2, d2⟩⟩
variable {elt tg iter : Expr} {ifs : List Expr} {scope : Scope} {own : List (Str × Nat)} {pos : Pos} {t : Wp (List PyData)} {is : List Nat} {gt : Wg} {tt : Wp Bool} {te : Wp PyData}
theorem mono_lc (mg : ∀ d ρ P Q, (∀ ρ', P ρ' → Q ρ') → gt d ρ P → gt d ρ Q) (mt : Mono tt) (me : Mono te) (mi : Mono t) : Mono (dLc t is gt tt te) := fun ρ P Q k q => mi ρ _ _ (fun xs ρ1 p => lcD_mono mg mt me xs [] _ _ (fun a pa => k _ _ pa) p) q
/-- what is the same for each block -/
abbrev blkX (X : Cx) (scope : Scope) (s : Shared) (H : Hp) (C : Addr) (cl : List (Str × Addr)) (fp : List Addr) : Cx := X.blk s H scope (compEnvC scope cl C X.env) fp
theorem df_lc (hc : X.calm = true) (hN : X.N.Nodup) (hi : DI X tg iter t) (ok : BlkOk X.N X.env.scope scope own)
    (hg : ∀ (s : Shared) (H : Hp) (C : Addr) (cl : List (Str × Addr)) (fp : List Addr), DGt (blkX X scope s H C cl fp) tg (own.map (·.2)) gt)
    (ht : ∀ (s : Shared) (H : Hp) (C : Addr) (cl : List (Str × Addr)) (fp : List Addr), DTt (blkX X scope s H C cl fp) ifs tt)
    (he : ∀ (s : Shared) (H : Hp) (C : Addr) (cl : List (Str × Addr)) (fp : List Addr), DE (blkX X scope s H C cl fp) elt te) (hs : ∀ x, foldedSetIterable iter X.env x = pure x := by intro _; rfl) :
    DF X (.ListComp elt [⟨tg, iter, ifs, 0⟩] scope pos) (dLc t (own.map (·.2)) gt tt te) := by
  have g1 := hg X.s_0 X.H_0 0 [] []
  have t1 := ht X.s_0 X.H_0 0 [] []
  have e1 := he X.s_0 X.H_0 0 [] []
  exact ⟨mono_lc g1.mono t1.mono e1.mono hi.mono, (pe_lc hc hN hi.run ok (fun s H C cl fp => (hg s H C cl fp).run) (fun s H C cl fp => (ht s H C cl fp).run) (fun s H C cl fp => (he s H C cl fp).run) hs).weaken fun σ H Q ⟨g, O, ρ, R, q⟩ =>
    lc_go g1.mono g1.only t1.mono e1.mono hi.mono R q⟩
/-- name = [..] on one line, the name a local -/
theorem ds_setLc {i : Nat} {y : Str} {py spos : Pos} (hc : X.calm = true) (hN : X.N.Nodup) (hy : X.N[i]? = some y) (hyl : X.env.scope.names.lookup y = some .local)
    (hsw : swapsWith (.ListComp elt [⟨tg, iter, ifs, 0⟩] scope pos) (some (.Name y py)) spos.line X.env = pure true) (hi : DI X tg iter t) (ok : BlkOk X.N X.env.scope scope own)
    (hg : ∀ (s : Shared) (H : Hp) (C : Addr) (cl : List (Str × Addr)) (fp : List Addr), DGt (blkX X scope s H C cl fp) tg (own.map (·.2)) gt)
    (ht : ∀ (s : Shared) (H : Hp) (C : Addr) (cl : List (Str × Addr)) (fp : List Addr), DTt (blkX X scope s H C cl fp) ifs tt)
    (he : ∀ (s : Shared) (H : Hp) (C : Addr) (cl : List (Str × Addr)) (fp : List Addr), DE (blkX X scope s H C cl fp) elt te) (hs : ∀ x, foldedSetIterable iter X.env x = pure x := by intro _; rfl) :
    DS X (.Assign [.Name y py] (.ListComp elt [⟨tg, iter, ifs, 0⟩] scope pos) spos) (dSet i (xF (dLc t (own.map (·.2)) gt tt te))) := by
  have g1 := hg X.s_0 X.H_0 0 [] []
  have t1 := ht X.s_0 X.H_0 0 [] []
  have e1 := he X.s_0 X.H_0 0 [] []
  refine ⟨fun D D' ρ l q => mono_lc g1.mono t1.mono e1.mono hi.mono ρ _ _ (fun _ _ p => l.nx _ p) q, (ps_setLc (g := liftG X.K (own.map (·.2)) gt) (tt := lift X.K PB tt) (te := lift X.K (PD X.K) te) hc hN hy hyl hsw hi.run ok (fun s H C cl fp => (hg s H C cl fp).run) (fun s H C cl fp => (ht s H C cl fp).run) (fun s H C cl fp => (he s H C cl fp).run) hs).weaken fun D σ H ⟨g, O, ρ, R, q⟩ => ?_⟩
  refine lc_go (Q := fun x H1 => gName i x σ H1 D.nx) g1.mono g1.only t1.mono e1.mono hi.mono R (mono_lc g1.mono t1.mono e1.mono hi.mono ρ _ _ (fun acc ρ' p O' H' b R' k' hp => ?_) q)
  obtain ⟨a, vs, O2, e1, e2, n1, n2, n3, h1, h2⟩ := hp
  exact p O' _ H' (R'.setX (Oi := O) (s := .own acc) ⟨a, vs, e1, by rw [e2]; exact List.mem_cons_self .., n2, n3, h1, h2⟩) k'.dat
/-- .. and it is data -/
theorem ds_setLcD {i : Nat} {y : Str} {py spos : Pos} (hc : X.calm = true) (hN : X.N.Nodup) (hy : X.N[i]? = some y) (hyl : X.env.scope.names.lookup y = some .local)
    (hsw : swapsWith (.ListComp elt [⟨tg, iter, ifs, 0⟩] scope pos) (some (.Name y py)) spos.line X.env = pure true) (hi : DI X tg iter t) (ok : BlkOk X.N X.env.scope scope own)
    (hg : ∀ (s : Shared) (H : Hp) (C : Addr) (cl : List (Str × Addr)) (fp : List Addr), DGt (blkX X scope s H C cl fp) tg (own.map (·.2)) gt)
    (ht : ∀ (s : Shared) (H : Hp) (C : Addr) (cl : List (Str × Addr)) (fp : List Addr), DTt (blkX X scope s H C cl fp) ifs tt)
    (he : ∀ (s : Shared) (H : Hp) (C : Addr) (cl : List (Str × Addr)) (fp : List Addr), DE (blkX X scope s H C cl fp) elt te) (hs : ∀ x, foldedSetIterable iter X.env x = pure x := by intro _; rfl) :
    DS X (.Assign [.Name y py] (.ListComp elt [⟨tg, iter, ifs, 0⟩] scope pos) spos) (dSet i (xD (dLs (dLc t (own.map (·.2)) gt tt te)))) := by
  have g1 := hg X.s_0 X.H_0 0 [] []
  have t1 := ht X.s_0 X.H_0 0 [] []
  have e1 := he X.s_0 X.H_0 0 [] []
  refine ⟨fun D D' ρ l q => mono_lc g1.mono t1.mono e1.mono hi.mono ρ _ _ (fun _ _ p => l.nx _ p) q, (ps_setLc (g := liftG X.K (own.map (·.2)) gt) (tt := lift X.K PB tt) (te := lift X.K (PD X.K) te) hc hN hy hyl hsw hi.run ok (fun s H C cl fp => (hg s H C cl fp).run) (fun s H C cl fp => (ht s H C cl fp).run) (fun s H C cl fp => (he s H C cl fp).run) hs).weaken fun D σ H ⟨g, O, ρ, R, q⟩ => ?_⟩
  refine lc_go (Q := fun x H1 => gName i x σ H1 D.nx) g1.mono g1.only t1.mono e1.mono hi.mono R (mono_lc g1.mono t1.mono e1.mono hi.mono ρ _ _ (fun acc ρ' p O' H' b R' k' hp => ?_) q)
  obtain ⟨a, vs, O2, e1, e2, n1, n2, n3, h1, h2⟩ := hp
  subst e1 e2
  exact p O2 _ H' ((R'.drop n3).set (d := .list acc) (.lst h1 ⟨.inr n3.h0, n1⟩ (dxAll_monoL (fun _ => zof_drop) h2))) (k'.drop n2).dat
/-! ### what a def promises -/
theorem argsOk_get {K : PySem.W.Frag} {lo : Lw} {Z : Addr → Prop} {H : Hp} : ∀ {ss : List SV} {vs : List V} {i : Nat} {s : SV}, ArgsOk K lo Z H ss vs → ss[i]? = some s → ∃ v, vs[i]? = some v ∧ ArgOk K lo Z H s v
  | _, _, 0, _, .cons h _, e => by
    cases (Option.some.inj e)
    exact ⟨_, rfl, h⟩
  | _, _, i + 1, _, .cons _ r, e => argsOk_get (i := i) r (by simpa using e)
def uns (N : List Str) (n : Nat) : En := List.replicate (N.length - n) .un
theorem rep_start {K : PySem.W.Frag} {g : Gh} {H : Hp} {ss : List SV} {vs : List V} {N : List Str} (h0 : g.H0 = H) (ha : ArgsOk K g.lo (Zof g []) H ss vs) (hl : LoomOk g [] H) : Rep K g [] (ss ++ uns N ss.length) (L2.start N vs) H := by
  have ln := argsOk_len ha
  have get : ∀ (i : Nat) (s : SV), (ss ++ uns N ss.length)[i]? = some s → s = .un ∨ ∃ v, atv (L2.start N vs) i = some v ∧ ArgOk K g.lo (Zof g []) H s v := fun i s e => by
    by_cases hi : i < ss.length
    · rw [List.getElem?_append_left hi] at e
      obtain ⟨v, e1, e2⟩ := argsOk_get ha e
      refine .inr ⟨v, ?_, e2⟩
      unfold atv L2.start
      rw [List.getElem?_append_left (by rw [List.length_map, ln]; exact hi), List.getElem?_map, e1]
      rfl
    · rw [List.getElem?_append_right (Nat.le_of_not_lt hi)] at e
      unfold uns at e
      rw [List.getElem?_replicate] at e
      split at e
      · exact .inl (Option.some.inj e).symm
      · cases e
  have noOwn : ∀ (i : Nat) (xs : List PyData), (ss ++ uns N ss.length)[i]? ≠ some (.own xs) := fun i xs e => by
    rcases get i _ e with z | ⟨v, _, z⟩
    · cases z
    · exact z
  refine ⟨?_, fun i s e => ?_, fun i j xs ys p e1 _ _ _ => absurd e1 (noOwn i xs), (fun p hp => nomatch hp), by rw [h0]; exact Gr.refl _, hl⟩
  · unfold uns L2.start
    rw [List.length_append, List.length_append, List.length_replicate, List.length_replicate, List.length_map, ln]
  · rcases get i s e with rfl | ⟨v, e1, e2⟩
    · exact trivial
    · rw [e1]
      cases s with
      | d x => exact ⟨v, rfl, e2⟩
      | lm =>
        obtain ⟨L, F, a, b⟩ := e2
        exact ⟨L, F, a, by rw [b]⟩
      | rm => exact e2.elim
      | un => exact e2.elim
      | own xs => exact e2.elim
section
variable {P : Program} {w : World} {K : PySem.W.Frag} {mg : Str → Option Value} {base : Heap}
/-- from the reading of a def's body to its promise -/
theorem body_go {R : RelD} {t : DTs} {N : List Str} {vs : List V} {H : Hp} {Q : VK} {E : XK} (mt : MonoS t) (h : spD K R vs H Q E) (hb : ∀ ss P, R ss P → t ⟨fun _ => P .none, fun d _ => P d, fun _ => False, fun _ => False⟩ (ss ++ uns N ss.length)) :
    liftS K t { nx := fun _ H' => Q .non H', rt := Q } (L2.start N vs) H := by
  obtain ⟨g, ss, h0, ha, hl, Pp, hR, hq⟩ := h
  have R0 := rep_start (N := N) h0 ha hl
  refine ⟨g, [], _, R0, mt _ _ _ ?_ (hb ss Pp hR)⟩
  have fin : ∀ {O' : List Addr} {ρ' : En} {σ' : L2.St} {H' : Hp} {v : V} {d : PyData}, Rep K g O' ρ' σ' H' → Dx K (Zof g O') H' v d → Pp d → Q v H' := fun R' dx pd => by
    refine hq _ pd _ _ ?_ (dx_monoL (fun a z => ?_) dx)
    · have := R'.base
      rw [h0] at this
      exact this
    · rw [← h0]
      exact z.1
  exact ⟨fun ρ' p O' σ' H' R' k' => fin R' .non p, fun d ρ' p O' σ' H' v R' dx => fin R' dx p, fun ρ' p => p.elim, fun ρ' p => p.elim⟩
theorem okD {x qual : Str} {st : Stmt} {f : Addr} {fd : FuncData} {N ps : List Str} {k : Nat} {R : RelD} (F : Fun K x qual st f fd) (S : FnScope N ps (defScope st)) (len : ∀ ss P, R ss P → ss.length = ps.length)
    (hbody : ∀ (cdv : Value) (A : Around) (outer : List Env) (s : Shared) (H : Hp) (E : XK), Room k (A.deeper (envOfC qual (defScope st) s.heap.objs.size f cdv)) →
      ∃ t, DSs (cxOf CX0 P w K mg base N qual (defScope st) f cdv A outer s H E).nox (defBody st) t ∧ ∀ ss P, R ss P → t ⟨fun _ => P .none, fun d _ => P d, fun _ => False, fun _ => False⟩ (ss ++ uns N ss.length)) : FnOk P w K mg base CX0 (k + 1) f fd ps (spD K R) := by
  refine F.ok S (fun vs H Q E h => ?_) (fun cdv A outer s H vs Q E hr h => ?_)
  · obtain ⟨g, ss, h0, ha, hl, Pp, hR, hq⟩ := h
    rw [argsOk_len ha]
    exact len ss Pp hR
  · obtain ⟨t, ht, hb⟩ := hbody cdv A outer s H E hr
    exact ⟨_, ht.run, body_go ht.mono h hb⟩
theorem okDG {x qual : Str} {st : Stmt} {f : Addr} {fd : FuncData} {N ps : List Str} {k : Nat} {R : RelD} (F : Fun K x qual st f fd) (S : FnScope N ps (defScope st)) (len : ∀ ss P, R ss P → ss.length = ps.length)
    (hbody : ∀ (cdv : Value) (A : Around) (outer : List Env) (s : Shared) (H : Hp) (E : XK), A.guards = some [] → Room k (A.deeper (envOfC qual (defScope st) s.heap.objs.size f cdv)) →
      ∃ t, DSs (cxOf CX0 P w K mg base N qual (defScope st) f cdv A outer s H E).nox (defBody st) t ∧ ∀ ss P, R ss P → t ⟨fun _ => P .none, fun d _ => P d, fun _ => False, fun _ => False⟩ (ss ++ uns N ss.length)) : FnG P w K mg base CX0 (k + 1) f fd ps (spD K R) := by
  refine okG F S (fun vs H Q E h => ?_) (fun cdv A outer s H vs Q E hA hr h => ?_)
  · obtain ⟨g, ss, h0, ha, hl, Pp, hR, hq⟩ := h
    rw [argsOk_len ha]
    exact len ss Pp hR
  · obtain ⟨t, ht, hb⟩ := hbody cdv A outer s H E hA hr
    exact ⟨_, ht.run, body_go ht.mono h hb⟩
end
end
end Ev

set_option exponentiation.threshold 256
/-! the layer of data, 8: more built-ins; the loom -/
namespace Ev
open PySem PySem.Spec PyProof.Rows L2
section
variable [Lo] {X : Cx} {a b : Expr} {ta tb : Wp PyData} {pos p : Pos}
/-- a constant of the module -/
theorem pe_constD {x : Str} {v : V} (hg : Gl X x) (h : ∃ u, X.mg x = some u ∧ RelV v u) (hd : (x == ("__debug__" : Str)) = false := by decide) : PE X (.Name x pos) (tC v) := by
  obtain ⟨u, e, r⟩ := h
  exact pe_glob hg e r hd
/-- gcd of two ints -/
def dGcd (ta tb : Wp PyData) : Wp PyData := fun ρ Q => ta ρ fun x ρ1 => tb ρ1 fun y ρ2 => match x, y with
  | .int i, .int j => Q (.int ((Nat.gcd i.natAbs j.natAbs : Nat) : Int)) ρ2
  | _, _ => False
theorem de_gcd {x : Str} (hg : Gl X x) (hm : X.mg x = some (.builtin "math.gcd")) (ha : DE X a ta) (hb : DE X b tb)
    (hs1 : starEach (a :: [b]) X.env = (false, eval a X.env) :: starEach [b] X.env := by rfl) (hs2 : starEach (b :: []) X.env = (false, eval b X.env) :: starEach [] X.env := by rfl)
    (hdb : (x == ("__debug__" : Str)) = false := by decide) (hpl : (backTo pos (starEach [b] X.env)).any (·.1) = false := by rfl) : DE X (.Call (.Name x p) [a, b] [] pos) (dGcd ta tb) := by
  refine ⟨fun ρ P Q k q => ha.mono ρ _ _ (fun x ρ1 q1 => hb.mono ρ1 _ _ (fun y ρ2 q2 => ?_) q1) q, (pe_callBfun cr_gcd hg hm (pa_cons ha.run (pa_cons hb.run pa_nil hs2) hs1) hdb hs1 hpl).weaken fun σ H Q ⟨g, O, ρ, R, q⟩ =>
    lift_go ha.mono R q fun x ρ1 O1 H1 v R1 k1 dx q1 => lift_go hb.mono R1 q1 fun y ρ2 O2 H2 u R2 k2 dy q2 => ?_⟩
  · split at q2
    · exact k _ _ q2
    · exact q2
  · split at q2
    · cases dx_int dx
      cases dx_int dy
      exact ⟨_, _, rfl, q2 O2 H2 _ R2 (k1.trans k2) (.int _)⟩
    · exact q2.elim
/-- -a -/
def dNeg (ta : Wp PyData) : Wp PyData := fun ρ Q => ta ρ fun x ρ1 => match x with
  | .int i => Q (.int (-i)) ρ1
  | _ => False
theorem de_neg (ha : DE X a ta) : DE X (.UnaryOp .USub a pos) (dNeg ta) := by
  refine ⟨fun ρ P Q k q => ha.mono ρ _ _ (fun x ρ1 q1 => ?_) q, (pe_un un_neg ha.run).weaken fun σ H Q ⟨g, O, ρ, R, q⟩ => lift_go ha.mono R q fun x ρ1 O1 H1 v R1 k1 dx q1 => ?_⟩
  · split at q1
    · exact k _ _ q1
    · exact q1
  · split at q1
    · cases dx_int dx
      exact ⟨_, rfl, q1 O1 H1 _ R1 k1 (.int _)⟩
    · exact q1.elim
/-- {} -/
theorem de_dict0 : DE X (.Dict [] [] pos) (dC (.dict [])) :=
  ⟨fun ρ P Q k q => k _ _ q, pe_dnewK.weaken fun σ H Q ⟨g, O, ρ, R, q⟩ => fun d hd => by
    have sm : Same H (upd H d (.dK [])) := same_new hd
    obtain ⟨a, b, c⟩ := R.res (d := .dict []) (v := .ref d) (Gk.of_same sm) (.dct upd_same (.inr hd) .nil)
    exact q O _ _ a (R.kp1 sm) c⟩
/-- not of a test, as a value: the same as of a bool -/
def dNotT (t : Wp Bool) : Wp PyData := fun ρ Q => t ρ fun b ρ1 => Q (.bool (!b)) ρ1
/-! ### promises of one answer -/
def fn1 (f : PyData → PyData) : RelD := fun ss P => ∃ d, ss = [.d d] ∧ P = fun r => r = f d
def fn2 (f : PyData → PyData → PyData) : RelD := fun ss P => ∃ d e, ss = [.d d, .d e] ∧ P = fun r => r = f d e
def fn1p (pre : PyData → Prop) (f : PyData → PyData) : RelD := fun ss P => ∃ d, ss = [.d d] ∧ pre d ∧ P = fun r => r = f d
def fn2p (pre : PyData → PyData → Prop) (f : PyData → PyData → PyData) : RelD := fun ss P => ∃ d e, ss = [.d d, .d e] ∧ pre d e ∧ P = fun r => r = f d e
theorem sof_fn1 {f : PyData → PyData} {d : PyData} {Q : PyData → Prop} : Sof (fn1 f) [.d d] Q = Q (f d) := by
  refine propext ⟨fun ⟨P, ⟨e, h1, h2⟩, h⟩ => ?_, fun h => ⟨_, ⟨d, rfl, rfl⟩, fun r e => e ▸ h⟩⟩
  cases h1
  subst h2
  exact h _ rfl
theorem sof_fn2 {f : PyData → PyData → PyData} {d e : PyData} {Q : PyData → Prop} : Sof (fn2 f) [.d d, .d e] Q = Q (f d e) := by
  refine propext ⟨fun ⟨P, ⟨_, _, h1, h2⟩, h⟩ => ?_, fun h => ⟨_, ⟨d, e, rfl, rfl⟩, fun r e => e ▸ h⟩⟩
  cases h1
  subst h2
  exact h _ rfl
theorem sof_fn1p {pre : PyData → Prop} {f : PyData → PyData} {d : PyData} {Q : PyData → Prop} : Sof (fn1p pre f) [.d d] Q = (pre d ∧ Q (f d)) := by
  refine propext ⟨fun ⟨P, ⟨e, h1, h3, h2⟩, h⟩ => ?_, fun h => ⟨_, ⟨d, rfl, h.1, rfl⟩, fun r e => e ▸ h.2⟩⟩
  cases h1
  subst h2
  exact ⟨h3, h _ rfl⟩
theorem sof_fn2p {pre : PyData → PyData → Prop} {f : PyData → PyData → PyData} {d e : PyData} {Q : PyData → Prop} : Sof (fn2p pre f) [.d d, .d e] Q = (pre d e ∧ Q (f d e)) := by
  refine propext ⟨fun ⟨P, ⟨_, _, h1, h3, h2⟩, h⟩ => ?_, fun h => ⟨_, ⟨d, e, rfl, h.1, rfl⟩, fun r e => e ▸ h.2⟩⟩
  cases h1
  subst h2
  exact ⟨h3, h _ rfl⟩
/-! ### the loom, as promises that were made by hand -/
/-- a draw below many -/
def drawR : RelD := fun ss P => ∃ many : Int, ss = [.lm, .d (.int many)] ∧ many < 1073741824 ∧ P = fun d => ∃ k : Int, d = .int k ∧ 0 ≤ k ∧ (k < many ∨ k = 0)
def sp_drawH : Sp := fun vs H Q _ => ∃ (L F : Addr) (many : Int), vs = [.ref L, .int many] ∧ LmD H L F ∧ many < 1073741824 ∧
  ∀ (H' : Hp) (k : Int), Kp L F H H' → LmD H' L F → 0 ≤ k → (k < many ∨ k = 0) → Q (.int k) H'
theorem draw_of {P : Program} {w : World} {K : PySem.W.Frag} {mg : Str → Option Value} {base : Heap} {k : Nat} {f : Addr} {fd : FuncData} {ps : List Str} (F : FnOk P w K mg base CX0 k f fd ps sp_drawH) : FnOk P w K mg base CX0 k f fd ps (spD K drawR) :=
  F.imp fun vs H Q E ⟨g, ss, h0, ha, hl, Pp, ⟨many, es, hm, eP⟩, hq⟩ => by
    subst es eP
    cases ha with
    | cons h1 r1 =>
      cases r1 with
      | cons h2 r2 =>
        cases r2
        obtain ⟨L, F, el, rfl⟩ := h1
        cases dx_int h2
        refine ⟨L, F, many, rfl, hl.ok.lm L F el, hm, fun H' k kp lm k0 k1 => hq _ ⟨k, rfl, k0, k1⟩ _ H' ⟨fun p o n e => kp p o (fun z => n (.inl ⟨L, F, el, .inl z⟩)) (fun z => n (.inl ⟨L, F, el, .inr z⟩)) e, fun ok => ⟨fun L' F' e' => ?_, fun R e' => ?_⟩⟩ (.int k)⟩
        · rw [el] at e'
          cases e'
          exact lm
        · obtain ⟨⟨n, a⟩, b⟩ := ok.rm R e'
          obtain ⟨x, y⟩ := b L F el
          exact ⟨⟨n, kp R _ x y a⟩, b⟩
/-- the loom's making -/
def sp_loomH (K : PySem.W.Frag) : Sp := fun vs H Q _ => ∃ (a : Addr) (ns : List Int), vs = [.ref a] ∧ SqL K H a (ns.map V.int) ∧ ns.length ≤ 63 ∧
  ∀ (H' : Hp) (L F : Addr), Same H H' → LmD H' L F → H L = none → H F = none → Q (.ref L) H'
/-- behind the loom's making: what the rest of the law is read in -/
theorem rep_loom {K : PySem.W.Frag} {H H' : Hp} {L F : Addr} {ρ : En} {σ : L2.St} (sm : Same H H') (lm : LmD H' L F) (hL : H L = none) (hF : H F = none) (len : ρ.length = σ.length)
    (hs : ∀ (i : Nat) (s : SV), ρ[i]? = some s → s = .un ∨ (s = .lm ∧ atv σ i = some (.ref L))) : Rep K ⟨⟨some (L, F), []⟩, H, fun _ => True⟩ [L, F] ρ σ H' := by
  refine ⟨len, fun i s e => ?_, fun i j xs ys p e1 _ _ _ => ?_, fun p hp => ?_, Gr.of_same sm, ⟨⟨fun L' F' e => ?_, fun R e => nomatch e⟩, fun p hp z => ?_⟩⟩
  · rcases hs i s e with rfl | ⟨rfl, h⟩
    · exact trivial
    · exact ⟨L, F, rfl, h⟩
  · rcases hs i _ e1 with z | ⟨z, _⟩ <;> cases z
  · obtain ⟨x, y⟩ := lm.ex
    simp only [List.mem_cons, List.not_mem_nil, or_false] at hp
    rcases hp with rfl | rfl
    · exact x
    · exact y
  · cases e
    exact lm
  · rcases hp with ⟨L', F', e, rfl | rfl⟩ | e
    · cases e
      exact z.2 (List.mem_cons_self ..)
    · cases e
      exact z.2 (List.mem_cons_of_mem _ (List.mem_cons_self ..))
    · cases e
end
/-- a law's body behind the making of its loom -/
theorem okLaw [Lo] {X : Cx} {st1 : Stmt} {rest : List Stmt} {u : TS} {D : Ends} {σ : L2.St} {H : Hp} {ρ : En} (h1 : PS X st1 u)
    (hb : ∃ t, DSs X rest t ∧ t ⟨fun _ => False, fun d _ => d = .bool true, fun _ => False, fun _ => False⟩ ρ) (hD : ∀ H', D.rt (.bl true) H')
    (hu : ∀ (N : L2.St → Hp → Prop), (∀ σ' H' g O, Rep X.K g O ρ σ' H' → N σ' H') → u { D with nx := N } σ H) : ∃ t', PSs X (st1 :: rest) t' ∧ t' D σ H := by
  obtain ⟨t, ht, hq⟩ := hb
  refine ⟨_, pss_cons h1 ht.run, hu _ fun σ' H' g O R => ⟨g, O, ρ, R, ht.mono _ _ _ ?_ hq⟩⟩
  refine ⟨fun ρ p => p.elim, fun d ρ' p => ?_, fun ρ p => p.elim, fun ρ p => p.elim⟩
  subst p
  intro O' σ' H' v R' dx
  cases dx_bool dx
  exact hD _
end Ev

set_option exponentiation.threshold 256
/-! the layer of data, 9: rules for reckoning -/
namespace Ev
open PySem PySem.Spec PyProof.Rows L2
theorem eqv_int (i j : Int) : PyData.eqv (.int i) (.int j) = decide (i = j) := by
  simp only [PyData.eqv, Bool.beq_eq_decide_eq]
theorem eqv_str (x y : Str) : PyData.eqv (.str x) (.str y) = decide (x = y) := by
  simp only [PyData.eqv, Bool.beq_eq_decide_eq]
theorem plain_int (i : Int) : plainD (.int i) = true := by
  simp only [plainD, PyData.hasDict, SeqAt.shaped, PyData.canLay0, PyData.depth]
  rfl
theorem plain_none : plainD .none = true := by
  simp only [plainD, PyData.hasDict, SeqAt.shaped, PyData.canLay0, PyData.depth]
  decide
theorem plain_bool (b : Bool) : plainD (.bool b) = true := by
  simp only [plainD, PyData.hasDict, SeqAt.shaped, PyData.canLay0, PyData.depth]
  rfl
/-! the operators at data of known kinds -/
section
variable {Q : PyData → Prop} {i j : Int} {a b : Str} {xs ys : List PyData} {x y z u : PyData}
theorem addD_int : addD (.int i) (.int j) Q = Q (.int (i + j)) := rfl
theorem addD_str : addD (.str a) (.str b) Q = (a.length + b.length ≤ sizeLine ∧ Q (.str (a ++ b))) := rfl
theorem addD_tup : addD (.tuple xs) (.tuple ys) Q = (xs.length + ys.length ≤ sizeLine ∧ Q (.tuple (xs ++ ys))) := rfl
theorem addD_list : addD (.list xs) (.list ys) Q = (xs.length + ys.length ≤ sizeLine ∧ Q (.list (xs ++ ys))) := rfl
theorem intF_int {f : Int → Int → PyData} : intF f (.int i) (.int j) Q = Q (f i j) := rfl
theorem intD_int {C : Int → Int → Prop} {f : Int → Int → PyData} : intD C f (.int i) (.int j) Q = (C i j ∧ Q (f i j)) := rfl
theorem eqD_int : eqD (.int i) (.int j) Q = Q (.bool (decide (i = j))) := rfl
theorem eqD_str : eqD (.str a) (.str b) Q = Q (.bool (decide (a = b))) := rfl
theorem neD_int : neD (.int i) (.int j) Q = Q (.bool (!decide (i = j))) := rfl
theorem neD_str : neD (.str a) (.str b) Q = Q (.bool (!decide (a = b))) := rfl
theorem eqD_of (hx : plainD x = true) (hy : plainD y = true) (q : Q (.bool (PyData.eqv x y))) : eqD x y Q := by
  unfold eqD
  split
  · rw [eqv_int] at q; exact q
  · rw [eqv_str] at q; exact q
  · exact ⟨hx, hy, q⟩
theorem neD_of (hx : plainD x = true) (hy : plainD y = true) (q : Q (.bool (!PyData.eqv x y))) : neD x y Q := by
  unfold neD
  split
  · rw [eqv_int] at q; exact q
  · rw [eqv_str] at q; exact q
  · exact ⟨hx, hy, q⟩
theorem inD_list {n : Bool} : inD n x (.list ys) Q = (flatD x = true ∧ ys.all flatD = true ∧ Q (.bool (if n then !inDb x ys else inDb x ys))) := rfl
theorem inD_tup {n : Bool} : inD n x (.tuple ys) Q = (flatD x = true ∧ ys.all flatD = true ∧ Q (.bool (if n then !inDb x ys else inDb x ys))) := rfl
theorem isND_none {n : Bool} : isND n x .none Q = Q (.bool (if n then !isNone x else isNone x)) := rfl
theorem ixD_tup : ixD (.tuple xs) (.int i) Q = match atI xs i with | some d => Q d | none => False := rfl
theorem ixD_list : ixD (.list xs) (.int i) Q = match atI xs i with | some d => Q d | none => False := rfl
theorem ixD_t0 : ixD (.tuple (x :: xs)) (.int 0) Q = Q x := by rw [ixD_tup, show atI (x :: xs) 0 = some x from atI_nat (j := 0) rfl]
theorem ixD_t1 : ixD (.tuple (x :: y :: xs)) (.int 1) Q = Q y := by rw [ixD_tup, show atI (x :: y :: xs) 1 = some y from atI_nat (j := 1) rfl]
theorem ixD_t2 : ixD (.tuple (x :: y :: z :: xs)) (.int 2) Q = Q z := by rw [ixD_tup, show atI (x :: y :: z :: xs) 2 = some z from atI_nat (j := 2) rfl]
theorem ixD_t3 : ixD (.tuple (x :: y :: z :: u :: xs)) (.int 3) Q = Q u := by rw [ixD_tup, show atI (x :: y :: z :: u :: xs) 3 = some u from atI_nat (j := 3) rfl]
theorem ixD_l0 : ixD (.list (x :: xs)) (.int 0) Q = Q x := by rw [ixD_list, show atI (x :: xs) 0 = some x from atI_nat (j := 0) rfl]
theorem ixD_of {d : PyData} (e : atI xs i = some d) : ixD (.tuple xs) (.int i) Q = Q d := by rw [ixD_tup, e]
theorem ixD_ofL {d : PyData} (e : atI xs i = some d) : ixD (.list xs) (.int i) Q = Q d := by rw [ixD_list, e]
theorem lenD_tup : lenD (.tuple xs) Q = Q (.int xs.length) := rfl
theorem lenD_list : lenD (.list xs) Q = Q (.int xs.length) := rfl
theorem lenD_str : lenD (.str a) Q = (a.length ≤ sizeLine ∧ Q (.int a.length)) := rfl
theorem absD_int : absD (.int i) Q = Q (.int i.natAbs) := rfl
theorem toIntD_int : toIntD (.int i) Q = Q (.int i) := rfl
theorem toIntD_bool {b : Bool} : toIntD (.bool b) Q = Q (.int (if b then 1 else 0)) := rfl
theorem toStrD_int : toStrD (.int i) Q = (i.natAbs.log2 < 1920 ∧ Q (.str (Str.ofString (toString i)))) := rfl
theorem tupleD_list : tupleD (.list xs) Q = Q (.tuple xs) := rfl
theorem tupleD_tup : tupleD (.tuple xs) Q = Q (.tuple xs) := rfl
theorem cutSq_tup {lo hi : Option Int} : cutSq (.tuple xs) lo hi Q = Q (.tuple (cutD xs lo hi)) := rfl
theorem cutSq_list {lo hi : Option Int} : cutSq (.list xs) lo hi Q = Q (.list (cutD xs lo hi)) := rfl
theorem cutSq_str {lo hi : Option Int} : cutSq (.str a) lo hi Q = (a.length ≤ sizeLine ∧ Q (.str (cutS a lo hi))) := rfl
theorem isInt_none  : isInt (.none) = false := rfl
theorem isInt_bool {b : Bool} : isInt (.bool b) = true := rfl
theorem isInt_int {i : Int} : isInt (.int i) = true := rfl
theorem isInt_str {x : Str} : isInt (.str x) = false := rfl
theorem isInt_list {xs : List PyData} : isInt (.list xs) = false := rfl
theorem isInt_tup {xs : List PyData} : isInt (.tuple xs) = false := rfl
theorem isInt_dict {kv : List (PyData × PyData)} : isInt (.dict kv) = false := rfl
theorem isBool_none  : isBool (.none) = false := rfl
theorem isBool_bool {b : Bool} : isBool (.bool b) = true := rfl
theorem isBool_int {i : Int} : isBool (.int i) = false := rfl
theorem isBool_str {x : Str} : isBool (.str x) = false := rfl
theorem isBool_list {xs : List PyData} : isBool (.list xs) = false := rfl
theorem isBool_tup {xs : List PyData} : isBool (.tuple xs) = false := rfl
theorem isBool_dict {kv : List (PyData × PyData)} : isBool (.dict kv) = false := rfl
theorem isStr_none  : isStr (.none) = false := rfl
theorem isStr_bool {b : Bool} : isStr (.bool b) = false := rfl
theorem isStr_int {i : Int} : isStr (.int i) = false := rfl
theorem isStr_str {x : Str} : isStr (.str x) = true := rfl
theorem isStr_list {xs : List PyData} : isStr (.list xs) = false := rfl
theorem isStr_tup {xs : List PyData} : isStr (.tuple xs) = false := rfl
theorem isStr_dict {kv : List (PyData × PyData)} : isStr (.dict kv) = false := rfl
theorem isTup_none  : isTup (.none) = false := rfl
theorem isTup_bool {b : Bool} : isTup (.bool b) = false := rfl
theorem isTup_int {i : Int} : isTup (.int i) = false := rfl
theorem isTup_str {x : Str} : isTup (.str x) = false := rfl
theorem isTup_list {xs : List PyData} : isTup (.list xs) = false := rfl
theorem isTup_tup {xs : List PyData} : isTup (.tuple xs) = true := rfl
theorem isTup_dict {kv : List (PyData × PyData)} : isTup (.dict kv) = false := rfl
theorem isLst_none  : isLst (.none) = false := rfl
theorem isLst_bool {b : Bool} : isLst (.bool b) = false := rfl
theorem isLst_int {i : Int} : isLst (.int i) = false := rfl
theorem isLst_str {x : Str} : isLst (.str x) = false := rfl
theorem isLst_list {xs : List PyData} : isLst (.list xs) = true := rfl
theorem isLst_tup {xs : List PyData} : isLst (.tuple xs) = false := rfl
theorem isLst_dict {kv : List (PyData × PyData)} : isLst (.dict kv) = false := rfl
theorem all_flat_nil : ([] : List PyData).all flatD = true := rfl
end
def isWhole (d : PyData) : Bool := isInt d && !isBool d
theorem whole_of {d : PyData} (h : isWhole d = true) : ∃ i, d = .int i := by
  cases d with
  | int i => exact ⟨i, rfl⟩
  | _ => cases h
/-! loops -/
theorem forD_ind {gt : Wg} {b : DTs} {D : DEnds} (I : List PyData → En → Prop) (hd : ∀ ρ, I [] ρ → D.nx ρ)
    (hs : ∀ x xs ρ (N : En → Prop), I (x :: xs) ρ → (∀ ρ', I xs ρ' → N ρ') → gt x ρ fun ρ1 => b ⟨N, D.rt, D.nx, N⟩ ρ1) : ∀ xs ρ, I xs ρ → forD gt b xs D ρ
  | [], ρ, h => hd ρ h
  | x :: xs, ρ, h => hs x xs ρ _ h fun ρ' h' => forD_ind I hd hs xs ρ' h'
def enumF (k : Nat) : List PyData → List PyData
  | [] => []
  | x :: r => .tuple [.int (k : Int), x] :: enumF (k + 1) r
theorem enumF_eq : ∀ (xs : List PyData) (k : Nat), (xs.mapIdx fun (i : Nat) d => PyData.tuple [.int ((i + k : Nat) : Int), d]) = enumF k xs
  | [], _ => rfl
  | x :: xs, k => by
    rw [List.mapIdx_cons, enumF, ← enumF_eq xs (k + 1), Nat.zero_add]
    congr 1
    refine congrArg (fun f => List.mapIdx f xs) (funext fun i => funext fun d => ?_)
    rw [Nat.add_right_comm, Nat.add_assoc]
theorem enumD_eq (xs : List PyData) : enumD xs = enumF 0 xs := enumF_eq xs 0
theorem for_enum {gt : Wg} {b : DTs} {D : DEnds} (I : Nat → List PyData → En → Prop) (hd : ∀ k ρ, I k [] ρ → D.nx ρ)
    (hs : ∀ (k : Nat) x xs ρ (N : En → Prop), I k (x :: xs) ρ → (∀ ρ', I (k + 1) xs ρ' → N ρ') → gt (.tuple [.int (k : Int), x]) ρ fun ρ1 => b ⟨N, D.rt, D.nx, N⟩ ρ1) (xs : List PyData) (ρ : En) (h : I 0 xs ρ) : forD gt b (enumD xs) D ρ := by
  rw [enumD_eq]
  suffices go : ∀ (xs : List PyData) (k : Nat) (ρ : En), I k xs ρ → forD gt b (enumF k xs) D ρ from go xs 0 ρ h
  intro xs
  induction xs with
  | nil => intro k ρ h; exact hd k ρ h
  | cons x xs ih => intro k ρ h; exact hs k x xs ρ _ h fun ρ' h' => ih (k + 1) ρ' h'
theorem lcD_ind {gt : Wg} {tt : Wp Bool} {te : Wp PyData} {ρw : En} {Q : List PyData → Prop} (I : List PyData → List PyData → Prop) (hd : ∀ acc, I [] acc → Q acc)
    (hs : ∀ x xs acc (N : List PyData → Prop), I (x :: xs) acc → (∀ acc', I xs acc' → N acc') → gt x ρw fun ρ2 => tt ρ2 fun b ρ3 => ρ3 = ρ2 ∧ if b = true then te ρ2 fun d ρ4 => ρ4 = ρ2 ∧ acc.length < sizeLine ∧ N (acc ++ [d]) else N acc) :
    ∀ xs acc, I xs acc → lcD gt tt te ρw xs acc Q
  | [], acc, h => hd acc h
  | x :: xs, acc, h => hs x xs acc _ h fun acc' h' => lcD_ind I hd hs xs acc' h'
/-- a promise of what is never asked -/
theorem okF [Lo] {P : Program} {w : World} {K : PySem.W.Frag} {mg : Str → Option Value} {base : Heap} {k : Nat} {f : Addr} {fd : FuncData} {ps : List Str} : FnOk P w K mg base CX0 k f fd ps (spD K fun _ _ => False) :=
  ⟨fun vs H Q E ⟨g, ss, h0, ha, hl, Pp, h, _⟩ => h.elim, fun A outer s H args us vs Q E hr he hb hv ⟨g, ss, h0, ha, hl, Pp, h, _⟩ => h.elim⟩
theorem sl_small {n : Nat} (h : n ≤ 1000) : n ≤ sizeLine := by
  rw [sizeLine_eq]
  omega
theorem sl_small' {n : Nat} (h : n < 1000) : n < sizeLine := by
  rw [sizeLine_eq]
  omega
/-- what is shown is not too great -/
theorem Dt.showD {n k : Nat} {d : PyData} (h : Dt n k d) (hn : n ≤ 8000) (hk : k ≤ 60) : showD d := h.show hn hk
theorem atI_zero {α : Type} {x : α} {xs : List α} : atI (x :: xs) 0 = some x := atI_nat (j := 0) rfl
theorem atI_one {α : Type} {x y : α} {xs : List α} : atI (x :: y :: xs) 1 = some y := atI_nat (j := 1) rfl
theorem atI_two {α : Type} {x y z : α} {xs : List α} : atI (x :: y :: z :: xs) 2 = some z := atI_nat (j := 2) rfl
theorem atI_three {α : Type} {x y z u : α} {xs : List α} : atI (x :: y :: z :: u :: xs) 3 = some u := atI_nat (j := 3) rfl
theorem atI_ex {α : Type} {xs : List α} {i : Int} (h0 : 0 ≤ i) (h1 : i < xs.length) : ∃ x, atI xs i = some x ∧ x ∈ xs := by
  have e : i = ((i.toNat : Nat) : Int) := by omega
  have l : i.toNat < xs.length := by omega
  rw [e]
  exact ⟨xs[i.toNat], atI_nat (List.getElem?_eq_getElem l), List.getElem_mem l⟩
/-! fractions -/
def fracD : PyData → Bool
  | .tuple [.int a, .int b] => decide (1 ≤ b) && decide (Nat.gcd a.natAbs b.natAbs = 1)
  | _ => false
/-! rows of bounded data -/
structure DL (c n k : Nat) (xs : List PyData) : Prop where
  len : xs.length ≤ c
  all : ∀ x ∈ xs, Dt n k x
theorem DL.le {c n k c' n' k' : Nat} {xs : List PyData} (h : DL c n k xs) (hc : c ≤ c') (hn : n ≤ n') (hk : k ≤ k') : DL c' n' k' xs := ⟨Nat.le_trans h.len hc, fun x hx => (h.all x hx).le hn hk⟩
theorem DL.nil {c n k : Nat} : DL c n k [] := ⟨Nat.zero_le _, fun x hx => nomatch hx⟩
theorem DL.cons {c n k : Nat} {x : PyData} {xs : List PyData} (h : Dt n k x) (r : DL c n k xs) : DL (c + 1) n k (x :: xs) := ⟨by have := r.len; rw [List.length_cons]; omega, fun y hy => by
  rcases List.mem_cons.mp hy with rfl | hy
  · exact h
  · exact r.all y hy⟩
theorem DL.app {c c' n k : Nat} {xs ys : List PyData} (h : DL c n k xs) (r : DL c' n k ys) : DL (c + c') n k (xs ++ ys) := ⟨by have := h.len; have := r.len; rw [List.length_append]; omega, fun y hy => by
  rcases List.mem_append.mp hy with hy | hy
  · exact h.all y hy
  · exact r.all y hy⟩
theorem cutD_mem {xs : List PyData} {lo hi : Option Int} {x : PyData} (h : x ∈ cutD xs lo hi) : x ∈ xs := by
  unfold cutD at h
  exact List.mem_of_mem_drop (List.mem_of_mem_take h)
theorem cutD_len (xs : List PyData) (lo hi : Option Int) : (cutD xs lo hi).length ≤ xs.length := by
  unfold cutD
  rw [List.length_take, List.length_drop]
  omega
theorem DL.cut {c n k : Nat} {xs : List PyData} (h : DL c n k xs) (lo hi : Option Int) : DL c n k (cutD xs lo hi) := ⟨Nat.le_trans (cutD_len _ _ _) h.len, fun x hx => h.all x (cutD_mem hx)⟩
theorem DL.dts {c n k : Nat} {xs : List PyData} (h : DL c n k xs) : Dts (c * n) k xs := (dts_all h.all).le (Nat.mul_le_mul_right _ h.len) (Nat.le_refl _)
theorem DL.tup {c n k : Nat} {xs : List PyData} (h : DL c n k xs) : Dt (c * n + 1) (k + 1) (.tuple xs) := Dts.tuple h.dts
theorem DL.list {c n k : Nat} {xs : List PyData} (h : DL c n k xs) : Dt (c * n + 1) (k + 1) (.list xs) := Dts.list h.dts
theorem rngD_mem {lo : Int} {n : Nat} {x : PyData} (h : x ∈ rngD lo n) : ∃ i : Int, x = .int i ∧ lo ≤ i ∧ i < lo + n := by
  unfold rngD at h
  obtain ⟨a, ha, rfl⟩ := List.mem_map.mp h
  have := List.mem_range.mp ha
  exact ⟨_, rfl, by omega, by omega⟩
theorem Dt.pair {n m k l : Nat} {a b : PyData} (h : Dt n k a) (h' : Dt m l b) : Dt (n + m + 1) (max k l + 1) (.tuple [a, b]) := (Dts.tuple (Dts.cons h (Dts.cons h' Dts.nil))).le (by omega) (by omega)
theorem Dt.lpair {n m k l : Nat} {a b : PyData} (h : Dt n k a) (h' : Dt m l b) : Dt (n + m + 1) (max k l + 1) (.list [a, b]) := (Dts.list (Dts.cons h (Dts.cons h' Dts.nil))).le (by omega) (by omega)
end Ev

set_option exponentiation.threshold 256
/-! the layer of data, 10: a room that others may change, dicts of texts, sums, sorted ints, pairs of two lists -/
namespace Ev
open PySem PySem.Spec PyProof.Rows L2
section
variable [Lo] {X : Cx} {a b e o : Expr} {ta tb te : Wp PyData} {ts : Wp (List SV)} {es : List Expr} {pos p : Pos} {i : Nat}
/-! ### a room: a list of one number that others change, and of which they tell -/
def reRm (ρ : En) (n : Int) : En := ρ.map fun s => match s with | .rm _ => .rm n | s => s
theorem reRm_at {ρ : En} {n : Int} {j : Nat} {s : SV} (h : (reRm ρ n)[j]? = some s) : (s = .rm n ∧ ∃ m, ρ[j]? = some (.rm m)) ∨ (ρ[j]? = some s ∧ ∀ m, s ≠ .rm m) := by
  unfold reRm at h
  rw [List.getElem?_map] at h
  cases e : ρ[j]? with
  | none => rw [e] at h; cases h
  | some r =>
    rw [e] at h
    cases r with
    | rm m => exact .inl ⟨(Option.some.inj h).symm, m, rfl⟩
    | _ =>
      refine .inr ⟨h, fun m z => ?_⟩
      rw [z] at h
      cases h
/-- room[0] -/
def dRmG (i : Nat) : Wp PyData := fun ρ Q => match ρ[i]? with
  | some (.rm n) => Q (.int n) ρ
  | _ => False
theorem Rep.room {K : PySem.W.Frag} {g : Gh} {O : List Addr} {ρ : En} {σ : L2.St} {H : Hp} {n : Int} (R : Rep K g O ρ σ H) (e : ρ[i]? = some (.rm n)) : ∃ q, g.lo.rm.head? = some q ∧ σ[i]? = some (some (.ref q)) ∧ H q = some (.lst [.int n]) := by
  obtain ⟨q, h1, h2, h3⟩ := R.at_ i _ e
  exact ⟨q, h1, atv_some h2, h3⟩
/-- the room's number is another one -/
theorem Rep.roomed {K : PySem.W.Frag} {g : Gh} {O : List Addr} {ρ : En} {σ : L2.St} {H H' : Hp} {q : Addr} {n : Int} (R : Rep K g O ρ σ H) (hq : g.lo.rm.head? = some q) (r : Gr g.lo H H') (h : H' q = some (.lst [.int n])) : Rep K g O (reRm ρ n) σ H' := by
  have lk : LoomOk g O H' := ⟨r.ok R.loom.ok, R.loom.nz⟩
  refine ⟨by unfold reRm; rw [List.length_map]; exact R.len, fun i s e => ?_, fun i j xs ys p e1 e2 => ?_, fun p hp => ?_, R.base.trans r, lk⟩
  · rcases reRm_at e with ⟨rfl, m, e⟩ | ⟨e, nm⟩
    · obtain ⟨R1, h1, h2, h3⟩ := R.at_ i _ e
      have : R1 = q := Option.some.inj (h1.symm.trans hq)
      subst this
      exact ⟨R1, h1, h2, h⟩
    · have w := R.at_ i s e
      cases s with
      | un => exact trivial
      | d x =>
        obtain ⟨w, h1, h2⟩ := w
        exact ⟨w, h1, dx_gr r R.loom h2⟩
      | own xs =>
        obtain ⟨p, vs, h1, h2, h3, h4, h5, h6⟩ := w
        exact ⟨p, vs, h1, h2, h3, r.keep h6 h4, dxAll_gr r R.loom h5, h6⟩
      | lm => exact w
      | rm m => exact absurd rfl (nm m)
  · have f : ∀ {i : Nat} {xs : List PyData}, (reRm ρ n)[i]? = some (.own xs) → ρ[i]? = some (.own xs) := fun e => by
      rcases reRm_at e with ⟨z, _⟩ | ⟨e, _⟩
      · cases z
      · exact e
    exact R.uniq i j xs ys p (f e1) (f e2)
  · intro z
    cases e : H p with
    | none => exact R.live p hp e
    | some o =>
      by_cases hl : g.lo.has p
      · exact lk.ok.ex hl z
      · rw [r.keep hl e] at z
        cases z
theorem Rep.kpR {K : PySem.W.Frag} {g : Gh} {O : List Addr} {ρ : En} {σ : L2.St} {H H' : Hp} {n : Int} (R : Rep K g O ρ σ H) (r : Gr g.lo H H') : Kp1 K g O ρ σ H O (reRm ρ n) H' :=
  ⟨fun _ h => h, R.kps r, fun p vs _ w e => ⟨⟨w.h0, fun j ys ej => by
    rcases reRm_at ej with ⟨z, _⟩ | ⟨ej, _⟩
    · cases z
    · exact w.sl j ys ej, w.nl⟩, r.keep w.nl e⟩⟩
theorem de_rmG (ho : PE X o (tVar i)) (hi : PE X e (tC (.int 0))) (hs : ∀ ov iv, subscripted e false ov iv = operate [ov, iv] (getItem ov iv)) : DE X (.Subscript o e pos) (dRmG i) := by
  refine ⟨fun ρ P Q k q => ?_, (pe_ix ix_list ho hi hs).weaken fun σ H Q ⟨g, O, ρ, R, q⟩ => ?_⟩
  · unfold dRmG at q ⊢
    split at q
    · exact k _ _ q
    · exact q
  · unfold dRmG at q
    split at q
    · rename_i n e0
      obtain ⟨r, h1, h2, h3⟩ := R.room e0
      exact ⟨_, h2, r, _, 0, _, rfl, rfl, SqL.of h3, rfl, q O H (.int n) R Kp1.refl (.int n)⟩
    · exact q.elim
/-- room[0] = e -/
def dRmS (i : Nat) (te : Wp PyData) : DTs := fun D ρ => te ρ fun d ρ1 => match d, ρ1[i]? with
  | .int n, some (.rm _) => D.nx (reRm ρ1 n)
  | _, _ => False
theorem ds_rmS {k : Expr} {p : Pos} (ho : PE X o (tVar i)) (he : DE X e te) (hk : PE X k (tC (.int 0)))
    (ha : ∀ v, assign (.Subscript o k p) X.env v = (do
      let ov ← holding [v] (eval o X.env)
      let iv ← holding [v, ov] (eval k X.env)
      standAt p
      holding [v, ov, iv] (setItem ov iv v)
      release [v, ov, iv] []) := by intro _; rfl)
    (hs : swapsWithSole [.Subscript o k p] e pos.line X.env = pure false := by rfl) (hw : swappedStores [.Subscript o k p] e X.env = pure none := by rfl)
    (h1 : (assignEach [.Subscript o k p] X.env).map (·.2) = [assign (.Subscript o k p) X.env] := by rfl) : DS X (.Assign [.Subscript o k p] e pos) (dRmS i te) := by
  refine ⟨fun D D' ρ l q => he.mono ρ _ _ (fun d ρ1 p => ?_) q, (ps_asg he.run (pg_sub ho hk set_list ha) hs hw h1).weaken fun D σ H ⟨g, O, ρ, R, q⟩ => lift_go he.mono R q fun d ρ1 O1 H1 v R1 k1 dx q1 => ?_⟩
  · split at p
    · exact l.nx _ p
    · exact p
  · split at q1
    · rename_i n m e0
      cases dx_int dx
      obtain ⟨r, h1, h2, h3⟩ := R1.room e0
      refine ⟨_, h2, r, _, 0, 0, rfl, rfl, h3, rfl, ?_⟩
      have hm := hd_mem h1
      have hr : g.lo.has r := .inr hm
      have gr : Gr g.lo H1 (upd H1 r (.lst [.int n])) := by
        refine ⟨fun q o nq eq => ?_, fun ok => ⟨fun L F el => ?_, fun r' er => ?_⟩⟩
        · rw [upd_ne (fun (z : q = r) => nq (z ▸ hr))]
          exact eq
        · obtain ⟨_, h5⟩ := ok.rm r hm
          obtain ⟨n1, n2⟩ := h5 L F el
          obtain ⟨fs, s, t, l1, l2, l3⟩ := ok.lm L F el
          exact ⟨fs, s, t, by rw [upd_ne n1.symm]; exact l1, by rw [upd_ne n2.symm]; exact l2, l3⟩
        · obtain ⟨⟨m', h6⟩, h7⟩ := ok.rm r' er
          by_cases z : r' = r
          · subst z
            exact ⟨⟨n, upd_same⟩, h7⟩
          · exact ⟨⟨m', by rw [upd_ne z]; exact h6⟩, h7⟩
      exact q1 O1 σ _ (R1.roomed h1 gr upd_same) (k1.dat.trans (R1.kps gr))
    · exact q1.elim
/-! the call of a def to which a room is handed on, as its last argument -/
def PArR (K : PySem.W.Frag) : Bear (List SV × Int) (List V) := fun g _ O _ _ H vs s => ∃ vs0 q, vs = vs0 ++ [.ref q] ∧ ArgsOk K g.lo (Zof g O) H s.1 vs0 ∧ g.lo.rm.head? = some q ∧ H q = some (.lst [.int s.2])
structure DGr (X : Cx) (es : List Expr) (t : Wp (List SV × Int)) : Prop where
  mono : Mono t
  run : PA X es (lift X.K (PArR X.K) t)
def gRm (i : Nat) : Wp (List SV × Int) := fun ρ Q => match ρ[i]? with
  | some (.rm n) => Q ([], n) ρ
  | _ => False
theorem dgr_one (ha : PE X e (tVar i)) (hs : starEach (e :: []) X.env = (false, eval e X.env) :: starEach [] X.env := by rfl) : DGr X [e] (gRm i) := by
  refine ⟨fun ρ P Q k q => ?_, (pa_cons ha pa_nil hs).weaken fun σ H Q ⟨g, O, ρ, R, q⟩ => ?_⟩
  · unfold gRm at q ⊢
    split at q
    · exact k _ _ q
    · exact q
  · unfold gRm at q
    split at q
    · rename_i n e
      obtain ⟨r, h1, h2, h3⟩ := R.room e
      exact ⟨.ref r, h2, q O H [.ref r] R Kp1.refl ⟨[], r, rfl, .nil, h1, h3⟩⟩
    · exact q.elim
def gConsR (ta : Wp PyData) (t : Wp (List SV × Int)) : Wp (List SV × Int) := fun ρ Q => ta ρ fun x ρ1 => t ρ1 fun s ρ2 => Q (.d x :: s.1, s.2) ρ2
def gLmR (i : Nat) (t : Wp (List SV × Int)) : Wp (List SV × Int) := fun ρ Q => match ρ[i]? with
  | some .lm => t ρ fun s ρ2 => Q (.lm :: s.1, s.2) ρ2
  | _ => False
variable {tr : Wp (List SV × Int)}
theorem dgr_cons (ha : DE X e ta) (hr : DGr X es tr) (hs : starEach (e :: es) X.env = (false, eval e X.env) :: starEach es X.env := by rfl) : DGr X (e :: es) (gConsR ta tr) :=
  ⟨fun ρ P Q k q => ha.mono ρ _ _ (fun x ρ1 p => hr.mono ρ1 _ _ (fun s ρ2 p2 => k _ _ p2) p) q, (pa_cons ha.run hr.run hs).weaken fun σ H Q ⟨g, O, ρ, R, q⟩ => lift_go ha.mono R q fun x ρ1 O1 H1 v R1 k1 dx q1 =>
    lift_go hr.mono R1 q1 fun s ρ2 O2 H2 vs R2 k2 ⟨vs0, r, e1, e2, e3, e4⟩ q2 => q2 O2 H2 (v :: vs) R2 (k1.trans k2) ⟨v :: vs0, r, by rw [e1]; rfl, .cons (k2.dat _ _ dx) e2, e3, e4⟩⟩
theorem dgr_lm (ha : PE X e (tVar i)) (hr : DGr X es tr) (hs : starEach (e :: es) X.env = (false, eval e X.env) :: starEach es X.env := by rfl) : DGr X (e :: es) (gLmR i tr) := by
  refine ⟨fun ρ P Q k q => ?_, (pa_cons ha hr.run hs).weaken fun σ H Q ⟨g, O, ρ, R, q⟩ => ?_⟩
  · unfold gLmR at q ⊢
    split at q
    · exact hr.mono ρ _ _ (fun s ρ2 p2 => k _ _ p2) q
    · exact q.elim
  · unfold gLmR at q
    split at q
    · rename_i e
      obtain ⟨L, F, h1, h2⟩ := R.at_ _ _ e
      exact ⟨.ref L, atv_some h2, lift_go hr.mono R q fun s ρ2 O2 H2 vs R2 k2 ⟨vs0, r, e1, e2, e3, e4⟩ q2 => q2 O2 H2 (.ref L :: vs) R2 k2 ⟨.ref L :: vs0, r, by rw [e1]; rfl, .cons ⟨L, F, h1, rfl⟩ e2, e3, e4⟩⟩
    · exact q.elim
/-- of such arguments, and of a room with such a number, some such datum comes, and such a number is left -/
abbrev RelR := List SV → Int → (PyData → Int → Prop) → Prop
def SofR (R : RelR) (ss : List SV) (n : Int) (Q : PyData → Int → Prop) : Prop := ∃ P, R ss n P ∧ ∀ d n', P d n' → Q d n'
def spR (K : PySem.W.Frag) (R : RelR) : Sp := fun vs H Q _ => ∃ (g : Gh) (ss : List SV) (vs0 : List V) (q : Addr) (n : Int), vs = vs0 ++ [.ref q] ∧ g.H0 = H ∧ ArgsOk K g.lo (Zof g []) H ss vs0 ∧ LoomOk g [] H ∧ g.lo.rm.head? = some q ∧ H q = some (.lst [.int n]) ∧
  SofR R ss n fun d n' => ∀ v H', Gr g.lo H H' → H' q = some (.lst [.int n']) → Dx K (fun a => g.Z0 a ∨ H a = none) H' v d → Q v H'
def dCallR (R : RelR) (ts : Wp (List SV × Int)) : Wp PyData := fun ρ Q => ts ρ fun s ρ1 => SofR R s.1 s.2 fun d n' => Q d (reRm ρ1 n')
theorem de_callR {k : Nat} {f : Addr} {fd : FuncData} {ps : List Str} {R : RelR} {x : Str} {E : XK} (F : FnOk X.prog X.w X.K X.mg X.base CX0 k f fd ps (spR X.K R)) (hr : Room k X.A) (hg : Gl X x) (hm : X.mg x = some (.ref f)) (hk : PySem.W.keepIn X.K (.ref f) = true) (hb : Binds X.K fd ps []) (hx : Passes CX0 X E)
    (ha : DGr X (e :: es) tr) (hdb : (x == ("__debug__" : Str)) = false := by decide) (he : starEach (e :: es) X.env = (false, eval e X.env) :: starEach es X.env := by rfl) (hpl : (backTo pos (starEach es X.env)).any (·.1) = false := by rfl) :
    DE X (.Call (.Name x p) (e :: es) [] pos) (dCallR R tr) :=
  ⟨fun ρ P Q k q => ha.mono ρ _ _ (fun s ρ1 ⟨P, a, b⟩ => ⟨P, a, fun d n' hd => k _ _ (b d n' hd)⟩) q, (pe_call F hr hg hm hk hb .nil hx ha.run hdb he hpl).weaken fun σ H Q ⟨g, O, ρ, rp, q⟩ => lift_go ha.mono rp q fun s ρ1 O1 H1 vs R1 k1 ⟨vs0, r, e1, e2, e3, e4⟩ q1 => by
    rw [List.append_nil]
    obtain ⟨P, a, b⟩ := q1
    have ha2 : ArgsOk X.K g.lo (Zof ⟨g.lo, H1, Zof g O1⟩ []) H1 s.1 vs0 := argsOk_mono (fun a z => ⟨.inl z, by simp⟩) e2
    refine ⟨⟨g.lo, H1, Zof g O1⟩, s.1, vs0, r, s.2, e1, rfl, ha2, ⟨R1.loom.ok, fun p hp z => z.1.elim (R1.loom.nz p hp) (R1.loom.ok.ex hp)⟩, e3, e4, P, a, fun d n' hd v H' gr hn dx => ?_⟩
    exact b d n' hd O1 H' v (R1.roomed e3 gr hn) (k1.trans (R1.kpR gr)) (dx_monoL (fun _ z => R1.zone z) dx)⟩
/-- a list of one number, one's own, becomes a room, from here on -/
def unrm (ρ : En) : En := ρ.map fun s => match s with | .rm _ => .un | s => s
def dRoom (i : Nat) (t : DTs) : DTs := fun D ρ => match ρ[i]? with
  | some (.own [.int n]) => t ⟨fun ρ' => D.nx (unrm ρ'), fun d ρ' => D.rt d (unrm ρ'), fun ρ' => D.bk (unrm ρ'), fun ρ' => D.ct (unrm ρ')⟩ ((unrm ρ).set i (.rm n))
  | _ => False
theorem unrm_at {ρ : En} {j : Nat} {s : SV} (h : (unrm ρ)[j]? = some s) : s = .un ∨ (ρ[j]? = some s ∧ ∀ n, s ≠ .rm n) := by
  unfold unrm at h
  rw [List.getElem?_map] at h
  cases e : ρ[j]? with
  | none => rw [e] at h; cases h
  | some r =>
    rw [e] at h
    cases r with
    | rm m => exact .inl (Option.some.inj h).symm
    | _ =>
      refine .inr ⟨h, fun m z => ?_⟩
      rw [z] at h
      cases h
theorem rep_unrm0 {K : PySem.W.Frag} {g : Gh} {O : List Addr} {ρ : En} {σ : L2.St} {H : Hp} (R : Rep K g O ρ σ H) : Rep K g O (unrm ρ) σ H := by
  refine ⟨by unfold unrm; rw [List.length_map]; exact R.len, fun j s e => ?_, fun j k xs ys r e1 e2 => ?_, R.live, R.base, R.loom⟩
  · rcases unrm_at e with rfl | ⟨e2, _⟩
    · exact trivial
    · exact R.at_ j s e2
  · rcases unrm_at e1 with z | ⟨e1, _⟩
    · cases z
    rcases unrm_at e2 with z | ⟨e2, _⟩
    · cases z
    exact R.uniq j k xs ys r e1 e2
theorem rep_unrm {K : PySem.W.Frag} {g : Gh} {q : Addr} {O : List Addr} {ρ : En} {σ : L2.St} {H : Hp} (hq : g.H0 q = none) (R : Rep K ⟨⟨g.lo.lm, q :: g.lo.rm⟩, g.H0, g.Z0⟩ O ρ σ H) : Rep K g O (unrm ρ) σ H := by
  have has : ∀ r, g.lo.has r → (Lw.mk g.lo.lm (q :: g.lo.rm)).has r := fun r h => by
    rcases h with h | h
    · exact .inl h
    · exact .inr (List.mem_cons_of_mem _ h)
  have ok : ∀ {H1 : Hp}, (Lw.mk g.lo.lm (q :: g.lo.rm)).ok H1 → g.lo.ok H1 := fun k => ⟨fun L F el => k.lm L F el, fun r er => k.rm r (List.mem_cons_of_mem _ er)⟩
  refine ⟨by unfold unrm; rw [List.length_map]; exact R.len, fun j s e => ?_, fun j k xs ys r e1 e2 => ?_, R.live, ⟨fun r o nr er => R.base.kp r o (fun z => ?_) er, fun _ => ok R.loom.ok⟩, ⟨ok R.loom.ok, fun r hr => R.loom.nz r (has r hr)⟩⟩
  · rcases unrm_at e with rfl | ⟨e2, nm⟩
    · exact trivial
    · have := R.at_ j s e2
      cases s with
      | un => exact trivial
      | d x => exact this
      | own xs =>
        obtain ⟨p, vs, h1, h2, h3, h4, h5, h6⟩ := this
        exact ⟨p, vs, h1, h2, h3, h4, h5, fun z => h6 (has _ z)⟩
      | lm => exact this
      | rm m => exact absurd rfl (nm m)
  · rcases unrm_at e1 with z | ⟨e1, _⟩
    · cases z
    rcases unrm_at e2 with z | ⟨e2, _⟩
    · cases z
    exact R.uniq j k xs ys r e1 e2
  · rcases z with z | z
    · exact nr (.inl z)
    · rcases List.mem_cons.mp z with rfl | z
      · rw [hq] at er
        cases er
      · exact nr (.inr z)
theorem rep_room {K : PySem.W.Frag} {g : Gh} {O : List Addr} {ρ : En} {σ : L2.St} {H : Hp} {n : Int} (R0 : Rep K g O ρ σ H) (e0 : ρ[i]? = some (.own [.int n])) :
    ∃ q, g.H0 q = none ∧ Rep K ⟨⟨g.lo.lm, q :: g.lo.rm⟩, g.H0, g.Z0⟩ O ((unrm ρ).set i (.rm n)) σ H := by
  have R := rep_unrm0 R0
  have e : (unrm ρ)[i]? = some (.own [.int n]) := by
    unfold unrm
    rw [List.getElem?_map, e0]
    rfl
  have nr0 : ∀ (j : Nat) (m : Int), (unrm ρ)[j]? ≠ some (.rm m) := fun j m z => by
    rcases unrm_at z with z | ⟨_, z⟩
    · cases z
    · exact z m rfl
  generalize unrm ρ = ρ at R e nr0 ⊢
  obtain ⟨q, vs, h1, h2, h3, h4, h5, h6⟩ := R.at_ i _ e
  refine ⟨q, h3, ?_⟩
  have ev : vs = [.int n] := by
    cases h5 with
    | cons x r =>
      cases r
      cases dx_int x
      rfl
  subst ev
  have hi : i < ρ.length := (List.getElem?_eq_some_iff.mp e).1
  have ok : (Lw.mk g.lo.lm (q :: g.lo.rm)).ok H := ⟨fun L F el => R.loom.ok.lm L F el, fun r er => by
    rcases List.mem_cons.mp er with rfl | er
    · exact ⟨⟨n, h4⟩, fun L F el => ⟨fun z => h6 (.inl ⟨L, F, el, .inl z⟩), fun z => h6 (.inl ⟨L, F, el, .inr z⟩)⟩⟩
    · exact R.loom.ok.rm r er⟩
  refine ⟨by rw [List.length_set]; exact R.len, fun j s ej => ?_, fun j k xs ys r e1 e2 a1 a2 => ?_, R.live, ⟨fun r o nr er => R.base.kp r o (fun z => nr ?_) er, fun _ => ok⟩, ⟨ok, fun r hr z => ?_⟩⟩
  · rw [List.getElem?_set] at ej
    by_cases ij : i = j
    · rw [if_pos ij, if_pos hi] at ej
      cases ej
      subst ij
      exact ⟨q, rfl, h1, h4⟩
    · rw [if_neg ij] at ej
      have w := R.at_ j s ej
      cases s with
      | un => exact trivial
      | d x => exact w
      | own zs =>
        obtain ⟨r, us, b1, b2, b3, b4, b5, b6⟩ := w
        refine ⟨r, us, b1, b2, b3, b4, b5, fun z => ?_⟩
        rcases z with z | z
        · exact b6 (.inl z)
        · rcases List.mem_cons.mp z with rfl | z
          · exact ij (R.uniq i j _ zs r e ej h1 b1)
          · exact b6 (.inr z)
      | lm => exact w
      | rm m => exact absurd ej (nr0 j m)
  · rw [List.getElem?_set] at e1 e2
    by_cases ij : i = j
    · rw [if_pos ij] at e1
      split at e1 <;> cases e1
    · by_cases ik : i = k
      · rw [if_pos ik] at e2
        split at e2 <;> cases e2
      · rw [if_neg ij] at e1
        rw [if_neg ik] at e2
        exact R.uniq j k _ _ r e1 e2 a1 a2
  · rcases z with z | z
    · exact .inl z
    · exact .inr (List.mem_cons_of_mem _ z)
  · rcases hr with hr | hr
    · exact R.loom.nz r (.inl hr) z
    · rcases List.mem_cons.mp hr with rfl | hr
      · exact z.2 h2
      · exact R.loom.nz r (.inr hr) z
theorem kps_lo {K : PySem.W.Frag} {g : Gh} {lo : Lw} {O O' : List Addr} {H H' : Hp} : Kps K ⟨lo, g.H0, g.Z0⟩ O H O' H' ↔ Kps K g O H O' H' := Iff.rfl
theorem dss_room {sts : List Stmt} {t : DTs} (i : Nat) (h : DSs X sts t) : DSs X sts (dRoom i t) := by
  refine ⟨fun D D' ρ l q => ?_, h.run.weaken fun D σ H ⟨g, O, ρ, R, q⟩ => ?_⟩
  · unfold dRoom at q ⊢
    split at q
    · exact h.mono ⟨fun ρ' => D.nx (unrm ρ'), fun d ρ' => D.rt d (unrm ρ'), fun ρ' => D.bk (unrm ρ'), fun ρ' => D.ct (unrm ρ')⟩ ⟨fun ρ' => D'.nx (unrm ρ'), fun d ρ' => D'.rt d (unrm ρ'), fun ρ' => D'.bk (unrm ρ'), fun ρ' => D'.ct (unrm ρ')⟩ _ ⟨fun ρ' => l.nx (unrm ρ'), fun d ρ' => l.rt d (unrm ρ'), fun ρ' => l.bk (unrm ρ'), fun ρ' => l.ct (unrm ρ')⟩ q
    · exact q.elim
  · unfold dRoom at q
    split at q
    · rename_i n e
      obtain ⟨r, hr, R'⟩ := rep_room R e
      have sub : ∀ {O' : List Addr} {ρ' : En} {σ' : L2.St} {H' : Hp}, Rep X.K ⟨⟨g.lo.lm, r :: g.lo.rm⟩, g.H0, g.Z0⟩ O' ρ' σ' H' → Rep X.K g O' (unrm ρ') σ' H' := fun R1 => rep_unrm hr R1
      exact ⟨⟨⟨g.lo.lm, r :: g.lo.rm⟩, g.H0, g.Z0⟩, O, _, R', h.mono ⟨fun ρ' => (ends X.K g D O H).nx (unrm ρ'), fun d ρ' => (ends X.K g D O H).rt d (unrm ρ'), fun ρ' => (ends X.K g D O H).bk (unrm ρ'), fun ρ' => (ends X.K g D O H).ct (unrm ρ')⟩ _ _ ⟨fun ρ' p O' σ' H' R1 k => p O' σ' H' (sub R1) (kps_lo.mp k), fun d ρ' p O' σ' H' v R1 dx => p O' σ' H' v (sub R1) dx, fun ρ' p O' σ' H' R1 k => p O' σ' H' (sub R1) (kps_lo.mp k), fun ρ' p O' σ' H' R1 k => p O' σ' H' (sub R1) (kps_lo.mp k)⟩ q⟩
    · exact q.elim
end
section
variable [Lo]
/-- a def that is lent a room begins -/
theorem rep_startR {K : PySem.W.Frag} {g : Gh} {H : Hp} {ss : List SV} {vs : List V} {N : List Str} {q : Addr} {n : Int} (h0 : g.H0 = H) (ha : ArgsOk K g.lo (Zof g []) H ss vs) (hl : LoomOk g [] H) (hq : g.lo.rm.head? = some q) (hn : H q = some (.lst [.int n])) :
    Rep K g [] (ss ++ .rm n :: uns N (ss.length + 1)) (L2.start N (vs ++ [.ref q])) H := by
  have ln := argsOk_len ha
  have lns : (ss ++ .rm n :: uns N (ss.length + 1)).length = (L2.start N (vs ++ [.ref q])).length := by
    unfold uns L2.start
    simp only [List.length_append, List.length_cons, List.length_nil, List.length_replicate, List.length_map, ln]
    omega
  have get : ∀ (i : Nat) (s : SV), (ss ++ .rm n :: uns N (ss.length + 1))[i]? = some s → s = .un ∨ (s = .rm n ∧ atv (L2.start N (vs ++ [.ref q])) i = some (.ref q)) ∨ ∃ v, atv (L2.start N (vs ++ [.ref q])) i = some v ∧ ArgOk K g.lo (Zof g []) H s v := fun i s e => by
    by_cases hi : i < ss.length
    · rw [List.getElem?_append_left hi] at e
      obtain ⟨v, e1, e2⟩ := argsOk_get ha e
      refine .inr (.inr ⟨v, ?_, e2⟩)
      unfold atv L2.start
      rw [List.getElem?_append_left (by rw [List.length_map, List.length_append, ln]; omega), List.getElem?_map, List.getElem?_append_left (by rw [ln]; exact hi), e1]
      rfl
    · rw [List.getElem?_append_right (by omega)] at e
      by_cases hz : i - ss.length = 0
      · rw [hz] at e
        refine .inr (.inl ⟨(Option.some.inj e).symm, ?_⟩)
        have hi2 : i = vs.length := by rw [ln]; omega
        unfold atv L2.start
        rw [List.getElem?_append_left (by rw [List.length_map, List.length_append, hi2]; simp), List.getElem?_map, hi2, List.getElem?_append_right (Nat.le_refl _), Nat.sub_self]
        rfl
      · obtain ⟨k, hk⟩ : ∃ k, i - ss.length = k + 1 := ⟨i - ss.length - 1, by omega⟩
        rw [hk, List.getElem?_cons_succ] at e
        unfold uns at e
        rw [List.getElem?_replicate] at e
        split at e
        · exact .inl (Option.some.inj e).symm
        · cases e
  have noOwn : ∀ (i : Nat) (xs : List PyData), (ss ++ .rm n :: uns N (ss.length + 1))[i]? ≠ some (.own xs) := fun i xs e => by
    rcases get i _ e with z | ⟨z, _⟩ | ⟨v, _, z⟩
    · cases z
    · cases z
    · exact z
  refine ⟨lns, fun i s e => ?_, fun i j xs ys p e1 _ _ _ => absurd e1 (noOwn i xs), (fun p hp => nomatch hp), by rw [h0]; exact Gr.refl _, hl⟩
  rcases get i s e with rfl | ⟨rfl, e1⟩ | ⟨v, e1, e2⟩
  · exact trivial
  · exact ⟨q, hq, e1, hn⟩
  · rw [e1]
    cases s with
    | d x => exact ⟨v, rfl, e2⟩
    | lm =>
      obtain ⟨L, F, a, b⟩ := e2
      exact ⟨L, F, a, by rw [b]⟩
    | rm => exact e2.elim
    | un => exact e2.elim
    | own xs => exact e2.elim
variable {P : Program} {w : World} {K : PySem.W.Frag} {mg : Str → Option Value} {base : Heap}
theorem body_goR {R : RelR} {t : DTs} {N : List Str} {vs : List V} {H : Hp} {Q : VK} {E : XK} (mt : MonoS t) (h : spR K R vs H Q E)
    (hb : ∀ ss n P, R ss n P → t ⟨fun _ => False, fun d ρ => ∃ n', ρ[ss.length]? = some (.rm n') ∧ P d n', fun _ => False, fun _ => False⟩ (ss ++ .rm n :: uns N (ss.length + 1))) :
    liftS K t { nx := fun _ H' => Q .non H', rt := Q } (L2.start N vs) H := by
  obtain ⟨g, ss, vs0, q, n, rfl, h0, ha, hl, hq, hn, Pp, hR, hQ⟩ := h
  have R0 := rep_startR (N := N) h0 ha hl hq hn
  refine ⟨g, [], _, R0, mt _ _ _ ?_ (hb ss n Pp hR)⟩
  refine ⟨fun ρ' p => p.elim, fun d ρ' ⟨n', e, p⟩ O' σ' H' v R' dx => ?_, fun ρ' p => p.elim, fun ρ' p => p.elim⟩
  obtain ⟨q', e1, e2, e3⟩ := R'.room e
  have : q' = q := Option.some.inj (e1.symm.trans hq)
  subst this
  refine hQ d n' p v H' ?_ e3 (dx_monoL (fun a z => ?_) dx)
  · have := R'.base
    rw [h0] at this
    exact this
  · rw [← h0]
    exact z.1
theorem okR {x qual : Str} {st : Stmt} {f : Addr} {fd : FuncData} {N ps : List Str} {k : Nat} {R : RelR} (F : Fun K x qual st f fd) (S : FnScope N ps (defScope st)) (len : ∀ ss n P, R ss n P → ss.length + 1 = ps.length)
    (hbody : ∀ (cdv : Value) (A : Around) (outer : List Env) (s : Shared) (H : Hp) (E : XK), Room k (A.deeper (envOfC qual (defScope st) s.heap.objs.size f cdv)) →
      ∃ t, DSs (cxOf CX0 P w K mg base N qual (defScope st) f cdv A outer s H E).nox (defBody st) t ∧ ∀ ss n P, R ss n P → t ⟨fun _ => False, fun d ρ => ∃ n', ρ[ss.length]? = some (.rm n') ∧ P d n', fun _ => False, fun _ => False⟩ (ss ++ .rm n :: uns N (ss.length + 1))) : FnOk P w K mg base CX0 (k + 1) f fd ps (spR K R) := by
  refine F.ok S (fun vs H Q E h => ?_) (fun cdv A outer s H vs Q E hr h => ?_)
  · obtain ⟨g, ss, vs0, q, n, rfl, h0, ha, hl, hq, hn, Pp, hR, hQ⟩ := h
    rw [List.length_append, argsOk_len ha]
    exact len ss n Pp hR
  · obtain ⟨t, ht, hb⟩ := hbody cdv A outer s H E hr
    exact ⟨_, ht.run, body_goR ht.mono h hb⟩
/-- a promise of what is never asked -/
theorem okFR {k : Nat} {f : Addr} {fd : FuncData} {ps : List Str} : FnOk P w K mg base CX0 k f fd ps (spR K fun _ _ _ => False) :=
  ⟨fun vs H Q E ⟨g, ss, vs0, q, n, _, _, _, _, _, _, Pp, z, _⟩ => z.elim, fun A outer s H args us vs Q E hr he hb hv ⟨g, ss, vs0, q, n, _, _, _, _, _, _, Pp, z, _⟩ => z.elim⟩
end
end Ev

set_option exponentiation.threshold 256
/-! the layer of data, 11: dicts of texts and ints, sums, sorted ints, pairs of two lists, tables of the module -/
namespace Ev
open PySem PySem.Spec PyProof.Rows L2
theorem un1 {n : Nat} (h : n + 64 < cLine) : n + 1 < cLine := by omega
/-! ### what a dict tells -/
def keyD : PyData → Option Key
  | .int i => some (.inl i)
  | .str x => some (.inr x)
  | _ => none
def getKv : List (PyData × PyData) → Key → Option PyData
  | [], _ => none
  | (p, d) :: r, k => if keyD p = some k then some d else getKv r k
theorem keyD_k (k : Key) : keyD (kD k) = some k := by cases k <;> rfl
theorem dxKv_get {K : PySem.W.Frag} {Z : Addr → Prop} {H : Hp} {k : Key} : ∀ {kvs : List (Key × V)} {ds : List (PyData × PyData)}, DxKv K Z H kvs ds →
    (getKv ds k = none ∧ valV kvs k = none) ∨ ∃ d v, getKv ds k = some d ∧ valV kvs k = some v ∧ Dx K Z H v d
  | _, _, .nil => .inl ⟨rfl, rfl⟩
  | _, _, .cons (k := j) (v := v) (d := d) h r => by
    by_cases e : j = k
    · refine .inr ⟨d, v, ?_, valV_pos e, h⟩
      unfold getKv
      rw [keyD_k, e, if_pos rfl]
    · rw [valV_neg e]
      unfold getKv
      rw [keyD_k, if_neg fun z => e (Option.some.inj z)]
      exact dxKv_get r
theorem keyD_v {K : PySem.W.Frag} {Z : Addr → Prop} {H : Hp} {v : V} {d : PyData} {k : Key} (h : Dx K Z H v d) (e : keyD d = some k) : v = kV k := by
  cases h <;> cases e <;> rfl
section
variable [Lo] {X : Cx} {a b c e o : Expr} {ta tb tc te : Wp PyData} {es : List Expr} {pos p : Pos} {i : Nat}
theorem dx_dct {K : PySem.W.Frag} {Z : Addr → Prop} {H : Hp} {v : V} {kv : List (PyData × PyData)} (h : Dx K Z H v (.dict kv)) : ∃ a kvs, v = .ref a ∧ H a = some (.dK kvs) ∧ Z a ∧ DxKv K Z H kvs kv := by
  cases h with
  | dct e z h => exact ⟨_, _, rfl, e, z, h⟩
/-- x in a dict -/
def inKvD (neg : Bool) : OD := fun x y Q => match y, keyD x with
  | .dict kv, some k => Q (.bool (if neg then (getKv kv k).isNone else (getKv kv k).isSome))
  | _, _ => False
theorem inKvD_mono {neg : Bool} : ∀ x y P Q, (∀ r, P r → Q r) → inKvD neg x y P → inKvD neg x y Q := fun x y P Q k q => by
  unfold inKvD at q ⊢
  split at q <;> first | exact k _ q | exact q
theorem keyD_s {K : PySem.W.Frag} {Z : Addr → Prop} {H : Hp} {v : V} {d : PyData} {k : Key} (h : DxS K Z H v d) (e : keyD d = some k) : v = kV k := by
  cases d with
  | list xs => cases e
  | _ => exact keyD_v h e
theorem o_inKv (hu : X.A.units + 1 < cLine) : OpD X (compareOp .In) (inKvD false) := by
  refine ⟨inKvD_mono, fun pins s σ H v u V U Q I rv ru ⟨Z, x, y, dx, dy, q⟩ => ?_⟩
  unfold inKvD at q
  split at q
  · rename_i kv k ek
    obtain ⟨a, kvs, rfl, h1, h2, h3⟩ := dx_dct dy
    obtain rfl : U = Value.ref a := ru
    have ev := keyD_s dx ek
    subst ev
    refine d_in hu I (DGet.k (k := k) h1) rv fun s3 I3 => ⟨.bl _, H, I3, rfl, ?_⟩
    have : (valV kvs k).isSome = (getKv kv k).isSome := by
      rcases dxKv_get (k := k) h3 with ⟨e1, e2⟩ | ⟨d, w, e1, e2, _⟩ <;> rw [e1, e2] <;> rfl
    rw [this]
    exact q _ H (Same.refl _) (.bl _)
  · exact q.elim
theorem o_notInKv (hu : X.A.units + 1 < cLine) : OpD X (compareOp .NotIn) (inKvD true) := by
  refine ⟨inKvD_mono, fun pins s σ H v u V U Q I rv ru ⟨Z, x, y, dx, dy, q⟩ => ?_⟩
  unfold inKvD at q
  split at q
  · rename_i kv k ek
    obtain ⟨a, kvs, rfl, h1, h2, h3⟩ := dx_dct dy
    obtain rfl : U = Value.ref a := ru
    have ev := keyD_s dx ek
    subst ev
    refine d_notIn hu I (DGet.k (k := k) h1) rv fun s3 I3 => ⟨.bl _, H, I3, rfl, ?_⟩
    have : (!(valV kvs k).isSome) = (getKv kv k).isNone := by
      rcases dxKv_get (k := k) h3 with ⟨e1, e2⟩ | ⟨d, w, e1, e2, _⟩ <;> rw [e1, e2] <;> rfl
    rw [this]
    exact q _ H (Same.refl _) (.bl _)
  · exact q.elim
/-- a dict's value -/
def dKvIx (ta tb : Wp PyData) : Wp PyData := fun ρ Q => ta ρ fun x ρ1 => tb ρ1 fun y ρ2 => match x, keyD y with
  | .dict kv, some k => match getKv kv k with | some d => Q d ρ2 | none => False
  | _, _ => False
theorem de_kvIx (hu : X.A.units + 1 < cLine) (ha : DE X a ta) (hb : DE X b tb) (hs : NoSl b) : DE X (.Subscript a b pos) (dKvIx ta tb) := by
  refine ⟨fun ρ P Q k q => ha.mono ρ _ _ (fun x ρ1 p => hb.mono ρ1 _ _ (fun y ρ2 p => ?_) p) q, (pe_dget hu ha.run hb.run hs).weaken fun σ H Q ⟨g, O, ρ, R, q⟩ => lift_go ha.mono R q fun x ρ1 O1 H1 v R1 k1 dx q1 => lift_go hb.mono R1 q1 fun y ρ2 O2 H2 u R2 k2 dy q2 => ?_⟩
  · split at p
    · split at p
      · exact k _ _ p
      · exact p
    · exact p
  · split at q2
    · rename_i kv k ek
      split at q2
      · rename_i d ed
        obtain ⟨l, kvs, rfl, h1, h2, h3⟩ := dx_dct (k2.dat _ _ dx)
        rcases dxKv_get (k := k) h3 with ⟨e1, e2⟩ | ⟨d', w, e1, e2, dw⟩
        · rw [e1] at ed
          cases ed
        · rw [e1] at ed
          cases ed
          refine ⟨l, w, rfl, ?_, q2 O2 H2 w R2 (k1.trans k2) dw⟩
          rw [keyD_v dy ek, ← e2]
          exact DGet.k h1
      · exact q2.elim
    · exact q2.elim
/-- d.get(k, x) -/
def dKvGet (ta tb tc : Wp PyData) : Wp PyData := fun ρ Q => ta ρ fun x ρ1 => match x with
  | .dict kv => tb ρ1 fun y ρ2 => tc ρ2 fun z ρ3 => match keyD y with
    | some k => Q ((getKv kv k).getD z) ρ3
    | none => False
  | _ => False
theorem de_kvGet {apos cpos : Pos} (hu : X.A.units + 1 < cLine) (ha : DE X o ta) (hb : DE X a tb) (hc : DE X b tc) (m : M2 X o "get" apos a b cpos := by exact ⟨rfl, rfl, rfl, rfl⟩) : DE X (.Call (.Attribute o "get" apos) [a, b] [] cpos) (dKvGet ta tb tc) := by
  refine ⟨fun ρ P Q k q => ha.mono ρ _ _ (fun x ρ1 p => ?_) q, (pe_dget2 hu ha.run hb.run hc.run m).weaken fun σ H Q ⟨g, O, ρ, R, q⟩ => lift_go ha.mono R q fun x ρ1 O1 H1 v R1 k1 dx q1 => ?_⟩
  · split at p
    · refine hb.mono ρ1 _ _ (fun y ρ2 p => hc.mono ρ2 _ _ (fun z ρ3 p => ?_) p) p
      split at p
      · exact k _ _ p
      · exact p
    · exact p
  · split at q1
    · rename_i kv
      obtain ⟨l, kvs, rfl, h1, h2, h3⟩ := dx_dct dx
      refine ⟨l, rfl, .inl ⟨kvs, .inl h1⟩, lift_go hb.mono R1 q1 fun y ρ2 O2 H2 u R2 k2 dy q2 => lift_go hc.mono R2 q2 fun z ρ3 O3 H3 w R3 k3 dz q3 => ?_⟩
      split at q3
      · rename_i k ek
        obtain ⟨l', kvs', e', g1, g2, g3⟩ := dx_dct ((k2.trans k3).dat _ _ dx)
        cases e'
        refine ⟨valV kvs' k, ?_, ?_⟩
        · rw [keyD_v dy ek]
          exact DGet.k g1
        · rcases dxKv_get (k := k) g3 with ⟨e1, e2⟩ | ⟨d', w', e1, e2, dw⟩
          · rw [e1] at q3
            rw [e2]
            exact q3 O3 H3 w R3 ((k1.trans k2).trans k3) dz
          · rw [e1] at q3
            rw [e2]
            exact q3 O3 H3 w' R3 ((k1.trans k2).trans k3) dw
      · exact q3.elim
    · exact q1.elim
/-- a display of constants -/
theorem pairs_const {σ : L2.St} {H : Hp} {Q : List (V × V) → Hp → Prop} : ∀ (kvs : List (Key × V)), Q (kvs.map fun kv => (kV kv.1, kv.2)) H → tPairs (kvs.map fun kv => (tC (kV kv.1), tC kv.2)) σ H Q
  | [], q => q
  | (k, v) :: r, q => pairs_const (Q := fun ps H3 => Q ((kV k, v) :: ps) H3) r q
theorem de_dictC {keys : List (Option Expr)} {values : List Expr} (kvs : List (Key × V)) {ds : List (PyData × PyData)} (h : PPs X pos keys values (kvs.map fun kv => (tC (kV kv.1), tC kv.2))) (hm : mergeK [] kvs = kvs) (hd : ∀ Z H, DxKv X.K Z H kvs ds)
    (hall : keys.all (·.isSome) = true) (hl : keys.length = values.length) (h0 : keys ≠ []) (h15 : keys.length ≤ 15) (hk : kvs.length ≤ 15) : DE X (.Dict keys values pos) (dC (.dict ds)) :=
  ⟨fun ρ P Q k q => k _ _ q, (pe_disp h hall hl h0 h15).weaken fun σ H Q ⟨g, O, ρ, R, q⟩ => fun d hn => pairs_const kvs ⟨upd_same, kvs, rfl, hk, by
    rw [hm]
    have e : upd (upd H d (.dK [])) d (.dK kvs) = upd H d (.dK kvs) := by
      funext x
      by_cases z : x = d
      · subst z
        rw [upd_same, upd_same]
      · rw [upd_ne z, upd_ne z, upd_ne z]
    rw [e]
    have sm : Same H (upd H d (.dK kvs)) := same_new hn
    obtain ⟨a, b, c⟩ := R.res (d := .dict ds) (v := .ref d) (Gk.of_same sm) (.dct upd_same (.inr hn) (hd _ _))
    exact q O _ _ a (R.kp1 sm) c⟩⟩
/-! ### lcm -/
def dLcm (ta tb : Wp PyData) : Wp PyData := fun ρ Q => ta ρ fun x ρ1 => tb ρ1 fun y ρ2 => match x, y with
  | .int i, .int j => i.natAbs < 2 ^ 13000 ∧ j.natAbs < 2 ^ 13000 ∧ Q (.int ((Nat.lcm i.natAbs j.natAbs : Nat) : Int)) ρ2
  | _, _ => False
theorem de_lcm {x : Str} (hg : Gl X x) (hm : X.mg x = some (.builtin "math.lcm")) (ha : DE X a ta) (hb : DE X b tb)
    (hs1 : starEach (a :: [b]) X.env = (false, eval a X.env) :: starEach [b] X.env := by rfl) (hs2 : starEach (b :: []) X.env = (false, eval b X.env) :: starEach [] X.env := by rfl)
    (hdb : (x == ("__debug__" : Str)) = false := by decide) (hpl : (backTo pos (starEach [b] X.env)).any (·.1) = false := by rfl) : DE X (.Call (.Name x p) [a, b] [] pos) (dLcm ta tb) := by
  refine ⟨fun ρ P Q k q => ha.mono ρ _ _ (fun x ρ1 q1 => hb.mono ρ1 _ _ (fun y ρ2 q2 => ?_) q1) q, (pe_callBfun cr_lcm hg hm (pa_cons ha.run (pa_cons hb.run pa_nil hs2) hs1) hdb hs1 hpl).weaken fun σ H Q ⟨g, O, ρ, R, q⟩ =>
    lift_go ha.mono R q fun x ρ1 O1 H1 v R1 k1 dx q1 => lift_go hb.mono R1 q1 fun y ρ2 O2 H2 u R2 k2 dy q2 => ?_⟩
  · split at q2
    · exact ⟨q2.1, q2.2.1, k _ _ q2.2.2⟩
    · exact q2
  · split at q2
    · cases dx_int dx
      cases dx_int dy
      exact ⟨_, _, rfl, q2.1, q2.2.1, q2.2.2 O2 H2 _ R2 (k1.trans k2) (.int _)⟩
    · exact q2.elim
/-! ### sums, sorted ints -/
def asInts : List PyData → Option (List Int)
  | [] => some []
  | .int b :: r => (asInts r).map (b :: ·)
  | _ :: _ => none
theorem asInts_map {xs : List PyData} {bs : List Int} (h : asInts xs = some bs) : xs = bs.map PyData.int := by
  induction xs generalizing bs with
  | nil => cases h; rfl
  | cons x xs ih =>
    cases x with
    | int b =>
      simp only [asInts] at h
      cases e : asInts xs with
      | none => rw [e] at h; cases h
      | some cs =>
        rw [e] at h
        cases h
        rw [ih e]
        rfl
    | _ => cases h
theorem asInts_of (ns : List Int) : asInts (ns.map PyData.int) = some ns := by
  induction ns with
  | nil => rfl
  | cons n ns ih => simp only [List.map_cons, asInts, ih, Option.map_some]
theorem dx_ints {K : PySem.W.Frag} {Z : Addr → Prop} {H : Hp} : ∀ {vs : List V} {bs : List Int}, DxAll K Z H vs (bs.map PyData.int) → vs = bs.map V.int
  | _, [], .nil => rfl
  | _, b :: bs, .cons h r => by
    cases dx_int h
    rw [dx_ints r]
    rfl
theorem dxAll_ints {K : PySem.W.Frag} {Z : Addr → Prop} {H : Hp} : ∀ (bs : List Int), DxAll K Z H (bs.map V.int) (bs.map PyData.int)
  | [] => .nil
  | b :: bs => .cons (.int b) (dxAll_ints bs)
def sumD : UD := fun x Q => match x with
  | .list xs => match asInts xs with | some ns => Q (.int ns.sum) | none => False
  | _ => False
theorem c_sum (hc : X.calm = true) : C1 X (.builtin "sum") sumD := by
  refine ⟨fun x P Q k q => ?_, fun pins s σ H vs us Q I r ⟨Z, v, x, e, dx, q⟩ => ?_⟩
  · unfold sumD at q ⊢
    split at q
    · split at q
      · exact k _ q
      · exact q
    · exact q
  subst e
  unfold sumD at q
  split at q
  · obtain ⟨a, ws, rfl, h1, h2⟩ := dx
    split at q
    · rename_i bs eb
      rw [asInts_map eb] at h2
      have := dx_ints h2
      subst this
      exact cr_sum hc pins s σ H _ us Q I r ⟨a, bs, rfl, SqL.of h1, q _ H (Same.refl _) (.int _)⟩
    · exact q.elim
  · exact q.elim
def sortID : UD := fun x Q => match x with
  | .list xs => match asInts xs with | some ns => ns.length < 64 ∧ ∀ ns' : List Int, ns'.Perm ns → ns'.Pairwise (· ≤ ·) → Q (.list (ns'.map PyData.int)) | none => False
  | _ => False
theorem c_sortI : C1 X (.builtin "sorted") sortID := by
  refine ⟨fun x P Q k q => ?_, fun pins s σ H vs us Q I r ⟨Z, v, x, e, dx, q⟩ => ?_⟩
  · unfold sortID at q ⊢
    split at q
    · split at q
      · exact ⟨q.1, fun ns h1 h2 => k _ (q.2 ns h1 h2)⟩
      · exact q
    · exact q
  subst e
  unfold sortID at q
  split at q
  · obtain ⟨a, ws, rfl, h1, h2⟩ := dx
    split at q
    · rename_i bs eb
      rw [asInts_map eb] at h2
      have := dx_ints h2
      subst this
      exact cr_sorted pins s σ H _ us Q I r ⟨a, bs, rfl, SqL.of h1, q.1, fun ns' p hp hs hn => q.2 ns' hp hs _ _ (same_new hn) (.lst upd_same (.inr hn) (dxAll_ints ns'))⟩
    · exact q.elim
  · exact q.elim
/-! ### list(range(n)) -/
def dListRg (ta : Wp PyData) : Wp (List PyData) := fun ρ Q => ta ρ fun x ρ1 => match x with
  | .int n => 0 ≤ n ∧ n ≤ 16777216 ∧ Q (rngD 0 n.toNat) ρ1
  | _ => False
theorem df_listRg (hc : X.calm = true) {p2 pos2 : Pos} (hg : Gl X "list") (hm : X.mg "list" = none) (hg2 : Gl X "range") (hm2 : X.mg "range" = none) (ha : DE X a ta)
    (na : starEach [a] X.env = (false, eval a X.env) :: starEach [] X.env := by rfl) (nb : starEach [.Call (.Name "range" p2) [a] [] pos2] X.env = (false, eval (.Call (.Name "range" p2) [a] [] pos2) X.env) :: starEach [] X.env := by rfl) :
    DF X (.Call (.Name "list" p) [.Call (.Name "range" p2) [a] [] pos2] [] pos) (dListRg ta) := by
  refine ⟨fun ρ P Q k q => ha.mono ρ _ _ (fun x ρ1 p => ?_) q, (pe_listRg hc hg hm (prg_1 hg2 hm2 ha.run na) nb).weaken fun σ H Q ⟨g, O, ρ, R, q⟩ => lift_go ha.mono R q fun x ρ1 O1 H1 v R1 k1 dx q1 => ?_⟩
  · split at p
    · exact ⟨p.1, p.2.1, k _ _ p.2.2⟩
    · exact p
  · split at q1
    · rename_i n
      cases dx_int dx
      refine ⟨n, rfl, RgOk.of_le (Int.le_refl 0) q1.2.1 (by decide) q1.1, fun l hl => ?_⟩
      obtain ⟨R2, nw, k2⟩ := R1.fresh1 hl (.lst (rgV 0 n))
      refine q1.2.2 (l :: O1) _ _ R2 (k1.trans k2) ⟨l, rgV 0 n, O1, rfl, rfl, fun m => R1.live l m hl, fun m => R1.live l (k1.sub l m) hl, nw, upd_same, ?_⟩
      have e1 : rgV 0 n = ((List.range n.toNat).map fun (i : Nat) => (0 + (i : Int))).map V.int := by
        unfold rgV
        rw [List.map_map, Int.sub_zero]
        rfl
      have e2 : rngD 0 n.toNat = ((List.range n.toNat).map fun (i : Nat) => (0 + (i : Int))).map PyData.int := by
        unfold rngD
        rw [List.map_map]
        rfl
      rw [e1, e2]
      exact dxAll_ints _
    · exact q1.elim
/-! ### zip of two lists -/
def zipD (xs ys : List PyData) : List PyData := List.zipWith (fun a b => .tuple [a, b]) xs ys
theorem zipD_len (xs ys : List PyData) : (zipD xs ys).length = min xs.length ys.length := by simp [zipD]
theorem zipD_at {xs ys : List PyData} {i : Nat} {d e : PyData} (h : xs[i]? = some d) (h2 : ys[i]? = some e) : (zipD xs ys)[i]? = some (.tuple [d, e]) := by
  unfold zipD
  rw [List.getElem?_zipWith, h, h2]
theorem walk_zipD {K : PySem.W.Frag} {g : Gh} {l m : Addr} {vs ws : List V} {xs ys : List PyData} {O : List Addr} {H : Hp} (h : H l = some (.lst vs)) (z : Zof g O l) (hd : DxAll K (Zof g O) H vs xs) (h2 : H m = some (.lst ws)) (z2 : Zof g O m) (hd2 : DxAll K (Zof g O) H ws ys) :
    ∃ G : List Addr → Hp → Prop, G O H ∧ WalkD K g (Itz K l m) (zipD xs ys) G := by
  refine ⟨fun O' H' => Dx K (Zof g O') H' (.ref l) (.list xs) ∧ Dx K (Zof g O') H' (.ref m) (.list ys), ⟨.lst h z hd, .lst h2 z2 hd2⟩, fun O1 H1 O2 H2 k q => ⟨k _ _ q.1, k _ _ q.2⟩, fun O1 H1 i q hi => ?_, fun O1 H1 q => ?_, fun O1 H1 i x H2 q hi y => ?_⟩
  · obtain ⟨_, us, e, a, _, b⟩ := dx_lst q.1
    cases e
    obtain ⟨_, us', e, a', _, b'⟩ := dx_lst q.2
    cases e
    rw [zipD_len, ← dxAll_len b, ← dxAll_len b'] at hi
    exact (walk_zip rfl).goes i H1 hi ⟨SqL.of a, SqL.of a'⟩
  · obtain ⟨_, us, e, a, _, b⟩ := dx_lst q.1
    cases e
    obtain ⟨_, us', e, a', _, b'⟩ := dx_lst q.2
    cases e
    rw [zipD_len, ← dxAll_len b, ← dxAll_len b']
    exact (walk_zip rfl).stops H1 ⟨SqL.of a, SqL.of a'⟩
  · obtain ⟨_, us, e, a, _, b⟩ := dx_lst q.1
    cases e
    obtain ⟨_, us', e, a', _, b'⟩ := dx_lst q.2
    cases e
    rw [zipD_len, ← dxAll_len b, ← dxAll_len b'] at hi
    obtain ⟨t, x1, x2, rfl, ht, eH, g1, g2⟩ := (walk_zip rfl).yields i H1 x H2 hi ⟨SqL.of a, SqL.of a'⟩ y
    obtain ⟨d, e1, e2⟩ := dxAll_get b g1
    obtain ⟨d', e1', e2'⟩ := dxAll_get b' g2
    subst eH
    have sm : Same H1 (upd H1 t (.tup [x1, x2])) := same_new ht
    exact ⟨sm, _, zipD_at e1 e1', .tup (SqT.of upd_same) (.cons (dx_monoL (fun _ z => .inl z) (dx_same sm e2)) (.cons (dx_monoL (fun _ z => .inl z) (dx_same sm e2')) .nil))⟩
def wZip (ta tb : Wp PyData) : Wp (List PyData) := fun ρ Q => ta ρ fun x ρ1 => tb ρ1 fun y ρ2 => match x, y with
  | .list xs, .list ys => Q (zipD xs ys) ρ2
  | _, _ => False
theorem di_zip {elts : List Expr} {kk : Nat} {tpos : Pos} (hg : Gl X "zip") (hm : X.mg "zip" = none) (ha : DE X a ta) (hb : DE X b tb) (hs : starEach [a, b] X.env = (false, eval a X.env) :: starEach [b] X.env := by rfl)
    (hs2 : starEach [b] X.env = (false, eval b X.env) :: starEach [] X.env := by rfl) (hpl : (backTo pos (starEach [b] X.env)).any (·.1) = false := by rfl) : DI X (.Tuple elts kk tpos) (.Call (.Name "zip" p) [a, b] [] pos) (wZip ta tb) := by
  refine ⟨fun ρ P Q k q => ha.mono ρ _ _ (fun x ρ1 p => hb.mono ρ1 _ _ (fun y ρ2 p => ?_) p) q, (pi_zip hg hm (pa_cons ha.run (pa_cons hb.run pa_nil hs2) hs) hs hpl).weaken fun σ H R ⟨g, O, ρ, rp, q⟩ => lift_go ha.mono rp q fun x ρ1 O1 H1 v R1 k1 dx q1 => lift_go hb.mono R1 q1 fun y ρ2 O2 H2 u R2 k2 dy q2 => ?_⟩
  · split at p
    · exact k _ _ p
    · exact p
  · split at q2
    · obtain ⟨l, vs, rfl, h1, z, h2⟩ := dx_lst (k2.dat _ _ dx)
      obtain ⟨m, ws, rfl, g1, z', g2⟩ := dx_lst dy
      exact ⟨l, m, vs, ws, rfl, SqL.of h1, SqL.of g1, q2 O2 H2 _ R2 (k1.trans k2) (walk_zipD h1 z h2 g1 z' g2)⟩
    · exact q2.elim
/-! ### a table of the module: texts and ints -/
structure KTab (K : PySem.W.Frag) (w : World) (d : Addr) (kvs : List (Str × Int)) : Prop where
  at_ : ∃ es n, KDict K w d es n
  has : ∀ x i, kvs.lookup x = some i → ∃ t, PySem.W.nsIn K d x = some (some (.int i t))
  not : ∀ x, kvs.lookup x = none → PySem.W.nsIn K d x = some none
def dKtIn (neg : Bool) (kvs : List (Str × Int)) (ta : Wp PyData) : Wp Bool := fun ρ Q => ta ρ fun x ρ1 => match x with
  | .str z => Q (if neg then (kvs.lookup z).isNone else (kvs.lookup z).isSome) ρ1
  | _ => False
theorem dt_ktNotIn {x : Str} {d : Addr} {kvs : List (Str × Int)} (T : KTab X.K X.w d kvs) (hg : Gl X x) (hm : X.mg x = some (.ref d)) (ha : DE X a ta) (hd : (x == ("__debug__" : Str)) = false := by decide) (hb : behindInMarks .NotIn (.Name x p) = false := by rfl) :
    DT X (.Compare a [.NotIn] [.Name x p] pos) (dKtIn true kvs ta) := by
  obtain ⟨es, n, D⟩ := T.at_
  refine ⟨fun ρ P Q k q => ha.mono ρ _ _ (fun y ρ1 p => ?_) q, (pt_cmpR (op_notIn_kd D) ha.run (pe_glob hg hm (v := .ref d) rfl hd) hb).weaken fun σ H Q ⟨g, O, ρ, R, q⟩ => lift_go ha.mono R q fun y ρ1 O1 H1 v R1 k1 dx q1 => ?_⟩
  · split at p
    · exact k _ _ p
    · exact p
  · split at q1
    · rename_i z
      cases dx_str dx
      cases e : kvs.lookup z with
      | none =>
        rw [e] at q1
        exact ⟨z, none, rfl, rfl, T.not z e, _, rfl, q1 O1 H1 _ R1 k1 rfl⟩
      | some i =>
        rw [e] at q1
        obtain ⟨t, ht⟩ := T.has z i e
        exact ⟨z, _, rfl, rfl, ht, _, rfl, q1 O1 H1 _ R1 k1 rfl⟩
    · exact q1.elim
def dKtIx (kvs : List (Str × Int)) (ta : Wp PyData) : Wp PyData := fun ρ Q => ta ρ fun x ρ1 => match x with
  | .str z => match kvs.lookup z with | some i => Q (.int i) ρ1 | none => False
  | _ => False
theorem de_ktIx {x : Str} {d : Addr} {kvs : List (Str × Int)} (T : KTab X.K X.w d kvs) (hg : Gl X x) (hm : X.mg x = some (.ref d)) (ha : DE X a ta) (hs : ∀ ov iv, subscripted a false ov iv = operate [ov, iv] (getItem ov iv)) (hd : (x == ("__debug__" : Str)) = false := by decide) :
    DE X (.Subscript (.Name x p) a pos) (dKtIx kvs ta) := by
  obtain ⟨es, n, D⟩ := T.at_
  refine ⟨fun ρ P Q k q => ha.mono ρ _ _ (fun y ρ1 p => ?_) q, (pe_ix ix_kdict (pe_glob hg hm (v := .ref d) rfl hd) ha.run hs).weaken fun σ H Q ⟨g, O, ρ, R, q⟩ => lift_go ha.mono R q fun y ρ1 O1 H1 v R1 k1 dx q1 => ?_⟩
  · split at p
    · split at p
      · exact k _ _ p
      · exact p
    · exact p
  · split at q1
    · rename_i z
      cases dx_str dx
      split at q1
      · rename_i i e
        obtain ⟨t, ht⟩ := T.has z i e
        exact ⟨d, z, .int i, rfl, rfl, ⟨es, n, _, D.at_, D.lit, ht, t, rfl⟩, q1 O1 H1 _ R1 k1 (.int _)⟩
      · exact q1.elim
    · exact q1.elim
end
theorem ktab_of {K : PySem.W.Frag} {w : World} {d : Addr} {kvs : List (Str × Int)} (h : He.dicW K d = some (He.keysIn w.params (kvs.map (·.1)))) (hv : kvs.all (fun q => match PySem.W.nsIn K d q.1 with | some (some (.int i _)) => decide (i = q.2) | _ => false) = true) : KTab K w d kvs := by
  obtain ⟨es, n, D⟩ := He.dicW_ok h
  refine ⟨⟨es, n, D⟩, fun x i e => ?_, fun x e => ?_⟩
  · have go : ∀ l : List (Str × Int), (l.all fun q => match PySem.W.nsIn K d q.1 with | some (some (.int i _)) => decide (i = q.2) | _ => false) = true → l.lookup x = some i → ∃ t, PySem.W.nsIn K d x = some (some (.int i t)) := by
      intro l
      induction l with
      | nil => intro _ e; cases e
      | cons q l ih =>
        intro hl e
        obtain ⟨y, j⟩ := q
        rw [List.all_cons, Bool.and_eq_true] at hl
        rw [List.lookup_cons] at e
        split at e
        · rename_i hx
          have hx' : x = y := by simpa using hx
          subst hx'
          have h1 := hl.1
          split at h1
          · rename_i i' t' q'
            have : i' = j := of_decide_eq_true h1
            cases e
            subst this
            exact ⟨t', q'⟩
          · cases h1
        · exact ih hl.2 e
    exact go kvs hv e
  · have hk : es.toList.map He.keyOf = He.keysIn w.params (kvs.map (·.1)) := by
      unfold He.dicW at h
      rw [D.at_] at h
      dsimp only at h
      split at h
      · exact Option.some.inj h
      · cases h
    have go : ∀ (l : List DictEntry) (ks : List (Str × Int)), l.map He.keyOf = He.keysIn w.params (ks.map (·.1)) → ks.lookup x = none → l.find? (·.key.isStr x) = none ∧ l.any (·.refKey) = false := by
      intro l
      induction l with
      | nil => intro ks _ _; exact ⟨rfl, rfl⟩
      | cons en l ih =>
        intro ks hk e
        cases ks with
        | nil => cases hk
        | cons q ks =>
          obtain ⟨y, j⟩ := q
          rw [List.lookup_cons] at e
          split at e
          · cases e
          · rename_i hx
            have hxy : ¬ x = y := fun z => by simp [z] at hx
            have hk' : He.keyOf en :: l.map He.keyOf = some (y, PyData.keyHash w.params y) :: He.keysIn w.params (ks.map (·.1)) := hk
            injection hk' with h2 h3
            obtain ⟨i1, i2⟩ := ih ks h3 e
            unfold He.keyOf at h2
            split at h2
            · rename_i x' t' hkey
              have h4 := Option.some.inj h2
              obtain ⟨h5, h6⟩ := Prod.mk.inj h4
              subst h5
              refine ⟨?_, ?_⟩
              · rw [List.find?_cons]
                have : en.key.isStr x = false := by
                  rw [hkey]
                  exact beq_eq_false_iff_ne.mpr fun z => hxy z.symm
                rw [this]
                exact i1
              · rw [List.any_cons, i2, Bool.or_false]
                unfold DictEntry.refKey
                rw [hkey]
            · cases h2
    obtain ⟨i1, i2⟩ := go es.toList kvs hk e
    unfold PySem.W.nsIn
    rw [D.at_]
    dsimp only
    rw [i1]
    dsimp only
    rw [i2]
    rfl
end Ev

set_option exponentiation.threshold 256
/-! the layer of data, 12: data of any kind beside a text -/
namespace Ev
open PySem PySem.Spec PyProof.Rows L2 PySem.SeqAt
theorem dict_eq_declines_str (l : Addr) (es : Array DictEntry) (n : Nat) (dd : Option Addr) (sl : Array (Option Value)) (b : Str) (u : Tok) :
    Meets (Builtin.«dict.__eq__» ⟨[.ref l, .str b u], []⟩) (fun _ R s => s.heap.get? l = some { cls := .type "dict", dict := dd, data := .dict es n, slots := sl } ∧ R (.ok (.ret .notImplemented)) s) :=
  .of_wp fun prog w A R s h => by obtain ⟨hp, g, d, tk, os⟩ := s; obtain ⟨hl, h⟩ := h; have f1 := F.sub_str_dict; wp_walk using wpAny_loadPart' hl; exact ⟨_, rfl, h⟩
theorem dict_ne_declines_str (l : Addr) (es : Array DictEntry) (n : Nat) (dd : Option Addr) (sl : Array (Option Value)) (b : Str) (u : Tok) :
    Meets (Builtin.«dict.__ne__» ⟨[.ref l, .str b u], []⟩) (fun _ R s => s.heap.get? l = some { cls := .type "dict", dict := dd, data := .dict es n, slots := sl } ∧ R (.ok (.ret .notImplemented)) s) :=
  .of_wp fun prog w A R s h => by obtain ⟨hp, g, d, tk, os⟩ := s; obtain ⟨hl, h⟩ := h; have f1 := F.sub_str_dict; wp_walk using wpAny_loadPart' hl; exact ⟨_, rfl, h⟩
theorem str_eq_declines_dict (b : Str) (u : Tok) (l : Addr) (c : Value) (es : Array DictEntry) (n : Nat) (dd : Option Addr) (sl : Array (Option Value)) :
    Meets (Builtin.«str.__eq__» ⟨[.str b u, .ref l], []⟩) (fun _ R s => s.heap.get? l = some { cls := c, dict := dd, data := .dict es n, slots := sl } ∧ R (.ok (.ret .notImplemented)) s) :=
  .of_wp fun prog w A R s h => by obtain ⟨hp, g, d, tk, os⟩ := s; obtain ⟨hl, h⟩ := h; wp_walk using wpAny_loadPart' hl, wpAny_load hl; exact ⟨_, rfl, h⟩
theorem str_ne_declines_dict (b : Str) (u : Tok) (l : Addr) (c : Value) (es : Array DictEntry) (n : Nat) (dd : Option Addr) (sl : Array (Option Value)) :
    Meets (Builtin.«str.__ne__» ⟨[.str b u, .ref l], []⟩) (fun _ R s => s.heap.get? l = some { cls := c, dict := dd, data := .dict es n, slots := sl } ∧ R (.ok (.ret .notImplemented)) s) :=
  .of_wp fun prog w A R s h => by obtain ⟨hp, g, d, tk, os⟩ := s; obtain ⟨hl, h⟩ := h; wp_walk using wpAny_loadPart' hl, wpAny_load hl; exact ⟨_, rfl, h⟩
theorem rcAt_dict_str {A : Around} {s : Shared} {l : Addr} {es : Array DictEntry} {n : Nat} {dd : Option Addr} {sl : Array (Option Value)} (b : Str) (u : Tok) (ho : s.heap.get? l = some { cls := .type "dict", dict := dd, data := .dict es n, slots := sl }) (hu : A.units < cLine) : RcAt A s (.ref l) (.str b u) false := fun prog w E Q h =>
  rc_eq_decline_or (k := false) ⟨_, ho, rfl⟩ (typeIs_str s b u) (by decide) F.sub_str_dict F.slot_dict_eq F.slot_str_eq_refl
    (fun _ hq => call_meets F.slot_dict_eq ⟨_, ho, rfl⟩ F.entry_dict_eq (F.args_dict_eq_2 _ _) (dict_eq_declines_str l es n dd sl b u) ⟨ho, hq⟩)
    (fun _ hq => call_meets F.slot_str_eq_refl (typeIs_str s b u) F.entry_str_eq (F.args_str_eq_2 _ _) (str_eq_declines_dict b u l (.type "dict") es n dd sl) ⟨ho, hq⟩)
    (fun _ hq => wpAny_of_eq (rfl : isSame (.ref l) (.str b u) = pure false) hq) (.inr hu) h
theorem rcNeAt_dict_str {A : Around} {s : Shared} {l : Addr} {es : Array DictEntry} {n : Nat} {dd : Option Addr} {sl : Array (Option Value)} (b : Str) (u : Tok) (ho : s.heap.get? l = some { cls := .type "dict", dict := dd, data := .dict es n, slots := sl }) (hu : A.units < cLine) : RcNeAt A s (.ref l) (.str b u) true := fun prog w E Q h =>
  rc_ne_decline_or (k := false) ⟨_, ho, rfl⟩ (typeIs_str s b u) (by decide) F.sub_str_dict F.slot_dict_ne F.slot_str_ne_refl
    (fun _ hq => call_meets F.slot_dict_ne ⟨_, ho, rfl⟩ F.entry_dict_ne (F.args_dict_ne_2 _ _) (dict_ne_declines_str l es n dd sl b u) ⟨ho, hq⟩)
    (fun _ hq => call_meets F.slot_str_ne_refl (typeIs_str s b u) F.entry_str_ne (F.args_str_ne_2 _ _) (str_ne_declines_dict b u l (.type "dict") es n dd sl) ⟨ho, hq⟩)
    (fun _ hq => wpAny_of_eq (rfl : isSame (.ref l) (.str b u) = pure false) hq) (.inr hu) h
/-- the very text -/
def isS (z : Str) : PyData → Bool
  | .str x => decide (x = z)
  | _ => false
def eqSD : OD := fun x y Q => match y with
  | .str z => Q (.bool (isS z x))
  | _ => False
def neSD : OD := fun x y Q => match y with
  | .str z => Q (.bool (!isS z x))
  | _ => False
section
variable [Lo] {X : Cx}
theorem str_beq' (a b : Str) : (a == b) = decide (a = b) := by
  by_cases h : a = b
  · subst h
    simp
  · rw [decide_eq_false h]
    exact beq_eq_false_iff_ne.mpr h
/-- a value that is data, beside a text -/
theorem any_str {Z : Addr → Prop} {H : Hp} {pins : List (Addr × Obj)} {s : Shared} {σ : L2.St} {v : V} {V1 : Value} {x : PyData} (I : L2.Inv X pins σ H s) (rv : L2.RelV v V1) (dx : DxS X.K Z H v x) (z : Str) (u : Tok) (hu : X.A.units < cLine) :
    RcAt X.A s V1 (.str z u) (isS z x) ∧ RcNeAt X.A s V1 (.str z u) (!isS z x) := by
  cases x with
  | list xs =>
    obtain ⟨a, vs, rfl, h1, h2⟩ := dx
    obtain rfl : V1 = Value.ref a := rv
    obtain ⟨its, _, pl, _⟩ := I.list (SqL.of h1)
    exact ⟨RcAt.list_str z u pl.isList hu, RcNeAt.list_str z u pl.isList hu⟩
  | none =>
    cases (show Dx X.K Z H v _ from dx)
    cases (show V1 = Value.none from rv)
    exact ⟨RcAt.none_str z u, RcNeAt.none_str z u⟩
  | bool b =>
    cases (show Dx X.K Z H v _ from dx)
    cases (show V1 = Value.bool b from rv)
    exact ⟨RcAt.bool_str b z u, RcNeAt.bool_str b z u⟩
  | int i =>
    cases (show Dx X.K Z H v _ from dx)
    obtain ⟨t, rfl⟩ := (show ∃ t, V1 = Value.int i t from rv)
    exact ⟨RcAt.int_str i t z u, RcNeAt.int_str i t z u⟩
  | str y =>
    cases (show Dx X.K Z H v _ from dx)
    obtain ⟨t, rfl⟩ := (show ∃ t, V1 = Value.str y t from rv)
    have a := RcAt.str_str (A := X.A) (s := s) y t z u
    have b := RcNeAt.str_str (A := X.A) (s := s) y t z u
    rw [str_beq'] at a b
    exact ⟨a, b⟩
  | tuple xs =>
    obtain ⟨a, vs, rfl, h1, h2⟩ := dx_tup (show Dx X.K Z H v _ from dx)
    obtain rfl : V1 = Value.ref a := rv
    obtain ⟨its, _, pl, _⟩ := I.tuple h1
    exact ⟨RcAt.tuple_str z u pl hu, RcNeAt.tuple_str z u pl hu⟩
  | dict kv =>
    obtain ⟨a, kvs, rfl, h1, _, h2⟩ := dx_dct (show Dx X.K Z H v _ from dx)
    obtain rfl : V1 = Value.ref a := rv
    obtain ⟨_, _, vs, _, ⟨⟨oc, od, odt, osl⟩, es, ep, ho, ⟨c1, c2, c3⟩, hd, _⟩⟩ := dk_of I.hok h1
    have c1' : oc = Value.type "dict" := c1
    have c2' : od = none := c2
    have hd' : odt = Data.dict es ep := hd
    subst c1' c2' hd'
    exact ⟨rcAt_dict_str z u ho hu, rcNeAt_dict_str z u ho hu⟩
theorem o_eqS (hu : X.A.units < cLine) : OpD X (compareOp .Eq) eqSD := by
  refine ⟨fun x y P Q k q => ?_, fun pins s σ H v u V U Q I rv ru ⟨Z, x, y, dx, dy, q⟩ => ?_⟩
  · unfold eqSD at q ⊢
    split at q
    · exact k _ q
    · exact q
  · unfold eqSD at q
    split at q
    · cases dx_str dy
      obtain ⟨t, rfl⟩ := ru
      exact (any_str I rv dx _ t hu).1 X.prog X.w _ _ ⟨.bl _, H, I, rfl, q _ H (Same.refl _) (.bl _)⟩
    · exact q.elim
theorem o_neS (hu : X.A.units < cLine) : OpD X (compareOp .NotEq) neSD := by
  refine ⟨fun x y P Q k q => ?_, fun pins s σ H v u V U Q I rv ru ⟨Z, x, y, dx, dy, q⟩ => ?_⟩
  · unfold neSD at q ⊢
    split at q
    · exact k _ q
    · exact q
  · unfold neSD at q
    split at q
    · cases dx_str dy
      obtain ⟨t, rfl⟩ := ru
      exact (any_str I rv dx _ t hu).2 X.prog X.w _ _ ⟨.bl _, H, I, rfl, q _ H (Same.refl _) (.bl _)⟩
    · exact q.elim
end
theorem un0 {n : Nat} (h : n + 64 < cLine) : n < cLine := by omega
section
variable {Q : PyData → Prop}
theorem eqSD_str {x : PyData} {z : Str} : eqSD x (.str z) Q = Q (.bool (isS z x)) := rfl
theorem neSD_str {x : PyData} {z : Str} : neSD x (.str z) Q = Q (.bool (!isS z x)) := rfl
theorem isS_str {x z : Str} : isS z (.str x) = decide (x = z) := rfl
theorem inKvD_str {neg : Bool} {x : Str} {kv : List (PyData × PyData)} : inKvD neg (.str x) (.dict kv) Q = Q (.bool (if neg then (getKv kv (.inr x)).isNone else (getKv kv (.inr x)).isSome)) := rfl
end
end Ev

set_option exponentiation.threshold 256
/-! the layer of data, 13: loops by place -/
namespace Ev
open PySem PySem.Spec PyProof.Rows L2
theorem drop_cons' {xs : List PyData} {x : PyData} {r : List PyData} {i : Nat} (e : x :: r = xs.drop i) : i < xs.length ∧ xs[i]? = some x ∧ r = xs.drop (i + 1) := by
  have hl : i < xs.length := by
    have := congrArg List.length e
    rw [List.length_cons, List.length_drop] at this
    omega
  rw [List.drop_eq_getElem_cons hl] at e
  injection e with e1 e2
  exact ⟨hl, by rw [List.getElem?_eq_getElem hl, e1], e2⟩
theorem for_at {gt : Wg} {b : DTs} {D : DEnds} {xs : List PyData} {ρ : En} (I : Nat → En → Prop) (hd : ∀ ρ, I xs.length ρ → D.nx ρ)
    (hs : ∀ i x ρ (N : En → Prop), i < xs.length → xs[i]? = some x → I i ρ → (∀ ρ', I (i + 1) ρ' → N ρ') → gt x ρ fun ρ1 => b ⟨N, D.rt, D.nx, N⟩ ρ1) (h : I 0 ρ) : forD gt b xs D ρ := by
  refine forD_ind (fun ys ρ => ∃ i, ys = xs.drop i ∧ i ≤ xs.length ∧ I i ρ) ?_ ?_ xs ρ ⟨0, rfl, Nat.zero_le _, h⟩
  · rintro ρ ⟨i, e, hi, hI⟩
    have := congrArg List.length e
    rw [List.length_drop, List.length_nil] at this
    have : i = xs.length := by omega
    subst this
    exact hd ρ hI
  · rintro x ys ρ N ⟨i, e, hi, hI⟩ hN
    obtain ⟨hl, ex, er⟩ := drop_cons' e
    exact hs i x ρ N hl ex hI fun ρ' h' => hN ρ' ⟨i + 1, er, by omega, h'⟩
theorem for_enat {gt : Wg} {b : DTs} {D : DEnds} {xs : List PyData} {ρ : En} (I : Nat → En → Prop) (hd : ∀ ρ, I xs.length ρ → D.nx ρ)
    (hs : ∀ i x ρ (N : En → Prop), i < xs.length → xs[i]? = some x → I i ρ → (∀ ρ', I (i + 1) ρ' → N ρ') → gt (.tuple [.int (i : Int), x]) ρ fun ρ1 => b ⟨N, D.rt, D.nx, N⟩ ρ1) (h : I 0 ρ) : forD gt b (enumD xs) D ρ := by
  refine for_enum (fun i ys ρ => ys = xs.drop i ∧ i ≤ xs.length ∧ I i ρ) ?_ ?_ xs ρ ⟨rfl, Nat.zero_le _, h⟩
  · rintro i ρ ⟨e, hi, hI⟩
    have := congrArg List.length e
    rw [List.length_drop, List.length_nil] at this
    have : i = xs.length := by omega
    subst this
    exact hd ρ hI
  · rintro i x ys ρ N ⟨e, hi, hI⟩ hN
    obtain ⟨hl, ex, er⟩ := drop_cons' e
    exact hs i x ρ N hl ex hI fun ρ' h' => hN ρ' ⟨er, by omega, h'⟩
theorem for_rng [Lo] {gt : Wg} {b : DTs} {D : DEnds} {lo : Int} {n : Nat} {ρ : En} (I : Nat → En → Prop) (hd : ∀ ρ, I n ρ → D.nx ρ)
    (hs : ∀ i ρ (N : En → Prop), i < n → I i ρ → (∀ ρ', I (i + 1) ρ' → N ρ') → gt (.int (lo + (i : Int))) ρ fun ρ1 => b ⟨N, D.rt, D.nx, N⟩ ρ1) (h : I 0 ρ) : forD gt b (rngD lo n) D ρ := by
  refine for_at I (fun ρ h => hd ρ (by rw [rngD_len] at h; exact h)) (fun i x ρ N hi ex hI hN => ?_) h
  rw [rngD_len] at hi
  rw [rngD_at hi] at ex
  cases ex
  exact hs i ρ N hi hI hN
theorem lc_at {gt : Wg} {tt : Wp Bool} {te : Wp PyData} {ρw : En} {Q : List PyData → Prop} {xs : List PyData} (I : Nat → List PyData → Prop) (h0 : I 0 []) (hd : ∀ acc, I xs.length acc → Q acc)
    (hs : ∀ i x acc (N : List PyData → Prop), i < xs.length → xs[i]? = some x → I i acc → (∀ acc', I (i + 1) acc' → N acc') → gt x ρw fun ρ2 => tt ρ2 fun b ρ3 => ρ3 = ρ2 ∧ if b = true then te ρ2 fun d ρ4 => ρ4 = ρ2 ∧ acc.length < sizeLine ∧ N (acc ++ [d]) else N acc) :
    lcD gt tt te ρw xs [] Q := by
  refine lcD_ind (fun ys acc => ∃ i, ys = xs.drop i ∧ i ≤ xs.length ∧ I i acc) ?_ ?_ xs [] ⟨0, rfl, Nat.zero_le _, h0⟩
  · rintro acc ⟨i, e, hi, hI⟩
    have := congrArg List.length e
    rw [List.length_drop, List.length_nil] at this
    have : i = xs.length := by omega
    subst this
    exact hd acc hI
  · rintro x ys acc N ⟨i, e, hi, hI⟩ hN
    obtain ⟨hl, ex, er⟩ := drop_cons' e
    exact hs i x acc N hl ex hI fun acc' h' => hN acc' ⟨i + 1, er, by omega, h'⟩
/-- a comprehension that takes all -/
theorem lc_map {gt : Wg} {tt : Wp Bool} {te : Wp PyData} {ρw : En} {Q : List PyData → Prop} {xs : List PyData} (f : PyData → PyData) (hl : xs.length ≤ sizeLine) (hd : Q (xs.map f))
    (hs : ∀ x, x ∈ xs → ∀ P : PyData → Prop, P (f x) → gt x ρw fun ρ2 => tt ρ2 fun b ρ3 => ρ3 = ρ2 ∧ b = true ∧ te ρ2 fun d ρ4 => ρ4 = ρ2 ∧ P d)
    (mg : ∀ d ρ P Q, (∀ ρ', P ρ' → Q ρ') → gt d ρ P → gt d ρ Q) (mt : Mono tt) (me : Mono te) : lcD gt tt te ρw xs [] Q := by
  refine lc_at (fun i acc => acc = (xs.take i).map f) rfl (fun acc h => by rw [List.take_length] at h; rw [h]; exact hd) (fun i x acc N hi ex e hN => ?_)
  subst e
  refine mg _ _ _ _ (fun ρ2 h => mt _ _ _ (fun b ρ3 h => ?_) h) (hs x (List.mem_of_getElem? ex) (fun d => N ((xs.take i).map f ++ [d])) (hN _ ?_))
  · obtain ⟨h1, h2, h3⟩ := h
    subst h2
    refine ⟨h1, ?_⟩
    rw [if_pos rfl]
    refine me _ _ _ (fun d ρ4 h => ⟨h.1, ?_, h.2⟩) h3
    rw [List.length_map, List.length_take]
    omega
  · rw [List.take_add_one, ex, List.map_append]
    rfl
/-- data whose numbers are small and that is shown within n signs -/
structure Od (n k : Nat) (d : PyData) : Prop where
  fx : fitx d = true
  ft : Ft n k d
  sz : szx d ≤ n
theorem Od.le {n k n' k' : Nat} {d : PyData} (h : Od n k d) (a : n ≤ n') (b : k ≤ k') : Od n' k' d := ⟨h.fx, h.ft.le a b, Nat.le_trans h.sz a⟩
theorem szxs_le {n : Nat} : ∀ {ds : List PyData}, (∀ d ∈ ds, szx d ≤ n) → szxs ds ≤ ds.length * n
  | [], _ => by simp only [szxs]; exact Nat.zero_le _
  | d :: ds, h => by
    have a := h d (List.mem_cons_self ..)
    have b := szxs_le (ds := ds) fun e he => h e (List.mem_cons_of_mem _ he)
    simp only [szxs, List.length_cons]
    rw [Nat.succ_mul]
    omega
theorem Od.show {n k : Nat} {d : PyData} (h : Od n k d) (hn : n ≤ 16777216) (hk : k ≤ 60) : showD d := ⟨h.ft.sh, Nat.le_trans h.ft.len (by rw [sizeLine_eq]; exact hn), Nat.le_trans h.ft.dp hk⟩
theorem fitxs_all {ds : List PyData} (h : ∀ d ∈ ds, fitx d = true) : fitxs ds = true := by
  induction ds with
  | nil => rfl
  | cons d ds ih =>
    simp only [fitxs, Bool.and_eq_true]
    exact ⟨h d (List.mem_cons_self ..), ih fun e he => h e (List.mem_cons_of_mem _ he)⟩
theorem fitxs_mem {ds : List PyData} (h : fitxs ds = true) : ∀ d ∈ ds, fitx d = true := by
  induction ds with
  | nil => intro d hd; cases hd
  | cons e ds ih =>
    simp only [fitxs, Bool.and_eq_true] at h
    intro d hd
    rcases List.mem_cons.mp hd with rfl | hd
    · exact h.1
    · exact ih h.2 d hd
theorem od_tuple {n k m : Nat} {ds : List PyData} (h : ∀ d ∈ ds, Od n k d) (l : ds.length ≤ m) : Od (m * (n + 2) + 3) (k + 1) (.tuple ds) :=
  ⟨by simp only [fitx]; exact fitxs_all fun d hd => (h d hd).fx, ft_tuple (fun d hd => (h d hd).ft) l, by
    have a := szxs_le fun d hd => (h d hd).sz
    have b : ds.length * n ≤ m * n := Nat.mul_le_mul_right _ l
    simp only [szx]
    rw [Nat.mul_add]
    omega⟩
theorem od_list {n k m : Nat} {ds : List PyData} (h : ∀ d ∈ ds, Od n k d) (l : ds.length ≤ m) : Od (m * (n + 2) + 3) (k + 1) (.list ds) :=
  ⟨by simp only [fitx]; exact fitxs_all fun d hd => (h d hd).fx, ft_list (fun d hd => (h d hd).ft) l, by
    have a := szxs_le fun d hd => (h d hd).sz
    have b : ds.length * n ≤ m * n := Nat.mul_le_mul_right _ l
    simp only [szx]
    rw [Nat.mul_add]
    omega⟩
theorem fitx_of_tuple {ds : List PyData} (h : fitx (.tuple ds) = true) : ∀ d ∈ ds, fitx d = true := fitxs_mem (by simpa only [fitx] using h)
def odB (n k : Nat) (d : PyData) : Bool := fitx d && d.showable && decide (d.shown.length ≤ n) && decide (d.depth ≤ k) && decide (szx d ≤ n)
theorem od_of {n k : Nat} {d : PyData} (h : odB n k d = true) : Od n k d := by
  unfold odB at h
  simp only [Bool.and_eq_true, decide_eq_true_eq] at h
  exact ⟨h.1.1.1.1, ⟨h.1.1.1.2, h.1.1.2, h.1.2⟩, h.2⟩
end Ev

set_option exponentiation.threshold 256
/-! the layer of data, 14: defs with a default -/
namespace Ev
open PySem PySem.Spec PyProof.Rows L2
section
variable [Lo] {P : Program} {w : World} {K : PySem.W.Frag} {mg : Str → Option Value} {base : Heap}
theorem okDD {x qual : Str} {st : Stmt} {f : Addr} {fd : FuncData} {N ps : List Str} {k : Nat} {R : RelD} {dvs : List V} (F : FunD K x qual (defArgs st) (defBody st) (defScope st) dvs [] f fd) (S : FnScope N ps (defScope st)) (len : ∀ ss P, R ss P → ss.length = ps.length)
    (hbody : ∀ (cdv : Value) (A : Around) (outer : List Env) (s : Shared) (H : Hp) (E : XK), Room k (A.deeper (envOfC qual (defScope st) s.heap.objs.size f cdv)) →
      ∃ t, DSs (cxOf CX0 P w K mg base N qual (defScope st) f cdv A outer s H E).nox (defBody st) t ∧ ∀ ss P, R ss P → t ⟨fun _ => P .none, fun d _ => P d, fun _ => False, fun _ => False⟩ (ss ++ uns N ss.length)) : FnOk P w K mg base CX0 (k + 1) f fd ps (spD K R) := by
  refine F.ok S (fun vs H Q E h => ?_) (fun cdv A outer s H vs Q E hr h => ?_)
  · obtain ⟨g, ss, h0, ha, hl, Pp, hR, hq⟩ := h
    rw [argsOk_len ha]
    exact len ss Pp hR
  · obtain ⟨t, ht, hb⟩ := hbody cdv A outer s H E hr
    exact ⟨_, ht.run.nox, body_go ht.mono h hb⟩
end
/-- an empty tuple of the module -/
def EmT (K : PySem.W.Frag) (a : Addr) : Prop := ∃ (o : Obj) (its : Array Value) (n : Nat), K.lookup a = some o ∧ o.cls = .type "tuple" ∧ o.data = .seq its n ∧ its.size ≤ sizeLine ∧ Vals [] its.toList
theorem EmT.dx {K : PySem.W.Frag} {a : Addr} (h : EmT K a) (Z : Addr → Prop) (H : Hp) : Dx K Z H (.ref a) (.tuple []) := .tup (.inr h) .nil
section
variable {K : PySem.W.Frag} {x qual : Str} {pa : Arguments} {bd : List Stmt} {sc : Scope} {v : V} {f : Addr} {fd : FuncData} {ps : List Str}
/-- every parameter is written -/
theorem fd_all {n : Nat} (F : FunD K x qual pa bd sc [v] [] f fd) (hn : n = ps.length)
    (h : ∀ (T : Addr) (kV doc pm : Value) (an : Option Addr) (cdv ct : Value) (us its : List Value), us.length = n → its.length = 1 →
      ∃ k, bindArgs (PySem.W.fnOf x qual pa bd sc (.ref T) kV doc pm an cdv ct) ⟨us, []⟩ = seqItems? (.ref T) >>= k ∧ k (some its.toArray) = pure (ps.zip (us ++ its.drop 1))) : Binds K fd ps [] := by
  obtain ⟨ds, a, b⟩ := F.binds1 n 1 (by simp) (by simp [hn]) h
  cases a
  exact b
/-- the last one is left out -/
theorem fd_one {n : Nat} (F : FunD K x qual pa bd sc [v] [] f fd) (hn : n + 1 = ps.length)
    (h : ∀ (T : Addr) (kV doc pm : Value) (an : Option Addr) (cdv ct : Value) (us its : List Value), us.length = n → its.length = 1 →
      ∃ k, bindArgs (PySem.W.fnOf x qual pa bd sc (.ref T) kV doc pm an cdv ct) ⟨us, []⟩ = seqItems? (.ref T) >>= k ∧ k (some its.toArray) = pure (ps.zip (us ++ its.drop 0))) : ∃ ds, Vals [v] ds ∧ Binds K fd ps ds :=
  F.binds1 n 0 (by simp) (by simp [hn]) h
end
section
variable [Lo] {X : Cx} {k : Nat} {f : Addr} {fd : FuncData} {ps : List Str} {R : RelD} {x : Str} {p pos : Pos} {e : Expr} {es : List Expr} {ts : Wp (List SV)} {E : XK} {v : V} {d : PyData}
def gDef (d : PyData) (ts : Wp (List SV)) : Wp (List SV) := fun ρ Q => ts ρ fun ss ρ1 => Q (ss ++ [.d d]) ρ1
theorem argsOk_snoc {K : PySem.W.Frag} {lo : Lw} {Z : Addr → Prop} {H : Hp} {s : SV} {v : V} (h : ArgOk K lo Z H s v) : ∀ {ss : List SV} {vs : List V}, ArgsOk K lo Z H ss vs → ArgsOk K lo Z H (ss ++ [s]) (vs ++ [v])
  | _, _, .nil => .cons h .nil
  | _, _, .cons a r => .cons a (argsOk_snoc h r)
theorem de_callD (F : FnOk X.prog X.w X.K X.mg X.base CX0 k f fd ps (spD X.K R)) (hr : Room k X.A) (hg : Gl X x) (hm : X.mg x = some (.ref f)) (hk : PySem.W.keepIn X.K (.ref f) = true) (hb : ∃ ds, Vals [v] ds ∧ Binds X.K fd ps ds) (hd : ∀ Z H, Dx X.K Z H v d) (hx : Passes CX0 X E)
    (ha : DG X (e :: es) ts) (hdb : (x == ("__debug__" : Str)) = false := by decide) (he : starEach (e :: es) X.env = (false, eval e X.env) :: starEach es X.env := by rfl) (hpl : (backTo pos (starEach es X.env)).any (·.1) = false := by rfl) :
    DE X (.Call (.Name x p) (e :: es) [] pos) (dCall R (gDef d ts)) := by
  obtain ⟨ds, hv, hb⟩ := hb
  exact ⟨fun ρ P Q k q => ha.mono ρ _ _ (fun ss ρ1 ⟨P, a, b⟩ => ⟨P, a, fun d hd => k _ _ (b d hd)⟩) q, (pe_call F hr hg hm hk hb hv hx ha.run hdb he hpl).weaken fun σ H Q ⟨g, O, ρ, rp, q⟩ => lift_go ha.mono rp q fun ss ρ1 O1 H1 vs R1 k1 hs q1 => by
    obtain ⟨P, a, b⟩ := q1
    exact call_go R1 (argsOk_snoc (s := .d d) (show ArgOk _ _ _ _ (.d d) v from hd _ _) hs) ⟨P, a, fun d hd O' H' v R' k' dx => b d hd O' H' v R' (k1.trans k') dx⟩⟩
end
end Ev

set_option exponentiation.threshold 256
/-! the layer of data, 15: a tuple beside the empty one -/
namespace Ev
open PySem PySem.Spec PyProof.Rows L2 PySem.SeqAt
theorem dict_eq_declines_tuple (l b : Addr) (es : Array DictEntry) (items2 : Array Value) (n n2 : Nat) (dd dd2 : Option Addr) (sl sl2 : Array (Option Value)) :
    Meets (Builtin.«dict.__eq__» ⟨[.ref l, .ref b], []⟩) (fun _ R s => s.heap.get? l = some { cls := .type "dict", dict := dd, data := .dict es n, slots := sl } ∧ s.heap.get? b = some { cls := .type "tuple", dict := dd2, data := .seq items2 n2, slots := sl2 } ∧ R (.ok (.ret .notImplemented)) s) :=
  .of_wp fun prog w A R s h => by obtain ⟨hp, g, d, tk, os⟩ := s; obtain ⟨hl, hb, h⟩ := h; have f1 := F.sub_tuple_dict; wp_walk using wpAny_loadPart' hl, wpAny_loadPart' hb; exact ⟨_, rfl, h⟩
theorem tuple_eq_declines_dict (l b : Addr) (items : Array Value) (es : Array DictEntry) (n n2 : Nat) (dd dd2 : Option Addr) (sl sl2 : Array (Option Value)) :
    Meets (Builtin.«tuple.__eq__» ⟨[.ref l, .ref b], []⟩) (fun _ R s => s.heap.get? l = some { cls := .type "tuple", dict := dd, data := .seq items n, slots := sl } ∧ s.heap.get? b = some { cls := .type "dict", dict := dd2, data := .dict es n2, slots := sl2 } ∧ R (.ok (.ret .notImplemented)) s) :=
  .of_wp fun prog w A R s h => by obtain ⟨hp, g, d, tk, os⟩ := s; obtain ⟨hl, hb, h⟩ := h; have f1 := F.sub_dict_tuple; wp_walk using wpAny_loadPart' hl, wpAny_loadPart' hb; exact ⟨_, rfl, h⟩
theorem rcAt_dict_tuple {A : Around} {s : Shared} {l b : Addr} {es : Array DictEntry} {n n2 : Nat} {dd dd2 : Option Addr} {sl sl2 : Array (Option Value)} {items2 : Array Value} (hne : l ≠ b)
    (ho : s.heap.get? l = some { cls := .type "dict", dict := dd, data := .dict es n, slots := sl }) (hb : s.heap.get? b = some { cls := .type "tuple", dict := dd2, data := .seq items2 n2, slots := sl2 }) (hu : A.units < cLine) : RcAt A s (.ref l) (.ref b) false := fun prog w E Q h =>
  rc_eq_decline_or (k := false) ⟨_, ho, rfl⟩ ⟨_, hb, rfl⟩ (by decide) F.sub_tuple_dict F.slot_dict_eq F.slot_tuple_eq_refl
    (fun _ hq => call_meets F.slot_dict_eq ⟨_, ho, rfl⟩ F.entry_dict_eq (F.args_dict_eq_2 _ _) (dict_eq_declines_tuple l b es items2 n n2 dd dd2 sl sl2) ⟨ho, hb, hq⟩)
    (fun _ hq => call_meets F.slot_tuple_eq_refl ⟨_, hb, rfl⟩ F.entry_tuple_eq (F.args_tuple_eq_2 _ _) (tuple_eq_declines_dict b l items2 es n2 n dd2 dd sl2 sl) ⟨hb, ho, hq⟩)
    (fun _ hq => wpAny_isSame_ref_other hne ho hb (by simp) hq) (.inr hu) h
/-- x == () -/
def isEmp : PyData → Bool
  | .tuple xs => xs.isEmpty
  | _ => false
def eqE : OD := fun x y Q => match y with
  | .tuple [] => Q (.bool (isEmp x))
  | _ => False
theorem eqE_emp {Q : PyData → Prop} {x : PyData} : eqE x (.tuple []) Q = Q (.bool (isEmp x)) := rfl
theorem eqE_tup {Q : PyData → Prop} {xs : List PyData} : eqE (.tuple xs) (.tuple []) Q = Q (.bool xs.isEmpty) := rfl
section
variable [Lo] {X : Cx}
theorem any_emp {Z : Addr → Prop} {H : Hp} {pins : List (Addr × Obj)} {s : Shared} {σ : L2.St} {v : V} {V1 : Value} {x : PyData} {b : Addr} (I : L2.Inv X pins σ H s) (rv : L2.RelV v V1) (dx : DxS X.K Z H v x) (hb : SqT X.K H b []) (hu : X.A.units < cLine) :
    RcAt X.A s V1 (.ref b) (isEmp x) := by
  obtain ⟨its2, r2, p2, _⟩ := I.tuple hb
  cases r2
  cases x with
  | none =>
    cases (show Dx X.K Z H v _ from dx)
    cases (show V1 = Value.none from rv)
    exact RcAt.none_tuple p2 hu
  | bool c =>
    cases (show Dx X.K Z H v _ from dx)
    cases (show V1 = Value.bool c from rv)
    exact RcAt.bool_tuple c p2 hu
  | int i =>
    cases (show Dx X.K Z H v _ from dx)
    obtain ⟨t, rfl⟩ := (show ∃ t, V1 = Value.int i t from rv)
    exact RcAt.int_tuple i t p2 hu
  | str y =>
    cases (show Dx X.K Z H v _ from dx)
    obtain ⟨t, rfl⟩ := (show ∃ t, V1 = Value.str y t from rv)
    exact RcAt.str_tuple y t p2 hu
  | list xs =>
    obtain ⟨a, vs, rfl, h1, h2⟩ := dx
    obtain rfl : V1 = Value.ref a := rv
    obtain ⟨its, _, pl, _⟩ := I.list (SqL.of h1)
    exact RcAt.list_tuple pl.isList p2 hu
  | dict kv =>
    obtain ⟨a, kvs, rfl, h1, _, h2⟩ := dx_dct (show Dx X.K Z H v _ from dx)
    obtain rfl : V1 = Value.ref a := rv
    obtain ⟨_, _, vs, _, ⟨⟨oc, od, odt, osl⟩, es, ep, ho, ⟨c1, c2, c3⟩, hd, _⟩⟩ := dk_of I.hok h1
    have c1' : oc = Value.type "dict" := c1
    have c2' : od = none := c2
    have hd' : odt = Data.dict es ep := hd
    subst c1' c2' hd'
    obtain ⟨⟨cls2, dd2, data2, sl2⟩, ho2, hc2, n2, hd2⟩ := id p2
    simp only at hc2 hd2
    subst hc2 hd2
    have hne : a ≠ b := fun z => by
      subst z
      rw [ho] at ho2
      have e2 := congrArg Obj.cls (Option.some.inj ho2)
      simp at e2
    exact rcAt_dict_tuple hne ho ho2 hu
  | tuple xs =>
    obtain ⟨a, vs, rfl, h1, h2⟩ := dx_tup (show Dx X.K Z H v _ from dx)
    obtain rfl : V1 = Value.ref a := rv
    obtain ⟨its, r1, p1, _⟩ := I.tuple h1
    have e := RcAt.tuples (e := fun _ => true) p1 p2 hu (fun j _ hj => absurd hj (by simp))
    have ls : its.length = xs.length := r1.length.symm.trans (dxAll_len h2)
    have ev : ((List.range (min its.toArray.size (#[] : Array Value).size)).all (fun _ => true) && its.toArray.size == (#[] : Array Value).size) = isEmp (.tuple xs) := by
      cases xs with
      | nil =>
        have : its = [] := List.length_eq_zero_iff.mp ls
        subst this
        rfl
      | cons x xs =>
        cases its with
        | nil => cases ls
        | cons i its => simp [isEmp]
    rw [← ev]
    exact e
theorem o_eqE (hu : X.A.units < cLine) : OpD X (compareOp .Eq) eqE := by
  refine ⟨fun x y P Q k q => ?_, fun pins s σ H v u V U Q I rv ru ⟨Z, x, y, dx, dy, q⟩ => ?_⟩
  · unfold eqE at q ⊢
    split at q
    · exact k _ q
    · exact q
  · unfold eqE at q
    split at q
    · obtain ⟨b, ws, rfl, g1, g2⟩ := dx_tup (show Dx X.K Z H u _ from dy)
      obtain rfl : U = Value.ref b := ru
      cases g2
      exact any_emp I rv dx g1 hu X.prog X.w _ _ ⟨.bl _, H, I, rfl, q _ H (Same.refl _) (.bl _)⟩
    · exact q.elim
end
end Ev

set_option exponentiation.threshold 256
/-! the layer of data, 16: how wide data is shown, by parts; a list beside the empty one -/
namespace Ev
open PySem PySem.Spec PyProof.Rows L2 PySem.SeqAt
def notStar : Expr → Bool
  | .Starred _ _ => false
  | _ => true
theorem se_cons {e : Expr} {es : List Expr} {env : Env} (h : notStar e = true) : starEach (e :: es) env = (false, eval e env) :: starEach es env := by
  cases e <;> first | rfl | cases h
mutual
def mz : PyData → Nat
  | .none => 4
  | .bool _ => 5
  | .int i => if i.natAbs < 1048576 then 21 else 1921
  | .str x => 10 * x.length + 2
  | .list xs => mzs xs + 3
  | .tuple xs => mzs xs + 3
  | .dict xs => mzk xs + 3
def mzs : List PyData → Nat
  | [] => 0
  | x :: xs => mz x + 2 + mzs xs
def mzk : List (PyData × PyData) → Nat
  | [] => 0
  | (k, v) :: xs => mz k + mz v + 4 + mzk xs
end
theorem int_short {i : Int} (h : i.natAbs < 1048576) : (PyData.shown (.int i)).length ≤ 21 := by
  have e := int_text_length_le (k := 20) (by decide) (PySem.Flt.log2_lt_of (by decide) h)
  simp only [PyData.shown]
  show (Str.ofString (toString i)).length ≤ 21
  rw [PySem.ofString_length]
  exact e
mutual
theorem mz_show : ∀ d : PyData, fitx d = true → d.showable = true ∧ d.shown.length ≤ mz d
  | .none, _ => by
    simp only [PyData.showable, PyData.shown, mz]
    exact ⟨trivial, by decide⟩
  | .bool b, _ => by
    have e : (PyData.shown (.bool b)).length ≤ 5 := by cases b <;> decide
    simp only [PyData.showable, mz]
    exact ⟨trivial, e⟩
  | .int i, h => by
    simp only [fitx, decide_eq_true_eq] at h
    have f := ft_int (fitx_log h)
    refine ⟨f.sh, ?_⟩
    simp only [mz]
    split
    · exact int_short (by assumption)
    · exact f.len
  | .str x, h => by
    simp only [fitx, List.all_eq_true, decide_eq_true_eq] at h
    have f := ft_str (x := x) fun c hc => Nat.lt_trans (h c hc) (by decide)
    refine ⟨f.sh, ?_⟩
    simp only [mz]
    exact f.len
  | .list xs, h => by
    simp only [fitx] at h
    obtain ⟨a, b⟩ := mzs_show xs h
    have e := listText_len_le (PyData.shownAll xs)
    have l := PyData.shownAll_length xs
    simp only [PyData.showable, PyData.shown, mz]
    exact ⟨a, by omega⟩
  | .tuple xs, h => by
    simp only [fitx] at h
    obtain ⟨a, b⟩ := mzs_show xs h
    have e := tupleText_len_le (PyData.shownAll xs)
    have l := PyData.shownAll_length xs
    simp only [PyData.showable, PyData.shown, mz]
    exact ⟨a, by omega⟩
  | .dict xs, h => by
    simp only [fitx] at h
    obtain ⟨a, b⟩ := mzk_show xs h
    have e := dictText_len_le (PyData.shownKv xs)
    simp only [PyData.showable, PyData.shown, mz]
    exact ⟨a, by omega⟩
theorem mzs_show : ∀ xs : List PyData, fitxs xs = true → PyData.showableAll xs = true ∧ ((PyData.shownAll xs).map (·.length)).sum + 2 * xs.length ≤ mzs xs
  | [], _ => by
    simp only [PyData.showableAll, PyData.shownAll, mzs]
    exact ⟨trivial, by decide⟩
  | x :: xs, h => by
    simp only [fitxs, Bool.and_eq_true] at h
    obtain ⟨a, b⟩ := mz_show x h.1
    obtain ⟨c, d⟩ := mzs_show xs h.2
    simp only [PyData.showableAll, PyData.shownAll, mzs, List.map_cons, List.sum_cons, List.length_cons]
    exact ⟨by rw [a, c]; rfl, by omega⟩
theorem mzk_show : ∀ xs : List (PyData × PyData), fitxk xs = true → PyData.showableKv xs = true ∧ ((PyData.shownKv xs).map (·.length)).sum + 2 * (PyData.shownKv xs).length ≤ mzk xs
  | [], _ => by
    simp only [PyData.showableKv, PyData.shownKv, mzk]
    exact ⟨trivial, by decide⟩
  | (k, v) :: xs, h => by
    simp only [fitxk, Bool.and_eq_true] at h
    obtain ⟨a, b⟩ := mz_show k h.1.1
    obtain ⟨a2, b2⟩ := mz_show v h.1.2
    obtain ⟨c, d⟩ := mzk_show xs h.2
    simp only [PyData.showableKv, PyData.shownKv, mzk, List.map_cons, List.sum_cons, List.length_cons]
    refine ⟨by rw [a, a2, c]; rfl, ?_⟩
    rw [strLen_append, strLen_append]
    have : (": " : Str).length = 2 := rfl
    omega
end
mutual
theorem szx_mz : ∀ d : PyData, szx d ≤ mz d
  | .none => by simp only [szx, mz]; decide
  | .bool _ => by simp only [szx, mz]; decide
  | .int i => by simp only [szx, mz]; split <;> decide
  | .str x => by simp only [szx, mz]; omega
  | .list xs => by have := szxs_mz xs; simp only [szx, mz]; omega
  | .tuple xs => by have := szxs_mz xs; simp only [szx, mz]; omega
  | .dict xs => by have := szxk_mz xs; simp only [szx, mz]; omega
theorem szxs_mz : ∀ xs : List PyData, szxs xs ≤ mzs xs
  | [] => Nat.le_refl _
  | x :: xs => by have := szx_mz x; have := szxs_mz xs; simp only [szxs, mzs]; omega
theorem szxk_mz : ∀ xs : List (PyData × PyData), szxk xs ≤ mzk xs
  | [] => Nat.le_refl _
  | (k, v) :: xs => by have := szx_mz k; have := szx_mz v; have := szxk_mz xs; simp only [szxk, mzk]; omega
end
theorem mzs_app : ∀ xs ys : List PyData, mzs (xs ++ ys) = mzs xs + mzs ys
  | [], ys => by simp [mzs]
  | x :: xs, ys => by simp only [List.cons_append, mzs, mzs_app xs ys]; omega
theorem depthAll_app : ∀ xs ys : List PyData, PyData.depthAll (xs ++ ys) = max (PyData.depthAll xs) (PyData.depthAll ys)
  | [], ys => by simp [PyData.depthAll]
  | x :: xs, ys => by simp only [List.cons_append, PyData.depthAll, depthAll_app xs ys]; omega
theorem fitxs_app (xs ys : List PyData) : fitxs (xs ++ ys) = (fitxs xs && fitxs ys) := by
  induction xs with
  | nil => rfl
  | cons x xs ih => simp only [List.cons_append, fitxs, ih, Bool.and_assoc]
/-- data so wide and so deep at most -/
structure Md (n k : Nat) (d : PyData) : Prop where
  fx : fitx d = true
  mz : mz d ≤ n
  dp : d.depth ≤ k
theorem Md.le {n k n' k' : Nat} {d : PyData} (h : Md n k d) (a : n ≤ n') (b : k ≤ k') : Md n' k' d := ⟨h.fx, Nat.le_trans h.mz a, Nat.le_trans h.dp b⟩
theorem Md.show {n k : Nat} {d : PyData} (h : Md n k d) (hn : n ≤ 16777216) (hk : k ≤ 60) : showD d := by
  obtain ⟨a, b⟩ := mz_show d h.fx
  exact ⟨a, Nat.le_trans b (Nat.le_trans h.mz (by rw [sizeLine_eq]; exact hn)), Nat.le_trans h.dp hk⟩
theorem Md.szx {n k : Nat} {d : PyData} (h : Md n k d) : szx d ≤ n := Nat.le_trans (szx_mz d) h.mz
structure Mds (n k : Nat) (ds : List PyData) : Prop where
  fx : fitxs ds = true
  mz : mzs ds ≤ n
  dp : PyData.depthAll ds ≤ k
theorem Mds.le {n k n' k' : Nat} {d : List PyData} (h : Mds n k d) (a : n ≤ n') (b : k ≤ k') : Mds n' k' d := ⟨h.fx, Nat.le_trans h.mz a, Nat.le_trans h.dp b⟩
theorem Mds.nil : Mds 0 0 [] := ⟨rfl, by simp only [mzs]; decide, by simp only [PyData.depthAll]; decide⟩
theorem Mds.cons {n m k l : Nat} {d : PyData} {ds : List PyData} (a : Md n k d) (b : Mds m l ds) : Mds (n + 2 + m) (max k l) (d :: ds) := by
  have h1 := a.mz
  have h2 := b.mz
  have h3 := a.dp
  have h4 := b.dp
  refine ⟨by simp only [fitxs, a.fx, b.fx, Bool.and_self], by simp only [mzs]; omega, by simp only [PyData.depthAll]; omega⟩
theorem Mds.app {n m k l : Nat} {xs ys : List PyData} (a : Mds n k xs) (b : Mds m l ys) : Mds (n + m) (max k l) (xs ++ ys) := by
  have h1 := a.mz
  have h2 := b.mz
  have h3 := a.dp
  have h4 := b.dp
  exact ⟨by rw [fitxs_app, a.fx, b.fx]; rfl, by rw [mzs_app]; omega, by rw [depthAll_app]; omega⟩
theorem Mds.tuple {n k : Nat} {ds : List PyData} (h : Mds n k ds) : Md (n + 3) (k + 1) (.tuple ds) := by
  have h1 := h.mz
  have h2 := h.dp
  exact ⟨by simp only [fitx]; exact h.fx, by simp only [Ev.mz]; omega, by simp only [PyData.depth]; omega⟩
theorem Mds.list {n k : Nat} {ds : List PyData} (h : Mds n k ds) : Md (n + 3) (k + 1) (.list ds) := by
  have h1 := h.mz
  have h2 := h.dp
  exact ⟨by simp only [fitx]; exact h.fx, by simp only [Ev.mz]; omega, by simp only [PyData.depth]; omega⟩
theorem Md.un {n k : Nat} {ds : List PyData} (h : Md n k (.tuple ds)) : Mds n k ds := by
  have h0 := h.fx
  have h1 := h.mz
  have h2 := h.dp
  simp only [fitx] at h0
  simp only [Ev.mz] at h1
  simp only [PyData.depth] at h2
  exact ⟨h0, by omega, by omega⟩
theorem mds_all {n k : Nat} : ∀ {ds : List PyData}, (∀ d ∈ ds, Md n k d) → Mds (ds.length * (n + 2)) k ds
  | [], _ => Mds.nil.le (Nat.zero_le _) (Nat.zero_le _)
  | d :: ds, h => by
    have c := Mds.cons (h d (List.mem_cons_self ..)) (mds_all (ds := ds) fun e he => h e (List.mem_cons_of_mem _ he))
    rw [List.length_cons, Nat.succ_mul]
    exact c.le (by omega) (by omega)
theorem mds_le {n k m : Nat} {ds : List PyData} (h : ∀ d ∈ ds, Md n k d) (l : ds.length ≤ m) : Mds (m * (n + 2)) k ds := (mds_all h).le (Nat.mul_le_mul_right _ l) (Nat.le_refl _)
theorem Mds.mem {n k : Nat} : ∀ {ds : List PyData}, Mds n k ds → ∀ d ∈ ds, Md n k d
  | [], _, d, h => nomatch h
  | e :: ds, m, d, h => by
    have h0 := m.fx
    have h1 := m.mz
    have h2 := m.dp
    simp only [fitxs, Bool.and_eq_true] at h0
    simp only [mzs] at h1
    simp only [PyData.depthAll] at h2
    rcases List.mem_cons.mp h with rfl | h
    · exact ⟨h0.1, by omega, by omega⟩
    · exact (Mds.mem ⟨h0.2, by omega, by omega⟩ d h)
theorem Md.mem {n k : Nat} {ds : List PyData} (h : Md n k (.tuple ds)) : ∀ d ∈ ds, Md n k d := h.un.mem
theorem Mds.take {n k : Nat} {ds : List PyData} (h : Mds n k ds) (i : Nat) : Mds n k (ds.take i) := by
  have e := List.take_append_drop i ds
  have h0 := h.fx
  have h1 := h.mz
  have h2 := h.dp
  rw [← e, fitxs_app, Bool.and_eq_true] at h0
  rw [← e, mzs_app] at h1
  rw [← e, depthAll_app] at h2
  exact ⟨h0.1, by omega, by omega⟩
theorem Mds.drop {n k : Nat} {ds : List PyData} (h : Mds n k ds) (i : Nat) : Mds n k (ds.drop i) := by
  have e := List.take_append_drop i ds
  have h0 := h.fx
  have h1 := h.mz
  have h2 := h.dp
  rw [← e, fitxs_app, Bool.and_eq_true] at h0
  rw [← e, mzs_app] at h1
  rw [← e, depthAll_app] at h2
  exact ⟨h0.2, by omega, by omega⟩
theorem Mds.cut {n k : Nat} {ds : List PyData} (h : Mds n k ds) (lo hi : Option Int) : Mds n k (cutD ds lo hi) := (h.drop _).take _
theorem md_none : Md 4 0 .none := ⟨rfl, by simp only [mz]; decide, by simp only [PyData.depth]; decide⟩
theorem md_bool (b : Bool) : Md 5 0 (.bool b) := ⟨rfl, by simp only [mz]; decide, by simp only [PyData.depth]; decide⟩
theorem md_int {i : Int} (h : i.natAbs < 1048576) : Md 21 0 (.int i) := ⟨by simp only [fitx]; exact decide_eq_true (Nat.lt_trans h (by decide +kernel)), by simp only [mz]; rw [if_pos h]; decide, by simp only [PyData.depth]; decide⟩
theorem md_of {n k : Nat} {d : PyData} (h : (fitx d && decide (mz d ≤ n) && decide (d.depth ≤ k)) = true) : Md n k d := by
  simp only [Bool.and_eq_true, decide_eq_true_eq] at h
  exact ⟨h.1.1, h.1.2, h.2⟩
theorem md_list {n k : Nat} {ds : List PyData} (h : (ds.all fun d => fitx d && decide (mz d ≤ n) && decide (d.depth ≤ k)) = true) : ∀ d ∈ ds, Md n k d := fun d hd => md_of (List.all_eq_true.mp h d hd)
/-! ### a list beside [] -/
def eqEL (neg : Bool) : OD := fun x y Q => match x, y with
  | .list xs, .list [] => Q (.bool (if neg then !xs.isEmpty else xs.isEmpty))
  | _, _ => False
theorem eqEL_list {neg : Bool} {Q : PyData → Prop} {xs : List PyData} : eqEL neg (.list xs) (.list []) Q = Q (.bool (if neg then !xs.isEmpty else xs.isEmpty)) := rfl
section
variable [Lo] {X : Cx}
theorem eqEL_mono {neg : Bool} : ∀ x y P Q, (∀ r, P r → Q r) → eqEL neg x y P → eqEL neg x y Q := fun x y P Q k q => by
  unfold eqEL at q ⊢
  split at q
  · exact k _ q
  · exact q
theorem o_eqL (hu : X.A.units < cLine) : OpD X (compareOp .Eq) (eqEL false) := by
  refine ⟨eqEL_mono, fun pins s σ H v u V U Q I rv ru ⟨Z, x, y, dx, dy, q⟩ => ?_⟩
  unfold eqEL at q
  split at q
  · rename_i xs
    obtain ⟨a, vs, rfl, h1, h2⟩ := dx
    obtain ⟨b, ws, rfl, g1, g2⟩ := dy
    obtain rfl : V = Value.ref a := rv
    obtain rfl : U = Value.ref b := ru
    cases g2
    obtain ⟨its, r1, p1, _⟩ := I.list (SqL.of h1)
    obtain ⟨its2, r2, p2, _⟩ := I.list (SqL.of g1)
    cases r2
    have ls : its.length = xs.length := r1.length.symm.trans (dxAll_len h2)
    cases xs with
    | nil =>
      have : its = [] := List.length_eq_zero_iff.mp ls
      subst this
      exact RcAt.lists (e := fun _ => true) p1.isList p2.isList rfl hu (fun j hj => absurd hj (by simp)) X.prog X.w _ _ ⟨.bl _, H, I, rfl, q _ H (Same.refl _) (.bl _)⟩
    | cons x xs =>
      exact RcAt.lists_lengths p1.isList p2.isList (by cases its with | nil => cases ls | cons i its => simp) hu X.prog X.w _ _ ⟨.bl _, H, I, rfl, q _ H (Same.refl _) (.bl _)⟩
  · exact q.elim
theorem o_neL (hu : X.A.units < cLine) : OpD X (compareOp .NotEq) (eqEL true) := by
  refine ⟨eqEL_mono, fun pins s σ H v u V U Q I rv ru ⟨Z, x, y, dx, dy, q⟩ => ?_⟩
  unfold eqEL at q
  split at q
  · rename_i xs
    obtain ⟨a, vs, rfl, h1, h2⟩ := dx
    obtain ⟨b, ws, rfl, g1, g2⟩ := dy
    obtain rfl : V = Value.ref a := rv
    obtain rfl : U = Value.ref b := ru
    cases g2
    obtain ⟨its, r1, p1, _⟩ := I.list (SqL.of h1)
    obtain ⟨its2, r2, p2, _⟩ := I.list (SqL.of g1)
    cases r2
    have ls : its.length = xs.length := r1.length.symm.trans (dxAll_len h2)
    cases xs with
    | nil =>
      have : its = [] := List.length_eq_zero_iff.mp ls
      subst this
      exact RcNeAt.lists (e := fun _ => true) p1.isList p2.isList rfl hu (fun j hj => absurd hj (by simp)) X.prog X.w _ _ ⟨.bl _, H, I, rfl, q _ H (Same.refl _) (.bl _)⟩
    | cons x xs =>
      exact RcNeAt.lists_lengths p1.isList p2.isList (by cases its with | nil => cases ls | cons i its => simp) hu X.prog X.w _ _ ⟨.bl _, H, I, rfl, q _ H (Same.refl _) (.bl _)⟩
  · exact q.elim
end
end Ev

set_option exponentiation.threshold 256
/-! the layer of data, 17: a tuple so many times, be it none or once -/
namespace Ev
open PySem PySem.Spec PyProof.Rows L2 PySem.SeqAt
theorem tuple_mulS (l : Addr) (items : Array Value) (n : Nat) (dd : Option Addr) (sl : Array (Option Value)) (x : Int) (u : Tok) (c0 : (decide (x < -(2 ^ 63)) || decide (x ≥ 2 ^ 63)) = false) (c1 : (items.isEmpty || x == 1) = true) :
    Meets (Builtin.«tuple.__mul__» ⟨[.ref l, .int x u], []⟩) (fun _ R s => s.heap.get? l = some { cls := .type "tuple", dict := dd, data := .seq items n, slots := sl } ∧ R (.ok (.ret (.ref l))) s) :=
  .of_wp fun prog w A R s h => by
    obtain ⟨hp, g, d, tk, os⟩ := s
    obtain ⟨hl, h⟩ := h
    have f1 := AutoSeq1.idx_int
    wp_walk using wpAny_loadPart' hl
    repeat (first
      | (refine wpAny_ite_false (decide_eq_false (by rw [c0]; exact Bool.false_ne_true)) ?_; wp_walk using wpAny_loadPart' hl)
      | (refine wpAny_ite_true (decide_eq_true c1) ?_; wp_walk using wpAny_loadPart' hl))
    exact ⟨_, rfl, h⟩
theorem tuple_mulZ (l : Addr) (items : Array Value) (n : Nat) (dd : Option Addr) (sl : Array (Option Value)) (x : Int) (u : Tok) (c0 : (decide (x < -(2 ^ 63)) || decide (x ≥ 2 ^ 63)) = false) (c1 : (items.isEmpty || x == 1) = false) (c2 : (decide (x ≤ 0) || items.isEmpty) = true) :
    Meets (Builtin.«tuple.__mul__» ⟨[.ref l, .int x u], []⟩) (fun _ R s => s.heap.get? l = some { cls := .type "tuple", dict := dd, data := .seq items n, slots := sl } ∧
      R (.ok (.ret (Value.ref s.heap.objs.size))) { s with heap := s.heap.push { cls := Value.type "tuple", data := Data.seq #[] }, toks := s.toks }) :=
  .of_wp fun prog w A R s h => by
    obtain ⟨hp, g, d, tk, os⟩ := s
    obtain ⟨hl, h⟩ := h
    have f1 := AutoSeq1.idx_int
    wp_walk using wpAny_loadPart' hl
    repeat (first
      | (refine wpAny_ite_false (decide_eq_false (by rw [c0]; exact Bool.false_ne_true)) ?_; wp_walk using wpAny_loadPart' hl)
      | (refine wpAny_ite_false (decide_eq_false (by rw [c1]; exact Bool.false_ne_true)) ?_; wp_walk using wpAny_loadPart' hl)
      | (refine wpAny_ite_true (decide_eq_true c2) ?_; wp_walk using wpAny_loadPart' hl))
    exact ⟨_, rfl, h⟩
def rRepT2 (K : PySem.W.Frag) : R2 := fun x y H Q => ∃ l k xs, x = .ref l ∧ y = .int k ∧ SqT K H l xs ∧ -(2 ^ 30) < k ∧ k < 2 ^ 30 ∧ xs.length * k.toNat ≤ sizeLine ∧
  (xs = [] ∨ k = 1 → Q (.ref l) H) ∧ (¬ (xs = [] ∨ k = 1) → ∀ p, H p = none → Q (.ref p) (upd H p (.tup (List.replicate k.toNat xs).flatten)))
section
variable [Lo] {X : Cx}
theorem op_repT2 : OpR X (binaryOp .Mult) (rRepT2 X.K) := by
  intro pins s σ H x y v u Q I rx ry h
  obtain ⟨l, k, xs, rfl, rfl, hT, h1, h2, hz, q1, q2⟩ := h
  cases rx
  obtain ⟨t, rfl⟩ := ry
  obtain ⟨its, r, ⟨⟨cls, dd, data, sl⟩, ho, hc, n, hd⟩, hs⟩ := I.tuple hT
  simp only at hc hd
  subst hc hd
  have hle : its.length = xs.length := r.length.symm
  have c0 : (decide (k < -(2 ^ 63)) || decide (k ≥ 2 ^ 63)) = false := by
    rw [decide_eq_false (by omega), decide_eq_false (by omega)] <;> rfl
  have emp : its.toArray.isEmpty = decide (xs = []) := by
    cases its with
    | nil =>
      have : xs = [] := List.length_eq_zero_iff.mp hle.symm
      subst this
      rfl
    | cons a b =>
      have : xs ≠ [] := fun e => by subst e; cases hle
      rw [decide_eq_false this]
      rfl
  by_cases hb : xs = [] ∨ k = 1
  · have c1 : (its.toArray.isEmpty || k == 1) = true := by
      rw [emp]
      rcases hb with hb | hb
      · rw [decide_eq_true hb]; rfl
      · rw [hb]; exact Bool.or_true _
    refine wpAny_binaryOp_repeat_ref (T := "tuple") (U := "int") (by decide) ⟨_, ho, rfl⟩ (fun s' => typeIs_int s' k t) noFill_tuple_mul F.fills_int_mul F.slot_int_rmul repeat_tuple F.slot_int_index.lookup
      (call_meets F.slot_int_rmul (typeIs_int s k t) F.entry_int_rmul (F.args_int_rmul_2 _ _) (int_rmul_tuple k t l its.toArray n dd sl)
        ⟨ho, rfl, ⟨_, ho, rfl⟩, call_meets F.slot_tuple_mul ⟨_, ho, rfl⟩ F.entry_tuple_mul (F.args_tuple_mul_2 _ _) (tuple_mulS l its.toArray n dd sl k t c0 c1) ⟨ho, ?_⟩⟩)
    exact ⟨.ref l, _, I, rfl, q1 hb⟩
  · have hne : xs ≠ [] := fun e => hb (.inl e)
    have hk : k ≠ 1 := fun e => hb (.inr e)
    have hi : its.toArray.isEmpty = false := by rw [emp, decide_eq_false hne]
    have c1 : (its.toArray.isEmpty || k == 1) = false := by
      rw [hi, Bool.false_or]
      exact beq_eq_false_iff_ne.mpr hk
    have flen : (List.replicate k.toNat its).flatten.length ≤ sizeLine := by
      rw [PyProof.Rows.lm_len_rep_flat, hle, Nat.mul_comm]
      exact hz
    have flen2 : (List.replicate k.toNat xs).flatten.length ≤ sizeLine := by
      rw [PyProof.Rows.lm_len_rep_flat, Nat.mul_comm]
      exact hz
    by_cases h0 : k ≤ 0
    · have c2 : (decide (k ≤ 0) || its.toArray.isEmpty) = true := by
        rw [decide_eq_true h0]; rfl
      refine wpAny_binaryOp_repeat_ref (T := "tuple") (U := "int") (by decide) ⟨_, ho, rfl⟩ (fun s' => typeIs_int s' k t) noFill_tuple_mul F.fills_int_mul F.slot_int_rmul repeat_tuple F.slot_int_index.lookup
        (call_meets F.slot_int_rmul (typeIs_int s k t) F.entry_int_rmul (F.args_int_rmul_2 _ _) (int_rmul_tuple k t l its.toArray n dd sl)
          ⟨ho, rfl, ⟨_, ho, rfl⟩, call_meets F.slot_tuple_mul ⟨_, ho, rfl⟩ F.entry_tuple_mul (F.args_tuple_mul_2 _ _) (tuple_mulZ l its.toArray n dd sl k t c0 c1 c2) ⟨ho, ?_⟩⟩)
      have hz0 : k.toNat = 0 := by omega
      refine ⟨.ref s.heap.objs.size, _, I.laid (t' := s.toks) (o := .tup (List.replicate k.toNat xs).flatten) (fun b ob q => Heap.get?_push_of_some _ q) (Nat.le_refl _) ?_, rfl, q2 hb _ (I.hok.fresh (Nat.le_refl _))⟩
      exact ⟨flen2, _, r.rep k.toNat, by rw [hz0]; exact IsTup.new _ _⟩
    · have c2 : (decide (k ≤ 0) || its.toArray.isEmpty) = false := by
        rw [hi, Bool.or_false]
        exact decide_eq_false h0
      have hm : ((its.toArray.size : Nat) : Int) * k ≤ sizeLine := by
        have e : ((xs.length * k.toNat : Nat) : Int) = ((its.toArray.size : Nat) : Int) * k := by
          rw [List.size_toArray, hle, Int.natCast_mul, Int.toNat_of_nonneg (by omega)]
        rw [← e]
        exact Int.ofNat_le.mpr hz
      have hm2 : ((its.toArray.size : Nat) : Int) * k ≤ 16777216 := by rw [sizeLine_eq] at hm; exact hm
      have c4 : Builtin.Tuple.tupleTooMany (((its.toArray.size : Nat) : Int) * k) = false := by
        unfold Builtin.Tuple.tupleTooMany
        rw [sizeLine_eq]
        exact decide_eq_false (by omega)
      refine wpAny_binaryOp_repeat_ref (T := "tuple") (U := "int") (by decide) ⟨_, ho, rfl⟩ (fun s' => typeIs_int s' k t) noFill_tuple_mul F.fills_int_mul F.slot_int_rmul repeat_tuple F.slot_int_index.lookup
        (call_meets F.slot_int_rmul (typeIs_int s k t) F.entry_int_rmul (F.args_int_rmul_2 _ _) (int_rmul_tuple k t l its.toArray n dd sl)
          ⟨ho, rfl, ⟨_, ho, rfl⟩, call_meets F.slot_tuple_mul ⟨_, ho, rfl⟩ F.entry_tuple_mul (F.args_tuple_mul_2 _ _) (tuple_mulW l its.toArray n dd sl k t c0 c1 c2 (by omega) c4 (by rw [size_rep, List.size_toArray]; exact flen)) ⟨ho, ?_⟩⟩)
      rw [size_rep]
      refine ⟨.ref s.heap.objs.size, _, I.laid (t' := s.toks) (o := .tup (List.replicate k.toNat xs).flatten) (fun b ob q => Heap.get?_push_of_some _ q) (Nat.le_refl _) ?_, rfl, q2 hb _ (I.hok.fresh (Nat.le_refl _))⟩
      exact ⟨flen2, _, r.rep k.toNat, IsTup.new _ _⟩
/-- a tuple * k -/
def repT : OD := fun x y Q => match x, y with
  | .tuple xs, .int k => -(2 ^ 30) < k ∧ k < 2 ^ 30 ∧ xs.length * k.toNat ≤ sizeLine ∧ Q (.tuple (List.replicate k.toNat xs).flatten)
  | _, _ => False
theorem repT_tup {Q : PyData → Prop} {xs : List PyData} {k : Int} : repT (.tuple xs) (.int k) Q = (-(2 ^ 30) < k ∧ k < 2 ^ 30 ∧ xs.length * k.toNat ≤ sizeLine ∧ Q (.tuple (List.replicate k.toNat xs).flatten)) := rfl
theorem o_repT : OpD X (binaryOp .Mult) repT := by
  refine ⟨fun x y P Q k q => ?_, fun pins s σ H v u V U Q I rv ru ⟨Z, x, y, dx, dy, q⟩ => ?_⟩
  · unfold repT at q ⊢
    split at q
    · exact ⟨q.1, q.2.1, q.2.2.1, k _ q.2.2.2⟩
    · exact q.elim
  · unfold repT at q
    split at q
    · obtain ⟨a, xs, rfl, h1, h2⟩ := dx_tup dx
      cases dx_int dy
      obtain ⟨q2, q3, q4, q5⟩ := q
      have l := dxAll_len h2
      refine op_repT2 pins s σ H _ _ V U Q I rv ru ⟨a, _, xs, rfl, rfl, h1, q2, q3, by rw [l]; exact q4, fun hb => ?_,
        fun _ p hp => q5 _ _ (same_new hp) (.tup (SqT.of upd_same) (dxAll_monoL (fun _ z => .inl z) (dxAll_rep (dxAll_same (same_new hp) h2) _)))⟩
      refine q5 _ H (Same.refl _) ?_
      rename_i ds k q6
      have e : (List.replicate k.toNat ds).flatten = ds := by
        rcases hb with hb | hb
        · subst hb
          cases h2
          exact List.flatten_replicate_nil
        · subst hb
          simp
      rw [e]
      exact dx_monoL (fun _ z => .inl z) dx
    · exact q.elim
end
end Ev

set_option exponentiation.threshold 256
/-! the layer of data, 18: a tuple the other way round -/
namespace Ev
open PySem PySem.Spec PyProof.Rows L2 PySem.SeqAt
def dRevT (ta : Wp PyData) : Wp PyData := fun ρ Q => ta ρ fun d ρ' => match d with | .tuple xs => Q (.tuple xs.reverse) ρ' | _ => False
section
variable [Lo] {X : Cx}
theorem de_revT {e : Expr} {ta : Wp PyData} {k : Nat} {p1 p2 p3 pos : Pos} (h : DE X e ta) : DE X (.Subscript e (.Slice none none (some (.UnaryOp .USub (.Constant (.int 1) k p1) p2)) p3) pos) (dRevT ta) :=
  ⟨fun ρ P Q k q => h.mono ρ _ _ (fun d ρ' p => by
      cases d with
      | tuple xs => exact k _ _ p
      | _ => exact p.elim) q,
    (pe_revT h.run).weaken fun σ H Q ⟨g, O, ρ, R, q⟩ => lift_go h.mono R q fun d ρ1 O1 H1 v R1 k1 dx p => by
      cases d with
      | tuple xs =>
        obtain ⟨a, vs, rfl, h1, h2⟩ := dx_tup dx
        exact ⟨a, vs, rfl, h1, fun b hb => res_fin R1 (fun O' H' w R' k' dw => p O' H' w R' (k1.trans k') dw) _ (upd H1 b _) (same_new hb) (.tup (SqT.of upd_same) (dxAll_monoL (fun _ z => .inl z) (dxAll_rev (dxAll_same (same_new hb) h2))))⟩
      | _ => exact p.elim⟩
end
end Ev

set_option exponentiation.threshold 256
/-! the layer of data, 19: texts walked, a sign in a text, texts by order, a text split, constant tuples of texts -/
namespace Ev
open PySem PySem.Spec PyProof.Rows L2
theorem dxAll_str {K : PySem.W.Frag} {Z : Addr → Prop} {H : Hp} : ∀ l : List Str, DxAll K Z H (l.map V.str) (l.map .str)
  | [] => .nil
  | c :: l => .cons (.str _) (dxAll_str l)
section
variable [Lo] {X : Cx}
variable {tg e a b o : Expr} {te ta tb to : Wp PyData} {pos p apos : Pos}
def strL (z : Str) : List PyData := z.cps.toList.map fun c => .str ⟨#[c]⟩
theorem strL_len (z : Str) : (strL z).length = z.length := by
  unfold strL
  rw [List.length_map, Array.length_toList]
  rfl
theorem walk_strD {K : PySem.W.Frag} {g : Gh} {z : Str} {O : List Addr} {H : Hp} : ∃ G : List Addr → Hp → Prop, G O H ∧ WalkD K g (Its z) (strL z) G := by
  have e : (strL z).length = z.cps.size := strL_len z
  refine ⟨fun _ _ => True, trivial, fun _ _ _ _ _ _ => trivial, fun O1 H1 i _ hi => ?_, fun _ _ _ => ?_, fun O1 H1 i x H2 _ hi y => ?_⟩
  · rw [e] at hi
    exact hi
  · rw [e]
    exact Nat.le_refl _
  · obtain ⟨rfl, c, hc, rfl⟩ := y
    refine ⟨Same.refl _, .str ⟨#[c]⟩, ?_, .str _⟩
    unfold strL
    rw [List.getElem?_map, Array.getElem?_toList, hc]
    rfl
def wStrI (te : Wp PyData) : Wp (List PyData) := fun ρ Q => te ρ fun d ρ1 => match d with | .str z => Q (strL z) ρ1 | _ => False
theorem di_str (h : DE X e te) : DI X tg e (wStrI te) :=
  ⟨fun ρ P Q k q => h.mono ρ _ _ (fun d ρ1 p => by
    split at p
    · exact k _ _ p
    · exact p) q, (pi_str h.run).weaken fun σ H R ⟨g, O, ρ, rp, q⟩ => lift_go h.mono rp q fun d ρ1 O1 H1 v R1 k1 dx q1 => by
    split at q1
    · cases dx_str dx
      exact ⟨_, rfl, q1 O1 H1 _ R1 k1 walk_strD⟩
    · exact q1.elim⟩
/-- a sign in a text -/
def inSD : OD := fun x y Q => match x, y with
  | .str x, .str z => ∃ c : Nat, x = ⟨#[c]⟩ ∧ Q (.bool (decide (c ∈ z.cps.toList)))
  | _, _ => False
theorem inSD_one {c : Nat} {z : Str} {Q : PyData → Prop} : inSD (.str ⟨#[c]⟩) (.str z) Q = Q (.bool (decide (c ∈ z.cps.toList))) := by
  refine propext ⟨fun ⟨c', e, q⟩ => ?_, fun q => ⟨c, rfl, q⟩⟩
  injection e with e
  have e2 : [c] = [c'] := congrArg Array.toList e
  injection e2 with e2
  subst e2
  exact q
theorem o_inS : OpD X (compareOp .In) inSD := by
  refine ⟨fun x y P Q k q => ?_, fun pins s σ H v u V U Q I rv ru ⟨Z, x, y, dx, dy, q⟩ => ?_⟩
  · unfold inSD at q ⊢
    split at q
    · obtain ⟨c, e, q⟩ := q
      exact ⟨c, e, k _ q⟩
    · exact q
  · unfold inSD at q
    split at q
    · obtain ⟨c, rfl, q⟩ := q
      cases dx_str (show Dx X.K Z H v _ from dx)
      cases dx_str (show Dx X.K Z H u _ from dy)
      exact op_in_sign pins s σ H _ _ _ _ Q I rv ru ⟨c, _, rfl, rfl, q _ H (Same.refl _) (.bl _)⟩
    · exact q.elim
/-- texts by order -/
def ordSD (f : Str → Str → Bool) : OD := fun x y Q => match x, y with
  | .str a, .str b => Q (.bool (f a b))
  | _, _ => False
theorem ordSD_str {f : Str → Str → Bool} {a b : Str} {Q : PyData → Prop} : ordSD f (.str a) (.str b) Q = Q (.bool (f a b)) := rfl
theorem o_leS : OpD X (compareOp .LtE) (ordSD fun a b => !decide (b.cps.toList < a.cps.toList)) := by
  refine ⟨fun x y P Q k q => ?_, fun pins s σ H v u V U Q I rv ru ⟨Z, x, y, dx, dy, q⟩ => ?_⟩
  · unfold ordSD at q ⊢
    split at q
    · exact k _ q
    · exact q
  · unfold ordSD at q
    split at q
    · cases dx_str (show Dx X.K Z H v _ from dx)
      cases dx_str (show Dx X.K Z H u _ from dy)
      exact op_le_str pins s σ H _ _ _ _ Q I rv ru ⟨_, _, rfl, rfl, q _ H (Same.refl _) (.bl _)⟩
    · exact q.elim
/-- a text split -/
def dSplit (to ta : Wp PyData) : Wp (List PyData) := fun ρ Q => to ρ fun x ρ1 => match x with
  | .str a => ta ρ1 fun y ρ2 => match y with
    | .str b => (b.length == 0) = false ∧ a.length + 2 ≤ sizeLine ∧ Q ((Txt.split a b).map .str) ρ2
    | _ => False
  | _ => False
theorem df_split (ho : DE X o to) (ha : DE X a ta) (hs : starEach [a] X.env = [(false, eval a X.env)] := by rfl) (hbase : attributeBase o "split" X.env (eval o X.env) = eval o X.env := by rfl) (hline : (apos.endLine == pos.line) = true := by rfl) :
    DF X (.Call (.Attribute o "split" apos) [a] [] pos) (dSplit to ta) := by
  refine ⟨fun ρ P Q k q => ho.mono ρ _ _ (fun x ρ1 p => ?_) q, (pe_split ho.run ha.run hs hbase hline).weaken fun σ H Q ⟨g, O, ρ, R, q⟩ => lift_go ho.mono R q fun x ρ1 O1 H1 v R1 k1 dx q1 => ?_⟩
  · split at p
    · refine ha.mono ρ1 _ _ (fun y ρ2 p2 => ?_) p
      split at p2
      · exact ⟨p2.1, p2.2.1, k _ _ p2.2.2⟩
      · exact p2
    · exact p
  · split at q1
    · rename_i z
      cases dx_str dx
      refine ⟨⟨_, rfl⟩, lift_go ha.mono R1 q1 fun y ρ2 O2 H2 u R2 k2 dy q2 => ?_⟩
      split at q2
      · rename_i s
        cases dx_str dy
        refine ⟨z, s, rfl, rfl, q2.1, q2.2.1, fun l hl => ?_⟩
        obtain ⟨R3, n, k3⟩ := R2.fresh1 hl (.lst ((Txt.split z s).map V.str))
        exact q2.2.2 (l :: O2) _ _ R3 ((k1.trans k2).trans k3) ⟨l, _, O2, rfl, rfl, fun m => R2.live l m hl, fun m => R2.live l ((k1.trans k2).sub l m) hl, n, upd_same, dxAll_str _⟩
      · exact q2.elim
    · exact q1.elim
end
/-- a constant tuple of texts -/
theorem dx_tabT {K : PySem.W.Frag} {Z : Addr → Prop} {H : Hp} {a : Addr} {l : List Str} (h : SqT K H a (l.map V.str)) : Dx K Z H (.ref a) (.tuple (l.map .str)) := .tup h (dxAll_str l)
end Ev

set_option exponentiation.threshold 256
/-! the layer of data, 20: two lists as a new one of one's own, no sign of a text, bools beside ints -/
namespace Ev
open PySem PySem.Spec PyProof.Rows L2
section
variable [Lo] {X : Cx}
variable {e a b : Expr} {ta tb : Wp PyData} {pos : Pos} {i : Nat}
def catF (ta tb : Wp PyData) : Wp (List PyData) := fun ρ Q => ta ρ fun x ρ1 => tb ρ1 fun y ρ2 => match x, y with
  | .list xs, .list ys => xs.length + ys.length ≤ sizeLine ∧ Q (xs ++ ys) ρ2
  | _, _ => False
theorem df_cat (ha : DE X a ta) (hb : DR X b tb) : DF X (.BinOp a .Add b pos) (catF ta tb) := by
  refine ⟨fun ρ P Q k q => ha.mono ρ _ _ (fun x ρ1 p => hb.mono ρ1 _ _ (fun y ρ2 p2 => ?_) p) q, (pe_op op_cat ha.run hb.run).weaken fun σ H Q ⟨g, O, ρ, R, q⟩ => lift_go ha.mono R q fun x ρ1 O1 H1 v R1 k1 dx q1 => lift_go hb.mono R1 q1 fun y ρ2 O2 H2 u R2 k2 dy q2 => ?_⟩
  · split at p2
    · exact ⟨p2.1, k _ _ p2.2⟩
    · exact p2
  · split at q2
    · obtain ⟨a, xs, rfl, h1, h2⟩ := dx_s (k2.dat _ _ dx)
      obtain ⟨b, ys, rfl, h3, h4⟩ := dy
      exact ⟨a, b, xs, ys, rfl, rfl, h1, h3, by rw [dxAll_len h2, dxAll_len h4]; exact q2.1, fun p hp => by
        obtain ⟨R3, n, k3⟩ := R2.fresh1 hp (.lst (xs ++ ys))
        exact q2.2 (p :: O2) _ _ R3 ((k1.trans k2).trans k3) ⟨p, _, O2, rfl, rfl, fun m => R2.live p m hp, fun m => R2.live p ((k1.trans k2).sub p m) hp, n, upd_same, k3.dat.all (dxAll_app h2 h4)⟩⟩
    · exact q2.elim
/-- the first is one's own -/
def catFO (i : Nat) (tb : Wp PyData) : Wp (List PyData) := fun ρ Q => match ρ[i]? with
  | some (.own _) => tb ρ fun y ρ2 => match ρ2[i]?, y with
    | some (.own xs), .list ys => xs.length + ys.length ≤ sizeLine ∧ Q (xs ++ ys) ρ2
    | _, _ => False
  | _ => False
theorem df_cato (ha : PE X a (tVar i)) (hb : DR X b tb) : DF X (.BinOp a .Add b pos) (catFO i tb) := by
  refine ⟨fun ρ P Q k q => ?_, (pe_op op_cat ha hb.run).weaken fun σ H Q ⟨g, O, ρ, R, q⟩ => ?_⟩
  · unfold catFO at q ⊢
    split at q
    · refine hb.mono ρ _ _ (fun y ρ2 p2 => ?_) q
      split at p2
      · exact ⟨p2.1, k _ _ p2.2⟩
      · exact p2
    · exact q.elim
  · unfold catFO at q
    split at q
    · rename_i e
      obtain ⟨p0, _, h0, _⟩ := R.own e
      refine ⟨.ref p0, h0, lift_go hb.mono R q fun y ρ2 O2 H2 u R2 k2 dy q2 => ?_⟩
      split at q2
      · rename_i xs ys e
        obtain ⟨p, vs, h1, h2, h3⟩ := R2.own e
        rw [h0] at h1
        cases h1
        obtain ⟨b, ws, rfl, h4, h5⟩ := dy
        exact ⟨p0, b, vs, ws, rfl, rfl, h2, h4, by rw [dxAll_len h3, dxAll_len h5]; exact q2.1, fun p hp => by
          obtain ⟨R3, n, k3⟩ := R2.fresh1 hp (.lst (vs ++ ws))
          exact q2.2 (p :: O2) _ _ R3 (k2.trans k3) ⟨p, _, O2, rfl, rfl, fun m => R2.live p m hp, fun m => R2.live p (k2.sub p m) hp, n, upd_same, k3.dat.all (dxAll_app h3 h5)⟩⟩
      · exact q2.elim
    · exact q.elim
/-- no sign of a text -/
def notInSD : OD := fun x y Q => match x, y with
  | .str x, .str z => ∃ c : Nat, x = ⟨#[c]⟩ ∧ Q (.bool (!decide (c ∈ z.cps.toList)))
  | _, _ => False
theorem notInSD_one {c : Nat} {z : Str} {Q : PyData → Prop} : notInSD (.str ⟨#[c]⟩) (.str z) Q = Q (.bool (!decide (c ∈ z.cps.toList))) := by
  refine propext ⟨fun ⟨c', e, q⟩ => ?_, fun q => ⟨c, rfl, q⟩⟩
  injection e with e
  have e2 : [c] = [c'] := congrArg Array.toList e
  injection e2 with e2
  subst e2
  exact q
theorem o_notInS : OpD X (compareOp .NotIn) notInSD := by
  refine ⟨fun x y P Q k q => ?_, fun pins s σ H v u V U Q I rv ru ⟨Z, x, y, dx, dy, q⟩ => ?_⟩
  · unfold notInSD at q ⊢
    split at q
    · obtain ⟨c, e, q⟩ := q
      exact ⟨c, e, k _ q⟩
    · exact q
  · unfold notInSD at q
    split at q
    · obtain ⟨c, rfl, q⟩ := q
      cases dx_str (show Dx X.K Z H v _ from dx)
      cases dx_str (show Dx X.K Z H u _ from dy)
      exact op_notIn_sign pins s σ H _ _ _ _ Q I rv ru ⟨c, _, rfl, rfl, q _ H (Same.refl _) (.bl _)⟩
    · exact q.elim
/-- bools beside ints -/
def bI (b : Bool) : Int := if b = true then 1 else 0
def intB (f : Int → Int → Int) : OD := fun x y Q => match x, y with
  | .int i, .int j => Q (.int (f i j))
  | .bool b, .int j => Q (.int (f (bI b) j))
  | _, _ => False
theorem intB_int {f : Int → Int → Int} {i j : Int} {Q : PyData → Prop} : intB f (.int i) (.int j) Q = Q (.int (f i j)) := rfl
theorem intB_bool {f : Int → Int → Int} {b : Bool} {j : Int} {Q : PyData → Prop} : intB f (.bool b) (.int j) Q = Q (.int (f (bI b) j)) := rfl
theorem intB_mono {f : Int → Int → Int} : ∀ x y P Q, (∀ r, P r → Q r) → intB f x y P → intB f x y Q := fun x y P Q k q => by
  unfold intB at q ⊢
  split at q <;> first | exact k _ q | exact q.elim
theorem o_addB : OpD X (binaryOp .Add) (intB fun i j => i + j) := by
  refine ⟨intB_mono, fun pins s σ H v u V U Q I rv ru ⟨Z, x, y, dx, dy, q⟩ => ?_⟩
  unfold intB at q
  split at q
  · cases dx_int dx
    cases dx_int dy
    exact op_add pins s σ H _ _ V U Q I rv ru ⟨_, _, rfl, rfl, q _ H (Same.refl _) (.int _)⟩
  · rename_i b j
    cases dx_bool dx
    cases dx_int dy
    obtain rfl : V = Value.bool b := rv
    obtain ⟨t, rfl⟩ := ru
    exact IntBool.add_bool_int ⟨.int _, H, I.tok _, ⟨_, rfl⟩, q _ H (Same.refl _) (.int _)⟩
  · exact q.elim
theorem o_subB : OpD X (binaryOp .Sub) (intB fun i j => i - j) := by
  refine ⟨intB_mono, fun pins s σ H v u V U Q I rv ru ⟨Z, x, y, dx, dy, q⟩ => ?_⟩
  unfold intB at q
  split at q
  · cases dx_int dx
    cases dx_int dy
    exact op_sub pins s σ H _ _ V U Q I rv ru ⟨_, _, rfl, rfl, q _ H (Same.refl _) (.int _)⟩
  · rename_i b j
    cases dx_bool dx
    cases dx_int dy
    obtain rfl : V = Value.bool b := rv
    obtain ⟨t, rfl⟩ := ru
    exact IntBool.sub_bool_int ⟨.int _, H, I.tok _, ⟨_, rfl⟩, q _ H (Same.refl _) (.int _)⟩
  · exact q.elim
end
end Ev

set_option exponentiation.threshold 256
/-! the layer of data, 21: two lists of the same texts are equal (whatever signs the texts have) -/
namespace Ev
open PySem PySem.Spec PyProof.Rows L2
def eqTx : OD := fun x y Q => ∃ ts : List Str, x = .list (ts.map .str) ∧ y = .list (ts.map .str) ∧ Q (.bool true)
theorem tx_paired {K : PySem.W.Frag} {Z : Addr → Prop} {H : Hp} : ∀ {ts : List Str} {vs ws : List V}, DxAll K Z H vs (ts.map PyData.str) → DxAll K Z H ws (ts.map PyData.str) → Paired (EqV K H 1) vs ws
  | [], _, _, .nil, .nil => .nil
  | t :: ts, _, _, .cons h1 r1, .cons h2 r2 => by
    cases h1
    cases h2
    exact .cons (.inl ⟨rfl, rfl⟩) (tx_paired r1 r2)
theorem o_eqTx {X : Cx} (hu : X.A.units + 64 < cLine) : OpD X (compareOp .Eq) eqTx := by
  refine ⟨fun x y P Q k ⟨ts, a, b, q⟩ => ⟨ts, a, b, k _ q⟩, fun pins s σ H v u V U Q I rv ru ⟨Z, x, y, dx, dy, ts, e1, e2, q⟩ => ?_⟩
  subst e1 e2
  obtain ⟨a, vs, rfl, ha, h1⟩ := dx
  obtain ⟨b, ws, rfl, hb, h2⟩ := dy
  exact op_eqV hu pins s σ H _ _ V U Q I rv ru ⟨1, by decide, .inl ⟨a, b, vs, ws, rfl, rfl, SqL.of ha, SqL.of hb, tx_paired h1 h2⟩, q _ H (Same.refl _) (.bl _)⟩
end Ev

set_option exponentiation.threshold 256
/-! the layer of data, 22: texts of tuples of whole numbers tell them apart -/
namespace Ev
open PySem PySem.Spec PyProof.Rows L2
def isDg (c : Nat) : Bool := c == 45 || (decide (48 ≤ c) && decide (c ≤ 57))
/-- the runs of figures and signs, one after the other -/
def runs : List Nat → List Nat → List (List Nat)
  | cur, [] => if cur.isEmpty then [] else [cur]
  | cur, c :: r => if isDg c then runs (cur ++ [c]) r else (if cur.isEmpty then runs [] r else cur :: runs [] r)
theorem runs_word : ∀ (w cur r : List Nat), (∀ c ∈ w, isDg c = true) → runs cur (w ++ r) = runs (cur ++ w) r
  | [], cur, r, _ => by rw [List.append_nil]; rfl
  | c :: w, cur, r, h => by
    have ih := runs_word w (cur ++ [c]) r fun x hx => h x (List.mem_cons_of_mem _ hx)
    rw [List.cons_append, runs, if_pos (h c (List.mem_cons_self ..)), ih, List.append_assoc]
    rfl
theorem runs_cut {cur : List Nat} (h : cur ≠ []) {c : Nat} (hc : isDg c = false) (r : List Nat) : runs cur (c :: r) = cur :: runs [] r := by
  rw [runs, if_neg (by rw [hc]; exact Bool.false_ne_true), if_neg (by cases cur <;> simp_all)]
theorem runs_skip {c : Nat} (hc : isDg c = false) (r : List Nat) : runs [] (c :: r) = runs [] r := by
  rw [runs, if_neg (by rw [hc]; exact Bool.false_ne_true)]
  rfl
def jn : List (List Nat) → List Nat
  | [] => []
  | [x] => x
  | x :: y :: r => x ++ [44, 32] ++ jn (y :: r)
def Wd (w : List Nat) : Prop := w ≠ [] ∧ ∀ c ∈ w, isDg c = true
theorem runs_jn {tl : List Nat} (ht : tl = [44, 41] ∨ tl = [41]) : ∀ ws : List (List Nat), (∀ w ∈ ws, Wd w) → runs [] (jn ws ++ tl) = ws
  | [], _ => by rcases ht with rfl | rfl <;> decide
  | [x], h => by
    have hx := h x (List.mem_cons_self ..)
    rw [jn, runs_word x [] tl hx.2, List.nil_append]
    rcases ht with rfl | rfl
    · rw [runs_cut hx.1 (by decide), runs_skip (by decide)]
      rfl
    · rw [runs_cut hx.1 (by decide)]
      rfl
  | x :: y :: r, h => by
    have hx := h x (List.mem_cons_self ..)
    have ih := runs_jn ht (y :: r) fun w hw => h w (List.mem_cons_of_mem _ hw)
    rw [jn, List.append_assoc, List.append_assoc, runs_word x [] _ hx.2, List.nil_append]
    show runs x (44 :: 32 :: (jn (y :: r) ++ tl)) = _
    rw [runs_cut hx.1 (by decide), runs_skip (by decide), ih]
theorem join_cps : ∀ ts : List Str, (Str.join ", " ts).cps.toList = jn (ts.map fun t => t.cps.toList)
  | [] => by rw [join_nil]; rfl
  | [x] => by rw [join_one]; rfl
  | x :: y :: r => by
    rw [join_cons_cons, cps_toList_append, cps_toList_append, join_cps (y :: r), signs_sep]
    rfl
end Ev

set_option exponentiation.threshold 256
/-! the layer of data, 23: two tuples of whole numbers that are shown alike are one -/
namespace Ev
open PySem PySem.Spec PyProof.Rows L2
abbrev icps (i : Int) : List Nat := (PyData.int i).shown.cps.toList
theorem icps_eq (i : Int) : icps i = (toString i : String).toList.map Char.toNat := by
  unfold icps
  rw [PyData.shown_int, signs_ofString]
theorem icps_wd (i : Int) : Wd (icps i) := by
  refine ⟨fun h => ?_, fun c hc => ?_⟩
  · rw [icps_eq, List.map_eq_nil_iff, Int.toString_eq_repr, Int.repr_eq_if] at h
    split at h
    · rw [Nat.toList_repr] at h
      exact absurd h (Nat.toDigits_ne_nil)
    · rw [String.toList_append] at h
      have := (List.append_eq_nil_iff.mp h).1
      revert this
      decide
  · rw [icps_eq] at hc
    obtain ⟨ch, hch, rfl⟩ := List.mem_map.mp hc
    rcases int_sign i ch hch with hd | hd
    · have := digit_range hd
      unfold isDg
      rw [decide_eq_true this.1, decide_eq_true this.2]
      simp
    · rw [hd]
      decide
theorem icps_inj {i j : Int} (h : icps i = icps j) : i = j := by
  rw [icps_eq, icps_eq] at h
  have h2 : (toString i : String).toList = (toString j : String).toList := (List.map_inj_right (fun a b e => Char.toNat_inj.mp e)).mp h
  have h3 : (toString i : String) = toString j := String.toList_inj.mp h2
  rw [Int.toString_eq_repr, Int.toString_eq_repr] at h3
  exact Int.repr_inj.mp h3
theorem shownAll_ints : ∀ {xs : List PyData}, (∀ x ∈ xs, ∃ i : Int, x = .int i) → ∃ ns : List Int, xs = ns.map .int ∧ (PyData.shownAll xs).map (fun t => t.cps.toList) = ns.map icps
  | [], _ => ⟨[], rfl, by rw [PyData.shownAll_nil]; rfl⟩
  | x :: xs, h => by
    obtain ⟨i, rfl⟩ := h x (List.mem_cons_self ..)
    obtain ⟨ns, rfl, e⟩ := shownAll_ints (xs := xs) fun y hy => h y (List.mem_cons_of_mem _ hy)
    exact ⟨i :: ns, rfl, by rw [PyData.shownAll_cons, List.map_cons, e]; rfl⟩
theorem runs_shown {xs : List PyData} {ns : List Int} (e : (PyData.shownAll xs).map (fun t => t.cps.toList) = ns.map icps) : runs [] (PyData.tuple xs).shown.cps.toList = ns.map icps := by
  have s : (PyData.tuple xs).shown = tupleText (PyData.shownAll xs) := by rw [PyData.shown]
  rw [s]
  unfold tupleText
  rw [cps_toList_append, cps_toList_append, signs_lparen, join_cps, e]
  have tl : ∀ b : Bool, (((if b then ",)" else ")" : String) : Str)).cps.toList = [44, 41] ∨ (((if b then ",)" else ")" : String) : Str)).cps.toList = [41] := fun b => by
    cases b
    · exact .inr (by decide)
    · exact .inl (by decide)
  show runs [] (40 :: (jn (ns.map icps) ++ _)) = _
  rw [runs_skip (by decide)]
  exact runs_jn (tl _) _ fun w hw => by
    obtain ⟨i, _, rfl⟩ := List.mem_map.mp hw
    exact icps_wd i
theorem shown_ints_inj {xs ys : List PyData} (h : ∀ x ∈ xs, ∃ i : Int, x = .int i) (k : ∀ x ∈ ys, ∃ i : Int, x = .int i) (e : (PyData.tuple xs).shown = (PyData.tuple ys).shown) : xs = ys := by
  obtain ⟨ns, rfl, e1⟩ := shownAll_ints h
  obtain ⟨ms, rfl, e2⟩ := shownAll_ints k
  have r1 := runs_shown e1
  have r2 := runs_shown e2
  rw [e, r2] at r1
  rw [(List.map_inj_right (fun a b e => icps_inj e)).mp r1]
end Ev

set_option exponentiation.threshold 256
/-! the layer of data, 24: str(a tuple) -/
namespace Ev
open PySem PySem.Spec PyProof.Rows L2
def strTD : UD := fun x Q => match x with
  | .tuple xs => PyData.hasDictAll xs = false ∧ showD (.tuple xs) ∧ Q (.str (PyData.tuple xs).shown)
  | _ => False
theorem strTD_tup {xs : List PyData} {Q : PyData → Prop} : strTD (.tuple xs) Q = (PyData.hasDictAll xs = false ∧ showD (.tuple xs) ∧ Q (.str (PyData.tuple xs).shown)) := rfl
section
variable [Lo] {X : Cx}
theorem c_strT (hG : X.A.guards = some []) (hu : X.A.units + 64 < cLine) : C1 X (.type "str") strTD := by
  refine ⟨fun x P Q k q => ?_, fun pins s σ H vs us Q I r ⟨Z, v, x, e, dx, q⟩ => ?_⟩
  · unfold strTD at q ⊢
    split at q <;> first | exact ⟨q.1, q.2.1, k _ q.2.2⟩ | exact q.elim
  · subst e
    unfold strTD at q
    split at q
    · obtain ⟨hd, ⟨h1, h2, h3⟩, q⟩ := q
      obtain ⟨u, rfl, ru⟩ := vals1 r
      have dy := dxs_any dx
      obtain ⟨as, rd⟩ := dx_reads I dy (u := u) ru
      obtain ⟨a, ws, rfl, _, _⟩ := dx_tup dx
      cases ru
      exact str_of_reads rd h1 (fun z => by rw [PyData.hasDict, hd] at z; cases z) hG (by omega) (fun _ _ e => e) (fun h' u tk hk => ⟨.str _, H, I.kept hk, ⟨_, rfl⟩, q _ H (Same.refl _) (.str _)⟩) h2
    · exact q.elim
end
end Ev

set_option exponentiation.threshold 256
/-! the layer of data, 25: data of any kind in a row of texts; a list of one's own that is lent -/
namespace Ev
open PySem PySem.Spec PyProof.Rows L2 PySem.SeqAt
theorem rcAt_str_dict {A : Around} {s : Shared} {l : Addr} {es : Array DictEntry} {n : Nat} {dd : Option Addr} {sl : Array (Option Value)} (b : Str) (u : Tok) (ho : s.heap.get? l = some { cls := .type "dict", dict := dd, data := .dict es n, slots := sl }) (hu : A.units < cLine) : RcAt A s (.str b u) (.ref l) false := fun prog w E Q h =>
  rc_eq_decline_or (k := false) (typeIs_str s b u) ⟨_, ho, rfl⟩ (by decide) F.sub_dict_str F.slot_str_eq F.slot_dict_eq_refl
    (fun _ hq => call_meets F.slot_str_eq (typeIs_str s b u) F.entry_str_eq (F.args_str_eq_2 _ _) (str_eq_declines_dict b u l (.type "dict") es n dd sl) ⟨ho, hq⟩)
    (fun _ hq => call_meets F.slot_dict_eq_refl ⟨_, ho, rfl⟩ F.entry_dict_eq (F.args_dict_eq_2 _ _) (dict_eq_declines_str l es n dd sl b u) ⟨ho, hq⟩)
    (fun _ hq => wpAny_of_eq (rfl : isSame (.str b u) (.ref l) = pure false) hq) (.inr hu) h
theorem eqAt_str_dict {A : Around} {s : Shared} {l : Addr} {es : Array DictEntry} {n : Nat} {dd : Option Addr} {sl : Array (Option Value)} (b : Str) (u : Tok) (ho : s.heap.get? l = some { cls := .type "dict", dict := dd, data := .dict es n, slots := sl }) (hu : A.units < cLine) : EqAt A s (.str b u) (.ref l) false := fun prog w E Q h => by
  unfold eqBool
  refine wpAny_holding ?_
  refine wpAny_ite_split (fun hab => absurd (eq_of_beq hab) nofun) (fun _ => ?_)
  exact wpAny_bind (rcAt_str_dict b u ho hu prog w E _ (wpAny_truthy_bool h))
section
variable [Lo] {X : Cx}
theorem str_any {A : Around} {Z : Addr → Prop} {H : Hp} {pins : List (Addr × Obj)} {s : Shared} {σ : L2.St} {v : V} {V1 : Value} {x : PyData} (I : L2.Inv X pins σ H s) (rv : L2.RelV v V1) (dx : DxS X.K Z H v x) (z : Str) (u : Tok) (hu : A.units < cLine) :
    EqAt A s (.str z u) V1 (isS z x) := by
  cases x with
  | list xs =>
    obtain ⟨a, vs, rfl, h1, h2⟩ := dx
    obtain rfl : V1 = Value.ref a := rv
    obtain ⟨its, _, pl, _⟩ := I.list (SqL.of h1)
    exact EqAt.str_list z u pl.isList hu
  | none =>
    cases (show Dx X.K Z H v _ from dx)
    cases (show V1 = Value.none from rv)
    exact EqAt.str_none z u
  | bool b =>
    cases (show Dx X.K Z H v _ from dx)
    cases (show V1 = Value.bool b from rv)
    exact EqAt.str_bool z u b
  | int i =>
    cases (show Dx X.K Z H v _ from dx)
    obtain ⟨t, rfl⟩ := (show ∃ t, V1 = Value.int i t from rv)
    exact EqAt.str_int z u i t
  | str y =>
    cases (show Dx X.K Z H v _ from dx)
    obtain ⟨t, rfl⟩ := (show ∃ t, V1 = Value.str y t from rv)
    have a := EqAt.str_str (A := A) (s := s) z u y t
    have e : (z == y) = isS z (.str y) := by
      rw [str_beq']
      show decide (z = y) = decide (y = z)
      rw [decide_eq_decide]
      exact eq_comm
    rw [e] at a
    exact a
  | tuple xs =>
    obtain ⟨a, vs, rfl, h1, h2⟩ := dx_tup (show Dx X.K Z H v _ from dx)
    obtain rfl : V1 = Value.ref a := rv
    obtain ⟨its, _, pl, _⟩ := I.tuple h1
    exact EqAt.str_tuple z u pl hu
  | dict kv =>
    obtain ⟨a, kvs, rfl, h1, _, h2⟩ := dx_dct (show Dx X.K Z H v _ from dx)
    obtain rfl : V1 = Value.ref a := rv
    obtain ⟨_, _, vs, _, ⟨⟨oc, od, odt, osl⟩, es, ep, ho, ⟨c1, c2, c3⟩, hd, _⟩⟩ := dk_of I.hok h1
    have c1' : oc = Value.type "dict" := c1
    have c2' : od = none := c2
    have hd' : odt = Data.dict es ep := hd
    subst c1' c2' hd'
    exact eqAt_str_dict z u ho hu
/-- one of some texts -/
def isOne (ts : List Str) (x : PyData) : Bool := ts.any fun z => isS z x
def inTx (neg : Bool) : OD := fun x y Q => ∃ ts : List Str, y = .list (ts.map .str) ∧ Q (.bool (if neg then !isOne ts x else isOne ts x))
def eqU1 (x : PyData) : Value → Bool
  | .str z _ => isS z x
  | _ => false
theorem txs_vals {K : PySem.W.Frag} {Z : Addr → Prop} {H : Hp} : ∀ {ts : List Str} {vs : List V} {us : List Value}, DxAll K Z H vs (ts.map PyData.str) → Vals vs us → ∀ x : PyData, us.any (eqU1 x) = isOne ts x ∧ ∀ y ∈ us, ∃ z u, y = Value.str z u
  | [], _, _, .nil, .nil, x => ⟨rfl, fun y hy => nomatch hy⟩
  | t :: ts, _, _, .cons h1 r1, .cons h2 r2, x => by
    cases h1
    obtain ⟨u, rfl⟩ := h2
    obtain ⟨a, b⟩ := txs_vals r1 r2 x
    refine ⟨?_, fun y hy => ?_⟩
    · rw [List.any_cons, a]
      rfl
    · rcases List.mem_cons.mp hy with rfl | hy
      · exact ⟨_, _, rfl⟩
      · exact b y hy
theorem o_inTx (hu : X.A.units + 64 < cLine) : OpD X (compareOp .In) (inTx false) := by
  refine ⟨fun x y P Q k ⟨ts, a, q⟩ => ⟨ts, a, k _ q⟩, fun pins s σ H v u V U Q I rv ru ⟨Z, x, y, dx, dy, ts, e, q⟩ => ?_⟩
  subst e
  obtain ⟨a, vs, rfl, ha, h1⟩ := dy
  obtain rfl : U = Value.ref a := ru
  obtain ⟨its, rvs, pl, _⟩ := I.list (SqL.of ha)
  have rvs' : Vals vs its := rvs
  obtain ⟨e1, e2⟩ := txs_vals h1 rvs' x
  refine in_listAt (eqU1 x) pl.isList (fun w hw => ?_) ⟨.bl _, H, I, rfl, ?_⟩
  · obtain ⟨z, t, rfl⟩ := e2 w (by simpa using hw)
    exact str_any I rv dx z t (by show X.A.units + 1 < cLine; omega)
  · rw [show its.toArray.any (eqU1 x) = its.any (eqU1 x) by simp, e1]
    exact q _ H (Same.refl _) (.bl _)
theorem o_notInTx (hu : X.A.units + 64 < cLine) : OpD X (compareOp .NotIn) (inTx true) := by
  refine ⟨fun x y P Q k ⟨ts, a, q⟩ => ⟨ts, a, k _ q⟩, fun pins s σ H v u V U Q I rv ru ⟨Z, x, y, dx, dy, ts, e, q⟩ => ?_⟩
  subst e
  obtain ⟨a, vs, rfl, ha, h1⟩ := dy
  obtain rfl : U = Value.ref a := ru
  obtain ⟨its, rvs, pl, _⟩ := I.list (SqL.of ha)
  have rvs' : Vals vs its := rvs
  obtain ⟨e1, e2⟩ := txs_vals h1 rvs' x
  refine notIn_listAt (eqU1 x) pl.isList (fun w hw => ?_) ⟨.bl _, H, I, rfl, ?_⟩
  · obtain ⟨z, t, rfl⟩ := e2 w (by simpa using hw)
    exact str_any I rv dx z t (by show X.A.units + 1 < cLine; omega)
  · rw [show its.toArray.any (eqU1 x) = its.any (eqU1 x) by simp, e1]
    exact q _ H (Same.refl _) (.bl _)
end
theorem inTx_list {neg : Bool} {x : PyData} {ts : List Str} {Q : PyData → Prop} (q : Q (.bool (if neg then !isOne ts x else isOne ts x))) : inTx neg x (.list (ts.map .str)) Q := ⟨ts, rfl, q⟩
/-! ### data without lists and dicts -/
mutual
def noLi : PyData → Bool
  | .none => true
  | .bool _ => true
  | .int _ => true
  | .str _ => true
  | .list _ => false
  | .tuple xs => noLis xs
  | .dict _ => false
def noLis : List PyData → Bool
  | [] => true
  | x :: xs => noLi x && noLis xs
end
mutual
theorem dx_noL {K : PySem.W.Frag} {Z Z' : Addr → Prop} {H : Hp} : ∀ {v : V} {d : PyData}, Dx K Z H v d → noLi d = true → Dx K Z' H v d
  | _, _, .non, _ => .non
  | _, _, .bl b, _ => .bl b
  | _, _, .int i, _ => .int i
  | _, _, .str x, _ => .str x
  | _, _, .lst e z h, n => by simp only [noLi] at n; cases n
  | _, _, .tup e h, n => .tup e (dxAll_noL h (by simpa only [noLi] using n))
  | _, _, .dct e z h, n => by simp only [noLi] at n; cases n
theorem dxAll_noL {K : PySem.W.Frag} {Z Z' : Addr → Prop} {H : Hp} : ∀ {vs : List V} {ds : List PyData}, DxAll K Z H vs ds → noLis ds = true → DxAll K Z' H vs ds
  | _, _, .nil, _ => .nil
  | _, _, .cons h r, n => by
    simp only [noLis, Bool.and_eq_true] at n
    exact .cons (dx_noL h n.1) (dxAll_noL r n.2)
end
/-! ### a list of one's own that is lent -/
section
variable [Lo] {X : Cx}
/-- what is lent: addresses of one's own -/
def Zl (g : Gh) (O B : List Addr) : Addr → Prop := fun a => Zof g O a ∨ a ∈ B
def PAl (K : PySem.W.Frag) : Bear (List SV) (List V) := fun g _ O _ _ H vs ss => ∃ B : List Addr, (∀ p ∈ B, ¬ g.lo.has p ∧ H p ≠ none) ∧ ArgsOk K g.lo (Zl g O B) H ss vs
structure DGb (X : Cx) (es : List Expr) (t : Wp (List SV)) : Prop where
  mono : Mono t
  run : PA X es (lift X.K (PAl X.K) t)
def gOwnB (i : Nat) (t : Wp (List SV)) : Wp (List SV) := fun ρ Q => match ρ[i]? with
  | some (.own _) => t ρ fun xs ρ2 => match ρ2[i]? with
    | some (.own ys) => Q (.d (.list ys) :: xs) ρ2
    | _ => False
  | _ => False
variable {e : Expr} {es : List Expr} {ta : Wp PyData} {ts : Wp (List SV)}
theorem dgb_nil : DGb X [] gNilD := ⟨fun ρ P Q k q => k _ _ q, pa_nil.weaken fun σ H Q ⟨g, O, ρ, R, q⟩ => q O H [] R Kp1.refl ⟨[], fun p hp => (nomatch hp), .nil⟩⟩
theorem dgb_cons (ha : DE X e ta) (hr : DGb X es ts) (hs : starEach (e :: es) X.env = (false, eval e X.env) :: starEach es X.env := by rfl) : DGb X (e :: es) (gConsD ta ts) :=
  ⟨fun ρ P Q k q => ha.mono ρ _ _ (fun x ρ1 p => hr.mono ρ1 _ _ (fun xs ρ2 p2 => k _ _ p2) p) q, (pa_cons ha.run hr.run hs).weaken fun σ H Q ⟨g, O, ρ, R, q⟩ => lift_go ha.mono R q fun x ρ1 O1 H1 v R1 k1 dx q1 =>
    lift_go hr.mono R1 q1 fun xs ρ2 O2 H2 vs R2 k2 ⟨B, hB, dxs⟩ q2 => q2 O2 H2 (v :: vs) R2 (k1.trans k2) ⟨B, hB, .cons (dx_monoL (fun _ z => .inl z) (k2.dat _ _ dx)) dxs⟩⟩
theorem dgb_lm {i : Nat} (ha : PE X e (tVar i)) (hr : DGb X es ts) (hs : starEach (e :: es) X.env = (false, eval e X.env) :: starEach es X.env := by rfl) : DGb X (e :: es) (gLm i ts) := by
  refine ⟨fun ρ P Q k q => ?_, (pa_cons ha hr.run hs).weaken fun σ H Q ⟨g, O, ρ, R, q⟩ => ?_⟩
  · unfold gLm at q ⊢
    split at q
    · exact hr.mono ρ _ _ (fun xs ρ2 p2 => k _ _ p2) q
    · exact q.elim
  · unfold gLm at q
    split at q
    · rename_i e
      obtain ⟨L, F, hl, hv⟩ := R.at_ i _ e
      exact ⟨.ref L, atv_some hv, lift_go hr.mono R q fun xs ρ2 O2 H2 vs R2 k2 ⟨B, hB, dxs⟩ q2 => q2 O2 H2 (.ref L :: vs) R2 k2 ⟨B, hB, .cons ⟨L, F, hl, rfl⟩ dxs⟩⟩
    · exact q.elim
theorem dgb_own {i : Nat} (ha : PE X e (tVar i)) (hr : DGb X es ts) (hs : starEach (e :: es) X.env = (false, eval e X.env) :: starEach es X.env := by rfl) : DGb X (e :: es) (gOwnB i ts) := by
  refine ⟨fun ρ P Q k q => ?_, (pa_cons ha hr.run hs).weaken fun σ H Q ⟨g, O, ρ, R, q⟩ => ?_⟩
  · unfold gOwnB at q ⊢
    split at q
    · refine hr.mono ρ _ _ (fun xs ρ2 p2 => ?_) q
      split at p2
      · exact k _ _ p2
      · exact p2.elim
    · exact q.elim
  · unfold gOwnB at q
    split at q
    · rename_i e0
      obtain ⟨p, vs0, hv, _⟩ := R.at_ i _ e0
      refine ⟨.ref p, atv_some hv, lift_go hr.mono R q fun xs ρ2 O2 H2 vs R2 k2 ⟨B, hB, dxs⟩ q2 => ?_⟩
      split at q2
      · rename_i ys e2
        obtain ⟨p', vs2, hv2, hp, h0, hl, hd, hn⟩ := R2.at_ i _ e2
        rw [hv] at hv2
        cases hv2
        refine q2 O2 H2 (.ref p :: vs) R2 k2 ⟨p :: B, fun r hr => ?_, .cons ?_ ?_⟩
        · rcases List.mem_cons.mp hr with rfl | hr
          · exact ⟨hn, by rw [hl]; exact fun z => nomatch z⟩
          · exact hB r hr
        · exact Dx.lst hl (.inr (List.mem_cons_self ..)) (dxAll_monoL (fun _ z => .inl z) hd)
        · exact argsOk_mono (fun _ z => z.elim .inl fun m => .inr (List.mem_cons_of_mem _ m)) dxs
      · exact q2.elim
    · exact q.elim
theorem call_goB {K : PySem.W.Frag} {g : Gh} {O B : List Addr} {ρ : En} {σ : L2.St} {H : Hp} {R : RelD} {ss : List SV} {vs : List V} {Q : VK} {E : XK} (rp : Rep K g O ρ σ H) (hB : ∀ p ∈ B, ¬ g.lo.has p ∧ H p ≠ none) (ha : ArgsOk K g.lo (Zl g O B) H ss vs)
    (q : Sof R ss fun d => noLi d = true ∧ ∀ O' H' v, Rep K g O' ρ σ H' → Kp1 K g O ρ σ H O' ρ H' → Dx K (Zof g O') H' v d → Q v H') : spD K R vs H Q E := by
  have sub : ∀ p, (Lw.mk g.lo.lm []).has p → g.lo.has p := fun p z => z.elim .inl fun z => nomatch z
  have ha2 : ArgsOk K g.lo (Zof ⟨⟨g.lo.lm, []⟩, H, Zl g O B⟩ []) H ss vs := argsOk_mono (fun a z => ⟨.inl z, by simp⟩) ha
  have lok : (Lw.mk g.lo.lm []).ok H := ⟨fun L F e => rp.loom.ok.lm L F e, fun r z => nomatch z⟩
  refine ⟨⟨⟨g.lo.lm, []⟩, H, Zl g O B⟩, ss, rfl, argsOk_lo (lo := g.lo) (lo' := ⟨g.lo.lm, []⟩) rfl ha2, ⟨lok, fun p hp z => z.1.elim (fun z => z.elim (rp.loom.nz p (sub p hp)) fun m => (hB p m).1 (sub p hp)) (lok.ex hp)⟩, ?_⟩
  · obtain ⟨P, h1, h2⟩ := q
    refine ⟨P, h1, fun d hd v H' gr dx => ?_⟩
    have gk := Gk.of_lm gr rp.loom.ok
    obtain ⟨nl, h3⟩ := h2 d hd
    obtain ⟨a, b, c⟩ := rp.res gk (dx_noL (Z' := fun a => Zof g O a ∨ H a = none) dx nl)
    exact h3 O H' v a (rp.kp1g gk.gr) c
variable {k : Nat} {f : Addr} {fd : FuncData} {ps : List Str} {R : RelD} {x : Str} {p pos : Pos} {E : XK}
def dCallB (R : RelD) (ts : Wp (List SV)) : Wp PyData := fun ρ Q => ts ρ fun ss ρ1 => Sof R ss fun d => noLi d = true ∧ Q d ρ1
theorem mono_callB (h : Mono ts) : Mono (dCallB R ts) := fun ρ P Q k q => h ρ _ _ (fun ss ρ1 ⟨P, a, b⟩ => ⟨P, a, fun d hd => ⟨(b d hd).1, k _ _ (b d hd).2⟩⟩) q
theorem de_callB (F : FnOk X.prog X.w X.K X.mg X.base CX0 k f fd ps (spD X.K R)) (hr : Room k X.A) (hg : Gl X x) (hm : X.mg x = some (.ref f)) (hk : PySem.W.keepIn X.K (.ref f) = true) (hb : Binds X.K fd ps []) (hx : Passes CX0 X E)
    (ha : DGb X (e :: es) ts) (hdb : (x == ("__debug__" : Str)) = false := by decide) (he : starEach (e :: es) X.env = (false, eval e X.env) :: starEach es X.env := by rfl) (hpl : (backTo pos (starEach es X.env)).any (·.1) = false := by rfl) :
    DE X (.Call (.Name x p) (e :: es) [] pos) (dCallB R ts) :=
  ⟨mono_callB ha.mono, (pe_call F hr hg hm hk hb .nil hx ha.run hdb he hpl).weaken fun σ H Q ⟨g, O, ρ, rp, q⟩ => lift_go ha.mono rp q fun ss ρ1 O1 H1 vs R1 k1 ⟨B, hB, hs⟩ q1 => by
    rw [List.append_nil]
    obtain ⟨P, a, b⟩ := q1
    exact call_goB R1 hB hs ⟨P, a, fun d hd => ⟨(b d hd).1, fun O' H' v R' k' dx => (b d hd).2 O' H' v R' (k1.trans k') dx⟩⟩⟩
end
end Ev

set_option exponentiation.threshold 256
/-! the layer of data, 26: comprehensions that sift -/
namespace Ev
open PySem PySem.Spec PyProof.Rows L2
def filtO (bad : PyData → Bool) (out : Nat → PyData → PyData) : Nat → List PyData → List PyData
  | _, [] => []
  | k, x :: r => if bad x = true then out k x :: filtO bad out (k + 1) r else filtO bad out (k + 1) r
theorem filtO_len (bad : PyData → Bool) (out : Nat → PyData → PyData) : ∀ (k : Nat) (xs : List PyData), (filtO bad out k xs).length ≤ xs.length
  | _, [] => Nat.le_refl _
  | k, x :: r => by
    have := filtO_len bad out (k + 1) r
    unfold filtO
    split <;> simp only [List.length_cons] <;> omega
theorem filtO_nil {bad : PyData → Bool} {out : Nat → PyData → PyData} : ∀ {k : Nat} {xs : List PyData}, filtO bad out k xs = [] ↔ ∀ x ∈ xs, bad x = false
  | _, [] => ⟨fun _ x h => (nomatch h), fun _ => rfl⟩
  | k, x :: r => by
    have ih := filtO_nil (bad := bad) (out := out) (k := k + 1) (xs := r)
    unfold filtO
    by_cases h : bad x = true
    · rw [if_pos h]
      refine ⟨fun z => (nomatch z), fun z => ?_⟩
      have := z x (List.mem_cons_self ..)
      rw [h] at this
      cases this
    · rw [if_neg h, ih]
      refine ⟨fun z y hy => ?_, fun z y hy => z y (List.mem_cons_of_mem _ hy)⟩
      rcases List.mem_cons.mp hy with rfl | hy
      · exact Bool.eq_false_iff.mpr h
      · exact z y hy
/-- the first one that is so -/
def firstO (bad : PyData → Bool) : Nat → List PyData → Option Nat
  | _, [] => none
  | k, x :: r => if bad x = true then some k else firstO bad (k + 1) r
theorem filtO_first {bad : PyData → Bool} {f : Nat → PyData} : ∀ (k : Nat) (xs : List PyData), (firstO bad k xs = none ∧ filtO bad (fun i _ => f i) k xs = []) ∨ ∃ j r, firstO bad k xs = some j ∧ filtO bad (fun i _ => f i) k xs = f j :: r
  | _, [] => .inl ⟨rfl, rfl⟩
  | k, x :: r => by
    unfold firstO filtO
    by_cases h : bad x = true
    · rw [if_pos h, if_pos h]
      exact .inr ⟨k, _, rfl, rfl⟩
    · rw [if_neg h, if_neg h]
      exact filtO_first (k + 1) r
theorem lc_filt {gt : Wg} {tt : Wp Bool} {te : Wp PyData} {ρw : En} {Q : List PyData → Prop} {xs : List PyData} (bad : PyData → Bool) (out : Nat → PyData → PyData) (hl : xs.length ≤ 16777215)
    (hs : ∀ (i : Nat) (x : PyData) (L : Prop) (Y : PyData → Prop) (N : Prop), xs[i]? = some x → L → (bad x = true → Y (out i x)) → (bad x = false → N) → gt x ρw fun ρ2 => tt ρ2 fun b ρ3 => ρ3 = ρ2 ∧ if b = true then te ρ2 fun d ρ4 => ρ4 = ρ2 ∧ L ∧ Y d else N)
    (hQ : Q (filtO bad out 0 xs)) : lcD gt tt te ρw xs [] Q := by
  have snoc : ∀ (k : Nat) (ys : List PyData) (x : PyData), filtO bad out k (ys ++ [x]) = filtO bad out k ys ++ if bad x = true then [out (k + ys.length) x] else [] := by
    intro k ys x
    induction ys generalizing k with
    | nil =>
      rw [List.nil_append]
      unfold filtO
      by_cases h : bad x = true
      · rw [if_pos h, if_pos h]
        rfl
      · rw [if_neg h, if_neg h]
        rfl
    | cons y ys ih =>
      rw [List.cons_append]
      unfold filtO
      have e := ih (k + 1)
      rw [Nat.add_right_comm, Nat.add_assoc] at e
      by_cases h : bad y = true
      · rw [if_pos h, if_pos h, e]
        rfl
      · rw [if_neg h, if_neg h, e]
        rfl
  refine lc_at (fun i acc => acc = filtO bad out 0 (xs.take i)) rfl (fun acc h => by rw [h, List.take_length]; exact hQ) (fun i x acc N hi ex hI hN => ?_)
  have tk : filtO bad out 0 (xs.take (i + 1)) = acc ++ if bad x = true then [out i x] else [] := by
    rw [List.take_add_one, ex, Option.toList_some, snoc, ← hI, List.length_take, Nat.zero_add, Nat.min_eq_left (Nat.le_of_lt hi)]
  have len : acc.length < sizeLine := by
    have := filtO_len bad out 0 (xs.take i)
    rw [List.length_take] at this
    rw [hI, sizeLine_eq]
    omega
  exact hs i x (acc.length < sizeLine) (fun d => N (acc ++ [d])) (N acc) ex len (fun h => hN _ (by rw [tk, if_pos h])) (fun h => hN _ (by rw [tk, if_neg (by rw [h]; exact Bool.false_ne_true), List.append_nil]))
/-! ### zip of two tuples -/
theorem walk_zipT {K : PySem.W.Frag} {a b : Addr} {xs ys : List V} {n : Nat} (hn : n = min xs.length ys.length) : Walk (RZ.ItzT K a b) n (fun H => SqT K H a xs ∧ SqT K H b ys) (YPair (fun i => xs[i]?) (fun i => ys[i]?)) := by
  subst hn
  refine ⟨fun i _ hi q => ?_, fun _ q => ⟨xs, ys, q.1, q.2, by omega⟩, fun i H v H' _ q y => ?_⟩
  · have h1 : i < xs.length := by omega
    have h2 : i < ys.length := by omega
    exact ⟨xs, ys, xs[i], ys[i], q.1, q.2, by simp [h1], by simp [h2]⟩
  · obtain ⟨T, x, z, h1, h2, h3, h4, h5⟩ := y
    exact ⟨T, x, z, h1, h2, h3, h4 xs q.1, h5 ys q.2⟩
section
variable [Lo] {X : Cx} {ta tb : Wp PyData} {a b : Expr} {p pos : Pos}
theorem walk_zipDT {K : PySem.W.Frag} {g : Gh} {l m : Addr} {xs ys : List PyData} {O : List Addr} {H : Hp} (h : Dx K (Zof g O) H (.ref l) (.tuple xs)) (h2 : Dx K (Zof g O) H (.ref m) (.tuple ys)) :
    ∃ G : List Addr → Hp → Prop, G O H ∧ WalkD K g (RZ.ItzT K l m) (zipD xs ys) G := by
  refine ⟨fun O' H' => Dx K (Zof g O') H' (.ref l) (.tuple xs) ∧ Dx K (Zof g O') H' (.ref m) (.tuple ys), ⟨h, h2⟩, fun O1 H1 O2 H2 k q => ⟨k _ _ q.1, k _ _ q.2⟩, fun O1 H1 i q hi => ?_, fun O1 H1 q => ?_, fun O1 H1 i x H2 q hi y => ?_⟩
  · obtain ⟨_, us, e, a, b⟩ := dx_tup q.1
    cases e
    obtain ⟨_, us', e, a', b'⟩ := dx_tup q.2
    cases e
    rw [zipD_len, ← dxAll_len b, ← dxAll_len b'] at hi
    exact (walk_zipT rfl).goes i H1 hi ⟨a, a'⟩
  · obtain ⟨_, us, e, a, b⟩ := dx_tup q.1
    cases e
    obtain ⟨_, us', e, a', b'⟩ := dx_tup q.2
    cases e
    rw [zipD_len, ← dxAll_len b, ← dxAll_len b']
    exact (walk_zipT rfl).stops H1 ⟨a, a'⟩
  · obtain ⟨_, us, e, a, b⟩ := dx_tup q.1
    cases e
    obtain ⟨_, us', e, a', b'⟩ := dx_tup q.2
    cases e
    rw [zipD_len, ← dxAll_len b, ← dxAll_len b'] at hi
    obtain ⟨t, x1, x2, rfl, ht, eH, g1, g2⟩ := (walk_zipT rfl).yields i H1 x H2 hi ⟨a, a'⟩ y
    obtain ⟨d, e1, e2⟩ := dxAll_get b g1
    obtain ⟨d', e1', e2'⟩ := dxAll_get b' g2
    subst eH
    have sm : Same H1 (upd H1 t (.tup [x1, x2])) := same_new ht
    exact ⟨sm, _, zipD_at e1 e1', .tup (SqT.of upd_same) (.cons (dx_monoL (fun _ z => .inl z) (dx_same sm e2)) (.cons (dx_monoL (fun _ z => .inl z) (dx_same sm e2')) .nil))⟩
def wZipT (ta tb : Wp PyData) : Wp (List PyData) := fun ρ Q => ta ρ fun x ρ1 => tb ρ1 fun y ρ2 => match x, y with
  | .tuple xs, .tuple ys => Q (zipD xs ys) ρ2
  | _, _ => False
theorem di_zipT {elts : List Expr} {kk : Nat} {tpos : Pos} (hg : Gl X "zip") (hm : X.mg "zip" = none) (ha : DE X a ta) (hb : DE X b tb) (hs : starEach [a, b] X.env = (false, eval a X.env) :: starEach [b] X.env := by rfl)
    (hs2 : starEach [b] X.env = (false, eval b X.env) :: starEach [] X.env := by rfl) (hpl : (backTo pos (starEach [b] X.env)).any (·.1) = false := by rfl) : DI X (.Tuple elts kk tpos) (.Call (.Name "zip" p) [a, b] [] pos) (wZipT ta tb) := by
  refine ⟨fun ρ P Q k q => ha.mono ρ _ _ (fun x ρ1 p => hb.mono ρ1 _ _ (fun y ρ2 p => ?_) p) q, (RZ.pi_zipA hg hm (pa_cons ha.run (pa_cons hb.run pa_nil hs2) hs) hs hpl).weaken fun σ H R ⟨g, O, ρ, rp, q⟩ => lift_go ha.mono rp q fun x ρ1 O1 H1 v R1 k1 dx q1 => lift_go hb.mono R1 q1 fun y ρ2 O2 H2 u R2 k2 dy q2 => ?_⟩
  · split at p
    · exact k _ _ p
    · exact p
  · split at q2
    · obtain ⟨l, vs, rfl, h1, h2⟩ := dx_tup (k2.dat _ _ dx)
      obtain ⟨m, ws, rfl, g1, g2⟩ := dx_tup dy
      exact ⟨l, m, vs, ws, rfl, .inr ⟨h1, g1, q2 O2 H2 _ R2 (k1.trans k2) (walk_zipDT (.tup h1 h2) (.tup g1 g2))⟩⟩
    · exact q2.elim
end
end Ev

set_option exponentiation.threshold 256
namespace Ev
open PySem PySem.Spec PyProof.Rows L2
/-! ### tuples of whole numbers in order -/
def lexLe : List Int → List Int → Bool
  | [], _ => true
  | _ :: _, [] => false
  | x :: xs, y :: ys => if x = y then lexLe xs ys else decide (x ≤ y)
def lexLt : List Int → List Int → Bool
  | _, [] => false
  | [], _ :: _ => true
  | x :: xs, y :: ys => if x = y then lexLt xs ys else decide (x < y)
theorem lex_not : ∀ xs ys : List Int, lexLe ys xs = !lexLt xs ys
  | xs, [] => by unfold lexLe lexLt; cases xs <;> rfl
  | [], y :: ys => rfl
  | x :: xs, y :: ys => by
    unfold lexLe lexLt
    by_cases h : x = y
    · rw [if_pos h, if_pos h.symm]
      exact lex_not xs ys
    · rw [if_neg h, if_neg fun e => h e.symm]
      by_cases l : x < y
      · rw [decide_eq_true l, decide_eq_false (by omega)]
        rfl
      · rw [decide_eq_false l, decide_eq_true (by omega)]
        rfl
theorem getD_drop {ns : List Int} {i : Nat} {x : Int} {xs : List Int} (h : ns.drop i = x :: xs) : ns.getD i 0 = x ∧ ns.drop (i + 1) = xs := by
  have l : i < ns.length := by
    have := congrArg List.length h
    rw [List.length_drop, List.length_cons] at this
    omega
  rw [List.drop_eq_getElem_cons l] at h
  injection h with h1 h2
  exact ⟨by rw [List.getD_eq_getElem?_getD, List.getElem?_eq_getElem l, h1]; rfl, h2⟩
theorem lexAt_le {ns ms : List Int} : ∀ (k i : Nat), i + k = min ns.length ms.length → Ob.lexAt (fun j => decide (ns.getD j 0 = ms.getD j 0)) (fun j => decide (ns.getD j 0 ≤ ms.getD j 0)) (decide (ns.length ≤ ms.length)) i k = lexLe (ns.drop i) (ms.drop i)
  | 0, i, h => by
    rw [Ob.lexAt_zero]
    by_cases l : ns.length ≤ ms.length
    · rw [List.drop_eq_nil_of_le (as := ns) (by omega), decide_eq_true l]
      rfl
    · rw [List.drop_eq_nil_of_le (as := ms) (by omega), decide_eq_false l]
      cases e : ns.drop i with
      | nil =>
        have := congrArg List.length e
        rw [List.length_drop, List.length_nil] at this
        omega
      | cons x xs => rfl
  | k + 1, i, h => by
    obtain ⟨x, xs, e1⟩ : ∃ x xs, ns.drop i = x :: xs := by
      rw [List.drop_eq_getElem_cons (show i < ns.length by omega)]
      exact ⟨_, _, rfl⟩
    obtain ⟨y, ys, e2⟩ : ∃ x xs, ms.drop i = x :: xs := by
      rw [List.drop_eq_getElem_cons (show i < ms.length by omega)]
      exact ⟨_, _, rfl⟩
    obtain ⟨g1, d1⟩ := getD_drop e1
    obtain ⟨g2, d2⟩ := getD_drop e2
    rw [Ob.lexAt_succ, e1, e2, g1, g2, lexAt_le k (i + 1) (by omega), d1, d2]
    unfold lexLe
    by_cases q : x = y
    · rw [if_pos (decide_eq_true q), if_pos q]
      conv => rhs; unfold lexLe
    · rw [if_neg (by rw [decide_eq_false q]; exact Bool.false_ne_true), if_neg q]
theorem lexAt_lt {ns ms : List Int} : ∀ (k i : Nat), i + k = min ns.length ms.length → Ob.lexAt (fun j => decide (ns.getD j 0 = ms.getD j 0)) (fun j => decide (ns.getD j 0 < ms.getD j 0)) (decide (ns.length < ms.length)) i k = lexLt (ns.drop i) (ms.drop i)
  | 0, i, h => by
    rw [Ob.lexAt_zero]
    by_cases l : ns.length < ms.length
    · rw [List.drop_eq_nil_of_le (as := ns) (by omega), decide_eq_true l]
      cases e : ms.drop i with
      | nil =>
        have := congrArg List.length e
        rw [List.length_drop, List.length_nil] at this
        omega
      | cons x xs => rfl
    · rw [List.drop_eq_nil_of_le (as := ms) (by omega), decide_eq_false l]
      cases ns.drop i <;> rfl
  | k + 1, i, h => by
    obtain ⟨x, xs, e1⟩ : ∃ x xs, ns.drop i = x :: xs := by
      rw [List.drop_eq_getElem_cons (show i < ns.length by omega)]
      exact ⟨_, _, rfl⟩
    obtain ⟨y, ys, e2⟩ : ∃ x xs, ms.drop i = x :: xs := by
      rw [List.drop_eq_getElem_cons (show i < ms.length by omega)]
      exact ⟨_, _, rfl⟩
    obtain ⟨g1, d1⟩ := getD_drop e1
    obtain ⟨g2, d2⟩ := getD_drop e2
    rw [Ob.lexAt_succ, e1, e2, g1, g2, lexAt_lt k (i + 1) (by omega), d1, d2]
    unfold lexLt
    by_cases q : x = y
    · rw [if_pos (decide_eq_true q), if_pos q]
      conv => rhs; unfold lexLt
    · rw [if_neg (by rw [decide_eq_false q]; exact Bool.false_ne_true), if_neg q]
def rLtT (K : PySem.W.Frag) : R2 := fun x y H Q => ∃ (a b : Addr) (ns ms : List Int), x = .ref a ∧ y = .ref b ∧ SqT K H a (ns.map V.int) ∧ SqT K H b (ms.map V.int) ∧
  Q (.bl (Ob.lexAt (fun j => decide (ns.getD j 0 = ms.getD j 0)) (fun j => decide (ns.getD j 0 < ms.getD j 0)) (decide (ns.length < ms.length)) 0 (min ns.length ms.length))) H
theorem op_ltT {X : Cx} (hu : X.A.units < cLine) : OpR X (compareOp .Lt) (rLtT X.K) := by
  intro pins s σ H x y v u Q I rx ry h
  obtain ⟨a, b, ns, ms, rfl, rfl, ha, hb, q⟩ := h
  cases rx
  cases ry
  obtain ⟨its, r1, p1, _⟩ := I.tuple ha
  obtain ⟨its2, r2, p2, _⟩ := I.tuple hb
  have i1 : IntsAre its ns := Vals.ints r1
  have i2 : IntsAre its2 ms := Vals.ints r2
  have e1 : its.toArray.size = ns.length := by rw [List.size_toArray]; exact i1.length
  have e2 : its2.toArray.size = ms.length := by rw [List.size_toArray]; exact i2.length
  have at1 : ∀ j (h1 : j < its.toArray.size), ∃ t, its.toArray[j] = .int (ns.getD j 0) t := fun j h1 => PyProof.Rows.IntsAre.int_at i1 _ _ (by simp at h1; simp [h1])
  have at2 : ∀ j (h1 : j < its2.toArray.size), ∃ t, its2.toArray[j] = .int (ms.getD j 0) t := fun j h1 => PyProof.Rows.IntsAre.int_at i2 _ _ (by simp at h1; simp [h1])
  have R := Ob.RcOp.tuples_lt (A := X.A) (s := s) (e := fun j => decide (ns.getD j 0 = ms.getD j 0)) (r := fun j => decide (ns.getD j 0 < ms.getD j 0)) p1 p2 hu (fun j h1 h2 => by
    obtain ⟨t, et⟩ := at1 j h1
    obtain ⟨t', et'⟩ := at2 j h2
    rw [et, et']
    have z : (ns.getD j 0 == ms.getD j 0) = decide (ns.getD j 0 = ms.getD j 0) := by
      by_cases q : ns.getD j 0 = ms.getD j 0
      · rw [decide_eq_true q]; exact beq_iff_eq.mpr q
      · rw [decide_eq_false q]; exact beq_eq_false_iff_ne.mpr q
    rw [← z]
    exact SeqAt.EqAt.int_int _ _ _ _) (fun j h1 h2 _ => by
    obtain ⟨t, et⟩ := at1 j h1
    obtain ⟨t', et'⟩ := at2 j h2
    rw [et, et']
    exact Ob.RcOp.lt_int _ _ _ _)
  rw [e1, e2] at R
  have z : wpAny (model X.prog X.w) X.A (compareOp .Lt (.ref a) (.ref b)) (EP X pins σ Q) X.xe s := R X.prog X.w X.xe (EP X pins σ Q) ⟨.bl _, H, I, rfl, q⟩
  exact z
def leT : OD := fun x y Q => ∃ as bs : List Int, x = .tuple (as.map .int) ∧ y = .tuple (bs.map .int) ∧ Q (.bool (lexLe as bs))
def ltT : OD := fun x y Q => ∃ as bs : List Int, x = .tuple (as.map .int) ∧ y = .tuple (bs.map .int) ∧ Q (.bool (lexLt as bs))
section
variable [Lo] {X : Cx}
theorem o_leT (hu : X.A.units < cLine) : OpD X (compareOp .LtE) leT := by
  refine ⟨fun x y P Q k ⟨as, bs, e1, e2, q⟩ => ⟨as, bs, e1, e2, k _ q⟩, fun pins s σ H v u V U Q I rv ru ⟨Z, x, y, dx, dy, q⟩ => ?_⟩
  obtain ⟨as, bs, rfl, rfl, q⟩ := q
  obtain ⟨a, vs, rfl, h1, h2⟩ := dx_tup (show Dx X.K Z H v _ from dx)
  obtain ⟨b, us, rfl, g1, g2⟩ := dx_tup (show Dx X.K Z H u _ from dy)
  rw [dx_ints h2] at h1
  rw [dx_ints g2] at g1
  refine op_leT hu pins s σ H _ _ V U Q I rv ru ⟨a, b, as, bs, rfl, rfl, h1, g1, ?_⟩
  rw [lexAt_le _ 0 (by omega)]
  exact q _ H (Same.refl _) (.bl _)
theorem o_ltT (hu : X.A.units < cLine) : OpD X (compareOp .Lt) ltT := by
  refine ⟨fun x y P Q k ⟨as, bs, e1, e2, q⟩ => ⟨as, bs, e1, e2, k _ q⟩, fun pins s σ H v u V U Q I rv ru ⟨Z, x, y, dx, dy, q⟩ => ?_⟩
  obtain ⟨as, bs, rfl, rfl, q⟩ := q
  obtain ⟨a, vs, rfl, h1, h2⟩ := dx_tup (show Dx X.K Z H v _ from dx)
  obtain ⟨b, us, rfl, g1, g2⟩ := dx_tup (show Dx X.K Z H u _ from dy)
  rw [dx_ints h2] at h1
  rw [dx_ints g2] at g1
  refine op_ltT hu pins s σ H _ _ V U Q I rv ru ⟨a, b, as, bs, rfl, rfl, h1, g1, ?_⟩
  rw [lexAt_lt _ 0 (by omega)]
  exact q _ H (Same.refl _) (.bl _)
end
end Ev

set_option exponentiation.threshold 256
/-! pairs (tuple of whole numbers, tuple) in order -/
namespace Ev
open PySem PySem.Spec PyProof.Rows L2
theorem lexLe_trans : ∀ {xs ys zs : List Int}, lexLe xs ys = true → lexLe ys zs = true → lexLe xs zs = true
  | [], _, _, _, _ => rfl
  | _ :: _, [], _, h, _ => by cases h
  | _ :: _, _ :: _, [], _, h => by cases h
  | x :: xs, y :: ys, z :: zs, h1, h2 => by
    unfold lexLe at h1 h2 ⊢
    by_cases e1 : x = y
    · rw [if_pos e1] at h1
      by_cases e2 : y = z
      · rw [if_pos e2] at h2
        rw [if_pos (e1.trans e2)]
        exact lexLe_trans h1 h2
      · rw [if_neg e2] at h2
        rw [if_neg (by rw [e1]; exact e2), e1]
        exact h2
    · rw [if_neg e1] at h1
      have l1 := of_decide_eq_true h1
      by_cases e2 : y = z
      · rw [if_neg (by rw [← e2]; exact e1), ← e2]
        exact h1
      · rw [if_neg e2] at h2
        have l2 := of_decide_eq_true h2
        rw [if_neg (by omega)]
        exact decide_eq_true (by omega)
theorem lexLe_total : ∀ xs ys : List Int, lexLe xs ys = true ∨ lexLe ys xs = true
  | [], _ => .inl rfl
  | _ :: _, [] => .inr rfl
  | x :: xs, y :: ys => by
    unfold lexLe
    by_cases e : x = y
    · rw [if_pos e, if_pos e.symm]
      exact lexLe_total xs ys
    · rw [if_neg e, if_neg fun h => e h.symm]
      by_cases l : x ≤ y
      · exact .inl (decide_eq_true l)
      · exact .inr (decide_eq_true (by omega))
theorem swo_ints (k : Value → List Int) : SrtO.Swo fun v u => lexLt (k v) (k u) := by
  have no : ∀ a b : List Int, lexLt a b = false ↔ lexLe b a = true := fun a b => by
    rw [lex_not a b]
    cases lexLt a b <;> simp
  refine ⟨fun x y h => ?_, fun x y z h1 h2 => ?_⟩
  · rw [no]
    rcases lexLe_total (k x) (k y) with h' | h'
    · exact h'
    · rw [lex_not, h] at h'
      cases h'
  · rw [no] at h1 h2 ⊢
    exact lexLe_trans h1 h2
/-- a tuple of whole numbers in a heap -/
def ItsI (h : Heap) (a : Addr) (ns : List Int) : Prop := ∃ its : List Value, h.IsTuple a its.toArray ∧ IntsAre its ns
theorem its_lt {A : Around} {s : Shared} {a b : Addr} {ns ms : List Int} (ha : ItsI s.heap a ns) (hb : ItsI s.heap b ms) (hu : A.units < cLine) : Ob.RcOp .Lt A s (.ref a) (.ref b) (lexLt ns ms) := by
  obtain ⟨its, p1, i1⟩ := ha
  obtain ⟨its2, p2, i2⟩ := hb
  have e1 : its.toArray.size = ns.length := by rw [List.size_toArray]; exact i1.length
  have e2 : its2.toArray.size = ms.length := by rw [List.size_toArray]; exact i2.length
  have at1 : ∀ j (h1 : j < its.toArray.size), ∃ t, its.toArray[j] = .int (ns.getD j 0) t := fun j h1 => PyProof.Rows.IntsAre.int_at i1 _ _ (by simp at h1; simp [h1])
  have at2 : ∀ j (h1 : j < its2.toArray.size), ∃ t, its2.toArray[j] = .int (ms.getD j 0) t := fun j h1 => PyProof.Rows.IntsAre.int_at i2 _ _ (by simp at h1; simp [h1])
  have R := Ob.RcOp.tuples_lt (A := A) (s := s) (e := fun j => decide (ns.getD j 0 = ms.getD j 0)) (r := fun j => decide (ns.getD j 0 < ms.getD j 0)) p1 p2 hu (fun j h1 h2 => by
    obtain ⟨t, et⟩ := at1 j h1
    obtain ⟨t', et'⟩ := at2 j h2
    rw [et, et']
    have z : (ns.getD j 0 == ms.getD j 0) = decide (ns.getD j 0 = ms.getD j 0) := by
      by_cases q : ns.getD j 0 = ms.getD j 0
      · rw [decide_eq_true q]; exact beq_iff_eq.mpr q
      · rw [decide_eq_false q]; exact beq_eq_false_iff_ne.mpr q
    rw [← z]
    exact SeqAt.EqAt.int_int _ _ _ _) (fun j h1 h2 _ => by
    obtain ⟨t, et⟩ := at1 j h1
    obtain ⟨t', et'⟩ := at2 j h2
    rw [et, et']
    exact Ob.RcOp.lt_int _ _ _ _)
  rw [e1, e2, lexAt_lt _ 0 (by omega)] at R
  exact R
/-- v is a pair: a tuple of the whole numbers ns, a tuple of m -/
def PairI (prog : Program) (w : World) (h : Heap) (v : Value) (ns : List Int) (m : List L2.Key) : Prop :=
  ∃ (a k b : Addr), v = .ref a ∧ h.IsTuple a #[.ref k, .ref b] ∧ ItsI h k ns ∧ IsTupleKey (L2.mixKind prog w) h m b
theorem ints_items {prog : Program} {w : World} : ∀ {its : List Value} {ns : List Int}, IntsAre its ns → PySem.ItemsAre (L2.mixKind prog w) (ns.map Sum.inl) its
  | its, [], h => by
    rw [h.nil_inv]
    exact .nil
  | its, n :: ns, h => by
    obtain ⟨t, vs', rfl, h'⟩ := h.cons_inv
    exact .cons (L2.mixKind_int prog w n t) (ints_items h')
theorem its_key {prog : Program} {w : World} {h : Heap} {k : Addr} {ns : List Int} (x : ItsI h k ns) : IsTupleKey (L2.mixKind prog w) h (ns.map Sum.inl) k := by
  obtain ⟨its, ⟨o, ho, hc, n, hd⟩, i⟩ := x
  exact ⟨o, its.toArray, n, ho, hc, hd, ints_items i⟩
theorem ItsI.keeps {h h' : Heap} {a : Addr} {ns : List Int} (x : ItsI h a ns) (k : ∀ b o, h.get? b = some o → o.cls = .type "tuple" → h'.get? b = some o) : ItsI h' a ns := by
  obtain ⟨its, ⟨o, ho, hc, r⟩, i⟩ := x
  exact ⟨its, ⟨o, k _ _ ho hc, hc, r⟩, i⟩
theorem map_inl_inj : ∀ {xs ys : List Int}, (xs.map Sum.inl : List L2.Key) = ys.map Sum.inl → xs = ys
  | [], [], _ => rfl
  | [], _ :: _, h => by cases h
  | _ :: _, [], h => by cases h
  | x :: xs, y :: ys, h => by
    rw [List.map_cons, List.map_cons] at h
    injection h with h1 h2
    injection h1 with h1
    rw [h1, map_inl_inj h2]
section
variable {prog : Program} {w : World} {A : Around} {E : Value → Shared → Prop} {s : Shared}
theorem PairI.keeps {h h' : Heap} {v : Value} {ns : List Int} {m : List L2.Key} (x : PairI prog w h v ns m) (k : ∀ b o, h.get? b = some o → o.cls = .type "tuple" → h'.get? b = some o) : PairI prog w h' v ns m := by
  obtain ⟨a, q, b, e, ⟨o, ho, hc, r⟩, i, ⟨o3, it3, n3, ho3, hc3, r3⟩⟩ := x
  exact ⟨a, q, b, e, ⟨o, k _ _ ho hc, hc, r⟩, i.keeps k, ⟨o3, it3, n3, k _ _ ho3 hc3, hc3, r3⟩⟩
theorem pairI_cmp {vs : List Value} {k : Value → List Int} {M : List Int → List L2.Key} (hu : A.units < cLine) (hp : ∀ v ∈ vs, PairI prog w s.heap v (k v) (M (k v))) : SrtO.Cmp prog w A s (tuples' false) (fun p => p.1 ∈ vs) (SrtO.lt2 fun v u => lexLt (k v) (k u)) := by
  intro p q hm hm'
  have h1 := hp _ hm
  have h2 := hp _ hm'
  show wpAny (model prog w) A (keyLt' (tuples' false) p.1 q.1) (fun r s' => s' = s ∧ r = lexLt (k p.1) (k q.1)) (fun _ _ => False) s
  generalize k p.1 = x at h1 ⊢
  generalize k q.1 = y at h2 ⊢
  obtain ⟨a, ka, ba, e, ⟨o, ho, hc, n, hd⟩, i1, t1⟩ := h1
  obtain ⟨a', kb, bb, e', ⟨o', ho', hc', n', hd'⟩, i2, t2⟩ := h2
  rw [e, e']
  refine PySem.W.kat_lt ho hd ho' hd' ?_
  show PySem.W.KatLex prog w A false (decide (2 < 2)) _ [(.ref ka, .ref kb), (.ref ba, .ref bb)] 0 s
  refine PySem.W.kat_cons (wpAny_eqBool_tuple hu (its_key i1) (its_key i2) ?_)
  refine PySem.W.kat_go (fun e0 => ?_) (fun e0 => ?_)
  · have exy : x = y := by
      have := of_decide_eq_true e0
      exact map_inl_inj this
    have irr : lexLt x y = false := by
      rw [exy]
      have := (swo_ints (fun _ => y)).refl (.none)
      exact this
    refine PySem.W.kat_yes (PySem.W.kat_cons (wpAny_eqBool_tuple hu t1 t2 ?_))
    refine PySem.W.kat_go (fun _ => ?_) (fun e2 => ?_)
    · exact PySem.W.kat_yes (PySem.W.kat_nil ⟨rfl, irr.symm⟩)
    · exact absurd (by rw [exy]) (of_decide_eq_false e2)
  · refine PySem.W.kat_no ?_
    refine PySem.W.kat_one _ _ (its_lt i1 i2 hu prog w _ _ ?_)
    exact ⟨rfl, rfl⟩
theorem firsts_ints {h : Heap} {k : Value → List Int} {M : List Int → List L2.Key} : ∀ vs : List Value, (∀ v ∈ vs, PairI prog w h v (k v) (M (k v))) → ∃ fs : List Value, PySem.W.KatTups h vs fs ∧ fs.length = vs.length ∧ ∀ f ∈ fs, ∃ (q : Addr) (o : Obj), f = Value.ref q ∧ h.get? q = some o ∧ o.cls = .type "tuple"
  | [], _ => ⟨[], PySem.W.KatTups.nil, rfl, fun f hf => by simp at hf⟩
  | v :: vs, x => by
    obtain ⟨fs, kt, hl, hi⟩ := firsts_ints vs fun u hu => x u (List.mem_cons_of_mem _ hu)
    obtain ⟨a, q, b, e, ⟨o, ho, hc, n, hd⟩, ⟨its, ⟨o2, ho2, hc2, _⟩, _⟩, _⟩ := x v (List.mem_cons_self ..)
    rw [e]
    refine ⟨.ref q :: fs, PySem.W.KatTups.cons ho hc hd rfl kt, by rw [List.length_cons, List.length_cons, hl], fun f hf => ?_⟩
    rcases List.mem_cons.mp hf with rfl | hf
    · exact ⟨q, o2, rfl, ho2, hc2⟩
    · exact hi f hf
theorem pairI_sortable {a : Addr} {vs : List Value} {k : Value → List Int} {M : List Int → List L2.Key} (h0 : 0 < vs.length) (hu : A.units < cLine) (hp : ∀ v ∈ vs, PairI prog w s.heap v (k v) (M (k v))) (ha : ∀ o, s.heap.get? a = some o → o.cls ≠ .type "tuple") :
    SrtO.SortableO prog w A s a vs fun v u => lexLt (k v) (k u) := by
  intro h' keep
  have hp' : ∀ v ∈ vs, PairI prog w h' v (k v) (M (k v)) := fun v hm => (hp v hm).keeps fun b o e c => keep b o (fun z => by subst z; exact ha o e c) e
  obtain ⟨fs, h1, h2, h3⟩ := firsts_ints vs hp'
  refine ⟨tuples' false, fun Q E hq => ?_, pairI_cmp (s := { s with heap := h' }) hu hp'⟩
  refine PySem.W.kat_kind (T := .type "tuple") h1 (by omega) (fun f hm => ?_) (by rfl) ?_
  · obtain ⟨q, o, rfl, ho, hc⟩ := h3 f hm
    have z : PySem.W.Looks (model prog w) h' (typeOf (.ref q)) o.cls := (PySem.W.Looks.ld ho).andThen .now
    rw [hc] at z
    exact z
  · have e : (Value.type "tuple" != Value.type "tuple") = false := by first | rfl | decide | simp
    rw [e]
    exact hq
end
end Ev

set_option exponentiation.threshold 256
/-! sorted(d.items()) of a dict whose keys are tuples of whole numbers, whose values are tuples -/
namespace Ev
open PySem PySem.Spec PyProof.Rows L2
abbrev entI (e : List Int × Addr) : List L2.Key × V := (e.1.map Sum.inl, V.ref e.2)
theorem kV_ints : ∀ ns : List Int, ((ns.map Sum.inl : List L2.Key).map kV) = ns.map V.int
  | [] => rfl
  | n :: ns => by
    rw [List.map_cons, List.map_cons, List.map_cons, kV_ints ns]
    rfl
open Classical in
theorem key_fun : ∀ (as : List Addr) (ks : List (List Int × Addr)), as.Nodup → ∃ k : Value → List Int, ∀ (j : Nat) (b : Addr) (e : List Int × Addr), as[j]? = some b → ks[j]? = some e → k (.ref b) = e.1
  | [], _, _ => ⟨fun _ => [], fun j b e h => by cases h⟩
  | a :: as, [], _ => ⟨fun _ => [], fun j b e _ h => by cases h⟩
  | a :: as, x :: ks, h => by
    rw [List.nodup_cons] at h
    obtain ⟨k, hk⟩ := key_fun as ks h.2
    refine ⟨fun v => if v = .ref a then x.1 else k v, fun j b e hb he => ?_⟩
    cases j with
    | zero =>
      cases hb
      cases he
      exact if_pos rfl
    | succ j =>
      have hb : as[j]? = some b := hb
      have ne : b ≠ a := fun z => h.1 (by rw [← z]; exact List.mem_of_getElem? hb)
      show (if Value.ref b = Value.ref a then _ else _) = _
      rw [if_neg (fun z => ne (by injection z))]
      exact hk j b e hb he
/-- what comes of it: pairs in some order -/
def rSortI : List V → Hp → VK → Prop := fun vs H Q => ∃ (p a : Addr) (ks : List (List Int × Addr)) (M : List Int → List L2.Key), vs = [.ref p] ∧ H p = some (DX.itemsO p a) ∧ H a = some (.dT (ks.map entI)) ∧ ks.length < 64 ∧
  (∀ e ∈ ks, H e.2 = some (.tup ((M e.1).map kV))) ∧
  ∀ (H' : Hp) (l : Addr) (ps : List (Addr × List Int × Addr)), (∀ b o, H b = some o → H' b = some o) → (ps.map (·.2)).Perm ks → H' l = some (.lst (ps.map fun z => V.ref z.1)) →
    (∀ z ∈ ps, ∃ q, H' z.1 = some (.tup [.ref q, .ref z.2.2]) ∧ H' q = some (.tup (z.2.1.map V.int))) → Q (.ref l) H'
theorem cr_sortedI {X : Cx} (hc : X.calm = true) (hu : X.A.units + 64 < cLine) : CallR X (.builtin "sorted") rSortI := by
  intro pins s σ H xs us Q I r h
  obtain ⟨p, a, ks, M, rfl, hp, ha, h64, hv, q⟩ := h
  obtain rfl := Vals.ref1 r
  have view : s.heap.IsItemsView p a := (show ObjOk X.prog X.w H s.heap p (DX.itemsO p a) from I.hok p _ hp).1
  obtain ⟨z, hd, xs', rel, o, es, ep, ho, hx, hdat, hes, his, hn⟩ := dt_of I.hok ha
  have l1 : (ks.map entI).length = xs'.length := Paired.length rel
  rw [List.length_map] at l1
  have l2 : es.size = xs'.length := size_of_entries hes
  refine DT.sortedI (es := es) (ep := ep) (I.ok.hd hc) view ⟨o, ho, hx, hdat⟩ (by rw [sizeLine_eq]; omega) fun h' tk as hk hlt hl hG => ?_
  have nd : as.Nodup := List.Pairwise.imp (fun h => Nat.ne_of_lt h) hG.rise
  obtain ⟨k, kf⟩ := key_fun as ks nd
  -- each pair that was made
  have pr : ∀ (j : Nat) (b : Addr), as[j]? = some b → ∃ (e : List Int × Addr) (kq : Addr), ks[j]? = some e ∧ H kq = some (.tup (e.1.map V.int)) ∧ h'.get? b = some { cls := .type "tuple", data := .seq #[Value.ref kq, Value.ref e.2] } := fun j b hj => by
    obtain ⟨en, he, hg⟩ := hG.pairs j b hj
    rw [entry_at hes j] at he
    obtain ⟨x, hxj, een⟩ := Option.map_eq_some_iff.mp he
    obtain ⟨e0, he0, r1, r2, r3⟩ := DX.pget rel hxj
    rw [List.getElem?_map] at he0
    obtain ⟨e, hkj, ee⟩ := Option.map_eq_some_iff.mp he0
    rw [← ee] at r2 r3
    rw [kV_ints] at r2
    have r3' : x.2.2 = Value.ref e.2 := r3
    refine ⟨e, x.2.1, hkj, r2, ?_⟩
    rw [hg, ← een, ← r3']
    rfl
  have at_ : ∀ v ∈ as.map Value.ref, ∃ (j : Nat) (b : Addr), v = .ref b ∧ as[j]? = some b := fun v hv' => by
    obtain ⟨b, hb, rfl⟩ := List.mem_map.mp hv'
    obtain ⟨j, hj⟩ := List.mem_iff_getElem?.mp hb
    exact ⟨j, b, rfl, hj⟩
  have hob : (h'.push { cls := .type "list", data := .seq (as.map Value.ref).toArray }).get? h'.objs.size = some (seqObj "list" (as.map Value.ref).toArray 0) := Heap.get?_push_size _ rfl
  have ka : ∀ b o, h'.get? b = some o → (h'.push { cls := .type "list", data := .seq (as.map Value.ref).toArray }).get? b = some o := fun b o e => Heap.get?_push_of_some _ e
  have ne0 : ∀ b o, h'.get? b = some o → b ≠ h'.objs.size := fun b o e => Nat.ne_of_lt (Heap.lt_size e)
  generalize h'.push { cls := .type "list", data := .seq (as.map Value.ref).toArray } = h2 at hob ka ⊢
  have kb : ∀ b o, s.heap.get? b = some o → h2.get? b = some o := fun b o e => ka b o (hk b o e)
  have pin : ∀ v ∈ as.map Value.ref, PairI X.prog X.w h2 v (k v) (M (k v)) := fun v hv' => by
    obtain ⟨j, b, rfl, hj⟩ := at_ v hv'
    obtain ⟨e, kq, he, hkq, hg⟩ := pr j b hj
    rw [kf j b e hj he]
    obtain ⟨its, r1, p1, _⟩ := I.tuple (SqT.of hkq)
    exact ⟨b, kq, e.2, rfl, ⟨_, ka _ _ hg, rfl, 0, rfl⟩, ItsI.keeps ⟨its, p1, Vals.ints r1⟩ fun b o e _ => kb b o e, by
      obtain ⟨ov, iv, nv, hov, hcv, hdv, hiv⟩ := (show IsTupleKey (mixKind X.prog X.w) s.heap (M e.1) e.2 from key_of I.hok (hv e (List.mem_of_getElem? he)))
      exact ⟨ov, iv, nv, kb _ _ hov, hcv, hdv, hiv⟩⟩
  have lak : as.length = ks.length := by omega
  refine wpAny_call_entry PyProof.Rows.slot_list_sort ⟨_, hob, rfl⟩ PyProof.Rows.entry_list_sort
    (SrtO.list_sort_ord (s := { s with heap := h2, toks := tk }) (swo_ints k) hob (by rw [List.length_map, sizeLine_eq]; omega) (fun h2' => pairI_sortable (s := { s with heap := h2, toks := tk }) (by omega) (by show X.A.units + 1 + 1 < cLine; omega) pin fun o e => ?_) fun out hs hb => ⟨.none, rfl, ?_⟩) (PyProof.Rows.args_list_sort _)
  · have e' := Option.some.inj (e.symm.trans hob)
    rw [e']
    exact fun c => absurd (Value.type.inj c) (by decide)
  · obtain ⟨zs, pz, ez⟩ := perm_lift (fun z : Addr × List Int × Addr => Value.ref z.1) hb.perm (as.zip ks) (by
      have : (as.zip ks).map (·.1) = as := List.map_fst_zip (by omega)
      rw [show (fun z : Addr × List Int × Addr => Value.ref z.1) = Value.ref ∘ (·.1) from rfl, ← List.map_map, this])
    have idx : ∀ z ∈ zs, ∃ j : Nat, as[j]? = some z.1 ∧ ks[j]? = some z.2 := fun z' hz' => by
      obtain ⟨j, hj⟩ := List.mem_iff_getElem?.mp (pz.mem_iff.mp hz')
      exact ⟨j, List.getElem?_zip_eq_some.mp hj⟩
    have hperm : (zs.map (·.2)).Perm ks := by
      have e := pz.map (·.2)
      rw [show (as.zip ks).map (·.2) = ks from List.map_snd_zip (by omega)] at e
      exact e
    have kF : ∀ b o, b ≠ h'.objs.size → h2.get? b = some o → (sortedHeap h2 h'.objs.size (as.map Value.ref) out.toArray).get? b = some o := fun b o hb e => (PyProof.Rows.sortedHeap_old hb (Heap.lt_size e)).trans e
    have kS : ∀ b o, s.heap.get? b = some o → (sortedHeap h2 h'.objs.size (as.map Value.ref) out.toArray).get? b = some o := fun b o e => kF b o (ne0 _ _ (hk b o e)) (kb b o e)
    obtain ⟨eF, heF⟩ := PyProof.Rows.sortedHeap_at (vs := as.map Value.ref) (out := out.toArray) hob
    have I1 : Inv X pins σ H { s with heap := sortedHeap h2 h'.objs.size (as.map Value.ref) out.toArray, toks := tk } := I.kept (t' := tk) kS
    have hn0 : H h'.objs.size = none := I.hok.fresh (Nat.le_of_lt hlt)
    have hlen : (zs.map fun z => V.ref z.1).length ≤ sizeLine := by
      have e := hperm.length_eq
      rw [List.length_map] at e
      rw [List.length_map, sizeLine_eq]
      omega
    have rv : Vals (zs.map fun z => V.ref z.1) out := by
      rw [← ez]
      exact vals_maps (fun z : Addr × List Int × Addr => V.ref z.1) (fun z => Value.ref z.1) zs fun _ _ => rfl
    have I2 : Inv X pins σ (upd H h'.objs.size (.lst (zs.map fun z => V.ref z.1))) { s with heap := sortedHeap h2 h'.objs.size (as.map Value.ref) out.toArray, toks := tk } :=
      I1.take (h' := sortedHeap h2 h'.objs.size (as.map Value.ref) out.toArray) (t' := tk) (fun b ob _ e => e) (I.fpOk (Nat.le_of_lt hlt) hn0) ⟨hlen, out, eF, rv, heF⟩
    obtain ⟨H2, I3, g, qt⟩ := DX.takeT (P := fun b vs => ∃ (j : Nat) (e : List Int × Addr) (kq : Addr), as[j]? = some b ∧ ks[j]? = some e ∧ vs = [.ref kq, .ref e.2] ∧ H kq = some (.tup (e.1.map V.int))) I as _ I2 nd fun b hb => by
      obtain ⟨j, hj⟩ := List.mem_iff_getElem?.mp hb
      obtain ⟨e, kq, he, hkq, hg⟩ := pr j b hj
      have hbl : s.heap.objs.size ≤ b := Nat.le_of_lt (hG.above b hb)
      refine ⟨hbl, ?_, [.ref kq, .ref e.2], ⟨j, e, kq, hj, he, rfl, hkq⟩, fun H3 => ⟨(by rw [sizeLine_eq]; show 2 ≤ 16777216; omega), [Value.ref kq, Value.ref e.2], .cons rfl (.cons rfl .nil), ⟨_, kF _ _ (ne0 _ _ hg) (ka _ _ hg), rfl, 0, rfl⟩⟩⟩
      rw [upd_ne (ne0 _ _ hg)]
      exact I.hok.fresh hbl
    have gr : ∀ b o, H b = some o → H2 b = some o := fun b o e => g b o (by rw [upd_ne (ne_of_none e hn0)]; exact e)
    refine ⟨.ref h'.objs.size, H2, I3, rfl, q H2 h'.objs.size zs gr hperm (g _ _ upd_same) fun z' hz' => ?_⟩
    obtain ⟨i, i1, i2⟩ := idx z' hz'
    obtain ⟨vs, ⟨j, e, kq, j1, j2, ev, hkq⟩, hH⟩ := qt z'.1 (List.mem_of_getElem? i1)
    have eij : i = j := (List.getElem?_inj (List.getElem?_eq_some_iff.mp i1).1 nd).mp (i1.trans j1.symm)
    subst eij
    have ee : e = z'.2 := Option.some.inj (j2.symm.trans i2)
    rw [ev, ee] at hH
    rw [ee] at hkq
    exact ⟨kq, hH, gr _ _ hkq⟩
end Ev

set_option exponentiation.threshold 256
/-! a new list by cases -/
namespace Ev
open PySem PySem.Spec PyProof.Rows L2
def dIfF (s : Wp Bool) (ta tb : Wp (List PyData)) : Wp (List PyData) := fun ρ Q => s ρ fun b ρ1 => if b = true then ta ρ1 Q else tb ρ1 Q
section
variable [Lo] {X : Cx}
theorem pf_up {g : Gh} {O O1 O2 : List Addr} {ρ : En} {σ : L2.St} {H : Hp} {v : V} {xs : List PyData} (s : ∀ a, a ∈ O → a ∈ O1) (h : PF X.K g O1 O2 ρ σ H v xs) : PF X.K g O O2 ρ σ H v xs := by
  obtain ⟨p, vs, O', e1, e2, n1, n2, r⟩ := h
  exact ⟨p, vs, O', e1, e2, n1, fun m => n2 (s p m), r⟩
theorem df_if {c a b : Expr} {pos : Pos} {sa : Wp Bool} {ta tb : Wp (List PyData)} (hc : DT X c sa) (ha : DF X a ta) (hb : DF X b tb) : DF X (.IfExp c a b pos) (dIfF sa ta tb) := by
  refine ⟨fun ρ P Q k q => hc.mono ρ _ _ (fun x ρ1 p => ?_) q, (pe_ifExp hc.run ha.run hb.run).weaken fun σ H Q ⟨g, O, ρ, R, q⟩ => lift_go hc.mono R q fun x ρ1 O1 H1 v R1 k1 e q1 => ?_⟩
  · cases x with
    | true => exact ha.mono ρ1 _ _ k p
    | false => exact hb.mono ρ1 _ _ k p
  · subst e
    cases v with
    | true =>
      rw [if_pos rfl] at q1 ⊢
      exact lift_go ha.mono R1 q1 fun k' ρ2 O2 H2 b' R2 k2 e q2 => q2 O2 H2 b' R2 (k1.trans k2) (pf_up k1.1 e)
    | false =>
      rw [if_neg Bool.false_ne_true] at q1 ⊢
      exact lift_go hb.mono R1 q1 fun k' ρ2 O2 H2 b' R2 k2 e q2 => q2 O2 H2 b' R2 (k1.trans k2) (pf_up k1.1 e)
end
end Ev

set_option exponentiation.threshold 256
/-! dict() and {text: ()} as data -/
namespace Ev
open PySem PySem.Spec PyProof.Rows L2
theorem cr_dict0 {X : Cx} : CallR X (.type "dict") (fun xs H Q => xs = [] ∧ ∀ p, H p = none → Q (.ref p) (upd H p (.dK []))) := by
  intro pins s σ H xs us Q I r h
  obtain ⟨rfl, q⟩ := h
  cases r
  exact FK.call_dict0 ⟨.ref s.heap.objs.size, _, I.laid (a := s.heap.objs.size) (o := .dK []) (t' := s.toks) (fun _ _ q => Heap.get?_push_of_some _ q) (Nat.le_refl _) (dk_empty s.heap I.big), rfl, q _ (I.hok.fresh (Nat.le_refl _))⟩
section
variable [Lo] {X : Cx}
theorem de_dictN {x : Str} {p pos : Pos} (hg : Gl X x) (hm : X.mg x = none) (hv : bootBuiltins x = some (.type "dict")) (hn : x ≠ "__name__" := by decide) (hdb : (x == ("__debug__" : Str)) = false := by decide) : DE X (.Call (.Name x p) [] [] pos) (dC (.dict [])) :=
  ⟨fun ρ P Q k q => k _ _ q, (pe_callTy0 cr_dict0 hg hm hv hn hdb).weaken fun σ H Q ⟨g, O, ρ, R, q⟩ => ⟨rfl, fun d hn => by
    have sm : Same H (upd H d (.dK [])) := same_new hn
    obtain ⟨a, b, c⟩ := R.res (d := .dict []) (v := .ref d) (Gk.of_same sm) (.dct upd_same (.inr hn) .nil)
    exact q O _ _ a (R.kp1 sm) c⟩⟩
theorem de_dictT {keys : List (Option Expr)} {values : List Expr} {pos : Pos} {z : Str} (h : PPs X pos keys values [(tC (.str z), tTup tNil)]) (hall : keys.all (·.isSome) = true) (hl : keys.length = values.length) (h0 : keys ≠ []) (h15 : keys.length ≤ 15) :
    DE X (.Dict keys values pos) (dC (.dict [(.str z, .tuple [])])) :=
  ⟨fun ρ P Q k q => k _ _ q, (pe_disp h hall hl h0 h15).weaken fun σ H Q ⟨g, O, ρ, R, q⟩ => fun d hn => by
    refine ⟨Nat.zero_le _, fun p hp => ⟨?_, [(Sum.inr z, .ref p)], rfl, (by show 1 ≤ 15; decide), ?_⟩⟩
    · have ne : p ≠ d := fun c => by rw [c, upd_same] at hp; cases hp
      rw [upd_ne (Ne.symm ne), upd_same]
    · have ne : p ≠ d := fun c => by rw [c, upd_same] at hp; cases hp
      rw [upd_ne ne] at hp
      have sm : Same H (upd (upd (upd H d (.dK [])) p (.tup [])) d (.dK (mergeK [] [(Sum.inr z, V.ref p)]))) := fun b o e => by
        rw [upd_ne (ne_of_none e hn), upd_ne (ne_of_none e hp), upd_ne (ne_of_none e hn)]
        exact e
      obtain ⟨a, b, c⟩ := R.res (d := .dict [(.str z, .tuple [])]) (v := .ref d) (Gk.of_same sm) (.dct upd_same (.inr hn) (.cons (.tup (SqT.of (by rw [upd_ne ne, upd_same])) .nil) .nil))
      exact q O _ _ a (R.kp1 sm) c⟩
def dRevL (ta : Wp PyData) : Wp PyData := fun ρ Q => ta ρ fun d ρ' => match d with | .list xs => Q (.list xs.reverse) ρ' | _ => False
theorem de_revL {e : Expr} {ta : Wp PyData} {k : Nat} {p1 p2 p3 pos : Pos} (h : DE X e ta) : DE X (.Subscript e (.Slice none none (some (.UnaryOp .USub (.Constant (.int 1) k p1) p2)) p3) pos) (dRevL ta) :=
  ⟨fun ρ P Q k q => h.mono ρ _ _ (fun d ρ' p => by
      cases d with
      | list xs => exact k _ _ p
      | _ => exact p.elim) q,
    (pe_revL h.run).weaken fun σ H Q ⟨g, O, ρ, R, q⟩ => lift_go h.mono R q fun d ρ1 O1 H1 v R1 k1 dx p => by
      cases d with
      | list xs =>
        obtain ⟨a, vs, rfl, h1, _, h2⟩ := dx_lst dx
        exact ⟨a, vs, rfl, SqL.of h1, fun b hb => res_fin R1 (fun O' H' w R' k' dw => p O' H' w R' (k1.trans k') dw) _ (upd H1 b _) (same_new hb) (.lst upd_same (.inr hb) (dxAll_monoL (fun _ z => .inl z) (dxAll_rev (dxAll_same (same_new hb) h2))))⟩
      | _ => exact p.elim⟩
end
end Ev

set_option exponentiation.threshold 256
namespace Ev
open PySem PySem.Spec PyProof.Rows L2
/-- the body of a class of the text -/
def clsB : Stmt → List Stmt
  | .ClassDef (body := b) .. => b
  | _ => []
section
variable {X : Cx}
/-- B.__init__(self, ..), B a class of the text that has its __init__ from ValueError -/
theorem pe_tinit {B : Addr} {x : Str} {e : Expr} {es : List Expr} {ta : TA} {p1 p2 pos : Pos} {pl : Sem Bool} (hg : Gl X x) (hm : X.mg x = some (.ref B))
    (hsp : PySem.W.specialIn X.K (.ref B) "__getattribute__" = some (some (.builtin "type.__getattribute__"))) (hr : PySem.W.readsIn X.K B (.type "type") = true)
    (vB : PySem.W.findCls X.K (.ref B) (.type "type") "__init__" = some (.val (.builtin "ValueError.__init__"))) (ha : PA X (e :: es) ta)
    (hc : eval (.Call (.Attribute (.Name x p1) "__init__" p2) (e :: es) [] pos) X.env = (do
      let ov ← eval (.Name x p1) X.env
      standAt p2.atName
      let (f, first) ← holding [ov] (getMethod ov "__init__" pl)
      callWith pos f first (backTo pos (starEach (e :: es) X.env)) (backToKw pos (keywordEach [] X.env))) := by rfl)
    (hdb : (x == ("__debug__" : Str)) = false := by decide) (he : starEach (e :: es) X.env = (false, eval e X.env) :: starEach es X.env := by rfl) (hpl : (backTo pos (starEach es X.env)).any (·.1) = false := by rfl) :
    PE X (.Call (.Attribute (.Name x p1) "__init__" p2) (e :: es) [] pos) (tVeI X.K ta) := by
  refine ⟨fun pins s σ H Q I h => ?_⟩
  refine PySem.W.methodCall_KW (ld_glob I hg hm ?_ hdb) hc
  refine PySem.W.method_cls I.kIn hsp (PySem.W.cls_value I.kIn hr vB (by decide +kernel) ?_)
  show wpAny _ _ (callWith pos (Value.builtin "ValueError.__init__") [] (backTo pos (starEach (e :: es) X.env)) []) _ _ _
  refine PyProof.Rows.callWith_method1 (thn (ha.run pos pins _ σ H _ (I.tok _) h) fun us s1 ⟨vs, H1, I1, r1, a, C, ws, ev, hl, T, ea, q⟩ => ?_) he hpl
  subst ev
  cases r1 with
  | @cons _ u0 _ ur ra rw' =>
    obtain rfl : u0 = Value.ref a := ra
    have hlen : ur.length ≤ sizeLine := by
      rw [← Paired.length rw', sizeLine_eq]
      omega
    exact oinit_ok T I1 ea hlen fun s' J => ⟨.non, H1, J, rfl, q⟩
/-- isinstance(e, c), e the exception that the suite holds, with a dict of its own -/
theorem call_isD {a D : Addr} {oe : Obj} {pn : List (Addr × Obj)} {cls : Value} {d : Option Addr} (C : ExcC X.K D) (hz : Zc cls d oe) (hf : ∃ vs, oe.data = .fields vs) :
    CallR (X.suite a ((a, oe) :: pn)) (.builtin "isinstance") (fun xs H Q => cls = .ref D ∧ (∃ dd fs, d = some dd ∧ H dd = some (.xd fs)) ∧ rIsE X.K D a xs H Q) := by
  intro pins s σ H xs us Q I r h
  obtain ⟨rfl, ⟨dd, fs, rfl, ea⟩, c, cv, b, rfl, hcv, e, q⟩ := h
  cases r with
  | cons rx rr =>
    cases rr with
    | cons rt rr =>
      cases rr
      cases rx
      have ec := hcv _ rt
      subst ec
      obtain ⟨hget, _⟩ := I.pin (a, oe) (List.mem_append.mpr (.inl List.mem_cons_self))
      obtain ⟨vs, hv⟩ := hf
      have hx : ObjOk X.prog X.w H s.heap dd (.xd fs) := I.hok dd _ ea
      obtain ⟨mA, hns, hr⟩ := hx
      obtain ⟨od, ho, hl⟩ := lookIn_ns hns
      have J : PySem.W.InstAt s.heap a oe D (some od) := ⟨hget, hz.1, by unfold PySem.W.notCls; rw [hv] <;> rfl, by rw [hz.2]; exact ho⟩
      have hcl : (PySem.W.clsIn X.K D).isSome = true := by
        obtain ⟨cd, hc, _⟩ := PySem.W.any_some C.hd
        rw [hc]; rfl
      exact PySem.W.kia_one (PySem.W.kitx_exc (od := some od) hcl C.hg C.hk C.hs C.ha C.hn C.ht C.hm) I.kIn J e (fun z => nomatch z) fun tk => ⟨.bl b, H, I.kept (t' := tk) fun _ _ z => z, rfl, q⟩
end
/-! ### several clauses, each with a name (the same one) -/
def endAs (i : Nat) (D : Ends) : Ends := { nx := fun σ' H' => D.nx (σ'.set i none) H', rt := D.rt, bk := fun σ' H' => D.bk (σ'.set i none) H', ct := fun σ' H' => D.ct (σ'.set i none) H' }
def wManyAs (K : PySem.W.Frag) (i : Nat) (Wout : WX) (D : Ends) : List (Value × (Addr → Value → Option Addr → TS)) → WX
  | [] => Wout
  | (c, ts) :: r => fun cls d σ H => ∃ b, PySem.W.exmOne K cls c = some b ∧ (b = true → ∀ a, H a = none → ts a cls d (endAs i D) (σ.set i (some (.ref a))) H) ∧ (b = false → wManyAs K i Wout D r cls d σ H)
inductive HdsAs (X : Cx) (n : Str) : List ExceptHandler → List (Value × (Addr → Value → Option Addr → TS)) → Prop
  | nil : HdsAs X n [] []
  | cons {x : Str} {c : Value} {ts : Addr → Value → Option Addr → TS} {b₀ : Stmt} {suite : List Stmt} {np pos' : Pos} {hds : List ExceptHandler} {l : List (Value × (Addr → Value → Option Addr → TS))} (hc : Names X x c)
      (hsu : ∀ (a : Addr) (oe : Obj) (cls : Value) (d : Option Addr) (pn : List (Addr × Obj)), Zc cls d oe → (∃ vs, oe.data = .fields vs) → PSs (X.suite a ((a, oe) :: pn)) (b₀ :: suite) (ts a cls d)) (r : HdsAs X n hds l) :
      HdsAs X n (.ExceptHandler (some (.Name x np)) (some n) (b₀ :: suite) pos' :: hds) ((c, ts) :: l)
section
variable {X : Cx} {body : List Stmt} {h₀ : ExceptHandler} {hds : List ExceptHandler} {l : List (Value × (Addr → Value → Option Addr → TS))} {pos : Pos} {tb : WX → TS} {Wout : WX} {n : Str} {i : Nat}
theorem ps_try_manyAs (hs : X.stack = X.env :: X.outer) (hf : X.env.frame = some X.env.locals) (hN : X.N.Nodup) (hi : X.N[i]? = some n) (hln : X.env.kindOf n = some .local) (tk : Takes X Wout)
    (hb : ∀ (W : WX) (pn : List (Addr × Obj)) (xe : Value → Shared → Prop), Takes (X.tr pn xe) W → PassesOwn (model X.prog X.w) X.A X.env xe → PSs (X.tr pn xe) body (tb W))
    (hh : HdsAs X n (h₀ :: hds) l) : PS X (.Try body (h₀ :: hds) [] [] pos) (fun D σ H => tb (wManyAs X.K i Wout D l) D σ H) := by
  refine ⟨fun pins s σ H D I h => ?_⟩
  have ok := I.ok
  have hfr : X.A.frames = some (X.env :: X.outer) := by rw [ok.frames, hs]
  have hloc : Loc X.env.scope n := .inl hln
  refine wpAny_Try_except ?_
  refine wpAny_mono ((hb (wManyAs X.K i Wout D l) (X.pn ++ pins) (fun e s₁ => wpAny (model X.prog X.w) X.A (noteFrame e X.env) (fun _ s₂ => wpAny (model X.prog X.w) X.A (setFlight e none) (fun _ s₃ =>
    wpAny (model X.prog X.w) X.A (handleBy e X.env (h₀ :: hds)) (SP X pins D) X.xe s₃) X.xe s₂) X.xe s₁) (fun u s' xx => ?_) PassesOwn.looking).run [] s σ H D (I.toTry _) h) (fun f s1 hsp => ?_) (fun e s1 he => he)
  · -- the catch
    obtain ⟨a, B, sI, pins', σ', H', cls, d, rfl, J', nb, up, sky, na, os, ag, w⟩ := xx
    have J : Inv X pins σ' H' sI := J'.ofTry ok
    have sky' : Sky B (X.env :: X.outer) a (Zc cls d) X.env.locals s'.heap := by rw [← hs]; exact sky
    show wpAny (model X.prog X.w) X.A (noteFrame (.ref a) X.env) _ _ _
    refine Sky.land Zc.steady hfr hf sky' fun h3 fl3 up3 => ?_
    have J3 : Inv X pins σ' H' { s' with heap := h3 } := J.landed nb fl3.1 (up.trans up3) os ag
    obtain ⟨oe3, vs3, he3, hz3, hd3⟩ := fl3.there
    have notFr : ∀ {h : Heap} {o : Obj} {vs : Array Value}, h.FunFrames B (X.env :: X.outer) → h.get? a = some o → o.data = .fields vs → a ∉ frs (X.env :: X.outer) := fun {h o vs} ff e dd hm => by
      obtain ⟨_, o', e', hnf⟩ := ff.mem hm
      rw [e] at e'; cases e'
      exact hnf _ dd
    have nfr := notFr fl3.2.2.1 he3 hd3
    have nL : a ≠ X.env.locals := fun z => nfr (List.mem_filterMap.mpr ⟨X.env, List.mem_cons_self, by rw [hf, z]⟩)
    have nF : a ∉ X.fs := fun hm => by
      obtain ⟨e, he, q⟩ := List.mem_filterMap.mp hm
      exact nfr (List.mem_filterMap.mpr ⟨e, List.mem_cons_of_mem _ he, q⟩)
    have S3 := J3.suite he3 hd3 na nL nF
    have go : ∀ {hds' : List ExceptHandler} {l' : List (Value × (Addr → Value → Option Addr → TS))}, HdsAs X n hds' l' → wManyAs X.K i Wout D l' cls d σ' H' →
        wpAny (model X.prog X.w) X.A (handleBy (.ref a) X.env hds') (SP X pins D) X.xe { s' with heap := h3 } := by
      intro hds' l' hk
      induction hk with
      | nil =>
        intro w
        refine wpAny_handleBy_nil ?_
        obtain ⟨k1, k2, k3, oe, vs, T, oT, ts', he, hz, hd, h1, hr⟩ := id fl3
        unfold PySem.passOn
        refine wpAny_bind (wpAny_field he hd h1 ?_)
        rw [if_neg (show ¬ ((Value.ref T == Value.none) = true) from by simp)]
        have fin : wpAny (model X.prog X.w) X.A (setFlight (.ref a) X.env.frame) (fun _ s4 => wpAny (model X.prog X.w) X.A (throw (.ref a) : Sem Flow) (SP X pins D) X.xe s4) X.xe { s' with heap := h3 } := by
          rw [hf]
          refine HandSPX.setFlight_upZ fl3 fun h4 hh4 up4 => wpAny_throw (tk _ _ ?_)
          exact ⟨a, B, sI, pins, σ', H', cls, d, rfl, J, nb, (up.trans up3).trans up4, .inr (.inr (by rw [hs]; exact hh4)), na, os, ag, w⟩
        first
          | exact wpAny_bind (wpAny_pure (wpAny_bind fin))
          | exact wpAny_bind fin
      | @cons x c ts b₀ suite np pos' hds2 l2 hc hsu r ih =>
        intro w
        obtain ⟨b, hb1, hyes, hno⟩ := w
        refine wpAny_handleBy_cons (codeAny_handlers_test ?_) (by intro q; cases q)
        have LT : PySem.W.Looks (model X.prog X.w) h3 (typeOf (.ref a)) cls := fun A Q E s k q => wpAny_typeOf_ref (k _ _ he3) (by rw [hz3.1]; exact q)
        have LM := PySem.W.exm_one (M := model X.prog X.w) (J3.kIn) LT hb1
        have test : ∀ {Q : Value → Shared → Prop} {E : Value → Shared → Prop}, Q c { s' with heap := h3 } → wpAny (model X.prog X.w) (X.A.mark (some (.ref a))) (eval (.Name x np) X.env) Q E { s' with heap := h3 } := fun {Q E} q => by
          obtain ⟨hg, hdbg, hm | ⟨hm, hv, hnn⟩⟩ := hc
          · exact ld_glob (X := X.suite a ((a, oe3) :: (X.pn ++ pins))) S3 hg hm q hdbg
          · exact ld_blt (X := X.suite a ((a, oe3) :: (X.pn ++ pins))) S3 hg hm hv q hnn hdbg
        refine test (LM.here ?_)
        cases b with
        | true =>
          refine codeAny_handlers_suite_as ?_
          refine HandSPX.lands_againZ fl3 fun h4 fl4 up4 => ?_
          have J4 : Inv X pins σ' H' { s' with heap := h4 } := J.landed nb fl4.1 ((up.trans up3).trans up4) os ag
          obtain ⟨oe4, vs4, he4, hz4, hd4⟩ := fl4.there
          have S4 := J4.suite he4 hd4 na nL nF
          refine store_ok (X := X.suite a ((a, oe4) :: (X.pn ++ pins))) (v := .ref a) S4 hN hi hloc rfl (fun s5 S5 => ?_) (.inr hln)
          refine wpAny_mono ((hsu a oe4 cls d (X.pn ++ pins) hz4 ⟨_, hd4⟩).run [] s5 _ H' _ S5 (hyes rfl a na)) (fun f s6 hsp => ?_) (fun _ _ z => False.elim z)
          have end_ : ∀ {σ6 : L2.St} {H6 : Hp} {Q : Shared → Prop}, Inv (X.suite a ((a, oe4) :: (X.pn ++ pins))) [] σ6 H6 s6 → (∀ s7, Inv X pins (σ6.set i none) H6 s7 → Q s7) →
              wpAny (model X.prog X.w) X.A (do bindName X.env n .none; unbindBehindTheSuite X.env n pos') (fun _ s7 => Q s7) X.xe s6 := fun {σ6 H6 Q} S6 hq => gone_ok (S6.unsuite ok) hN hi hln hq
          cases f with
          | next =>
            obtain ⟨σ6, H6, S6, q6⟩ := hsp
            exact end_ S6 fun s7 J7 => ⟨_, _, J7, q6⟩
          | brk =>
            obtain ⟨σ6, H6, S6, q6⟩ := hsp
            exact end_ S6 fun s7 J7 => ⟨_, _, J7, q6⟩
          | cont =>
            obtain ⟨σ6, H6, S6, q6⟩ := hsp
            exact end_ S6 fun s7 J7 => ⟨_, _, J7, q6⟩
          | ret u =>
            obtain ⟨v6, σ6, H6, S6, r6, q6⟩ := hsp
            exact end_ S6 fun s7 J7 => ⟨_, _, _, J7, r6, q6⟩
        | false =>
          show wpAny _ X.A (handleBy (.ref a) X.env hds2) _ _ _
          exact ih (hno rfl)
    exact go hh w
  · cases f with
    | next =>
      obtain ⟨σ', H', J', q⟩ := hsp
      exact wpAny_execs_nil ⟨σ', H', J'.ofTry ok, q⟩
    | brk =>
      obtain ⟨σ', H', J', q⟩ := hsp
      exact ⟨σ', H', J'.ofTry ok, q⟩
    | cont =>
      obtain ⟨σ', H', J', q⟩ := hsp
      exact ⟨σ', H', J'.ofTry ok, q⟩
    | ret u =>
      obtain ⟨v, σ', H', J', r, q⟩ := hsp
      exact ⟨v, σ', H', J'.ofTry ok, r, q⟩
end
end Ev

set_option exponentiation.threshold 256
namespace Ev
open PySem PySem.Spec PyProof.Rows L2
def topS (i : Nat) : Stmt := PySem.Challenge.pw_everystart_k24_what_polynomials_are.main.body.getD i (.Pass ⟨0, 0, 0, 0⟩)
abbrev s_is_integer : Stmt := topS 2
theorem sc_is_integer : FnScope ["value"] ["value"] (defScope s_is_integer) := ⟨rfl, rfl, rfl, by decide +kernel, rfl, by decide +kernel, by decide +kernel⟩
abbrev s_is_fraction : Stmt := topS 4
theorem sc_is_fraction : FnScope ["value", "a", "b"] ["value"] (defScope s_is_fraction) := ⟨rfl, rfl, rfl, by decide +kernel, rfl, by decide +kernel, by decide +kernel⟩
abbrev s_polynomial_error : Stmt := topS 6
theorem sc_polynomial_error : FnScope ["n", "value", "place", "term"] ["n", "value"] (defScope s_polynomial_error) := ⟨rfl, rfl, rfl, by decide +kernel, rfl, by decide +kernel, by decide +kernel⟩
abbrev s_is_term : Stmt := topS 7
theorem sc_is_term : FnScope ["n", "value", "powers", "fraction", "number"] ["n", "value"] (defScope s_is_term) := ⟨rfl, rfl, rfl, by decide +kernel, rfl, by decide +kernel, by decide +kernel⟩
abbrev s_sack : Stmt := topS 9
theorem sc_sack : FnScope ["script", "cell", "cells", "state"] ["script"] (defScope s_sack) := ⟨rfl, rfl, rfl, by decide +kernel, rfl, by decide +kernel, by decide +kernel⟩
abbrev s_draw : Stmt := topS 10
theorem sc_draw : FnScope ["sack", "many", "cell", "one"] ["sack", "many"] (defScope s_draw) := ⟨rfl, rfl, rfl, by decide +kernel, rfl, by decide +kernel, by decide +kernel⟩
abbrev s_pick : Stmt := topS 11
theorem sc_pick : FnScope ["sack", "items"] ["sack", "items"] (defScope s_pick) := ⟨rfl, rfl, rfl, by decide +kernel, rfl, by decide +kernel, by decide +kernel⟩
abbrev s_mixed : Stmt := topS 12
theorem sc_mixed : FnScope ["sack", "items", "left", "found"] ["sack", "items"] (defScope s_mixed) := ⟨rfl, rfl, rfl, by decide +kernel, rfl, by decide +kernel, by decide +kernel⟩
abbrev s_low : Stmt := topS 13
theorem sc_low : FnScope ["a", "b", "one", "other"] ["a", "b"] (defScope s_low) := ⟨rfl, rfl, rfl, by decide +kernel, rfl, by decide +kernel, by decide +kernel⟩
abbrev s_plus : Stmt := topS 14
theorem sc_plus : FnScope ["one", "other"] ["one", "other"] (defScope s_plus) := ⟨rfl, rfl, rfl, by decide +kernel, rfl, by decide +kernel, by decide +kernel⟩
abbrev s_times : Stmt := topS 15
theorem sc_times : FnScope ["one", "other"] ["one", "other"] (defScope s_times) := ⟨rfl, rfl, rfl, by decide +kernel, rfl, by decide +kernel, by decide +kernel⟩
abbrev s_is_int : Stmt := topS 16
theorem sc_is_int : FnScope ["value"] ["value"] (defScope s_is_int) := ⟨rfl, rfl, rfl, by decide +kernel, rfl, by decide +kernel, by decide +kernel⟩
abbrev s_l_is_fraction : Stmt := topS 17
theorem sc_l_is_fraction : FnScope ["value"] ["value"] (defScope s_l_is_fraction) := ⟨rfl, rfl, rfl, by decide +kernel, rfl, by decide +kernel, by decide +kernel⟩
abbrev s_l_is_term : Stmt := topS 18
theorem sc_l_is_term : FnScope ["n", "value", "power"] ["n", "value"] (defScope s_l_is_term) := ⟨rfl, rfl, rfl, by decide +kernel, rfl, by decide +kernel, by decide +kernel⟩
abbrev s_poly_fault : Stmt := topS 19
theorem sc_poly_fault : FnScope ["n", "value", "wrong", "place", "item"] ["n", "value"] (defScope s_poly_fault) := ⟨rfl, rfl, rfl, by decide +kernel, rfl, by decide +kernel, by decide +kernel⟩
abbrev s_laid : Stmt := topS 20
theorem sc_laid : FnScope ["known", "powers", "share"] ["known"] (defScope s_laid) := ⟨rfl, rfl, rfl, by decide +kernel, rfl, by decide +kernel, by decide +kernel⟩
abbrev s_fraction : Stmt := topS 21
theorem sc_fraction : FnScope ["sack", "a", "b"] ["sack"] (defScope s_fraction) := ⟨rfl, rfl, rfl, by decide +kernel, rfl, by decide +kernel, by decide +kernel⟩
abbrev s_powers : Stmt := topS 22
theorem sc_powers : FnScope ["sack", "n", "top", "name"] ["sack", "n", "top"] (defScope s_powers) := ⟨rfl, rfl, rfl, by decide +kernel, rfl, by decide +kernel, by decide +kernel⟩
abbrev s_poly : Stmt := topS 23
theorem sc_poly : FnScope ["sack", "n", "most", "top", "known", "turn"] ["sack", "n", "most", "top"] (defScope s_poly) := ⟨rfl, rfl, rfl, by decide +kernel, rfl, by decide +kernel, by decide +kernel⟩
abbrev s_odd_share : Stmt := topS 24
theorem sc_odd_share : FnScope ["sack", "odd"] ["sack"] (defScope s_odd_share) := ⟨rfl, rfl, rfl, by decide +kernel, rfl, by decide +kernel, by decide +kernel⟩
abbrev s_odd_powers : Stmt := topS 25
theorem sc_odd_powers : FnScope ["sack", "powers", "spot", "side", "odd"] ["sack", "powers"] (defScope s_odd_powers) := ⟨rfl, rfl, rfl, by decide +kernel, rfl, by decide +kernel, by decide +kernel⟩
abbrev s_near : Stmt := topS 26
theorem sc_near : FnScope ["sack", "n", "poly", "items", "spot", "side", "powers", "share"] ["sack", "n", "poly"] (defScope s_near) := ⟨rfl, rfl, rfl, by decide +kernel, rfl, by decide +kernel, by decide +kernel⟩
abbrev s_is_told : Stmt := topS 27
theorem sc_is_told : FnScope ["n", "value", "is_named", "known", "due", "told"] ["n", "value", "is_named"] (defScope s_is_told) := ⟨rfl, rfl, rfl, by decide +kernel, rfl, by decide +kernel, by decide +kernel⟩
abbrev s_law : Stmt := topS 28
theorem sc_law : FnScope ["script", "sack", "turn", "n", "poly", "again", "kinds", "value"] ["script"] (defScope s_law) := ⟨rfl, rfl, rfl, by decide +kernel, rfl, by decide +kernel, by decide +kernel⟩
structure Txt (K : PySem.W.Frag) (mg : Str → Option Value) (A : Nat → Addr) (D : Nat → FuncData) : Prop where
  z_int : mg "int" = none
  z_len : mg "len" = none
  z_abs : mg "abs" = none
  z_repr : mg "repr" = none
  range : mg "range" = none
  z_isinstance : mg "isinstance" = none
  z_list : mg "list" = none
  z_tuple : mg "tuple" = none
  enumerate : mg "enumerate" = none
  z_bool : mg "bool" = none
  z_str : mg "str" = none
  z_sum : mg "sum" = none
  z_all : mg "all" = none
  z_sorted : mg "sorted" = none
  zip : mg "zip" = none
  z_dict : mg "dict" = none
  z_gcd : mg "gcd" = some (.builtin "math.gcd")
  F_is_integer : Fun K "is_integer" "is_integer" s_is_integer (A 0) (D 0)
  g_is_integer : mg "is_integer" = some (.ref (A 0))
  F_is_fraction : Fun K "is_fraction" "is_fraction" s_is_fraction (A 1) (D 1)
  g_is_fraction : mg "is_fraction" = some (.ref (A 1))
  F_polynomial_error : Fun K "polynomial_error" "polynomial_error" s_polynomial_error (A 2) (D 2)
  g_polynomial_error : mg "polynomial_error" = some (.ref (A 2))
  F_is_term : Fun K "_is_term" "_is_term" s_is_term (A 3) (D 3)
  g_is_term : mg "_is_term" = some (.ref (A 3))
  F_sack : Fun K "_law_sack" "_law_sack" s_sack (A 4) (D 4)
  g_sack : mg "_law_sack" = some (.ref (A 4))
  F_draw : Fun K "_law_draw" "_law_draw" s_draw (A 5) (D 5)
  g_draw : mg "_law_draw" = some (.ref (A 5))
  F_pick : Fun K "_law_pick" "_law_pick" s_pick (A 6) (D 6)
  g_pick : mg "_law_pick" = some (.ref (A 6))
  F_mixed : Fun K "_law_mixed" "_law_mixed" s_mixed (A 7) (D 7)
  g_mixed : mg "_law_mixed" = some (.ref (A 7))
  F_low : Fun K "_law_low" "_law_low" s_low (A 8) (D 8)
  g_low : mg "_law_low" = some (.ref (A 8))
  F_is_int : Fun K "_law_is_int" "_law_is_int" s_is_int (A 9) (D 9)
  g_is_int : mg "_law_is_int" = some (.ref (A 9))
  F_l_is_fraction : Fun K "_law_is_fraction" "_law_is_fraction" s_l_is_fraction (A 10) (D 10)
  g_l_is_fraction : mg "_law_is_fraction" = some (.ref (A 10))
  F_l_is_term : Fun K "_law_is_term" "_law_is_term" s_l_is_term (A 11) (D 11)
  g_l_is_term : mg "_law_is_term" = some (.ref (A 11))
  F_poly_fault : Fun K "_law_poly_fault" "_law_poly_fault" s_poly_fault (A 12) (D 12)
  g_poly_fault : mg "_law_poly_fault" = some (.ref (A 12))
  F_laid : Fun K "_law_laid" "_law_laid" s_laid (A 13) (D 13)
  g_laid : mg "_law_laid" = some (.ref (A 13))
  F_fraction : Fun K "_law_fraction" "_law_fraction" s_fraction (A 14) (D 14)
  g_fraction : mg "_law_fraction" = some (.ref (A 14))
  F_powers : Fun K "_law_powers" "_law_powers" s_powers (A 15) (D 15)
  g_powers : mg "_law_powers" = some (.ref (A 15))
  F_poly : Fun K "_law_poly" "_law_poly" s_poly (A 16) (D 16)
  g_poly : mg "_law_poly" = some (.ref (A 16))
  F_odd_share : Fun K "_law_odd_share" "_law_odd_share" s_odd_share (A 17) (D 17)
  g_odd_share : mg "_law_odd_share" = some (.ref (A 17))
  F_odd_powers : Fun K "_law_odd_powers" "_law_odd_powers" s_odd_powers (A 18) (D 18)
  g_odd_powers : mg "_law_odd_powers" = some (.ref (A 18))
  F_near : Fun K "_law_near" "_law_near" s_near (A 19) (D 19)
  g_near : mg "_law_near" = some (.ref (A 19))
  F_is_told : Fun K "_law_is_told" "_law_is_told" s_is_told (A 20) (D 20)
  g_is_told : mg "_law_is_told" = some (.ref (A 20))
  F_law : Fun K "law" "law" s_law (A 21) (D 21)
  g_law : mg "law" = some (.ref (A 21))
section
variable {P : Program} {w : World} {K : PySem.W.Frag} {mg : Str → Option Value} {base : Heap} {A : Nat → Addr} {D : Nat → FuncData}
theorem Txt.k_is_integer (T : Txt K mg A D) : PySem.W.keepIn K (.ref (A 0)) = true := T.F_is_integer.kp
theorem Txt.b_is_integer (T : Txt K mg A D) : Binds K (D 0) ["value"] [] := T.F_is_integer.binds fun _ _ _ _ _ _ us hl => match us, hl with | [_], _ => rfl
theorem Txt.k_is_fraction (T : Txt K mg A D) : PySem.W.keepIn K (.ref (A 1)) = true := T.F_is_fraction.kp
theorem Txt.b_is_fraction (T : Txt K mg A D) : Binds K (D 1) ["value"] [] := T.F_is_fraction.binds fun _ _ _ _ _ _ us hl => match us, hl with | [_], _ => rfl
theorem Txt.k_polynomial_error (T : Txt K mg A D) : PySem.W.keepIn K (.ref (A 2)) = true := T.F_polynomial_error.kp
theorem Txt.b_polynomial_error (T : Txt K mg A D) : Binds K (D 2) ["n", "value"] [] := T.F_polynomial_error.binds fun _ _ _ _ _ _ us hl => match us, hl with | [_, _], _ => rfl
theorem Txt.k_is_term (T : Txt K mg A D) : PySem.W.keepIn K (.ref (A 3)) = true := T.F_is_term.kp
theorem Txt.b_is_term (T : Txt K mg A D) : Binds K (D 3) ["n", "value"] [] := T.F_is_term.binds fun _ _ _ _ _ _ us hl => match us, hl with | [_, _], _ => rfl
theorem Txt.k_sack (T : Txt K mg A D) : PySem.W.keepIn K (.ref (A 4)) = true := T.F_sack.kp
theorem Txt.b_sack (T : Txt K mg A D) : Binds K (D 4) ["script"] [] := T.F_sack.binds fun _ _ _ _ _ _ us hl => match us, hl with | [_], _ => rfl
theorem Txt.k_draw (T : Txt K mg A D) : PySem.W.keepIn K (.ref (A 5)) = true := T.F_draw.kp
theorem Txt.b_draw (T : Txt K mg A D) : Binds K (D 5) ["sack", "many"] [] := T.F_draw.binds fun _ _ _ _ _ _ us hl => match us, hl with | [_, _], _ => rfl
theorem Txt.k_pick (T : Txt K mg A D) : PySem.W.keepIn K (.ref (A 6)) = true := T.F_pick.kp
theorem Txt.b_pick (T : Txt K mg A D) : Binds K (D 6) ["sack", "items"] [] := T.F_pick.binds fun _ _ _ _ _ _ us hl => match us, hl with | [_, _], _ => rfl
theorem Txt.k_mixed (T : Txt K mg A D) : PySem.W.keepIn K (.ref (A 7)) = true := T.F_mixed.kp
theorem Txt.b_mixed (T : Txt K mg A D) : Binds K (D 7) ["sack", "items"] [] := T.F_mixed.binds fun _ _ _ _ _ _ us hl => match us, hl with | [_, _], _ => rfl
theorem Txt.k_low (T : Txt K mg A D) : PySem.W.keepIn K (.ref (A 8)) = true := T.F_low.kp
theorem Txt.b_low (T : Txt K mg A D) : Binds K (D 8) ["a", "b"] [] := T.F_low.binds fun _ _ _ _ _ _ us hl => match us, hl with | [_, _], _ => rfl
theorem Txt.k_is_int (T : Txt K mg A D) : PySem.W.keepIn K (.ref (A 9)) = true := T.F_is_int.kp
theorem Txt.b_is_int (T : Txt K mg A D) : Binds K (D 9) ["value"] [] := T.F_is_int.binds fun _ _ _ _ _ _ us hl => match us, hl with | [_], _ => rfl
theorem Txt.k_l_is_fraction (T : Txt K mg A D) : PySem.W.keepIn K (.ref (A 10)) = true := T.F_l_is_fraction.kp
theorem Txt.b_l_is_fraction (T : Txt K mg A D) : Binds K (D 10) ["value"] [] := T.F_l_is_fraction.binds fun _ _ _ _ _ _ us hl => match us, hl with | [_], _ => rfl
theorem Txt.k_l_is_term (T : Txt K mg A D) : PySem.W.keepIn K (.ref (A 11)) = true := T.F_l_is_term.kp
theorem Txt.b_l_is_term (T : Txt K mg A D) : Binds K (D 11) ["n", "value"] [] := T.F_l_is_term.binds fun _ _ _ _ _ _ us hl => match us, hl with | [_, _], _ => rfl
theorem Txt.k_poly_fault (T : Txt K mg A D) : PySem.W.keepIn K (.ref (A 12)) = true := T.F_poly_fault.kp
theorem Txt.b_poly_fault (T : Txt K mg A D) : Binds K (D 12) ["n", "value"] [] := T.F_poly_fault.binds fun _ _ _ _ _ _ us hl => match us, hl with | [_, _], _ => rfl
theorem Txt.k_laid (T : Txt K mg A D) : PySem.W.keepIn K (.ref (A 13)) = true := T.F_laid.kp
theorem Txt.b_laid (T : Txt K mg A D) : Binds K (D 13) ["known"] [] := T.F_laid.binds fun _ _ _ _ _ _ us hl => match us, hl with | [_], _ => rfl
theorem Txt.k_fraction (T : Txt K mg A D) : PySem.W.keepIn K (.ref (A 14)) = true := T.F_fraction.kp
theorem Txt.b_fraction (T : Txt K mg A D) : Binds K (D 14) ["sack"] [] := T.F_fraction.binds fun _ _ _ _ _ _ us hl => match us, hl with | [_], _ => rfl
theorem Txt.k_powers (T : Txt K mg A D) : PySem.W.keepIn K (.ref (A 15)) = true := T.F_powers.kp
theorem Txt.b_powers (T : Txt K mg A D) : Binds K (D 15) ["sack", "n", "top"] [] := T.F_powers.binds fun _ _ _ _ _ _ us hl => match us, hl with | [_, _, _], _ => rfl
theorem Txt.k_poly (T : Txt K mg A D) : PySem.W.keepIn K (.ref (A 16)) = true := T.F_poly.kp
theorem Txt.b_poly (T : Txt K mg A D) : Binds K (D 16) ["sack", "n", "most", "top"] [] := T.F_poly.binds fun _ _ _ _ _ _ us hl => match us, hl with | [_, _, _, _], _ => rfl
theorem Txt.k_odd_share (T : Txt K mg A D) : PySem.W.keepIn K (.ref (A 17)) = true := T.F_odd_share.kp
theorem Txt.b_odd_share (T : Txt K mg A D) : Binds K (D 17) ["sack"] [] := T.F_odd_share.binds fun _ _ _ _ _ _ us hl => match us, hl with | [_], _ => rfl
theorem Txt.k_odd_powers (T : Txt K mg A D) : PySem.W.keepIn K (.ref (A 18)) = true := T.F_odd_powers.kp
theorem Txt.b_odd_powers (T : Txt K mg A D) : Binds K (D 18) ["sack", "powers"] [] := T.F_odd_powers.binds fun _ _ _ _ _ _ us hl => match us, hl with | [_, _], _ => rfl
theorem Txt.k_near (T : Txt K mg A D) : PySem.W.keepIn K (.ref (A 19)) = true := T.F_near.kp
theorem Txt.b_near (T : Txt K mg A D) : Binds K (D 19) ["sack", "n", "poly"] [] := T.F_near.binds fun _ _ _ _ _ _ us hl => match us, hl with | [_, _, _], _ => rfl
theorem Txt.k_is_told (T : Txt K mg A D) : PySem.W.keepIn K (.ref (A 20)) = true := T.F_is_told.kp
theorem Txt.b_is_told (T : Txt K mg A D) : Binds K (D 20) ["n", "value", "is_named"] [] := T.F_is_told.binds fun _ _ _ _ _ _ us hl => match us, hl with | [_, _, _], _ => rfl
theorem Txt.k_law (T : Txt K mg A D) : PySem.W.keepIn K (.ref (A 21)) = true := T.F_law.kp
theorem Txt.b_law (T : Txt K mg A D) : Binds K (D 21) ["script"] [] := T.F_law.binds fun _ _ _ _ _ _ us hl => match us, hl with | [_], _ => rfl

end
@[reducible] instance : Lo := ⟨"far", "state", "turn"⟩
end Ev

set_option exponentiation.threshold 20000
/-! plain facts of fractions, sides, dice -/
namespace Ev
open PySem PySem.Spec PyProof.Rows L2
def wholeD (d : PyData) (lo hi : Int) : Bool :=
  match d with
  | .int i => decide (lo ≤ i) && decide (i ≤ hi)
  | _ => false
def posD : PyData → Bool
  | .int i => decide (1 ≤ i)
  | _ => false
/-- a fraction above 0, below 1 if it is asked -/
def shareD (d : PyData) (isOpen : Bool) : Bool :=
  match d with
  | .tuple [.int a, .int b] => decide (1 ≤ a) && decide (1 ≤ b) && decide (gc a b = 1) && (decide (a < b) || !isOpen)
  | _ => false
theorem int_of {d : PyData} (a : isInt d = true) (b : isBool d = false) : ∃ i, d = .int i := by
  cases d <;> first | exact ⟨_, rfl⟩ | (cases a; done) | (cases b; done)
theorem whole_no {d : PyData} (lo hi : Int) (h : isInt d = false ∨ isBool d = true) : wholeD d lo hi = false := by
  cases d <;> first | rfl | (rcases h with h | h <;> cases h)
theorem tup_of {d : PyData} (a : isTup d = true) : ∃ ds, d = .tuple ds := by
  cases d <;> first | exact ⟨_, rfl⟩ | (cases a; done)
theorem share_no {d : PyData} (o : Bool) (h : isTup d = false) : shareD d o = false := by
  cases d <;> first | rfl | cases h
theorem share_len {ds : List PyData} (o : Bool) (h : ds.length ≠ 2) : shareD (.tuple ds) o = false := by
  match ds, h with
  | [], _ => rfl
  | [a], _ => cases a <;> rfl
  | [a, b], h => exact absurd rfl h
  | a :: b :: c :: r, _ => cases a <;> first | rfl | (cases b <;> rfl)
theorem share_item {ds : List PyData} (o : Bool) {d : PyData} (m : d ∈ ds) (h : posD d = false) : shareD (.tuple ds) o = false := by
  match ds, m with
  | [], m => cases m
  | [a], m => cases a <;> rfl
  | [a, b], m =>
    cases a <;> cases b <;> first | rfl | skip
    rename_i x y
    have e : d = .int x ∨ d = .int y := by simpa using m
    show (decide (1 ≤ x) && decide (1 ≤ y) && decide (gc x y = 1) && (decide (x < y) || !o)) = false
    rcases e with rfl | rfl
    · have : decide (1 ≤ x) = false := h
      rw [this]
      rfl
    · have : decide (1 ≤ y) = false := h
      rw [this, Bool.and_false]
      rfl
  | a :: b :: c :: r, _ => cases a <;> first | rfl | (cases b <;> rfl)
theorem pos_of {d : PyData} (h : posD d = true) : ∃ i, d = .int i ∧ 1 ≤ i := by
  cases d <;> first | exact ⟨_, rfl, of_decide_eq_true h⟩ | cases h
theorem bfalse {b : Bool} (h : ¬ b = true) : b = false := by cases b <;> simp_all
/-! ### the first that fails -/
def firstN (p : Nat → Bool) : Nat → Nat → Option Nat
  | _, 0 => none
  | k, n + 1 => if p k = true then some k else firstN p (k + 1) n
theorem first_some {p : Nat → Bool} : ∀ (n k i : Nat), (∀ j, k ≤ j → j < i → p j = false) → k ≤ i → i < k + n → p i = true → firstN p k n = some i
  | 0, k, i, _, h1, h2, _ => by omega
  | n + 1, k, i, h, h1, h2, hp => by
    unfold firstN
    by_cases e : k = i
    · subst e
      rw [if_pos hp]
    · rw [if_neg (by rw [h k (Nat.le_refl _) (by omega)]; exact Bool.false_ne_true)]
      exact first_some n (k + 1) i (fun j a b => h j (by omega) b) (by omega) (by omega) hp
theorem first_none {p : Nat → Bool} : ∀ (n k : Nat), (∀ j, k ≤ j → j < k + n → p j = false) → firstN p k n = none
  | 0, k, _ => rfl
  | n + 1, k, h => by
    unfold firstN
    rw [if_neg (by rw [h k (Nat.le_refl _) (by omega)]; exact Bool.false_ne_true)]
    exact first_none n (k + 1) fun j a b => h j (by omega) (by omega)
def sideOk : PyData → Bool
  | .tuple [n, s] => wholeD n 0 9 && shareD s false
  | _ => false
def numD : PyData → Int
  | .tuple [.int n, _] => n
  | _ => 0
def frD : PyData → Int × Int
  | .tuple [_, .tuple [.int a, .int b]] => (a, b)
  | _ => (0, 1)
def plusF (x y : Int × Int) : Int × Int := (fA (x.1 * y.2 + y.1 * x.2) (x.2 * y.2), fB (x.1 * y.2 + y.1 * x.2) (x.2 * y.2))
def sumF (ds : List PyData) : Int × Int := (ds.map frD).foldl plusF (0, 1)
def slipSides (ds : List PyData) : PyData :=
  match firstN (fun j => !sideOk (ds.getD j .none)) 0 ds.length with
  | some i => .tuple [.str "side", .int i]
  | none => match firstN (fun j => decide (numD (ds.getD j .none) ≤ numD (ds.getD (j - 1) .none))) 1 (ds.length - 1) with
    | some i => .tuple [.str "order", .int i]
    | none => if sumF ds = (1, 1) then .none else .str "sum"
theorem side_inv {d : PyData} (h : sideOk d = true) : ∃ n a b : Int, d = .tuple [.int n, .tuple [.int a, .int b]] ∧ 1 ≤ a ∧ 1 ≤ b ∧ gc a b = 1 ∧ 0 ≤ n ∧ n ≤ 9 := by
  match d, h with
  | .tuple [x, y], h =>
    have h' : (wholeD x 0 9 && shareD y false) = true := h
    rw [Bool.and_eq_true] at h'
    obtain ⟨h1, h2⟩ := h'
    match x, h1 with
    | .int n, h1 =>
      have h1' : (decide (0 ≤ n) && decide (n ≤ 9)) = true := h1
      rw [Bool.and_eq_true, decide_eq_true_eq, decide_eq_true_eq] at h1'
      match y, h2 with
      | .tuple [.int a, .int b], h2 =>
        have h2' : (decide (1 ≤ a) && decide (1 ≤ b) && decide (gc a b = 1) && (decide (a < b) || !false)) = true := h2
        rw [Bool.and_eq_true, Bool.and_eq_true, Bool.and_eq_true, decide_eq_true_eq, decide_eq_true_eq, decide_eq_true_eq] at h2'
        exact ⟨n, a, b, rfl, h2'.1.1.1, h2'.1.1.2, h2'.1.2, h1'.1, h1'.2⟩
theorem grow_bound {A B c d : Int} {E F : Nat} (hA : A.natAbs ≤ E) (hB : B.natAbs ≤ E) (hc : c.natAbs ≤ F) (hd : d.natAbs ≤ F) : (A * d + c * B).natAbs ≤ E * (2 * F) ∧ (B * d).natAbs ≤ E * (2 * F) := by
  have h1 : (A * d).natAbs ≤ E * F := by
    rw [Int.natAbs_mul]
    exact Nat.mul_le_mul hA hd
  have h2 : (c * B).natAbs ≤ E * F := by
    rw [Int.natAbs_mul, Nat.mul_comm]
    exact Nat.mul_le_mul hB hc
  have h3 : (B * d).natAbs ≤ E * F := by
    rw [Int.natAbs_mul]
    exact Nat.mul_le_mul hB hd
  have e : E * (2 * F) = E * F + E * F := by rw [Nat.mul_left_comm, Nat.two_mul]
  have h4 := Int.natAbs_add_le (A * d) (c * B)
  omega
theorem pow1401 (i : Nat) : 2 ^ (1401 * (i + 1)) = 2 ^ (1401 * i) * (2 * 2 ^ 1400) := by
  rw [Nat.mul_succ, Nat.pow_add]
theorem side_tup {d : PyData} (h : isTup d = false) : sideOk d = false := by
  cases d <;> first | rfl | cases h
theorem side_len {ds : List PyData} (h : ds.length ≠ 2) : sideOk (.tuple ds) = false := by
  match ds, h with
  | [], _ => rfl
  | [_], _ => rfl
  | [_, _], h => exact absurd rfl h
  | _ :: _ :: _ :: _, _ => rfl
theorem fracD_inv {d : PyData} (h : fracD d = true) : ∃ a b : Int, d = .tuple [.int a, .int b] ∧ 1 ≤ b ∧ gc a b = 1 := by
  match d, h with
  | .tuple [.int a, .int b], h =>
    have h' : (decide (1 ≤ b) && decide (gc a b = 1)) = true := h
    rw [Bool.and_eq_true, decide_eq_true_eq, decide_eq_true_eq] at h'
    exact ⟨a, b, rfl, h'.1, h'.2⟩
theorem share_frac (d : PyData) (o : Bool) : shareD d o = (fracD d && (match d with | .tuple [.int a, .int b] => decide (1 ≤ a) && (decide (a < b) || !o) | _ => false)) := by
  cases f : fracD d with
  | true =>
    obtain ⟨a, b, rfl, h1, h2⟩ := fracD_inv f
    show (decide (1 ≤ a) && decide (1 ≤ b) && decide (gc a b = 1) && (decide (a < b) || !o)) = (true && (decide (1 ≤ a) && (decide (a < b) || !o)))
    rw [decide_eq_true h1, decide_eq_true h2, Bool.and_true, Bool.and_true, Bool.true_and]
  | false =>
    rw [Bool.false_and]
    refine Bool.eq_false_iff.mpr fun z => ?_
    have : fracD d = true := by
      match d, z with
      | .tuple [.int a, .int b], z =>
        have z' : (decide (1 ≤ a) && decide (1 ≤ b) && decide (gc a b = 1) && (decide (a < b) || !o)) = true := z
        rw [Bool.and_eq_true, Bool.and_eq_true, Bool.and_eq_true] at z'
        show (decide (1 ≤ b) && decide (gc a b = 1)) = true
        rw [z'.1.1.2, z'.1.2]
        rfl
    rw [f] at this
    cases this
theorem nb {b : Bool} (e : (!b) = true) : b = false := by cases b <;> simp_all
theorem bt {b : Bool} (e : ¬ (!b) = true) : b = true := by cases b <;> simp_all
theorem two_of2 {ds : List PyData} (l : ds.length = 2) : ∃ d0 d1, ds = [d0, d1] := by
  match ds, l with
  | [d0, d1], _ => exact ⟨d0, d1, rfl⟩

theorem plus_step {A B x y W s : Int} (hB : 0 < B) (hy : 0 < y) (e : A * W = B * s) (d : y ∣ W) :
    Low (plusF (A, B) (x, y)).1 (plusF (A, B) (x, y)).2 ∧ (plusF (A, B) (x, y)).1 * W = (plusF (A, B) (x, y)).2 * (s + x * (W / y)) := by
  obtain ⟨k, rfl⟩ := d
  have m0 : B * y ≠ 0 := Int.mul_ne_zero (by omega) (by omega)
  show Low (fA (A * y + x * B) (B * y)) (fB (A * y + x * B) (B * y)) ∧ fA (A * y + x * B) (B * y) * (y * k) = fB (A * y + x * B) (B * y) * (s + x * (y * k / y))
  refine ⟨low_f m0, ?_⟩
  have e1 := fA_mul (a := A * y + x * B) m0
  have e2 := fB_mul (a := A * y + x * B) m0
  have dn := dv_ne (a := A * y + x * B) m0
  rw [Int.mul_ediv_cancel_left _ (by omega)]
  refine Int.eq_of_mul_eq_mul_left dn ?_
  have h1 : dv (A * y + x * B) (B * y) * (fA (A * y + x * B) (B * y) * (y * k)) = (A * y + x * B) * (y * k) := by
    rw [← Int.mul_assoc, ← e1]
  have h2 : dv (A * y + x * B) (B * y) * (fB (A * y + x * B) (B * y) * (s + x * k)) = (B * y) * (s + x * k) := by
    rw [← Int.mul_assoc, ← e2]
  rw [h1, h2]
  grind
theorem sumF_inv (W : Int) : ∀ (k : List (Int × Int × Int)) (A B s : Int), Low A B → A * W = B * s → (∀ q ∈ k, 1 ≤ q.2.2 ∧ q.2.2 ∣ W) →
    Low (((k.map sdD).map frD).foldl plusF (A, B)).1 (((k.map sdD).map frD).foldl plusF (A, B)).2 ∧
    (((k.map sdD).map frD).foldl plusF (A, B)).1 * W = (((k.map sdD).map frD).foldl plusF (A, B)).2 * (s + (k.map fun q => q.2.1 * (W / q.2.2)).sum)
  | [], A, B, s, lo, e, _ => by
    refine ⟨lo, ?_⟩
    show A * W = B * (s + 0)
    rw [Int.add_zero]
    exact e
  | q :: k, A, B, s, lo, e, h => by
    obtain ⟨h1, h2⟩ := h q (List.mem_cons_self ..)
    obtain ⟨p1, p2⟩ := plus_step (x := q.2.1) lo.1 (show 0 < q.2.2 by omega) e h2
    have ih := sumF_inv W k _ _ _ p1 p2 fun x hx => h x (List.mem_cons_of_mem _ hx)
    have e5 : s + q.2.1 * (W / q.2.2) + (k.map fun q => q.2.1 * (W / q.2.2)).sum = s + ((q :: k).map fun q => q.2.1 * (W / q.2.2)).sum := by
      rw [List.map_cons, List.sum_cons, Int.add_assoc]
    rw [e5] at ih
    exact ih
theorem wts_snd (l : List (Int × Int × Int)) : (wts l).map (·.2) = l.map fun q => q.2.1 * ((wholeN l : Int) / q.2.2) := by
  unfold wts
  rw [List.map_map]
  rfl
theorem sum_one {l : List (Int × Int × Int)} (h : ∀ q ∈ l, 1 ≤ q.2.2) : sumF (l.map sdD) = (1, 1) ↔ ((wts l).map (·.2)).sum = (wholeN l : Int) := by
  have wp := whole_pos h
  have d : ∀ q ∈ l, 1 ≤ q.2.2 ∧ q.2.2 ∣ (wholeN l : Int) := fun q hq => ⟨h q hq, by
    have := whole_mem hq
    have h2 := h q hq
    have e : ((q.2.2.natAbs : Nat) : Int) = q.2.2 := by omega
    rw [← e]
    exact Int.natCast_dvd_natCast.mpr this⟩
  obtain ⟨lo, e⟩ := sumF_inv (wholeN l : Int) l 0 1 0 ⟨by decide, by decide⟩ (by rw [Int.zero_mul]; rfl) d
  rw [Int.zero_add, ← wts_snd] at e
  have es : ((l.map sdD).map frD).foldl plusF (0, 1) = sumF (l.map sdD) := rfl
  rw [es] at lo e
  generalize sumF (l.map sdD) = z at *
  obtain ⟨A, B⟩ := z
  have e' : A * (wholeN l : Int) = B * ((wts l).map (·.2)).sum := e
  have lo' : Low A B := lo
  constructor
  · intro h1
    cases h1
    omega
  · intro h1
    rw [h1] at e'
    have : A = B := Int.eq_of_mul_eq_mul_right (by omega) e'
    subst this
    obtain ⟨p, g⟩ := lo'
    rw [Nat.gcd_self] at g
    have : A = 1 := by omega
    rw [this]
/-- sides that are right, by numbers alone -/
theorem sides_as {ds : List PyData} (h : ∀ d ∈ ds, sideOk d = true) : ∃ l : List (Int × Int × Int), ds = l.map sdD ∧ ∀ q ∈ l, 1 ≤ q.2.1 ∧ 1 ≤ q.2.2 ∧ 0 ≤ q.1 ∧ q.1 ≤ 9 := by
  induction ds with
  | nil => exact ⟨[], rfl, fun q hq => nomatch hq⟩
  | cons d ds ih =>
    obtain ⟨l, rfl, hl⟩ := ih fun x hx => h x (List.mem_cons_of_mem _ hx)
    obtain ⟨n, a, b, rfl, a1, b1, _, n0, n9⟩ := side_inv (h d (List.mem_cons_self ..))
    refine ⟨(n, a, b) :: l, rfl, fun q hq => ?_⟩
    rcases List.mem_cons.mp hq with rfl | hq
    · exact ⟨a1, b1, n0, n9⟩
    · exact hl q hq
theorem fitxs_sd : ∀ {l : List (Int × Int × Int)}, fitxs (l.map sdD) = true → ∀ q ∈ l, q.2.1.natAbs < 2 ^ 1400 ∧ q.2.2.natAbs < 2 ^ 1400
  | [], _, q, h => nomatch h
  | p :: l, hf, q, h => by
    have hf' : (fitx (sdD p) && fitxs (l.map sdD)) = true := by simpa only [List.map_cons, fitxs] using hf
    rw [Bool.and_eq_true] at hf'
    rcases List.mem_cons.mp h with rfl | h
    · have z := hf'.1
      simp only [sdD, fitx, fitxs, Bool.and_eq_true, decide_eq_true_eq] at z
      exact ⟨Nat.lt_trans z.2.1.1 f400_le, Nat.lt_trans z.2.1.2.1 f400_le⟩
    · exact fitxs_sd hf'.2 q h
theorem whole_le : ∀ (l : List (Int × Int × Int)) (w n : Nat), w ≤ 2 ^ (1400 * n) → (∀ q ∈ l, q.2.2.natAbs < 2 ^ 1400) → l.foldl (fun w q => Nat.lcm w q.2.2.natAbs) w ≤ 2 ^ (1400 * (n + l.length))
  | [], w, n, h, _ => h
  | q :: l, w, n, h, hl => by
    have h1 := hl q (List.mem_cons_self ..)
    have h2 : Nat.lcm w q.2.2.natAbs ≤ 2 ^ (1400 * (n + 1)) := by
      rw [Nat.mul_succ, Nat.pow_add]
      exact Nat.le_trans (PySem.W.mc_lcm_le _ _) (Nat.mul_le_mul h (Nat.le_of_lt h1))
    have := whole_le l _ (n + 1) h2 fun x hx => hl x (List.mem_cons_of_mem _ hx)
    rw [show n + 1 + l.length = n + (q :: l).length by rw [List.length_cons]; omega] at this
    exact this
theorem fA_pos {a b : Int} (ha : 0 < a) (hb : 0 < b) : 0 < fA a b := by
  have hb' : b ≠ 0 := by omega
  have e := fA_mul (a := a) hb'
  have d : 0 < dv a b := by
    unfold dv
    rw [if_pos hb]
    have := gc_pos (a := a) hb'
    omega
  rcases Int.lt_trichotomy 0 (fA a b) with z | z | z
  · exact z
  · rw [← z, Int.mul_zero] at e
    omega
  · have : dv a b * fA a b < 0 := Int.mul_neg_of_pos_of_neg d z
    omega
theorem fA_lt {a b : Int} (hb : 0 < b) (h : a < b) : fA a b < fB a b := by
  have hb' : b ≠ 0 := by omega
  have e1 := fA_mul (a := a) hb'
  have e2 := fB_mul (a := a) hb'
  have d : 0 < dv a b := by
    unfold dv
    rw [if_pos hb]
    have := gc_pos (a := a) hb'
    omega
  refine Int.not_le.mp fun z => ?_
  have := Int.mul_le_mul_of_nonneg_left z (Int.le_of_lt d)
  omega

def slipDie : PyData → PyData
  | .tuple ds => if 1 ≤ ds.length ∧ ds.length ≤ 6 then slipSides ds else .str "form"
  | _ => .str "form"
/-- what keeps data from being a die -/
def slipD : PyData → PyData
  | .tuple [.str t, x] => if t = "till" then (if shareD x true = true then .none else .str "share") else if t = "die" then slipDie x else .str "form"
  | _ => .str "form"
theorem slip_till (x : PyData) : slipD (.tuple [.str "till", x]) = if shareD x true = true then .none else .str "share" := by
  show (if ("till" : Str) = "till" then (if shareD x true = true then PyData.none else .str "share") else if ("till" : Str) = "die" then slipDie x else .str "form") = _
  rw [if_pos rfl]
theorem slip_other {t : Str} (x : PyData) (h : t ≠ "till") : slipD (.tuple [.str t, x]) = if t = "die" then slipDie x else .str "form" := if_neg h
theorem slip_tup {d : PyData} (h : isTup d = false) : slipD d = .str "form" := by
  cases d <;> first | rfl | cases h
theorem slip_len {ds : List PyData} (h : ds.length ≠ 2) : slipD (.tuple ds) = .str "form" := by
  match ds, h with
  | [], _ => rfl
  | [x], _ => cases x <;> rfl
  | [_, _], h => exact absurd rfl h
  | x :: _ :: _ :: _, _ => cases x <;> rfl
theorem slip_str {x y : PyData} (h : isStr x = false) : slipD (.tuple [x, y]) = .str "form" := by
  cases x <;> first | rfl | cases h
theorem str_of {d : PyData} (a : isStr d = true) : ∃ t, d = .str t := by
  cases d <;> first | exact ⟨_, rfl⟩ | (cases a; done)
end Ev

set_option exponentiation.threshold 20000
namespace Ev
open PySem PySem.Spec PyProof.Rows L2
theorem natgcd_one (i j : Int) : (((i.natAbs.gcd j.natAbs : Nat) : Int) = 1) ↔ Nat.gcd i.natAbs j.natAbs = 1 := by omega
theorem frac_no_a {a b : PyData} (h : isWhole a = false) : fracD (.tuple [a, b]) = false := by
  cases a <;> first | rfl | cases h
theorem frac_no_b {a b : PyData} (h : isWhole b = false) : fracD (.tuple [a, b]) = false := by
  cases a <;> cases b <;> first | rfl | cases h
theorem frac_len {ds : List PyData} (h : ds.length ≠ 2) : fracD (.tuple ds) = false := by
  match ds, h with
  | [], _ => rfl
  | [a], _ => cases a <;> rfl
  | [a, b], h => exact absurd rfl h
  | a :: b :: c :: r, _ => cases a <;> cases b <;> rfl
theorem frac_tup {d : PyData} (h : isTup d = false) : fracD d = false := by
  cases d <;> first | rfl | cases h
theorem tup_ex {d : PyData} (h : ¬ (!isTup d) = true) : ∃ ds, d = .tuple ds := by
  cases d with
  | tuple ds => exact ⟨ds, rfl⟩
  | _ => exact absurd rfl h
theorem two_ex {ds : List PyData} (h : ds.length = 2) : ∃ a b, ds = [a, b] := by
  match ds, h with
  | [a, b], _ => exact ⟨a, b, rfl⟩
theorem notT {b : Bool} (h : (!b) = true) : b = false := by
  cases b
  · rfl
  · cases h
section
variable {P : Program} {w : World} {K : PySem.W.Frag} {mg : Str → Option Value} {base : Heap} {A : Nat → Addr} {D : Nat → FuncData}
abbrev intR : RelD := fn1 fun d => .bool (isWhole d)
theorem Txt.ok_is_integer (T : Txt K mg A D) : FnOk P w K mg base CX0 1 (A 0) (D 0) ["value"] (spD K intR) := by
  refine okD T.F_is_integer sc_is_integer (by rintro ss P ⟨d, rfl, _⟩; rfl) (fun cdv Ar outer s H E hr => ⟨_, (dss_one (ds_ret (de_and (de_isi (tn := "int") kit_int (by rfl) T.z_isinstance (by decide +kernel) (de_v (pv 0)) (pe_bltn (v := .ty "int") (by rfl) T.z_int (by decide +kernel) rfl)) (de_one (de_not (de_isi (tn := "bool") kit_bool (by rfl) T.z_isinstance (by decide +kernel) (de_v (pv 0)) (pe_bltn (v := .ty "bool") (by rfl) T.z_bool (by decide +kernel) rfl))))))), ?_⟩)
  rintro ss P ⟨d, rfl, rfl⟩
  simp only [dSeq, dIfS, dRet, dRetN, dSet, dPar, dPar3, dAsg, dFor, dDrop, dNext, dBrk, dCnt, dAug, dApp, dExt, dPop, dPopAt, dSetI, dFrz, xD, xF, dC, dV, dO, dOp, dOpO, dB, dCh, dAnd, dOr, dNot, dAndV, dOrV, dNotV, dNotT, dIf, dNil, dCons, gNilD, gConsD, gLm, dTup, dLst, dLs, dSl, dSlO, dNo, dSo, d1, dIsi, dList, dCall, dCallK, putS, dGcd, dNeg, dLc, dYes, wTupI, wLstI, wRng1, wRng2, wEnT, wEnL, wName, wNil, wCons, wTup, subD, mulD, divD, modD, powD, ltD, leD, gtD, geD, reprD, wipeD, uns, gDef, dRmG, dRmS, gRm, gConsR, gLmR, dCallR, reRm, dRoom, unrm, dKvIx, dKvGet, dLcm, dListRg, wZip, dKtIn, dKtIx, sumD, sortID, keyD, wStrI, dSplit, catF, catFO, gOwnB, dCallB, wZipT, List.cons_append, List.nil_append, List.length_cons, List.length_nil, List.replicate, List.getElem?_cons_zero, List.getElem?_cons_succ, List.set_cons_zero, List.set_cons_succ, List.map_cons, List.map_nil, List.getD_cons_zero, List.getD_cons_succ, ↓reduceIte, Bool.not_true, Bool.not_false, Bool.false_eq_true, sof_fn1, sof_fn2, sof_fn1p, sof_fn2p, eqv_int, eqv_str, plain_int, plain_bool, plain_none, true_and, and_true, sizeLine_eq, Nat.reduceAdd, Nat.reduceLeDiff, Nat.zero_add, addD_int, addD_str, addD_tup, addD_list, intF_int, intD_int, eqD_int, eqD_str, neD_int, neD_str, inD_list, inD_tup, isND_none, ixD_t0, ixD_t1, ixD_t2, ixD_t3, ixD_l0, lenD_tup, lenD_list, lenD_str, absD_int, toIntD_int, toIntD_bool, toStrD_int, tupleD_list, tupleD_tup, cutSq_tup, cutSq_list, cutSq_str, isInt_none, isInt_bool, isInt_int, isInt_str, isInt_list, isInt_tup, isInt_dict, isBool_none, isBool_bool, isBool_int, isBool_str, isBool_list, isBool_tup, isBool_dict, isStr_none, isStr_bool, isStr_int, isStr_str, isStr_list, isStr_tup, isStr_dict, isTup_none, isTup_bool, isTup_int, isTup_str, isTup_list, isTup_tup, isTup_dict, isLst_none, isLst_bool, isLst_int, isLst_str, isLst_list, isLst_tup, isLst_dict, eqSD_str, neSD_str, inKvD_str, eqE_tup, eqEL_list, inSD_one, ordSD_str, notInSD_one, intB_int, intB_bool]
  unfold isWhole
  cases isInt d <;> rfl
abbrev fracR : RelD := fn1 fun d => .bool (fracD d)
theorem Txt.ok_is_fraction (T : Txt K mg A D) : FnOk P w K mg base CX0 2 (A 1) (D 1) ["value"] (spD K fracR) := by
  refine okD T.F_is_fraction sc_is_fraction (by rintro ss P ⟨d, rfl, _⟩; rfl) (fun cdv Ar outer s H E hr => ⟨_, (dss_cons (ds_if (DW.pt (dw_or (dt_not (dt_val (de_isi (tn := "tuple") kit_tup (by rfl) T.z_isinstance (by decide +kernel) (de_v (pv 0)) (pe_bltn (v := .ty "tuple") (by rfl) T.z_tuple (by decide +kernel) rfl)))) (dw_or1 (dt_cmp (o_ne hr.units) (de_c1 c_len (by rfl) T.z_len (by decide +kernel) (DE.r (de_v (pv 0)))) (DE.r de_int) (nomark _))))) (dss_one (ds_ret de_bl)) dss_nil)
    (dss_cons (ds_asg (de_v (pv 0)) (dg_tup (n := 2) rfl (dgs_cons (dg_name (i := 1) sc_is_fraction.nd rfl (Or.inl rfl)) (dgs_cons (dg_name (i := 2) sc_is_fraction.nd rfl (Or.inl rfl)) dgs_nil))))
    (dss_one (ds_ret (de_and (de_call T.ok_is_integer hr (by rfl) T.g_is_integer T.k_is_integer T.b_is_integer pass0 (dg_cons (de_v (pv 1)) dg_nil)) (de_and (de_call T.ok_is_integer hr (by rfl) T.g_is_integer T.k_is_integer T.b_is_integer pass0 (dg_cons (de_v (pv 2)) dg_nil)) (de_and (de_cmp o_ge (de_v (pv 2)) (DE.r de_int) (nomark _)) (de_one (de_cmp (o_eq hr.units) (de_gcd (by rfl) T.z_gcd (de_v (pv 1)) (de_v (pv 2))) (DE.r de_int) (nomark _)))))))))), ?_⟩)
  rintro ss P ⟨d, rfl, rfl⟩
  simp only [dSeq, dIfS, dRet, dRetN, dSet, dPar, dPar3, dAsg, dFor, dDrop, dNext, dBrk, dCnt, dAug, dApp, dExt, dPop, dPopAt, dSetI, dFrz, xD, xF, dC, dV, dO, dOp, dOpO, dB, dCh, dAnd, dOr, dNot, dAndV, dOrV, dNotV, dNotT, dIf, dNil, dCons, gNilD, gConsD, gLm, dTup, dLst, dLs, dSl, dSlO, dNo, dSo, d1, dIsi, dList, dCall, dCallK, putS, dGcd, dNeg, dLc, dYes, wTupI, wLstI, wRng1, wRng2, wEnT, wEnL, wName, wNil, wCons, wTup, subD, mulD, divD, modD, powD, ltD, leD, gtD, geD, reprD, wipeD, uns, gDef, dRmG, dRmS, gRm, gConsR, gLmR, dCallR, reRm, dRoom, unrm, dKvIx, dKvGet, dLcm, dListRg, wZip, dKtIn, dKtIx, sumD, sortID, keyD, wStrI, dSplit, catF, catFO, gOwnB, dCallB, wZipT, List.cons_append, List.nil_append, List.length_cons, List.length_nil, List.replicate, List.getElem?_cons_zero, List.getElem?_cons_succ, List.set_cons_zero, List.set_cons_succ, List.map_cons, List.map_nil, List.getD_cons_zero, List.getD_cons_succ, ↓reduceIte, Bool.not_true, Bool.not_false, Bool.false_eq_true, sof_fn1, sof_fn2, sof_fn1p, sof_fn2p, eqv_int, eqv_str, plain_int, plain_bool, plain_none, true_and, and_true, sizeLine_eq, Nat.reduceAdd, Nat.reduceLeDiff, Nat.zero_add, addD_int, addD_str, addD_tup, addD_list, intF_int, intD_int, eqD_int, eqD_str, neD_int, neD_str, inD_list, inD_tup, isND_none, ixD_t0, ixD_t1, ixD_t2, ixD_t3, ixD_l0, lenD_tup, lenD_list, lenD_str, absD_int, toIntD_int, toIntD_bool, toStrD_int, tupleD_list, tupleD_tup, cutSq_tup, cutSq_list, cutSq_str, isInt_none, isInt_bool, isInt_int, isInt_str, isInt_list, isInt_tup, isInt_dict, isBool_none, isBool_bool, isBool_int, isBool_str, isBool_list, isBool_tup, isBool_dict, isStr_none, isStr_bool, isStr_int, isStr_str, isStr_list, isStr_tup, isStr_dict, isTup_none, isTup_bool, isTup_int, isTup_str, isTup_list, isTup_tup, isTup_dict, isLst_none, isLst_bool, isLst_int, isLst_str, isLst_list, isLst_tup, isLst_dict, eqSD_str, neSD_str, inKvD_str, eqE_tup, eqEL_list, inSD_one, ordSD_str, notInSD_one, intB_int, intB_bool]
  split
  · rw [frac_tup (notT (by assumption))]
  · obtain ⟨ds, rfl⟩ := tup_ex (by assumption)
    simp only [dSeq, dIfS, dRet, dRetN, dSet, dPar, dPar3, dAsg, dFor, dDrop, dNext, dBrk, dCnt, dAug, dApp, dExt, dPop, dPopAt, dSetI, dFrz, xD, xF, dC, dV, dO, dOp, dOpO, dB, dCh, dAnd, dOr, dNot, dAndV, dOrV, dNotV, dNotT, dIf, dNil, dCons, gNilD, gConsD, gLm, dTup, dLst, dLs, dSl, dSlO, dNo, dSo, d1, dIsi, dList, dCall, dCallK, putS, dGcd, dNeg, dLc, dYes, wTupI, wLstI, wRng1, wRng2, wEnT, wEnL, wName, wNil, wCons, wTup, subD, mulD, divD, modD, powD, ltD, leD, gtD, geD, reprD, wipeD, uns, gDef, dRmG, dRmS, gRm, gConsR, gLmR, dCallR, reRm, dRoom, unrm, dKvIx, dKvGet, dLcm, dListRg, wZip, dKtIn, dKtIx, sumD, sortID, keyD, wStrI, dSplit, catF, catFO, gOwnB, dCallB, wZipT, List.cons_append, List.nil_append, List.length_cons, List.length_nil, List.replicate, List.getElem?_cons_zero, List.getElem?_cons_succ, List.set_cons_zero, List.set_cons_succ, List.map_cons, List.map_nil, List.getD_cons_zero, List.getD_cons_succ, ↓reduceIte, Bool.not_true, Bool.not_false, Bool.false_eq_true, sof_fn1, sof_fn2, sof_fn1p, sof_fn2p, eqv_int, eqv_str, plain_int, plain_bool, plain_none, true_and, and_true, sizeLine_eq, Nat.reduceAdd, Nat.reduceLeDiff, Nat.zero_add, addD_int, addD_str, addD_tup, addD_list, intF_int, intD_int, eqD_int, eqD_str, neD_int, neD_str, inD_list, inD_tup, isND_none, ixD_t0, ixD_t1, ixD_t2, ixD_t3, ixD_l0, lenD_tup, lenD_list, lenD_str, absD_int, toIntD_int, toIntD_bool, toStrD_int, tupleD_list, tupleD_tup, cutSq_tup, cutSq_list, cutSq_str, isInt_none, isInt_bool, isInt_int, isInt_str, isInt_list, isInt_tup, isInt_dict, isBool_none, isBool_bool, isBool_int, isBool_str, isBool_list, isBool_tup, isBool_dict, isStr_none, isStr_bool, isStr_int, isStr_str, isStr_list, isStr_tup, isStr_dict, isTup_none, isTup_bool, isTup_int, isTup_str, isTup_list, isTup_tup, isTup_dict, isLst_none, isLst_bool, isLst_int, isLst_str, isLst_list, isLst_tup, isLst_dict, eqSD_str, neSD_str, inKvD_str, eqE_tup, eqEL_list, inSD_one, ordSD_str, notInSD_one, intB_int, intB_bool]
    split
    · rw [frac_len (fun z => by simp_all)]
    · have l : ds.length = 2 := by
        rename_i h
        simp only [Bool.not_eq_true', decide_eq_false_iff_not, Decidable.not_not] at h
        omega
      obtain ⟨a, b, rfl⟩ := two_ex l
      refine ⟨rfl, ?_⟩
      dsimp only
      split
      · obtain ⟨i, rfl⟩ := whole_of (by assumption)
        split
        · obtain ⟨j, rfl⟩ := whole_of (by assumption)
          simp only [dSeq, dIfS, dRet, dRetN, dSet, dPar, dPar3, dAsg, dFor, dDrop, dNext, dBrk, dCnt, dAug, dApp, dExt, dPop, dPopAt, dSetI, dFrz, xD, xF, dC, dV, dO, dOp, dOpO, dB, dCh, dAnd, dOr, dNot, dAndV, dOrV, dNotV, dNotT, dIf, dNil, dCons, gNilD, gConsD, gLm, dTup, dLst, dLs, dSl, dSlO, dNo, dSo, d1, dIsi, dList, dCall, dCallK, putS, dGcd, dNeg, dLc, dYes, wTupI, wLstI, wRng1, wRng2, wEnT, wEnL, wName, wNil, wCons, wTup, subD, mulD, divD, modD, powD, ltD, leD, gtD, geD, reprD, wipeD, uns, gDef, dRmG, dRmS, gRm, gConsR, gLmR, dCallR, reRm, dRoom, unrm, dKvIx, dKvGet, dLcm, dListRg, wZip, dKtIn, dKtIx, sumD, sortID, keyD, wStrI, dSplit, catF, catFO, gOwnB, dCallB, wZipT, List.cons_append, List.nil_append, List.length_cons, List.length_nil, List.replicate, List.getElem?_cons_zero, List.getElem?_cons_succ, List.set_cons_zero, List.set_cons_succ, List.map_cons, List.map_nil, List.getD_cons_zero, List.getD_cons_succ, ↓reduceIte, Bool.not_true, Bool.not_false, Bool.false_eq_true, sof_fn1, sof_fn2, sof_fn1p, sof_fn2p, eqv_int, eqv_str, plain_int, plain_bool, plain_none, true_and, and_true, sizeLine_eq, Nat.reduceAdd, Nat.reduceLeDiff, Nat.zero_add, addD_int, addD_str, addD_tup, addD_list, intF_int, intD_int, eqD_int, eqD_str, neD_int, neD_str, inD_list, inD_tup, isND_none, ixD_t0, ixD_t1, ixD_t2, ixD_t3, ixD_l0, lenD_tup, lenD_list, lenD_str, absD_int, toIntD_int, toIntD_bool, toStrD_int, tupleD_list, tupleD_tup, cutSq_tup, cutSq_list, cutSq_str, isInt_none, isInt_bool, isInt_int, isInt_str, isInt_list, isInt_tup, isInt_dict, isBool_none, isBool_bool, isBool_int, isBool_str, isBool_list, isBool_tup, isBool_dict, isStr_none, isStr_bool, isStr_int, isStr_str, isStr_list, isStr_tup, isStr_dict, isTup_none, isTup_bool, isTup_int, isTup_str, isTup_list, isTup_tup, isTup_dict, isLst_none, isLst_bool, isLst_int, isLst_str, isLst_list, isLst_tup, isLst_dict, eqSD_str, neSD_str, inKvD_str, eqE_tup, eqEL_list, inSD_one, ordSD_str, notInSD_one, intB_int, intB_bool]
          split
          · simp_all [fracD, natgcd_one]
          · rename_i hj
            have : ¬ (1 ≤ j) := by simpa using hj
            simp [fracD, this]
        · rw [frac_no_b (by simpa using ‹¬ isWhole b = true›)]
      · rw [frac_no_a (by simpa using ‹¬ isWhole a = true›)]
end
end Ev

set_option exponentiation.threshold 20000
namespace Ev
open PySem PySem.Spec PyProof.Rows L2
theorem firstO_some {bad : PyData → Bool} : ∀ (xs : List PyData) (k i : Nat) (x : PyData), (∀ j y, j < i → xs[j]? = some y → bad y = false) → xs[i]? = some x → bad x = true → firstO bad k xs = some (k + i)
  | [], _, i, x, _, e, _ => by cases e
  | y :: ys, k, 0, x, _, e, b => by
    cases e
    unfold firstO
    rw [if_pos b]
    rfl
  | y :: ys, k, i + 1, x, h, e, b => by
    have hy := h 0 y (Nat.succ_pos _) rfl
    unfold firstO
    rw [if_neg (by rw [hy]; decide), firstO_some ys (k + 1) i x (fun j z hj hz => h (j + 1) z (by omega) hz) e b]
    congr 1
    omega
theorem firstO_none {bad : PyData → Bool} : ∀ (xs : List PyData) (k : Nat), (∀ y ∈ xs, bad y = false) → firstO bad k xs = none
  | [], _, _ => rfl
  | y :: ys, k, h => by
    unfold firstO
    rw [if_neg (by rw [h y (List.mem_cons_self ..)]; decide)]
    exact firstO_none ys (k + 1) fun z hz => h z (List.mem_cons_of_mem _ hz)
/-! ### polynomials -/
def powD' : PyData → Bool
  | .int i => decide (0 ≤ i)
  | _ => false
def fstNz : PyData → Bool
  | .tuple [.int a, _] => decide (a ≠ 0)
  | _ => false
/-- a term of n names -/
def termD (n : Int) : PyData → Bool
  | .tuple [.tuple ps, f] => decide ((ps.length : Int) = n) && ps.all powD' && fracD f && fstNz f
  | _ => false
def intOf : PyData → Int
  | .int i => i
  | _ => 0
def powI : PyData → List Int
  | .tuple [.tuple ps, _] => ps.map intOf
  | _ => []
/-- not greater than the one ahead -/
def ordB (ds : List PyData) : PyData → Bool
  | .int p => lexLe (powI (ds.getD p.toNat .none)) (powI (ds.getD (p.toNat - 1) .none))
  | _ => false
def polyE (n : Int) : PyData → PyData
  | .tuple ds => match firstO (fun x => !termD n x) 0 ds with
    | some k => .tuple [.str "term", .int (k : Int)]
    | none => match firstO (ordB ds) 0 (rngD 1 (ds.length - 1)) with
      | some k => .tuple [.str "order", .int ((k : Int) + 1)]
      | none => .none
  | _ => .str "form"
theorem term_inv {n : Int} {d : PyData} (h : termD n d = true) : ∃ ps f, d = .tuple [.tuple ps, f] ∧ ∀ p ∈ ps, powD' p = true := by
  unfold termD at h
  split at h
  · rename_i ps f
    simp only [Bool.and_eq_true] at h
    exact ⟨ps, f, rfl, List.all_eq_true.mp h.1.1.2⟩
  · cases h
theorem pows_ints : ∀ {ps : List PyData}, (∀ p ∈ ps, powD' p = true) → ps = (ps.map intOf).map .int
  | [], _ => rfl
  | p :: ps, h => by
    have hp := h p (List.mem_cons_self ..)
    cases p with
    | int i =>
      rw [List.map_cons, List.map_cons, ← pows_ints fun q hq => h q (List.mem_cons_of_mem _ hq)]
      rfl
    | _ => cases hp
theorem frac_ints {d : PyData} (h : fracD d = true) : ∃ a b : Int, d = .tuple [.int a, .int b] := by
  unfold fracD at h
  split at h
  · exact ⟨_, _, rfl⟩
  · cases h
theorem rng_at {lo : Int} {n i : Nat} (h : i < n) : (rngD lo n)[i]? = some (.int (lo + (i : Int))) := by
  unfold rngD
  rw [List.getElem?_map, List.getElem?_range h]
  rfl
theorem term_tup {n : Int} {d : PyData} (h : isTup d = false) : termD n d = false := by
  cases d <;> first | rfl | cases h
theorem term_no {n : Int} {a f : PyData} (h : isTup a = false) : termD n (.tuple [a, f]) = false := by
  cases a <;> first | rfl | cases h
theorem term_len {n : Int} {ds : List PyData} (h : ds.length ≠ 2) : termD n (.tuple ds) = false := by
  match ds, h with
  | [], _ => rfl
  | [a], _ => cases a <;> rfl
  | [a, b], h => exact absurd rfl h
  | a :: b :: c :: r, _ => cases a <;> rfl
theorem szx_pos (d : PyData) : 1 ≤ szx d := by
  cases d <;> simp only [szx] <;> omega
theorem szx_mem {ds : List PyData} {d : PyData} (h : d ∈ ds) : szx d ≤ szxs ds := by
  induction ds with
  | nil => cases h
  | cons e es ih =>
    simp only [szxs]
    rcases List.mem_cons.mp h with rfl | h
    · omega
    · have := ih h
      omega
theorem szxs_len : ∀ ds : List PyData, ds.length ≤ szxs ds
  | [] => Nat.zero_le _
  | d :: ds => by have := szx_pos d; have := szxs_len ds; simp only [szxs, List.length_cons]; omega
theorem ite_both2 {c : Bool} {a b : Prop} (ha : c = true → a) (hb : ¬ c = true → b) : if c = true then a else b := by
  by_cases h : c = true
  · rw [if_pos h]; exact ha h
  · rw [if_neg h]; exact hb h
theorem asB_map (f : PyData → Bool) : ∀ ps : List PyData, asBools (ps.map fun d => .bool (f d)) = some (ps.map f)
  | [] => rfl
  | p :: ps => by
    have := asB_map f ps
    simp only [List.map_cons, asBools, this, Option.map_some]
section
variable {P : Program} {w : World} {K : PySem.W.Frag} {mg : Str → Option Value} {base : Heap} {A : Nat → Addr} {D : Nat → FuncData}
def termR : RelD := fun ss P => ∃ (n : Int) (d : PyData), ss = [.d (.int n), .d d] ∧ szx d ≤ 16000000 ∧ P = fun r => r = .bool (termD n d)
theorem Txt.ok_is_term (T : Txt K mg A D) : FnOk P w K mg base CX0 3 (A 3) (D 3) ["n", "value"] (spD K termR) := by
  refine okD T.F_is_term sc_is_term (by rintro ss P ⟨n, d, rfl, _⟩; rfl) (fun cdv Ar outer s H E hr => ⟨_, (dss_cons (ds_if (DW.pt (dw_or (dt_not (dt_val (de_isi (tn := "tuple") kit_tup (by rfl) T.z_isinstance (by decide +kernel) (de_v (pv 1)) (pe_bltn (v := .ty "tuple") (by rfl) T.z_tuple (by decide +kernel) rfl)))) (dw_or1 (dt_cmp (o_ne hr.units) (de_c1 c_len (by rfl) T.z_len (by decide +kernel) (DE.r (de_v (pv 1)))) (DE.r de_int) (nomark _))))) (dss_one (ds_ret de_bl)) dss_nil)
    (dss_cons (ds_asg (de_v (pv 1)) (dg_tup (n := 2) rfl (dgs_cons (dg_name (i := 2) sc_is_term.nd rfl (Or.inl rfl)) (dgs_cons (dg_name (i := 3) sc_is_term.nd rfl (Or.inl rfl)) dgs_nil))))
    (dss_cons (ds_if (DW.pt (dw_or (dt_not (dt_val (de_isi (tn := "tuple") kit_tup (by rfl) T.z_isinstance (by decide +kernel) (de_v (pv 2)) (pe_bltn (v := .ty "tuple") (by rfl) T.z_tuple (by decide +kernel) rfl)))) (dw_or1 (dt_cmp (o_ne hr.units) (de_c1 c_len (by rfl) T.z_len (by decide +kernel) (DE.r (de_v (pv 2)))) (DE.r (de_v (pv 0))) (nomark _))))) (dss_one (ds_ret de_bl)) dss_nil)
    (dss_cons (ds_if (dt_not (dt_val (de_c1 (c_all rfl) (by rfl) T.z_all (by decide +kernel) (DE.r (DF.de (df_lc (own := [("number", 4)]) rfl sc_is_term.nd (di_tup (de_v (pv 2))) (blkOk_by (N := ["n", "value", "powers", "fraction", "number"]) (sc := defScope s_is_term) (by decide +kernel)) (fun _ _ _ _ _ => (dg_name (i := 4) sc_is_term.nd rfl (Or.inl rfl))) (fun _ _ _ _ _ => dts_nil) (fun _ _ _ _ _ => (de_and (de_call T.ok_is_integer (hr.mono (by decide)) (by rfl) T.g_is_integer T.k_is_integer T.b_is_integer pass0 (dg_cons (de_v (pv 4)) dg_nil)) (de_one (de_cmp o_ge (de_v (pv 4)) (DE.r de_int) (nomark _))))))))))) (dss_one (ds_ret de_bl)) dss_nil)
    (dss_one (ds_ret (de_and (de_call T.ok_is_fraction hr (by rfl) T.g_is_fraction T.k_is_fraction T.b_is_fraction pass0 (dg_cons (de_v (pv 3)) dg_nil)) (de_one (de_cmp (o_ne hr.units) (de_ix (de_v (pv 3)) de_int (fun _ _ => rfl)) (DE.r de_int) (nomark _)))))))))), ?_⟩)
  rintro ss P ⟨n, d, rfl, hz, rfl⟩
  simp only [dSeq, dIfS, dRet, dRetN, dSet, dPar, dPar3, dAsg, dFor, dDrop, dNext, dBrk, dCnt, dAug, dApp, dExt, dPop, dPopAt, dSetI, dFrz, xD, xF, dC, dV, dO, dOp, dOpO, dB, dCh, dAnd, dOr, dNot, dAndV, dOrV, dNotV, dNotT, dIf, dNil, dCons, gNilD, gConsD, gLm, dTup, dLst, dLs, dSl, dSlO, dNo, dSo, d1, dIsi, dList, dCall, dCallK, putS, dGcd, dNeg, dLc, dYes, wTupI, wLstI, wRng1, wRng2, wEnT, wEnL, wName, wNil, wCons, wTup, subD, mulD, divD, modD, powD, ltD, leD, gtD, geD, reprD, wipeD, uns, gDef, dRmG, dRmS, gRm, gConsR, gLmR, dCallR, reRm, dRoom, unrm, dKvIx, dKvGet, dLcm, dListRg, wZip, dKtIn, dKtIx, sumD, sortID, keyD, wStrI, dSplit, catF, catFO, gOwnB, dCallB, wZipT, List.cons_append, List.nil_append, List.length_cons, List.length_nil, List.replicate, List.getElem?_cons_zero, List.getElem?_cons_succ, List.set_cons_zero, List.set_cons_succ, List.map_cons, List.map_nil, List.getD_cons_zero, List.getD_cons_succ, ↓reduceIte, Bool.not_true, Bool.not_false, Bool.false_eq_true, sof_fn1, sof_fn2, sof_fn1p, sof_fn2p, eqv_int, eqv_str, plain_int, plain_bool, plain_none, true_and, and_true, sizeLine_eq, Nat.reduceAdd, Nat.reduceLeDiff, Nat.zero_add, addD_int, addD_str, addD_tup, addD_list, intF_int, intD_int, eqD_int, eqD_str, neD_int, neD_str, inD_list, inD_tup, isND_none, ixD_t0, ixD_t1, ixD_t2, ixD_t3, ixD_l0, lenD_tup, lenD_list, lenD_str, absD_int, toIntD_int, toIntD_bool, toStrD_int, tupleD_list, tupleD_tup, cutSq_tup, cutSq_list, cutSq_str, isInt_none, isInt_bool, isInt_int, isInt_str, isInt_list, isInt_tup, isInt_dict, isBool_none, isBool_bool, isBool_int, isBool_str, isBool_list, isBool_tup, isBool_dict, isStr_none, isStr_bool, isStr_int, isStr_str, isStr_list, isStr_tup, isStr_dict, isTup_none, isTup_bool, isTup_int, isTup_str, isTup_list, isTup_tup, isTup_dict, isLst_none, isLst_bool, isLst_int, isLst_str, isLst_list, isLst_tup, isLst_dict, eqSD_str, neSD_str, inKvD_str, eqE_tup, eqEL_list, inSD_one, ordSD_str, notInSD_one, intB_int, intB_bool]
  split
  · rw [term_tup (notT (by assumption))]
  · obtain ⟨ds, rfl⟩ := tup_ex (by assumption)
    simp only [dSeq, dIfS, dRet, dRetN, dSet, dPar, dPar3, dAsg, dFor, dDrop, dNext, dBrk, dCnt, dAug, dApp, dExt, dPop, dPopAt, dSetI, dFrz, xD, xF, dC, dV, dO, dOp, dOpO, dB, dCh, dAnd, dOr, dNot, dAndV, dOrV, dNotV, dNotT, dIf, dNil, dCons, gNilD, gConsD, gLm, dTup, dLst, dLs, dSl, dSlO, dNo, dSo, d1, dIsi, dList, dCall, dCallK, putS, dGcd, dNeg, dLc, dYes, wTupI, wLstI, wRng1, wRng2, wEnT, wEnL, wName, wNil, wCons, wTup, subD, mulD, divD, modD, powD, ltD, leD, gtD, geD, reprD, wipeD, uns, gDef, dRmG, dRmS, gRm, gConsR, gLmR, dCallR, reRm, dRoom, unrm, dKvIx, dKvGet, dLcm, dListRg, wZip, dKtIn, dKtIx, sumD, sortID, keyD, wStrI, dSplit, catF, catFO, gOwnB, dCallB, wZipT, List.cons_append, List.nil_append, List.length_cons, List.length_nil, List.replicate, List.getElem?_cons_zero, List.getElem?_cons_succ, List.set_cons_zero, List.set_cons_succ, List.map_cons, List.map_nil, List.getD_cons_zero, List.getD_cons_succ, ↓reduceIte, Bool.not_true, Bool.not_false, Bool.false_eq_true, sof_fn1, sof_fn2, sof_fn1p, sof_fn2p, eqv_int, eqv_str, plain_int, plain_bool, plain_none, true_and, and_true, sizeLine_eq, Nat.reduceAdd, Nat.reduceLeDiff, Nat.zero_add, addD_int, addD_str, addD_tup, addD_list, intF_int, intD_int, eqD_int, eqD_str, neD_int, neD_str, inD_list, inD_tup, isND_none, ixD_t0, ixD_t1, ixD_t2, ixD_t3, ixD_l0, lenD_tup, lenD_list, lenD_str, absD_int, toIntD_int, toIntD_bool, toStrD_int, tupleD_list, tupleD_tup, cutSq_tup, cutSq_list, cutSq_str, isInt_none, isInt_bool, isInt_int, isInt_str, isInt_list, isInt_tup, isInt_dict, isBool_none, isBool_bool, isBool_int, isBool_str, isBool_list, isBool_tup, isBool_dict, isStr_none, isStr_bool, isStr_int, isStr_str, isStr_list, isStr_tup, isStr_dict, isTup_none, isTup_bool, isTup_int, isTup_str, isTup_list, isTup_tup, isTup_dict, isLst_none, isLst_bool, isLst_int, isLst_str, isLst_list, isLst_tup, isLst_dict, eqSD_str, neSD_str, inKvD_str, eqE_tup, eqEL_list, inSD_one, ordSD_str, notInSD_one, intB_int, intB_bool]
    split
    · rw [term_len (fun z => by simp_all)]
    · have l : ds.length = 2 := by
        rename_i h
        simp only [Bool.not_eq_true', decide_eq_false_iff_not, Decidable.not_not] at h
        omega
      obtain ⟨a, f, rfl⟩ := two_ex l
      refine ⟨rfl, ?_⟩
      dsimp only
      split
      · rw [term_no (notT (by assumption))]
      · obtain ⟨ps, rfl⟩ := tup_ex (by assumption)
        have e : termD n (.tuple [.tuple ps, f]) = (decide ((ps.length : Int) = n) && ps.all powD' && fracD f && fstNz f) := rfl
        rw [e]
        have lp := szxs_len ps
        simp only [szx, szxs] at hz
        simp only [dSeq, dIfS, dRet, dRetN, dSet, dPar, dPar3, dAsg, dFor, dDrop, dNext, dBrk, dCnt, dAug, dApp, dExt, dPop, dPopAt, dSetI, dFrz, xD, xF, dC, dV, dO, dOp, dOpO, dB, dCh, dAnd, dOr, dNot, dAndV, dOrV, dNotV, dNotT, dIf, dNil, dCons, gNilD, gConsD, gLm, dTup, dLst, dLs, dSl, dSlO, dNo, dSo, d1, dIsi, dList, dCall, dCallK, putS, dGcd, dNeg, dLc, dYes, wTupI, wLstI, wRng1, wRng2, wEnT, wEnL, wName, wNil, wCons, wTup, subD, mulD, divD, modD, powD, ltD, leD, gtD, geD, reprD, wipeD, uns, gDef, dRmG, dRmS, gRm, gConsR, gLmR, dCallR, reRm, dRoom, unrm, dKvIx, dKvGet, dLcm, dListRg, wZip, dKtIn, dKtIx, sumD, sortID, keyD, wStrI, dSplit, catF, catFO, gOwnB, dCallB, wZipT, List.cons_append, List.nil_append, List.length_cons, List.length_nil, List.replicate, List.getElem?_cons_zero, List.getElem?_cons_succ, List.set_cons_zero, List.set_cons_succ, List.map_cons, List.map_nil, List.getD_cons_zero, List.getD_cons_succ, ↓reduceIte, Bool.not_true, Bool.not_false, Bool.false_eq_true, sof_fn1, sof_fn2, sof_fn1p, sof_fn2p, eqv_int, eqv_str, plain_int, plain_bool, plain_none, true_and, and_true, sizeLine_eq, Nat.reduceAdd, Nat.reduceLeDiff, Nat.zero_add, addD_int, addD_str, addD_tup, addD_list, intF_int, intD_int, eqD_int, eqD_str, neD_int, neD_str, inD_list, inD_tup, isND_none, ixD_t0, ixD_t1, ixD_t2, ixD_t3, ixD_l0, lenD_tup, lenD_list, lenD_str, absD_int, toIntD_int, toIntD_bool, toStrD_int, tupleD_list, tupleD_tup, cutSq_tup, cutSq_list, cutSq_str, isInt_none, isInt_bool, isInt_int, isInt_str, isInt_list, isInt_tup, isInt_dict, isBool_none, isBool_bool, isBool_int, isBool_str, isBool_list, isBool_tup, isBool_dict, isStr_none, isStr_bool, isStr_int, isStr_str, isStr_list, isStr_tup, isStr_dict, isTup_none, isTup_bool, isTup_int, isTup_str, isTup_list, isTup_tup, isTup_dict, isLst_none, isLst_bool, isLst_int, isLst_str, isLst_list, isLst_tup, isLst_dict, eqSD_str, neSD_str, inKvD_str, eqE_tup, eqEL_list, inSD_one, ordSD_str, notInSD_one, intB_int, intB_bool]
        refine ite_both2 (fun h => ?_) (fun h => ?_)
        · rw [decide_eq_false (by simpa using h)]
          rfl
        · rw [decide_eq_true (by simpa using h), Bool.true_and]
          refine lc_at (fun i acc => acc = (ps.take i).map fun d => .bool (powD' d)) rfl (fun acc e => ?_) (fun i x acc N hi ex e hN => ?_)
          · rw [e, List.take_length]
            unfold foldB
            dsimp only
            rw [asB_map]
            dsimp only
            refine ite_both2 (fun h => ?_) (fun h => ?_)
            · rw [show ps.all powD' = false by simpa [List.all_map] using h]
              rfl
            · rw [show ps.all powD' = true by simpa [List.all_map] using h, Bool.true_and]
              refine ite_both2 (fun hf => ?_) (fun hf => ?_)
              · obtain ⟨a, b, rfl⟩ := frac_ints hf
                rw [hf, Bool.true_and, ixD_t0]
                simp only [dSeq, dIfS, dRet, dRetN, dSet, dPar, dPar3, dAsg, dFor, dDrop, dNext, dBrk, dCnt, dAug, dApp, dExt, dPop, dPopAt, dSetI, dFrz, xD, xF, dC, dV, dO, dOp, dOpO, dB, dCh, dAnd, dOr, dNot, dAndV, dOrV, dNotV, dNotT, dIf, dNil, dCons, gNilD, gConsD, gLm, dTup, dLst, dLs, dSl, dSlO, dNo, dSo, d1, dIsi, dList, dCall, dCallK, putS, dGcd, dNeg, dLc, dYes, wTupI, wLstI, wRng1, wRng2, wEnT, wEnL, wName, wNil, wCons, wTup, subD, mulD, divD, modD, powD, ltD, leD, gtD, geD, reprD, wipeD, uns, gDef, dRmG, dRmS, gRm, gConsR, gLmR, dCallR, reRm, dRoom, unrm, dKvIx, dKvGet, dLcm, dListRg, wZip, dKtIn, dKtIx, sumD, sortID, keyD, wStrI, dSplit, catF, catFO, gOwnB, dCallB, wZipT, List.cons_append, List.nil_append, List.length_cons, List.length_nil, List.replicate, List.getElem?_cons_zero, List.getElem?_cons_succ, List.set_cons_zero, List.set_cons_succ, List.map_cons, List.map_nil, List.getD_cons_zero, List.getD_cons_succ, ↓reduceIte, Bool.not_true, Bool.not_false, Bool.false_eq_true, sof_fn1, sof_fn2, sof_fn1p, sof_fn2p, eqv_int, eqv_str, plain_int, plain_bool, plain_none, true_and, and_true, sizeLine_eq, Nat.reduceAdd, Nat.reduceLeDiff, Nat.zero_add, addD_int, addD_str, addD_tup, addD_list, intF_int, intD_int, eqD_int, eqD_str, neD_int, neD_str, inD_list, inD_tup, isND_none, ixD_t0, ixD_t1, ixD_t2, ixD_t3, ixD_l0, lenD_tup, lenD_list, lenD_str, absD_int, toIntD_int, toIntD_bool, toStrD_int, tupleD_list, tupleD_tup, cutSq_tup, cutSq_list, cutSq_str, isInt_none, isInt_bool, isInt_int, isInt_str, isInt_list, isInt_tup, isInt_dict, isBool_none, isBool_bool, isBool_int, isBool_str, isBool_list, isBool_tup, isBool_dict, isStr_none, isStr_bool, isStr_int, isStr_str, isStr_list, isStr_tup, isStr_dict, isTup_none, isTup_bool, isTup_int, isTup_str, isTup_list, isTup_tup, isTup_dict, isLst_none, isLst_bool, isLst_int, isLst_str, isLst_list, isLst_tup, isLst_dict, eqSD_str, neSD_str, inKvD_str, eqE_tup, eqEL_list, inSD_one, ordSD_str, notInSD_one, intB_int, intB_bool]
                show (PyData.bool !decide (a = 0)) = PyData.bool (decide (a ≠ 0))
                by_cases h0 : a = 0
                · rw [decide_eq_true h0, decide_eq_false (by simpa using h0)]
                  rfl
                · rw [decide_eq_false h0, decide_eq_true (by simpa using h0)]
                  rfl
              · rw [show fracD f = false by simpa using hf]
                rfl
          · simp only [dSeq, dIfS, dRet, dRetN, dSet, dPar, dPar3, dAsg, dFor, dDrop, dNext, dBrk, dCnt, dAug, dApp, dExt, dPop, dPopAt, dSetI, dFrz, xD, xF, dC, dV, dO, dOp, dOpO, dB, dCh, dAnd, dOr, dNot, dAndV, dOrV, dNotV, dNotT, dIf, dNil, dCons, gNilD, gConsD, gLm, dTup, dLst, dLs, dSl, dSlO, dNo, dSo, d1, dIsi, dList, dCall, dCallK, putS, dGcd, dNeg, dLc, dYes, wTupI, wLstI, wRng1, wRng2, wEnT, wEnL, wName, wNil, wCons, wTup, subD, mulD, divD, modD, powD, ltD, leD, gtD, geD, reprD, wipeD, uns, gDef, dRmG, dRmS, gRm, gConsR, gLmR, dCallR, reRm, dRoom, unrm, dKvIx, dKvGet, dLcm, dListRg, wZip, dKtIn, dKtIx, sumD, sortID, keyD, wStrI, dSplit, catF, catFO, gOwnB, dCallB, wZipT, List.cons_append, List.nil_append, List.length_cons, List.length_nil, List.replicate, List.getElem?_cons_zero, List.getElem?_cons_succ, List.set_cons_zero, List.set_cons_succ, List.map_cons, List.map_nil, List.getD_cons_zero, List.getD_cons_succ, ↓reduceIte, Bool.not_true, Bool.not_false, Bool.false_eq_true, sof_fn1, sof_fn2, sof_fn1p, sof_fn2p, eqv_int, eqv_str, plain_int, plain_bool, plain_none, true_and, and_true, sizeLine_eq, Nat.reduceAdd, Nat.reduceLeDiff, Nat.zero_add, addD_int, addD_str, addD_tup, addD_list, intF_int, intD_int, eqD_int, eqD_str, neD_int, neD_str, inD_list, inD_tup, isND_none, ixD_t0, ixD_t1, ixD_t2, ixD_t3, ixD_l0, lenD_tup, lenD_list, lenD_str, absD_int, toIntD_int, toIntD_bool, toStrD_int, tupleD_list, tupleD_tup, cutSq_tup, cutSq_list, cutSq_str, isInt_none, isInt_bool, isInt_int, isInt_str, isInt_list, isInt_tup, isInt_dict, isBool_none, isBool_bool, isBool_int, isBool_str, isBool_list, isBool_tup, isBool_dict, isStr_none, isStr_bool, isStr_int, isStr_str, isStr_list, isStr_tup, isStr_dict, isTup_none, isTup_bool, isTup_int, isTup_str, isTup_list, isTup_tup, isTup_dict, isLst_none, isLst_bool, isLst_int, isLst_str, isLst_list, isLst_tup, isLst_dict, eqSD_str, neSD_str, inKvD_str, eqE_tup, eqEL_list, inSD_one, ordSD_str, notInSD_one, intB_int, intB_bool]
            subst e
            have ll : ((ps.take i).map fun d => PyData.bool (powD' d)).length < 16777216 := by rw [List.length_map, List.length_take]; omega
            have nx : ((ps.take (i + 1)).map fun d => PyData.bool (powD' d)) = ((ps.take i).map fun d => PyData.bool (powD' d)) ++ [.bool (powD' x)] := by
              rw [List.take_add_one, ex, List.map_append]
              rfl
            refine ite_both2 (fun hw => ?_) (fun hw => ?_)
            · obtain ⟨j, rfl⟩ := whole_of hw
              rw [intF_int]
              exact ⟨ll, hN _ (by rw [nx]; rfl)⟩
            · refine ⟨ll, hN _ ?_⟩
              rw [nx]
              cases x with
              | int j => exact absurd rfl hw
              | _ => rfl
def polyR : RelD := fun ss P => ∃ (n : Int) (d : PyData), ss = [.d (.int n), .d d] ∧ szx d ≤ 16000000 ∧ P = fun r => r = polyE n d
theorem Txt.ok_polynomial_error (T : Txt K mg A D) : FnOk P w K mg base CX0 4 (A 2) (D 2) ["n", "value"] (spD K polyR) := by
  refine okD T.F_polynomial_error sc_polynomial_error (by rintro ss P ⟨n, d, rfl, _⟩; rfl) (fun cdv Ar outer s H E hr => ⟨_, (dss_cons (ds_if (dt_not (dt_val (de_isi (tn := "tuple") kit_tup (by rfl) T.z_isinstance (by decide +kernel) (de_v (pv 1)) (pe_bltn (v := .ty "tuple") (by rfl) T.z_tuple (by decide +kernel) rfl)))) (dss_one (ds_ret de_str)) dss_nil)
    (dss_cons (ds_for PassesOwn.never rfl (di_enT (by rfl) T.enumerate (de_v (pv 1))) (dg_tup (n := 2) rfl (dgs_cons (dg_name (i := 2) sc_polynomial_error.nd rfl (Or.inl rfl)) (dgs_cons (dg_name (i := 3) sc_polynomial_error.nd rfl (Or.inl rfl)) dgs_nil))) (dss_one (ds_if (dt_not (dt_val (de_call T.ok_is_term hr (by rfl) T.g_is_term T.k_is_term T.b_is_term pass0 (dg_cons (de_v (pv 0)) (dg_cons (de_v (pv 3)) dg_nil))))) (dss_one (ds_ret (de_tup (da_cons de_str (da_cons (de_v (pv 2)) da_nil))))) dss_nil)))
    (dss_cons (ds_for PassesOwn.never rfl (di_rng2 rfl T.range de_int (de_c1 c_len (by rfl) T.z_len (by decide +kernel) (DE.r (de_v (pv 1))))) (dg_name (i := 2) sc_polynomial_error.nd rfl (Or.inl rfl)) (dss_one (ds_if (dt_cmp (o_leT (un0 hr.units)) (de_ix (de_ix (de_v (pv 1)) (de_v (pv 2)) (fun _ _ => rfl)) de_int (fun _ _ => rfl)) (DE.r (de_ix (de_ix (de_v (pv 1)) (de_op o_sub (de_v (pv 2)) (DE.r de_int)) (fun _ _ => rfl)) de_int (fun _ _ => rfl))) (nomark _)) (dss_one (ds_ret (de_tup (da_cons de_str (da_cons (de_v (pv 2)) da_nil))))) dss_nil)))
    (dss_one (ds_ret de_non))))), ?_⟩)
  rintro ss P ⟨n, d, rfl, hz, rfl⟩
  cases d with
  | tuple ds =>
    simp only [dSeq, dIfS, dRet, dRetN, dSet, dPar, dPar3, dAsg, dFor, dDrop, dNext, dBrk, dCnt, dAug, dApp, dExt, dPop, dPopAt, dSetI, dFrz, xD, xF, dC, dV, dO, dOp, dOpO, dB, dCh, dAnd, dOr, dNot, dAndV, dOrV, dNotV, dNotT, dIf, dNil, dCons, gNilD, gConsD, gLm, dTup, dLst, dLs, dSl, dSlO, dNo, dSo, d1, dIsi, dList, dCall, dCallK, putS, dGcd, dNeg, dLc, dYes, wTupI, wLstI, wRng1, wRng2, wEnT, wEnL, wName, wNil, wCons, wTup, subD, mulD, divD, modD, powD, ltD, leD, gtD, geD, reprD, wipeD, uns, gDef, dRmG, dRmS, gRm, gConsR, gLmR, dCallR, reRm, dRoom, unrm, dKvIx, dKvGet, dLcm, dListRg, wZip, dKtIn, dKtIx, sumD, sortID, keyD, wStrI, dSplit, catF, catFO, gOwnB, dCallB, wZipT, List.cons_append, List.nil_append, List.length_cons, List.length_nil, List.replicate, List.getElem?_cons_zero, List.getElem?_cons_succ, List.set_cons_zero, List.set_cons_succ, List.map_cons, List.map_nil, List.getD_cons_zero, List.getD_cons_succ, ↓reduceIte, Bool.not_true, Bool.not_false, Bool.false_eq_true, sof_fn1, sof_fn2, sof_fn1p, sof_fn2p, eqv_int, eqv_str, plain_int, plain_bool, plain_none, true_and, and_true, sizeLine_eq, Nat.reduceAdd, Nat.reduceLeDiff, Nat.zero_add, addD_int, addD_str, addD_tup, addD_list, intF_int, intD_int, eqD_int, eqD_str, neD_int, neD_str, inD_list, inD_tup, isND_none, ixD_t0, ixD_t1, ixD_t2, ixD_t3, ixD_l0, lenD_tup, lenD_list, lenD_str, absD_int, toIntD_int, toIntD_bool, toStrD_int, tupleD_list, tupleD_tup, cutSq_tup, cutSq_list, cutSq_str, isInt_none, isInt_bool, isInt_int, isInt_str, isInt_list, isInt_tup, isInt_dict, isBool_none, isBool_bool, isBool_int, isBool_str, isBool_list, isBool_tup, isBool_dict, isStr_none, isStr_bool, isStr_int, isStr_str, isStr_list, isStr_tup, isStr_dict, isTup_none, isTup_bool, isTup_int, isTup_str, isTup_list, isTup_tup, isTup_dict, isLst_none, isLst_bool, isLst_int, isLst_str, isLst_list, isLst_tup, isLst_dict, eqSD_str, neSD_str, inKvD_str, eqE_tup, eqEL_list, inSD_one, ordSD_str, notInSD_one, intB_int, intB_bool]
    have lz := szxs_len ds
    have hz' : szxs ds + 1 ≤ 16000000 := by simpa only [szx, Nat.add_comm] using hz
    refine for_enat (fun i ρ => (∀ j y, j < i → ds[j]? = some y → (!termD n y) = false) ∧ ∃ a b, ρ = [.d (.int n), .d (.tuple ds), a, b]) ?_ ?_ ⟨fun j y h => absurd h (Nat.not_lt_zero _), _, _, rfl⟩
    · rintro ρ ⟨hall, a, b, rfl⟩
      have all : ∀ y ∈ ds, termD n y = true := fun y hy => by
        obtain ⟨j, hj⟩ := List.getElem?_of_mem hy
        have := hall j y (List.getElem?_eq_some_iff.mp hj).1 hj
        simpa using this
      have fn : firstO (fun x => !termD n x) 0 ds = none := firstO_none ds 0 fun y hy => by rw [all y hy]; rfl
      have pe : polyE n (.tuple ds) = match firstO (ordB ds) 0 (rngD 1 (ds.length - 1)) with
          | some k => .tuple [.str "order", .int ((k : Int) + 1)]
          | none => .none := by
        show (match firstO (fun x => !termD n x) 0 ds with | some k => _ | none => _) = _
        rw [fn]
      rw [pe]
      simp only [dSeq, dIfS, dRet, dRetN, dSet, dPar, dPar3, dAsg, dFor, dDrop, dNext, dBrk, dCnt, dAug, dApp, dExt, dPop, dPopAt, dSetI, dFrz, xD, xF, dC, dV, dO, dOp, dOpO, dB, dCh, dAnd, dOr, dNot, dAndV, dOrV, dNotV, dNotT, dIf, dNil, dCons, gNilD, gConsD, gLm, dTup, dLst, dLs, dSl, dSlO, dNo, dSo, d1, dIsi, dList, dCall, dCallK, putS, dGcd, dNeg, dLc, dYes, wTupI, wLstI, wRng1, wRng2, wEnT, wEnL, wName, wNil, wCons, wTup, subD, mulD, divD, modD, powD, ltD, leD, gtD, geD, reprD, wipeD, uns, gDef, dRmG, dRmS, gRm, gConsR, gLmR, dCallR, reRm, dRoom, unrm, dKvIx, dKvGet, dLcm, dListRg, wZip, dKtIn, dKtIx, sumD, sortID, keyD, wStrI, dSplit, catF, catFO, gOwnB, dCallB, wZipT, List.cons_append, List.nil_append, List.length_cons, List.length_nil, List.replicate, List.getElem?_cons_zero, List.getElem?_cons_succ, List.set_cons_zero, List.set_cons_succ, List.map_cons, List.map_nil, List.getD_cons_zero, List.getD_cons_succ, ↓reduceIte, Bool.not_true, Bool.not_false, Bool.false_eq_true, sof_fn1, sof_fn2, sof_fn1p, sof_fn2p, eqv_int, eqv_str, plain_int, plain_bool, plain_none, true_and, and_true, sizeLine_eq, Nat.reduceAdd, Nat.reduceLeDiff, Nat.zero_add, addD_int, addD_str, addD_tup, addD_list, intF_int, intD_int, eqD_int, eqD_str, neD_int, neD_str, inD_list, inD_tup, isND_none, ixD_t0, ixD_t1, ixD_t2, ixD_t3, ixD_l0, lenD_tup, lenD_list, lenD_str, absD_int, toIntD_int, toIntD_bool, toStrD_int, tupleD_list, tupleD_tup, cutSq_tup, cutSq_list, cutSq_str, isInt_none, isInt_bool, isInt_int, isInt_str, isInt_list, isInt_tup, isInt_dict, isBool_none, isBool_bool, isBool_int, isBool_str, isBool_list, isBool_tup, isBool_dict, isStr_none, isStr_bool, isStr_int, isStr_str, isStr_list, isStr_tup, isStr_dict, isTup_none, isTup_bool, isTup_int, isTup_str, isTup_list, isTup_tup, isTup_dict, isLst_none, isLst_bool, isLst_int, isLst_str, isLst_list, isLst_tup, isLst_dict, eqSD_str, neSD_str, inKvD_str, eqE_tup, eqEL_list, inSD_one, ordSD_str, notInSD_one, intB_int, intB_bool]
      refine ⟨⟨by decide, by decide, by omega, by omega⟩, ?_⟩
      have e1 : ((ds.length : Int) - 1).toNat = ds.length - 1 := by omega
      rw [e1]
      have pw : ∀ k x, ds[k]? = some x → ∃ ps f, x = .tuple [.tuple (ps.map .int), f] ∧ powI x = ps := fun k x hx => by
        obtain ⟨ps, f, rfl, hp⟩ := term_inv (all x (List.mem_of_getElem? hx))
        exact ⟨ps.map intOf, f, by rw [← pows_ints hp], rfl⟩
      refine for_rng (fun i ρ => (∀ j y, j < i → (rngD 1 (ds.length - 1))[j]? = some y → ordB ds y = false) ∧ ∃ a b, ρ = [.d (.int n), .d (.tuple ds), a, b]) ?_ ?_ ⟨fun j y h => absurd h (Nat.not_lt_zero _), _, _, rfl⟩
      · rintro ρ ⟨hno, a, b, rfl⟩
        simp only [dSeq, dIfS, dRet, dRetN, dSet, dPar, dPar3, dAsg, dFor, dDrop, dNext, dBrk, dCnt, dAug, dApp, dExt, dPop, dPopAt, dSetI, dFrz, xD, xF, dC, dV, dO, dOp, dOpO, dB, dCh, dAnd, dOr, dNot, dAndV, dOrV, dNotV, dNotT, dIf, dNil, dCons, gNilD, gConsD, gLm, dTup, dLst, dLs, dSl, dSlO, dNo, dSo, d1, dIsi, dList, dCall, dCallK, putS, dGcd, dNeg, dLc, dYes, wTupI, wLstI, wRng1, wRng2, wEnT, wEnL, wName, wNil, wCons, wTup, subD, mulD, divD, modD, powD, ltD, leD, gtD, geD, reprD, wipeD, uns, gDef, dRmG, dRmS, gRm, gConsR, gLmR, dCallR, reRm, dRoom, unrm, dKvIx, dKvGet, dLcm, dListRg, wZip, dKtIn, dKtIx, sumD, sortID, keyD, wStrI, dSplit, catF, catFO, gOwnB, dCallB, wZipT, List.cons_append, List.nil_append, List.length_cons, List.length_nil, List.replicate, List.getElem?_cons_zero, List.getElem?_cons_succ, List.set_cons_zero, List.set_cons_succ, List.map_cons, List.map_nil, List.getD_cons_zero, List.getD_cons_succ, ↓reduceIte, Bool.not_true, Bool.not_false, Bool.false_eq_true, sof_fn1, sof_fn2, sof_fn1p, sof_fn2p, eqv_int, eqv_str, plain_int, plain_bool, plain_none, true_and, and_true, sizeLine_eq, Nat.reduceAdd, Nat.reduceLeDiff, Nat.zero_add, addD_int, addD_str, addD_tup, addD_list, intF_int, intD_int, eqD_int, eqD_str, neD_int, neD_str, inD_list, inD_tup, isND_none, ixD_t0, ixD_t1, ixD_t2, ixD_t3, ixD_l0, lenD_tup, lenD_list, lenD_str, absD_int, toIntD_int, toIntD_bool, toStrD_int, tupleD_list, tupleD_tup, cutSq_tup, cutSq_list, cutSq_str, isInt_none, isInt_bool, isInt_int, isInt_str, isInt_list, isInt_tup, isInt_dict, isBool_none, isBool_bool, isBool_int, isBool_str, isBool_list, isBool_tup, isBool_dict, isStr_none, isStr_bool, isStr_int, isStr_str, isStr_list, isStr_tup, isStr_dict, isTup_none, isTup_bool, isTup_int, isTup_str, isTup_list, isTup_tup, isTup_dict, isLst_none, isLst_bool, isLst_int, isLst_str, isLst_list, isLst_tup, isLst_dict, eqSD_str, neSD_str, inKvD_str, eqE_tup, eqEL_list, inSD_one, ordSD_str, notInSD_one, intB_int, intB_bool]
        rw [firstO_none _ 0 fun y hy => ?_]
        obtain ⟨j, hj⟩ := List.getElem?_of_mem hy
        exact hno j y (by have := (List.getElem?_eq_some_iff.mp hj).1; rw [rngD_len] at this; exact this) hj
      · rintro i ρ N hi ⟨hno, a, b, rfl⟩ hN
        have r1 : (rngD 1 (ds.length - 1))[i]? = some (.int (1 + (i : Int))) := rng_at hi
        obtain ⟨x1, ex1⟩ : ∃ x, ds[1 + i]? = some x := ⟨_, List.getElem?_eq_getElem (by omega)⟩
        obtain ⟨x0, ex0⟩ : ∃ x, ds[i]? = some x := ⟨_, List.getElem?_eq_getElem (by omega)⟩
        obtain ⟨p1, f1, rfl, q1⟩ := pw _ _ ex1
        obtain ⟨p0, f0, rfl, q0⟩ := pw _ _ ex0
        have ob : ordB ds (.int (1 + (i : Int))) = lexLe p1 p0 := by
          show lexLe (powI (ds.getD (1 + (i : Int)).toNat .none)) (powI (ds.getD ((1 + (i : Int)).toNat - 1) .none)) = _
          rw [show (1 + (i : Int)).toNat = 1 + i by omega, show 1 + i - 1 = i by omega, List.getD_eq_getElem?_getD, List.getD_eq_getElem?_getD, ex1, ex0]
          rw [Option.getD_some, Option.getD_some, q1, q0]
        simp only [dSeq, dIfS, dRet, dRetN, dSet, dPar, dPar3, dAsg, dFor, dDrop, dNext, dBrk, dCnt, dAug, dApp, dExt, dPop, dPopAt, dSetI, dFrz, xD, xF, dC, dV, dO, dOp, dOpO, dB, dCh, dAnd, dOr, dNot, dAndV, dOrV, dNotV, dNotT, dIf, dNil, dCons, gNilD, gConsD, gLm, dTup, dLst, dLs, dSl, dSlO, dNo, dSo, d1, dIsi, dList, dCall, dCallK, putS, dGcd, dNeg, dLc, dYes, wTupI, wLstI, wRng1, wRng2, wEnT, wEnL, wName, wNil, wCons, wTup, subD, mulD, divD, modD, powD, ltD, leD, gtD, geD, reprD, wipeD, uns, gDef, dRmG, dRmS, gRm, gConsR, gLmR, dCallR, reRm, dRoom, unrm, dKvIx, dKvGet, dLcm, dListRg, wZip, dKtIn, dKtIx, sumD, sortID, keyD, wStrI, dSplit, catF, catFO, gOwnB, dCallB, wZipT, List.cons_append, List.nil_append, List.length_cons, List.length_nil, List.replicate, List.getElem?_cons_zero, List.getElem?_cons_succ, List.set_cons_zero, List.set_cons_succ, List.map_cons, List.map_nil, List.getD_cons_zero, List.getD_cons_succ, ↓reduceIte, Bool.not_true, Bool.not_false, Bool.false_eq_true, sof_fn1, sof_fn2, sof_fn1p, sof_fn2p, eqv_int, eqv_str, plain_int, plain_bool, plain_none, true_and, and_true, sizeLine_eq, Nat.reduceAdd, Nat.reduceLeDiff, Nat.zero_add, addD_int, addD_str, addD_tup, addD_list, intF_int, intD_int, eqD_int, eqD_str, neD_int, neD_str, inD_list, inD_tup, isND_none, ixD_t0, ixD_t1, ixD_t2, ixD_t3, ixD_l0, lenD_tup, lenD_list, lenD_str, absD_int, toIntD_int, toIntD_bool, toStrD_int, tupleD_list, tupleD_tup, cutSq_tup, cutSq_list, cutSq_str, isInt_none, isInt_bool, isInt_int, isInt_str, isInt_list, isInt_tup, isInt_dict, isBool_none, isBool_bool, isBool_int, isBool_str, isBool_list, isBool_tup, isBool_dict, isStr_none, isStr_bool, isStr_int, isStr_str, isStr_list, isStr_tup, isStr_dict, isTup_none, isTup_bool, isTup_int, isTup_str, isTup_list, isTup_tup, isTup_dict, isLst_none, isLst_bool, isLst_int, isLst_str, isLst_list, isLst_tup, isLst_dict, eqSD_str, neSD_str, inKvD_str, eqE_tup, eqEL_list, inSD_one, ordSD_str, notInSD_one, intB_int, intB_bool]
        rw [show (1 : Int) + (i : Int) - 1 = ((i : Nat) : Int) by omega, show (1 : Int) + (i : Int) = ((1 + i : Nat) : Int) by omega, ixD_of (atI_nat ex1), ixD_t0, ixD_of (atI_nat ex0), ixD_t0]
        refine ⟨p1, p0, rfl, rfl, ?_⟩
        rw [show ((1 + i : Nat) : Int) = 1 + (i : Int) by omega]
        refine ite_both2 (fun h => ?_) (fun h => ?_)
        · rw [firstO_some _ 0 i _ hno r1 (by rw [ob]; exact h)]
          show PyData.tuple [_, _] = PyData.tuple [_, _]
          rw [show (((0 + i : Nat)) : Int) + 1 = 1 + (i : Int) by omega]
        · refine hN _ ⟨fun j y hj hy => ?_, _, _, rfl⟩
          by_cases e : j = i
          · rw [e, r1] at hy
            cases hy
            rw [ob]
            simpa using h
          · exact hno j y (by omega) hy
    · rintro i x ρ N hi ex ⟨hall, a, b, rfl⟩ hN
      simp only [dSeq, dIfS, dRet, dRetN, dSet, dPar, dPar3, dAsg, dFor, dDrop, dNext, dBrk, dCnt, dAug, dApp, dExt, dPop, dPopAt, dSetI, dFrz, xD, xF, dC, dV, dO, dOp, dOpO, dB, dCh, dAnd, dOr, dNot, dAndV, dOrV, dNotV, dNotT, dIf, dNil, dCons, gNilD, gConsD, gLm, dTup, dLst, dLs, dSl, dSlO, dNo, dSo, d1, dIsi, dList, dCall, dCallK, putS, dGcd, dNeg, dLc, dYes, wTupI, wLstI, wRng1, wRng2, wEnT, wEnL, wName, wNil, wCons, wTup, subD, mulD, divD, modD, powD, ltD, leD, gtD, geD, reprD, wipeD, uns, gDef, dRmG, dRmS, gRm, gConsR, gLmR, dCallR, reRm, dRoom, unrm, dKvIx, dKvGet, dLcm, dListRg, wZip, dKtIn, dKtIx, sumD, sortID, keyD, wStrI, dSplit, catF, catFO, gOwnB, dCallB, wZipT, List.cons_append, List.nil_append, List.length_cons, List.length_nil, List.replicate, List.getElem?_cons_zero, List.getElem?_cons_succ, List.set_cons_zero, List.set_cons_succ, List.map_cons, List.map_nil, List.getD_cons_zero, List.getD_cons_succ, ↓reduceIte, Bool.not_true, Bool.not_false, Bool.false_eq_true, sof_fn1, sof_fn2, sof_fn1p, sof_fn2p, eqv_int, eqv_str, plain_int, plain_bool, plain_none, true_and, and_true, sizeLine_eq, Nat.reduceAdd, Nat.reduceLeDiff, Nat.zero_add, addD_int, addD_str, addD_tup, addD_list, intF_int, intD_int, eqD_int, eqD_str, neD_int, neD_str, inD_list, inD_tup, isND_none, ixD_t0, ixD_t1, ixD_t2, ixD_t3, ixD_l0, lenD_tup, lenD_list, lenD_str, absD_int, toIntD_int, toIntD_bool, toStrD_int, tupleD_list, tupleD_tup, cutSq_tup, cutSq_list, cutSq_str, isInt_none, isInt_bool, isInt_int, isInt_str, isInt_list, isInt_tup, isInt_dict, isBool_none, isBool_bool, isBool_int, isBool_str, isBool_list, isBool_tup, isBool_dict, isStr_none, isStr_bool, isStr_int, isStr_str, isStr_list, isStr_tup, isStr_dict, isTup_none, isTup_bool, isTup_int, isTup_str, isTup_list, isTup_tup, isTup_dict, isLst_none, isLst_bool, isLst_int, isLst_str, isLst_list, isLst_tup, isLst_dict, eqSD_str, neSD_str, inKvD_str, eqE_tup, eqEL_list, inSD_one, ordSD_str, notInSD_one, intB_int, intB_bool]
      refine ⟨_, ⟨n, x, rfl, Nat.le_trans (szx_mem (List.mem_of_getElem? ex)) (by omega), rfl⟩, ?_⟩
      rintro _ rfl
      dsimp only
      refine ite_both2 (fun h => ?_) (fun h => ?_)
      · have fs := firstO_some (bad := fun x => !termD n x) ds 0 i x hall ex h
        show _ = (match firstO (fun x => !termD n x) 0 ds with | some k => _ | none => _)
        rw [fs, Nat.zero_add]
      · refine hN _ ⟨fun j y hj hy => ?_, _, _, rfl⟩
        by_cases e : j = i
        · rw [e, ex] at hy
          cases hy
          simpa using h
        · exact hall j y (by omega) hy
  | _ => exact rfl
end
end Ev

set_option exponentiation.threshold 20000
namespace Ev
open PySem PySem.Spec PyProof.Rows L2
theorem big_le {x y : Int} (h : Big y) (l : x.natAbs ≤ y.natAbs) : Big x := Nat.lt_of_le_of_lt l h
theorem fit_big {i : Int} (h : fitx (.int i) = true) : Big i := by
  simp only [fitx] at h
  exact Nat.lt_trans (of_decide_eq_true h) (Nat.lt_of_le_of_lt (Nat.le_of_lt f400_le) (Nat.pow_lt_pow_right (by decide) (by decide)))
theorem eqD_pair {a b c d : Int} {Q : PyData → Prop} : eqD (.tuple [.int a, .int b]) (.tuple [.int c, .int d]) Q = (plainD (.tuple [.int a, .int b]) = true ∧ plainD (.tuple [.int c, .int d]) = true ∧ Q (.bool (PyData.eqv (.tuple [.int a, .int b]) (.tuple [.int c, .int d])))) := rfl
theorem plain_pair (a b : Int) : plainD (.tuple [.int a, .int b]) = true := by
  simp only [plainD, PyData.hasDict, PyData.hasDictAll, SeqAt.shaped, PyData.canLay0, PyData.canLayAll0, PyData.depth, PyData.depthAll]
  rfl
theorem eqv_pair (a b c d : Int) : PyData.eqv (.tuple [.int a, .int b]) (.tuple [.int c, .int d]) = (decide (a = c) && decide (b = d)) := by
  simp [PyData.eqv, PyData.eqvAll, Bool.beq_eq_decide_eq]
theorem low_same {i j : Int} (hj : 0 < j) : (decide (fA i j = i) && decide (fB i j = j)) = decide (gc i j = 1) := by
  have dv1 : dv i j = (gc i j : Int) := if_pos hj
  by_cases h : gc i j = 1
  · have a : fA i j = i := by unfold fA; rw [dv1, h]; exact Int.fdiv_one i
    have b : fB i j = j := by unfold fB; rw [dv1, h]; exact Int.fdiv_one j
    rw [decide_eq_true a, decide_eq_true b, decide_eq_true h]
    rfl
  · have b : fB i j ≠ j := fun e => by
      apply h
      have m : j = (gc i j : Int) * fB i j := by
        unfold fB
        rw [dv1]
        exact (Int.mul_fdiv_cancel' (Int.ofNat_dvd_left.mpr (Nat.gcd_dvd_right _ _))).symm
      rw [e] at m
      have g0 := gc_pos (a := i) (show j ≠ 0 by omega)
      have : (gc i j : Int) * j = 1 * j := by rw [Int.one_mul]; exact m.symm
      have := Int.eq_of_mul_eq_mul_right (show j ≠ 0 by omega) this
      omega
    rw [decide_eq_false b, decide_eq_false h, Bool.and_false]
theorem enumD_un {ds : List PyData} {i : Nat} {y : PyData} (e : (enumD ds)[i]? = some y) : ∃ x, ds[i]? = some x ∧ y = .tuple [.int (i : Int), x] := by
  unfold enumD at e
  rw [List.getElem?_mapIdx] at e
  obtain ⟨x, ex, rfl⟩ := Option.map_eq_some_iff.mp e
  exact ⟨x, ex, rfl⟩
def badP (n : Int) : PyData → Bool
  | .tuple [_, x] => !termD n x
  | _ => true
theorem first_enum {n : Int} : ∀ (ds : List PyData) (k j : Nat), firstO (badP n) k (enumF j ds) = firstO (fun x => !termD n x) k ds
  | [], _, _ => rfl
  | d :: ds, k, j => by
    rw [enumF]
    unfold firstO
    rw [first_enum ds (k + 1) (j + 1)]
    rfl
section
variable {P : Program} {w : World} {K : PySem.W.Frag} {mg : Str → Option Value} {base : Heap} {A : Nat → Addr} {D : Nat → FuncData}
def lowR : RelD := fun ss P => ∃ a b : Int, ss = [.d (.int a), .d (.int b)] ∧ b ≠ 0 ∧ Big b ∧ P = fun r => r = .tuple [.int (fA a b), .int (fB a b)]
theorem Txt.ok_low (T : Txt K mg A D) : FnOk P w K mg base CX0 1 (A 8) (D 8) ["a", "b"] (spD K lowR) := by
  refine okD T.F_low sc_low (by rintro ss P ⟨a, b, rfl, _⟩; rfl) (fun cdv Ar outer s H E hr => ⟨_, (dss_cons (ds_par (i := 2) (j := 3) rfl sc_low.nd rfl rfl (by decide) rfl rfl (DE.x (de_c1 c_abs (by rfl) T.z_abs (by decide +kernel) (DE.r (de_v (pv 0))))) (DE.x (de_c1 c_abs (by rfl) T.z_abs (by decide +kernel) (DE.r (de_v (pv 1))))) (by rfl))
    (dss_cons (ds_while PassesOwn.never (dt_cmp o_gt (de_v (pv 3)) (DE.r de_int) (nomark _)) (dss_one (ds_par (i := 2) (j := 3) rfl sc_low.nd rfl rfl (by decide) rfl rfl (DE.x (de_v (pv 3))) (DE.x (de_op o_mod (de_cT c_int (by rfl) T.z_int (by decide +kernel) (DE.r (de_v (pv 2)))) (DE.r (de_v (pv 3))))) (by rfl))))
    (dss_cons (ds_set (i := 2) sc_low.nd rfl (Or.inl rfl) (DE.x (de_if (dt_cmp o_gt (de_v (pv 1)) (DE.r de_int) (nomark _)) (de_v (pv 2)) (de_neg (de_v (pv 2))))))
    (dss_one (ds_ret (de_tup (da_cons (de_op o_div (de_v (pv 0)) (DE.r (de_v (pv 2)))) (da_cons (de_op o_div (de_v (pv 1)) (DE.r (de_v (pv 2)))) da_nil)))))))), ?_⟩)
  rintro ss P ⟨a, b, rfl, hb, hB, rfl⟩
  simp only [dSeq, dIfS, dRet, dRetN, dSet, dPar, dPar3, dAsg, dFor, dDrop, dNext, dBrk, dCnt, dAug, dApp, dExt, dPop, dPopAt, dSetI, dFrz, xD, xF, dC, dV, dO, dOp, dOpO, dB, dCh, dAnd, dOr, dNot, dAndV, dOrV, dNotV, dNotT, dIf, dNil, dCons, gNilD, gConsD, gLm, dTup, dLst, dLs, dSl, dSlO, dNo, dSo, d1, dIsi, dList, dCall, dCallK, putS, dGcd, dNeg, dLc, dYes, wTupI, wLstI, wRng1, wRng2, wEnT, wEnL, wName, wNil, wCons, wTup, subD, mulD, divD, modD, powD, ltD, leD, gtD, geD, reprD, wipeD, uns, gDef, dRmG, dRmS, gRm, gConsR, gLmR, dCallR, reRm, dRoom, unrm, dKvIx, dKvGet, dLcm, dListRg, wZip, dKtIn, dKtIx, sumD, sortID, keyD, wStrI, dSplit, catF, catFO, gOwnB, dCallB, wZipT, List.cons_append, List.nil_append, List.length_cons, List.length_nil, List.replicate, List.getElem?_cons_zero, List.getElem?_cons_succ, List.set_cons_zero, List.set_cons_succ, List.map_cons, List.map_nil, List.getD_cons_zero, List.getD_cons_succ, ↓reduceIte, Bool.not_true, Bool.not_false, Bool.false_eq_true, sof_fn1, sof_fn2, sof_fn1p, sof_fn2p, eqv_int, eqv_str, plain_int, plain_bool, plain_none, true_and, and_true, sizeLine_eq, Nat.reduceAdd, Nat.reduceLeDiff, Nat.zero_add, addD_int, addD_str, addD_tup, addD_list, intF_int, intD_int, eqD_int, eqD_str, neD_int, neD_str, inD_list, inD_tup, isND_none, ixD_t0, ixD_t1, ixD_t2, ixD_t3, ixD_l0, lenD_tup, lenD_list, lenD_str, absD_int, toIntD_int, toIntD_bool, toStrD_int, tupleD_list, tupleD_tup, cutSq_tup, cutSq_list, cutSq_str, isInt_none, isInt_bool, isInt_int, isInt_str, isInt_list, isInt_tup, isInt_dict, isBool_none, isBool_bool, isBool_int, isBool_str, isBool_list, isBool_tup, isBool_dict, isStr_none, isStr_bool, isStr_int, isStr_str, isStr_list, isStr_tup, isStr_dict, isTup_none, isTup_bool, isTup_int, isTup_str, isTup_list, isTup_tup, isTup_dict, isLst_none, isLst_bool, isLst_int, isLst_str, isLst_list, isLst_tup, isLst_dict, eqSD_str, neSD_str, inKvD_str, eqE_tup, eqEL_list, inSD_one, ordSD_str, notInSD_one, intB_int, intB_bool]
  unfold dWhile
  refine ⟨fun m ρ => ∃ x y : Nat, ρ = [.d (.int a), .d (.int b), .d (.int x), .d (.int y)] ∧ m = y ∧ Nat.gcd x y = gc a b, ⟨_, _, _, rfl, rfl, rfl⟩, ?_⟩
  rintro m ρ ⟨x, y, rfl, rfl, hg⟩
  simp only [dSeq, dIfS, dRet, dRetN, dSet, dPar, dPar3, dAsg, dFor, dDrop, dNext, dBrk, dCnt, dAug, dApp, dExt, dPop, dPopAt, dSetI, dFrz, xD, xF, dC, dV, dO, dOp, dOpO, dB, dCh, dAnd, dOr, dNot, dAndV, dOrV, dNotV, dNotT, dIf, dNil, dCons, gNilD, gConsD, gLm, dTup, dLst, dLs, dSl, dSlO, dNo, dSo, d1, dIsi, dList, dCall, dCallK, putS, dGcd, dNeg, dLc, dYes, wTupI, wLstI, wRng1, wRng2, wEnT, wEnL, wName, wNil, wCons, wTup, subD, mulD, divD, modD, powD, ltD, leD, gtD, geD, reprD, wipeD, uns, gDef, dRmG, dRmS, gRm, gConsR, gLmR, dCallR, reRm, dRoom, unrm, dKvIx, dKvGet, dLcm, dListRg, wZip, dKtIn, dKtIx, sumD, sortID, keyD, wStrI, dSplit, catF, catFO, gOwnB, dCallB, wZipT, List.cons_append, List.nil_append, List.length_cons, List.length_nil, List.replicate, List.getElem?_cons_zero, List.getElem?_cons_succ, List.set_cons_zero, List.set_cons_succ, List.map_cons, List.map_nil, List.getD_cons_zero, List.getD_cons_succ, ↓reduceIte, Bool.not_true, Bool.not_false, Bool.false_eq_true, sof_fn1, sof_fn2, sof_fn1p, sof_fn2p, eqv_int, eqv_str, plain_int, plain_bool, plain_none, true_and, and_true, sizeLine_eq, Nat.reduceAdd, Nat.reduceLeDiff, Nat.zero_add, addD_int, addD_str, addD_tup, addD_list, intF_int, intD_int, eqD_int, eqD_str, neD_int, neD_str, inD_list, inD_tup, isND_none, ixD_t0, ixD_t1, ixD_t2, ixD_t3, ixD_l0, lenD_tup, lenD_list, lenD_str, absD_int, toIntD_int, toIntD_bool, toStrD_int, tupleD_list, tupleD_tup, cutSq_tup, cutSq_list, cutSq_str, isInt_none, isInt_bool, isInt_int, isInt_str, isInt_list, isInt_tup, isInt_dict, isBool_none, isBool_bool, isBool_int, isBool_str, isBool_list, isBool_tup, isBool_dict, isStr_none, isStr_bool, isStr_int, isStr_str, isStr_list, isStr_tup, isStr_dict, isTup_none, isTup_bool, isTup_int, isTup_str, isTup_list, isTup_tup, isTup_dict, isLst_none, isLst_bool, isLst_int, isLst_str, isLst_list, isLst_tup, isLst_dict, eqSD_str, neSD_str, inKvD_str, eqE_tup, eqEL_list, inSD_one, ordSD_str, notInSD_one, intB_int, intB_bool]
  by_cases h : m = 0
  · subst h
    rw [if_neg (by simp)]
    rw [Nat.gcd_zero_right] at hg
    subst hg
    have hd := dv_ne (a := a) hb
    have bd : Big (dv a b) := big_le hB (by rw [dv_abs]; exact Nat.gcd_le_right _ (by omega))
    split
    · rename_i h
      have d : dv a b = (gc a b : Int) := if_pos (of_decide_eq_true h)
      rw [← d]
      exact ⟨⟨hd, bd⟩, ⟨hd, bd⟩, rfl⟩
    · rename_i h
      have d : dv a b = -(gc a b : Int) := if_neg (by simpa using h)
      rw [← d]
      exact ⟨⟨hd, bd⟩, ⟨hd, bd⟩, rfl⟩
  · rw [if_pos (decide_eq_true (by omega))]
    have z : (x : Int).fmod (m : Int) = ((x % m : Nat) : Int) := by
      rw [Int.fmod_eq_emod_of_nonneg _ (by omega)]
      rfl
    refine ⟨by omega, x % m, Nat.mod_lt _ (by omega), m, x % m, by rw [z], rfl, ?_⟩
    rw [← hg, Nat.gcd_comm x m, Nat.gcd_rec m x, Nat.gcd_comm]
abbrev lintR : RelD := fn1 fun d => .bool (isWhole d)
theorem Txt.ok_is_int (T : Txt K mg A D) : FnOk P w K mg base CX0 1 (A 9) (D 9) ["value"] (spD K lintR) := by
  refine okD T.F_is_int sc_is_int (by rintro ss P ⟨d, rfl, _⟩; rfl) (fun cdv Ar outer s H E hr => ⟨_, (dss_one (ds_ret (de_and (de_isi (tn := "int") kit_int (by rfl) T.z_isinstance (by decide +kernel) (de_v (pv 0)) (pe_bltn (v := .ty "int") (by rfl) T.z_int (by decide +kernel) rfl)) (de_one (de_not (de_isi (tn := "bool") kit_bool (by rfl) T.z_isinstance (by decide +kernel) (de_v (pv 0)) (pe_bltn (v := .ty "bool") (by rfl) T.z_bool (by decide +kernel) rfl))))))), ?_⟩)
  rintro ss P ⟨d, rfl, rfl⟩
  simp only [dSeq, dIfS, dRet, dRetN, dSet, dPar, dPar3, dAsg, dFor, dDrop, dNext, dBrk, dCnt, dAug, dApp, dExt, dPop, dPopAt, dSetI, dFrz, xD, xF, dC, dV, dO, dOp, dOpO, dB, dCh, dAnd, dOr, dNot, dAndV, dOrV, dNotV, dNotT, dIf, dNil, dCons, gNilD, gConsD, gLm, dTup, dLst, dLs, dSl, dSlO, dNo, dSo, d1, dIsi, dList, dCall, dCallK, putS, dGcd, dNeg, dLc, dYes, wTupI, wLstI, wRng1, wRng2, wEnT, wEnL, wName, wNil, wCons, wTup, subD, mulD, divD, modD, powD, ltD, leD, gtD, geD, reprD, wipeD, uns, gDef, dRmG, dRmS, gRm, gConsR, gLmR, dCallR, reRm, dRoom, unrm, dKvIx, dKvGet, dLcm, dListRg, wZip, dKtIn, dKtIx, sumD, sortID, keyD, wStrI, dSplit, catF, catFO, gOwnB, dCallB, wZipT, List.cons_append, List.nil_append, List.length_cons, List.length_nil, List.replicate, List.getElem?_cons_zero, List.getElem?_cons_succ, List.set_cons_zero, List.set_cons_succ, List.map_cons, List.map_nil, List.getD_cons_zero, List.getD_cons_succ, ↓reduceIte, Bool.not_true, Bool.not_false, Bool.false_eq_true, sof_fn1, sof_fn2, sof_fn1p, sof_fn2p, eqv_int, eqv_str, plain_int, plain_bool, plain_none, true_and, and_true, sizeLine_eq, Nat.reduceAdd, Nat.reduceLeDiff, Nat.zero_add, addD_int, addD_str, addD_tup, addD_list, intF_int, intD_int, eqD_int, eqD_str, neD_int, neD_str, inD_list, inD_tup, isND_none, ixD_t0, ixD_t1, ixD_t2, ixD_t3, ixD_l0, lenD_tup, lenD_list, lenD_str, absD_int, toIntD_int, toIntD_bool, toStrD_int, tupleD_list, tupleD_tup, cutSq_tup, cutSq_list, cutSq_str, isInt_none, isInt_bool, isInt_int, isInt_str, isInt_list, isInt_tup, isInt_dict, isBool_none, isBool_bool, isBool_int, isBool_str, isBool_list, isBool_tup, isBool_dict, isStr_none, isStr_bool, isStr_int, isStr_str, isStr_list, isStr_tup, isStr_dict, isTup_none, isTup_bool, isTup_int, isTup_str, isTup_list, isTup_tup, isTup_dict, isLst_none, isLst_bool, isLst_int, isLst_str, isLst_list, isLst_tup, isLst_dict, eqSD_str, neSD_str, inKvD_str, eqE_tup, eqEL_list, inSD_one, ordSD_str, notInSD_one, intB_int, intB_bool]
  unfold isWhole
  cases isInt d <;> rfl
def lfracR : RelD := fun ss P => ∃ d, ss = [.d d] ∧ fitx d = true ∧ P = fun r => r = .bool (fracD d)
theorem Txt.ok_l_is_fraction (T : Txt K mg A D) : FnOk P w K mg base CX0 2 (A 10) (D 10) ["value"] (spD K lfracR) := by
  refine okD T.F_l_is_fraction sc_l_is_fraction (by rintro ss P ⟨d, rfl, _⟩; rfl) (fun cdv Ar outer s H E hr => ⟨_, (dss_cons (ds_if (DW.pt (dw_or (dt_not (dt_val (de_isi (tn := "tuple") kit_tup (by rfl) T.z_isinstance (by decide +kernel) (de_v (pv 0)) (pe_bltn (v := .ty "tuple") (by rfl) T.z_tuple (by decide +kernel) rfl)))) (dw_or (dt_cmp (o_ne hr.units) (de_c1 c_len (by rfl) T.z_len (by decide +kernel) (DE.r (de_v (pv 0)))) (DE.r de_int) (nomark _)) (dw_or (dt_not (dt_val (de_call T.ok_is_int hr (by rfl) T.g_is_int T.k_is_int T.b_is_int pass0 (dg_cons (de_ix (de_v (pv 0)) de_int (fun _ _ => rfl)) dg_nil)))) (dw_or1 (dt_not (dt_val (de_call T.ok_is_int hr (by rfl) T.g_is_int T.k_is_int T.b_is_int pass0 (dg_cons (de_ix (de_v (pv 0)) de_int (fun _ _ => rfl)) dg_nil))))))))) (dss_one (ds_ret de_bl)) dss_nil)
    (dss_one (ds_ret (de_and (de_cmp o_ge (de_ix (de_v (pv 0)) de_int (fun _ _ => rfl)) (DE.r de_int) (nomark _)) (de_one (de_cmp (o_eq hr.units) (de_call T.ok_low hr (by rfl) T.g_low T.k_low T.b_low pass0 (dg_cons (de_ix (de_v (pv 0)) de_int (fun _ _ => rfl)) (dg_cons (de_ix (de_v (pv 0)) de_int (fun _ _ => rfl)) dg_nil))) (DE.r (de_v (pv 0))) (nomark _))))))), ?_⟩)
  rintro ss P ⟨d, rfl, hf, rfl⟩
  simp only [dSeq, dIfS, dRet, dRetN, dSet, dPar, dPar3, dAsg, dFor, dDrop, dNext, dBrk, dCnt, dAug, dApp, dExt, dPop, dPopAt, dSetI, dFrz, xD, xF, dC, dV, dO, dOp, dOpO, dB, dCh, dAnd, dOr, dNot, dAndV, dOrV, dNotV, dNotT, dIf, dNil, dCons, gNilD, gConsD, gLm, dTup, dLst, dLs, dSl, dSlO, dNo, dSo, d1, dIsi, dList, dCall, dCallK, putS, dGcd, dNeg, dLc, dYes, wTupI, wLstI, wRng1, wRng2, wEnT, wEnL, wName, wNil, wCons, wTup, subD, mulD, divD, modD, powD, ltD, leD, gtD, geD, reprD, wipeD, uns, gDef, dRmG, dRmS, gRm, gConsR, gLmR, dCallR, reRm, dRoom, unrm, dKvIx, dKvGet, dLcm, dListRg, wZip, dKtIn, dKtIx, sumD, sortID, keyD, wStrI, dSplit, catF, catFO, gOwnB, dCallB, wZipT, List.cons_append, List.nil_append, List.length_cons, List.length_nil, List.replicate, List.getElem?_cons_zero, List.getElem?_cons_succ, List.set_cons_zero, List.set_cons_succ, List.map_cons, List.map_nil, List.getD_cons_zero, List.getD_cons_succ, ↓reduceIte, Bool.not_true, Bool.not_false, Bool.false_eq_true, sof_fn1, sof_fn2, sof_fn1p, sof_fn2p, eqv_int, eqv_str, plain_int, plain_bool, plain_none, true_and, and_true, sizeLine_eq, Nat.reduceAdd, Nat.reduceLeDiff, Nat.zero_add, addD_int, addD_str, addD_tup, addD_list, intF_int, intD_int, eqD_int, eqD_str, neD_int, neD_str, inD_list, inD_tup, isND_none, ixD_t0, ixD_t1, ixD_t2, ixD_t3, ixD_l0, lenD_tup, lenD_list, lenD_str, absD_int, toIntD_int, toIntD_bool, toStrD_int, tupleD_list, tupleD_tup, cutSq_tup, cutSq_list, cutSq_str, isInt_none, isInt_bool, isInt_int, isInt_str, isInt_list, isInt_tup, isInt_dict, isBool_none, isBool_bool, isBool_int, isBool_str, isBool_list, isBool_tup, isBool_dict, isStr_none, isStr_bool, isStr_int, isStr_str, isStr_list, isStr_tup, isStr_dict, isTup_none, isTup_bool, isTup_int, isTup_str, isTup_list, isTup_tup, isTup_dict, isLst_none, isLst_bool, isLst_int, isLst_str, isLst_list, isLst_tup, isLst_dict, eqSD_str, neSD_str, inKvD_str, eqE_tup, eqEL_list, inSD_one, ordSD_str, notInSD_one, intB_int, intB_bool]
  refine ite_both2 (fun h => by rw [frac_tup (notT h)]) (fun h => ?_)
  obtain ⟨ds, rfl⟩ := tup_ex h
  simp only [dSeq, dIfS, dRet, dRetN, dSet, dPar, dPar3, dAsg, dFor, dDrop, dNext, dBrk, dCnt, dAug, dApp, dExt, dPop, dPopAt, dSetI, dFrz, xD, xF, dC, dV, dO, dOp, dOpO, dB, dCh, dAnd, dOr, dNot, dAndV, dOrV, dNotV, dNotT, dIf, dNil, dCons, gNilD, gConsD, gLm, dTup, dLst, dLs, dSl, dSlO, dNo, dSo, d1, dIsi, dList, dCall, dCallK, putS, dGcd, dNeg, dLc, dYes, wTupI, wLstI, wRng1, wRng2, wEnT, wEnL, wName, wNil, wCons, wTup, subD, mulD, divD, modD, powD, ltD, leD, gtD, geD, reprD, wipeD, uns, gDef, dRmG, dRmS, gRm, gConsR, gLmR, dCallR, reRm, dRoom, unrm, dKvIx, dKvGet, dLcm, dListRg, wZip, dKtIn, dKtIx, sumD, sortID, keyD, wStrI, dSplit, catF, catFO, gOwnB, dCallB, wZipT, List.cons_append, List.nil_append, List.length_cons, List.length_nil, List.replicate, List.getElem?_cons_zero, List.getElem?_cons_succ, List.set_cons_zero, List.set_cons_succ, List.map_cons, List.map_nil, List.getD_cons_zero, List.getD_cons_succ, ↓reduceIte, Bool.not_true, Bool.not_false, Bool.false_eq_true, sof_fn1, sof_fn2, sof_fn1p, sof_fn2p, eqv_int, eqv_str, plain_int, plain_bool, plain_none, true_and, and_true, sizeLine_eq, Nat.reduceAdd, Nat.reduceLeDiff, Nat.zero_add, addD_int, addD_str, addD_tup, addD_list, intF_int, intD_int, eqD_int, eqD_str, neD_int, neD_str, inD_list, inD_tup, isND_none, ixD_t0, ixD_t1, ixD_t2, ixD_t3, ixD_l0, lenD_tup, lenD_list, lenD_str, absD_int, toIntD_int, toIntD_bool, toStrD_int, tupleD_list, tupleD_tup, cutSq_tup, cutSq_list, cutSq_str, isInt_none, isInt_bool, isInt_int, isInt_str, isInt_list, isInt_tup, isInt_dict, isBool_none, isBool_bool, isBool_int, isBool_str, isBool_list, isBool_tup, isBool_dict, isStr_none, isStr_bool, isStr_int, isStr_str, isStr_list, isStr_tup, isStr_dict, isTup_none, isTup_bool, isTup_int, isTup_str, isTup_list, isTup_tup, isTup_dict, isLst_none, isLst_bool, isLst_int, isLst_str, isLst_list, isLst_tup, isLst_dict, eqSD_str, neSD_str, inKvD_str, eqE_tup, eqEL_list, inSD_one, ordSD_str, notInSD_one, intB_int, intB_bool]
  refine ite_both2 (fun h1 => by rw [frac_len (fun z => by simp_all)]) (fun h1 => ?_)
  have l : ds.length = 2 := by
    simp only [Bool.not_eq_true', decide_eq_false_iff_not, Decidable.not_not] at h1
    omega
  obtain ⟨a, b, rfl⟩ := two_ex l
  simp only [fitx, fitxs, Bool.and_true, Bool.and_eq_true] at hf
  rw [ixD_t0]
  refine ite_both2 (fun ha => by rw [frac_no_a (notT ha)]) (fun ha => ?_)
  rw [ixD_t1]
  refine ite_both2 (fun hb => by rw [frac_no_b (notT hb)]) (fun hb => ?_)
  obtain ⟨i, rfl⟩ := whole_of (show isWhole a = true by simpa using ha)
  obtain ⟨j, rfl⟩ := whole_of (show isWhole b = true by simpa using hb)
  simp only [dSeq, dIfS, dRet, dRetN, dSet, dPar, dPar3, dAsg, dFor, dDrop, dNext, dBrk, dCnt, dAug, dApp, dExt, dPop, dPopAt, dSetI, dFrz, xD, xF, dC, dV, dO, dOp, dOpO, dB, dCh, dAnd, dOr, dNot, dAndV, dOrV, dNotV, dNotT, dIf, dNil, dCons, gNilD, gConsD, gLm, dTup, dLst, dLs, dSl, dSlO, dNo, dSo, d1, dIsi, dList, dCall, dCallK, putS, dGcd, dNeg, dLc, dYes, wTupI, wLstI, wRng1, wRng2, wEnT, wEnL, wName, wNil, wCons, wTup, subD, mulD, divD, modD, powD, ltD, leD, gtD, geD, reprD, wipeD, uns, gDef, dRmG, dRmS, gRm, gConsR, gLmR, dCallR, reRm, dRoom, unrm, dKvIx, dKvGet, dLcm, dListRg, wZip, dKtIn, dKtIx, sumD, sortID, keyD, wStrI, dSplit, catF, catFO, gOwnB, dCallB, wZipT, List.cons_append, List.nil_append, List.length_cons, List.length_nil, List.replicate, List.getElem?_cons_zero, List.getElem?_cons_succ, List.set_cons_zero, List.set_cons_succ, List.map_cons, List.map_nil, List.getD_cons_zero, List.getD_cons_succ, ↓reduceIte, Bool.not_true, Bool.not_false, Bool.false_eq_true, sof_fn1, sof_fn2, sof_fn1p, sof_fn2p, eqv_int, eqv_str, plain_int, plain_bool, plain_none, true_and, and_true, sizeLine_eq, Nat.reduceAdd, Nat.reduceLeDiff, Nat.zero_add, addD_int, addD_str, addD_tup, addD_list, intF_int, intD_int, eqD_int, eqD_str, neD_int, neD_str, inD_list, inD_tup, isND_none, ixD_t0, ixD_t1, ixD_t2, ixD_t3, ixD_l0, lenD_tup, lenD_list, lenD_str, absD_int, toIntD_int, toIntD_bool, toStrD_int, tupleD_list, tupleD_tup, cutSq_tup, cutSq_list, cutSq_str, isInt_none, isInt_bool, isInt_int, isInt_str, isInt_list, isInt_tup, isInt_dict, isBool_none, isBool_bool, isBool_int, isBool_str, isBool_list, isBool_tup, isBool_dict, isStr_none, isStr_bool, isStr_int, isStr_str, isStr_list, isStr_tup, isStr_dict, isTup_none, isTup_bool, isTup_int, isTup_str, isTup_list, isTup_tup, isTup_dict, isLst_none, isLst_bool, isLst_int, isLst_str, isLst_list, isLst_tup, isLst_dict, eqSD_str, neSD_str, inKvD_str, eqE_tup, eqEL_list, inSD_one, ordSD_str, notInSD_one, intB_int, intB_bool]
  have v : fracD (.tuple [.int i, .int j]) = (decide (1 ≤ j) && decide (gc i j = 1)) := rfl
  rw [v]
  refine ite_both2 (fun hj => ?_) (fun hj => ?_)
  · have hj := of_decide_eq_true hj
    refine ⟨_, ⟨i, j, rfl, by omega, fit_big hf.2, rfl⟩, ?_⟩
    rintro _ rfl
    rw [eqD_pair]
    refine ⟨plain_pair _ _, plain_pair _ _, ?_⟩
    rw [eqv_pair, low_same (by omega), decide_eq_true hj, Bool.true_and]
  · rw [show decide (1 ≤ j) = false by simpa using hj]
    rfl
def ltermR : RelD := fun ss P => ∃ (n : Int) (d : PyData), ss = [.d (.int n), .d d] ∧ szx d ≤ 16000000 ∧ fitx d = true ∧ P = fun r => r = .bool (termD n d)
theorem Txt.ok_l_is_term (T : Txt K mg A D) : FnOk P w K mg base CX0 3 (A 11) (D 11) ["n", "value"] (spD K ltermR) := by
  refine okD T.F_l_is_term sc_l_is_term (by rintro ss P ⟨n, d, rfl, _⟩; rfl) (fun cdv Ar outer s H E hr => ⟨_, (dss_cons (ds_if (DW.pt (dw_or (dt_not (dt_val (de_isi (tn := "tuple") kit_tup (by rfl) T.z_isinstance (by decide +kernel) (de_v (pv 1)) (pe_bltn (v := .ty "tuple") (by rfl) T.z_tuple (by decide +kernel) rfl)))) (dw_or (dt_cmp (o_ne hr.units) (de_c1 c_len (by rfl) T.z_len (by decide +kernel) (DE.r (de_v (pv 1)))) (DE.r de_int) (nomark _)) (dw_or (dt_not (dt_val (de_isi (tn := "tuple") kit_tup (by rfl) T.z_isinstance (by decide +kernel) (de_ix (de_v (pv 1)) de_int (fun _ _ => rfl)) (pe_bltn (v := .ty "tuple") (by rfl) T.z_tuple (by decide +kernel) rfl)))) (dw_or1 (dt_cmp (o_ne hr.units) (de_c1 c_len (by rfl) T.z_len (by decide +kernel) (DE.r (de_ix (de_v (pv 1)) de_int (fun _ _ => rfl)))) (DE.r (de_v (pv 0))) (nomark _))))))) (dss_one (ds_ret de_bl)) dss_nil)
    (dss_cons (ds_if (dt_cmp (o_neL (un0 hr.units)) (DF.de (df_lc (own := [("power", 2)]) rfl sc_l_is_term.nd (di_tup (de_ix (de_v (pv 1)) de_int (fun _ _ => rfl))) (blkOk_by (N := ["n", "value", "power"]) (sc := defScope s_l_is_term) (by decide +kernel)) (fun _ _ _ _ _ => (dg_name (i := 2) sc_l_is_term.nd rfl (Or.inl rfl))) (fun _ _ _ _ _ => (dts_one (DW.pt (dw_or (dt_not (dt_val (de_call T.ok_is_int (hr.mono (by decide)) (by rfl) T.g_is_int T.k_is_int T.b_is_int pass0 (dg_cons (de_v (pv 2)) dg_nil)))) (dw_or1 (dt_cmp o_lt (de_v (pv 2)) (DE.r de_int) (nomark _))))))) (fun _ _ _ _ _ => de_int))) (DE.r (DF.de (df_lst da_nil))) (nomark _)) (dss_one (ds_ret de_bl)) dss_nil)
    (dss_one (ds_ret (de_and (de_call T.ok_l_is_fraction hr (by rfl) T.g_l_is_fraction T.k_l_is_fraction T.b_l_is_fraction pass0 (dg_cons (de_ix (de_v (pv 1)) de_int (fun _ _ => rfl)) dg_nil)) (de_one (de_cmp (o_ne hr.units) (de_ix (de_ix (de_v (pv 1)) de_int (fun _ _ => rfl)) de_int (fun _ _ => rfl)) (DE.r de_int) (nomark _)))))))), ?_⟩)
  rintro ss P ⟨n, d, rfl, hz, hf, rfl⟩
  simp only [dSeq, dIfS, dRet, dRetN, dSet, dPar, dPar3, dAsg, dFor, dDrop, dNext, dBrk, dCnt, dAug, dApp, dExt, dPop, dPopAt, dSetI, dFrz, xD, xF, dC, dV, dO, dOp, dOpO, dB, dCh, dAnd, dOr, dNot, dAndV, dOrV, dNotV, dNotT, dIf, dNil, dCons, gNilD, gConsD, gLm, dTup, dLst, dLs, dSl, dSlO, dNo, dSo, d1, dIsi, dList, dCall, dCallK, putS, dGcd, dNeg, dLc, dYes, wTupI, wLstI, wRng1, wRng2, wEnT, wEnL, wName, wNil, wCons, wTup, subD, mulD, divD, modD, powD, ltD, leD, gtD, geD, reprD, wipeD, uns, gDef, dRmG, dRmS, gRm, gConsR, gLmR, dCallR, reRm, dRoom, unrm, dKvIx, dKvGet, dLcm, dListRg, wZip, dKtIn, dKtIx, sumD, sortID, keyD, wStrI, dSplit, catF, catFO, gOwnB, dCallB, wZipT, List.cons_append, List.nil_append, List.length_cons, List.length_nil, List.replicate, List.getElem?_cons_zero, List.getElem?_cons_succ, List.set_cons_zero, List.set_cons_succ, List.map_cons, List.map_nil, List.getD_cons_zero, List.getD_cons_succ, ↓reduceIte, Bool.not_true, Bool.not_false, Bool.false_eq_true, sof_fn1, sof_fn2, sof_fn1p, sof_fn2p, eqv_int, eqv_str, plain_int, plain_bool, plain_none, true_and, and_true, sizeLine_eq, Nat.reduceAdd, Nat.reduceLeDiff, Nat.zero_add, addD_int, addD_str, addD_tup, addD_list, intF_int, intD_int, eqD_int, eqD_str, neD_int, neD_str, inD_list, inD_tup, isND_none, ixD_t0, ixD_t1, ixD_t2, ixD_t3, ixD_l0, lenD_tup, lenD_list, lenD_str, absD_int, toIntD_int, toIntD_bool, toStrD_int, tupleD_list, tupleD_tup, cutSq_tup, cutSq_list, cutSq_str, isInt_none, isInt_bool, isInt_int, isInt_str, isInt_list, isInt_tup, isInt_dict, isBool_none, isBool_bool, isBool_int, isBool_str, isBool_list, isBool_tup, isBool_dict, isStr_none, isStr_bool, isStr_int, isStr_str, isStr_list, isStr_tup, isStr_dict, isTup_none, isTup_bool, isTup_int, isTup_str, isTup_list, isTup_tup, isTup_dict, isLst_none, isLst_bool, isLst_int, isLst_str, isLst_list, isLst_tup, isLst_dict, eqSD_str, neSD_str, inKvD_str, eqE_tup, eqEL_list, inSD_one, ordSD_str, notInSD_one, intB_int, intB_bool]
  refine ite_both2 (fun h => by rw [term_tup (notT h)]) (fun h => ?_)
  obtain ⟨ds, rfl⟩ := tup_ex h
  simp only [dSeq, dIfS, dRet, dRetN, dSet, dPar, dPar3, dAsg, dFor, dDrop, dNext, dBrk, dCnt, dAug, dApp, dExt, dPop, dPopAt, dSetI, dFrz, xD, xF, dC, dV, dO, dOp, dOpO, dB, dCh, dAnd, dOr, dNot, dAndV, dOrV, dNotV, dNotT, dIf, dNil, dCons, gNilD, gConsD, gLm, dTup, dLst, dLs, dSl, dSlO, dNo, dSo, d1, dIsi, dList, dCall, dCallK, putS, dGcd, dNeg, dLc, dYes, wTupI, wLstI, wRng1, wRng2, wEnT, wEnL, wName, wNil, wCons, wTup, subD, mulD, divD, modD, powD, ltD, leD, gtD, geD, reprD, wipeD, uns, gDef, dRmG, dRmS, gRm, gConsR, gLmR, dCallR, reRm, dRoom, unrm, dKvIx, dKvGet, dLcm, dListRg, wZip, dKtIn, dKtIx, sumD, sortID, keyD, wStrI, dSplit, catF, catFO, gOwnB, dCallB, wZipT, List.cons_append, List.nil_append, List.length_cons, List.length_nil, List.replicate, List.getElem?_cons_zero, List.getElem?_cons_succ, List.set_cons_zero, List.set_cons_succ, List.map_cons, List.map_nil, List.getD_cons_zero, List.getD_cons_succ, ↓reduceIte, Bool.not_true, Bool.not_false, Bool.false_eq_true, sof_fn1, sof_fn2, sof_fn1p, sof_fn2p, eqv_int, eqv_str, plain_int, plain_bool, plain_none, true_and, and_true, sizeLine_eq, Nat.reduceAdd, Nat.reduceLeDiff, Nat.zero_add, addD_int, addD_str, addD_tup, addD_list, intF_int, intD_int, eqD_int, eqD_str, neD_int, neD_str, inD_list, inD_tup, isND_none, ixD_t0, ixD_t1, ixD_t2, ixD_t3, ixD_l0, lenD_tup, lenD_list, lenD_str, absD_int, toIntD_int, toIntD_bool, toStrD_int, tupleD_list, tupleD_tup, cutSq_tup, cutSq_list, cutSq_str, isInt_none, isInt_bool, isInt_int, isInt_str, isInt_list, isInt_tup, isInt_dict, isBool_none, isBool_bool, isBool_int, isBool_str, isBool_list, isBool_tup, isBool_dict, isStr_none, isStr_bool, isStr_int, isStr_str, isStr_list, isStr_tup, isStr_dict, isTup_none, isTup_bool, isTup_int, isTup_str, isTup_list, isTup_tup, isTup_dict, isLst_none, isLst_bool, isLst_int, isLst_str, isLst_list, isLst_tup, isLst_dict, eqSD_str, neSD_str, inKvD_str, eqE_tup, eqEL_list, inSD_one, ordSD_str, notInSD_one, intB_int, intB_bool]
  refine ite_both2 (fun h1 => by rw [term_len (fun z => by simp_all)]) (fun h1 => ?_)
  have l : ds.length = 2 := by
    simp only [Bool.not_eq_true', decide_eq_false_iff_not, Decidable.not_not] at h1
    omega
  obtain ⟨a, f, rfl⟩ := two_ex l
  rw [ixD_t0]
  refine ite_both2 (fun ha => by rw [term_no (notT ha)]) (fun ha => ?_)
  obtain ⟨ps, rfl⟩ := tup_ex ha
  have e : termD n (.tuple [.tuple ps, f]) = (decide ((ps.length : Int) = n) && ps.all powD' && fracD f && fstNz f) := rfl
  rw [e]
  have lp := szxs_len ps
  simp only [szx, szxs] at hz
  simp only [fitx, fitxs, Bool.and_true, Bool.and_eq_true] at hf
  simp only [dSeq, dIfS, dRet, dRetN, dSet, dPar, dPar3, dAsg, dFor, dDrop, dNext, dBrk, dCnt, dAug, dApp, dExt, dPop, dPopAt, dSetI, dFrz, xD, xF, dC, dV, dO, dOp, dOpO, dB, dCh, dAnd, dOr, dNot, dAndV, dOrV, dNotV, dNotT, dIf, dNil, dCons, gNilD, gConsD, gLm, dTup, dLst, dLs, dSl, dSlO, dNo, dSo, d1, dIsi, dList, dCall, dCallK, putS, dGcd, dNeg, dLc, dYes, wTupI, wLstI, wRng1, wRng2, wEnT, wEnL, wName, wNil, wCons, wTup, subD, mulD, divD, modD, powD, ltD, leD, gtD, geD, reprD, wipeD, uns, gDef, dRmG, dRmS, gRm, gConsR, gLmR, dCallR, reRm, dRoom, unrm, dKvIx, dKvGet, dLcm, dListRg, wZip, dKtIn, dKtIx, sumD, sortID, keyD, wStrI, dSplit, catF, catFO, gOwnB, dCallB, wZipT, List.cons_append, List.nil_append, List.length_cons, List.length_nil, List.replicate, List.getElem?_cons_zero, List.getElem?_cons_succ, List.set_cons_zero, List.set_cons_succ, List.map_cons, List.map_nil, List.getD_cons_zero, List.getD_cons_succ, ↓reduceIte, Bool.not_true, Bool.not_false, Bool.false_eq_true, sof_fn1, sof_fn2, sof_fn1p, sof_fn2p, eqv_int, eqv_str, plain_int, plain_bool, plain_none, true_and, and_true, sizeLine_eq, Nat.reduceAdd, Nat.reduceLeDiff, Nat.zero_add, addD_int, addD_str, addD_tup, addD_list, intF_int, intD_int, eqD_int, eqD_str, neD_int, neD_str, inD_list, inD_tup, isND_none, ixD_t0, ixD_t1, ixD_t2, ixD_t3, ixD_l0, lenD_tup, lenD_list, lenD_str, absD_int, toIntD_int, toIntD_bool, toStrD_int, tupleD_list, tupleD_tup, cutSq_tup, cutSq_list, cutSq_str, isInt_none, isInt_bool, isInt_int, isInt_str, isInt_list, isInt_tup, isInt_dict, isBool_none, isBool_bool, isBool_int, isBool_str, isBool_list, isBool_tup, isBool_dict, isStr_none, isStr_bool, isStr_int, isStr_str, isStr_list, isStr_tup, isStr_dict, isTup_none, isTup_bool, isTup_int, isTup_str, isTup_list, isTup_tup, isTup_dict, isLst_none, isLst_bool, isLst_int, isLst_str, isLst_list, isLst_tup, isLst_dict, eqSD_str, neSD_str, inKvD_str, eqE_tup, eqEL_list, inSD_one, ordSD_str, notInSD_one, intB_int, intB_bool]
  refine ite_both2 (fun h2 => by rw [show decide ((ps.length : Int) = n) = false by simpa using h2]; rfl) (fun h2 => ?_)
  rw [show decide ((ps.length : Int) = n) = true by simpa using h2, Bool.true_and]
  refine lc_filt (fun x => !powD' x) (fun _ _ => .int 1) (by omega) (fun i x L Y N ex hL hY hN => ?_) ?_
  · simp only [dSeq, dIfS, dRet, dRetN, dSet, dPar, dPar3, dAsg, dFor, dDrop, dNext, dBrk, dCnt, dAug, dApp, dExt, dPop, dPopAt, dSetI, dFrz, xD, xF, dC, dV, dO, dOp, dOpO, dB, dCh, dAnd, dOr, dNot, dAndV, dOrV, dNotV, dNotT, dIf, dNil, dCons, gNilD, gConsD, gLm, dTup, dLst, dLs, dSl, dSlO, dNo, dSo, d1, dIsi, dList, dCall, dCallK, putS, dGcd, dNeg, dLc, dYes, wTupI, wLstI, wRng1, wRng2, wEnT, wEnL, wName, wNil, wCons, wTup, subD, mulD, divD, modD, powD, ltD, leD, gtD, geD, reprD, wipeD, uns, gDef, dRmG, dRmS, gRm, gConsR, gLmR, dCallR, reRm, dRoom, unrm, dKvIx, dKvGet, dLcm, dListRg, wZip, dKtIn, dKtIx, sumD, sortID, keyD, wStrI, dSplit, catF, catFO, gOwnB, dCallB, wZipT, List.cons_append, List.nil_append, List.length_cons, List.length_nil, List.replicate, List.getElem?_cons_zero, List.getElem?_cons_succ, List.set_cons_zero, List.set_cons_succ, List.map_cons, List.map_nil, List.getD_cons_zero, List.getD_cons_succ, ↓reduceIte, Bool.not_true, Bool.not_false, Bool.false_eq_true, sof_fn1, sof_fn2, sof_fn1p, sof_fn2p, eqv_int, eqv_str, plain_int, plain_bool, plain_none, true_and, and_true, sizeLine_eq, Nat.reduceAdd, Nat.reduceLeDiff, Nat.zero_add, addD_int, addD_str, addD_tup, addD_list, intF_int, intD_int, eqD_int, eqD_str, neD_int, neD_str, inD_list, inD_tup, isND_none, ixD_t0, ixD_t1, ixD_t2, ixD_t3, ixD_l0, lenD_tup, lenD_list, lenD_str, absD_int, toIntD_int, toIntD_bool, toStrD_int, tupleD_list, tupleD_tup, cutSq_tup, cutSq_list, cutSq_str, isInt_none, isInt_bool, isInt_int, isInt_str, isInt_list, isInt_tup, isInt_dict, isBool_none, isBool_bool, isBool_int, isBool_str, isBool_list, isBool_tup, isBool_dict, isStr_none, isStr_bool, isStr_int, isStr_str, isStr_list, isStr_tup, isStr_dict, isTup_none, isTup_bool, isTup_int, isTup_str, isTup_list, isTup_tup, isTup_dict, isLst_none, isLst_bool, isLst_int, isLst_str, isLst_list, isLst_tup, isLst_dict, eqSD_str, neSD_str, inKvD_str, eqE_tup, eqEL_list, inSD_one, ordSD_str, notInSD_one, intB_int, intB_bool]
    refine ite_both2 (fun hw => ?_) (fun hw => ?_)
    · refine ⟨hL, hY ?_⟩
      cases x with
      | int j => cases hw
      | _ => rfl
    · obtain ⟨j, rfl⟩ := whole_of (show isWhole x = true by simpa using hw)
      simp only [dSeq, dIfS, dRet, dRetN, dSet, dPar, dPar3, dAsg, dFor, dDrop, dNext, dBrk, dCnt, dAug, dApp, dExt, dPop, dPopAt, dSetI, dFrz, xD, xF, dC, dV, dO, dOp, dOpO, dB, dCh, dAnd, dOr, dNot, dAndV, dOrV, dNotV, dNotT, dIf, dNil, dCons, gNilD, gConsD, gLm, dTup, dLst, dLs, dSl, dSlO, dNo, dSo, d1, dIsi, dList, dCall, dCallK, putS, dGcd, dNeg, dLc, dYes, wTupI, wLstI, wRng1, wRng2, wEnT, wEnL, wName, wNil, wCons, wTup, subD, mulD, divD, modD, powD, ltD, leD, gtD, geD, reprD, wipeD, uns, gDef, dRmG, dRmS, gRm, gConsR, gLmR, dCallR, reRm, dRoom, unrm, dKvIx, dKvGet, dLcm, dListRg, wZip, dKtIn, dKtIx, sumD, sortID, keyD, wStrI, dSplit, catF, catFO, gOwnB, dCallB, wZipT, List.cons_append, List.nil_append, List.length_cons, List.length_nil, List.replicate, List.getElem?_cons_zero, List.getElem?_cons_succ, List.set_cons_zero, List.set_cons_succ, List.map_cons, List.map_nil, List.getD_cons_zero, List.getD_cons_succ, ↓reduceIte, Bool.not_true, Bool.not_false, Bool.false_eq_true, sof_fn1, sof_fn2, sof_fn1p, sof_fn2p, eqv_int, eqv_str, plain_int, plain_bool, plain_none, true_and, and_true, sizeLine_eq, Nat.reduceAdd, Nat.reduceLeDiff, Nat.zero_add, addD_int, addD_str, addD_tup, addD_list, intF_int, intD_int, eqD_int, eqD_str, neD_int, neD_str, inD_list, inD_tup, isND_none, ixD_t0, ixD_t1, ixD_t2, ixD_t3, ixD_l0, lenD_tup, lenD_list, lenD_str, absD_int, toIntD_int, toIntD_bool, toStrD_int, tupleD_list, tupleD_tup, cutSq_tup, cutSq_list, cutSq_str, isInt_none, isInt_bool, isInt_int, isInt_str, isInt_list, isInt_tup, isInt_dict, isBool_none, isBool_bool, isBool_int, isBool_str, isBool_list, isBool_tup, isBool_dict, isStr_none, isStr_bool, isStr_int, isStr_str, isStr_list, isStr_tup, isStr_dict, isTup_none, isTup_bool, isTup_int, isTup_str, isTup_list, isTup_tup, isTup_dict, isLst_none, isLst_bool, isLst_int, isLst_str, isLst_list, isLst_tup, isLst_dict, eqSD_str, neSD_str, inKvD_str, eqE_tup, eqEL_list, inSD_one, ordSD_str, notInSD_one, intB_int, intB_bool]
      refine ite_both2 (fun hj => ?_) (fun hj => ?_)
      · have hj := of_decide_eq_true hj
        refine ⟨hL, hY ?_⟩
        show (!decide (0 ≤ j)) = true
        rw [decide_eq_false (by omega)]
        rfl
      · have hj : ¬ j < 0 := by simpa using hj
        refine hN ?_
        show (!decide (0 ≤ j)) = false
        rw [decide_eq_true (by omega)]
        rfl
  · cases e3 : filtO (fun x => !powD' x) (fun _ _ => PyData.int 1) 0 ps with
    | cons y ys =>
      have nal : ps.all powD' = false := by
        cases e4 : ps.all powD' with
        | false => rfl
        | true =>
          have := filtO_nil (bad := fun x => !powD' x) (out := fun _ _ => PyData.int 1) (k := 0) (xs := ps)
          rw [this.mpr (fun x hx => by rw [List.all_eq_true.mp e4 x hx]; rfl)] at e3
          cases e3
      rw [if_pos (show (!(y :: ys).isEmpty) = true from rfl), nal]
      rfl
    | nil =>
      have al : ps.all powD' = true := List.all_eq_true.mpr fun x hx => by
        have := filtO_nil.mp e3 x hx
        simpa using this
      rw [if_neg (show ¬ (!([] : List PyData).isEmpty) = true by decide), al, Bool.true_and]
      refine ⟨_, ⟨f, rfl, hf.2, rfl⟩, ?_⟩
      rintro _ rfl
      dsimp only
      refine ite_both2 (fun hfr => ?_) (fun hfr => ?_)
      · obtain ⟨a, b, rfl⟩ := frac_ints hfr
        rw [hfr, Bool.true_and, ixD_t0]
        simp only [dSeq, dIfS, dRet, dRetN, dSet, dPar, dPar3, dAsg, dFor, dDrop, dNext, dBrk, dCnt, dAug, dApp, dExt, dPop, dPopAt, dSetI, dFrz, xD, xF, dC, dV, dO, dOp, dOpO, dB, dCh, dAnd, dOr, dNot, dAndV, dOrV, dNotV, dNotT, dIf, dNil, dCons, gNilD, gConsD, gLm, dTup, dLst, dLs, dSl, dSlO, dNo, dSo, d1, dIsi, dList, dCall, dCallK, putS, dGcd, dNeg, dLc, dYes, wTupI, wLstI, wRng1, wRng2, wEnT, wEnL, wName, wNil, wCons, wTup, subD, mulD, divD, modD, powD, ltD, leD, gtD, geD, reprD, wipeD, uns, gDef, dRmG, dRmS, gRm, gConsR, gLmR, dCallR, reRm, dRoom, unrm, dKvIx, dKvGet, dLcm, dListRg, wZip, dKtIn, dKtIx, sumD, sortID, keyD, wStrI, dSplit, catF, catFO, gOwnB, dCallB, wZipT, List.cons_append, List.nil_append, List.length_cons, List.length_nil, List.replicate, List.getElem?_cons_zero, List.getElem?_cons_succ, List.set_cons_zero, List.set_cons_succ, List.map_cons, List.map_nil, List.getD_cons_zero, List.getD_cons_succ, ↓reduceIte, Bool.not_true, Bool.not_false, Bool.false_eq_true, sof_fn1, sof_fn2, sof_fn1p, sof_fn2p, eqv_int, eqv_str, plain_int, plain_bool, plain_none, true_and, and_true, sizeLine_eq, Nat.reduceAdd, Nat.reduceLeDiff, Nat.zero_add, addD_int, addD_str, addD_tup, addD_list, intF_int, intD_int, eqD_int, eqD_str, neD_int, neD_str, inD_list, inD_tup, isND_none, ixD_t0, ixD_t1, ixD_t2, ixD_t3, ixD_l0, lenD_tup, lenD_list, lenD_str, absD_int, toIntD_int, toIntD_bool, toStrD_int, tupleD_list, tupleD_tup, cutSq_tup, cutSq_list, cutSq_str, isInt_none, isInt_bool, isInt_int, isInt_str, isInt_list, isInt_tup, isInt_dict, isBool_none, isBool_bool, isBool_int, isBool_str, isBool_list, isBool_tup, isBool_dict, isStr_none, isStr_bool, isStr_int, isStr_str, isStr_list, isStr_tup, isStr_dict, isTup_none, isTup_bool, isTup_int, isTup_str, isTup_list, isTup_tup, isTup_dict, isLst_none, isLst_bool, isLst_int, isLst_str, isLst_list, isLst_tup, isLst_dict, eqSD_str, neSD_str, inKvD_str, eqE_tup, eqEL_list, inSD_one, ordSD_str, notInSD_one, intB_int, intB_bool]
        show (PyData.bool !decide (a = 0)) = PyData.bool (decide (a ≠ 0))
        by_cases h0 : a = 0
        · rw [decide_eq_true h0, decide_eq_false (by simpa using h0)]
          rfl
        · rw [decide_eq_false h0, decide_eq_true (by simpa using h0)]
          rfl
      · rw [show fracD f = false by simpa using hfr]
        rfl
def lpolyR : RelD := fun ss P => ∃ (n : Int) (d : PyData), ss = [.d (.int n), .d d] ∧ szx d ≤ 16000000 ∧ fitx d = true ∧ P = fun r => r = polyE n d
theorem Txt.ok_poly_fault (T : Txt K mg A D) : FnOk P w K mg base CX0 4 (A 12) (D 12) ["n", "value"] (spD K lpolyR) := by
  refine okD T.F_poly_fault sc_poly_fault (by rintro ss P ⟨n, d, rfl, _⟩; rfl) (fun cdv Ar outer s H E hr => ⟨_, (dss_cons (ds_if (dt_not (dt_val (de_isi (tn := "tuple") kit_tup (by rfl) T.z_isinstance (by decide +kernel) (de_v (pv 1)) (pe_bltn (v := .ty "tuple") (by rfl) T.z_tuple (by decide +kernel) rfl)))) (dss_one (ds_ret de_str)) dss_nil)
    (dss_cons (ds_setLcD (i := 2) (own := [("place", 3), ("item", 4)]) rfl sc_poly_fault.nd rfl rfl (sw_true rfl rfl rfl (by decide +kernel)) (di_enT (by rfl) T.enumerate (de_v (pv 1))) (blkOk_by (N := ["n", "value", "wrong", "place", "item"]) (sc := defScope s_poly_fault) (by decide +kernel)) (fun _ _ _ _ _ => (dg_tup (n := 2) rfl (dgs_cons (dg_name (i := 3) sc_poly_fault.nd rfl (Or.inl rfl)) (dgs_cons (dg_name (i := 4) sc_poly_fault.nd rfl (Or.inl rfl)) dgs_nil)))) (fun _ _ _ _ _ => (dts_one (dt_not (dt_val (de_call T.ok_l_is_term hr (by rfl) T.g_l_is_term T.k_l_is_term T.b_l_is_term pass0 (dg_cons (de_v (pv 0)) (dg_cons (de_v (pv 4)) dg_nil))))))) (fun _ _ _ _ _ => (de_v (pv 3))))
    (dss_cons (ds_if (dt_cmp (o_neL (un0 hr.units)) (de_v (pv 2)) (DE.r (DF.de (df_lst da_nil))) (nomark _)) (dss_one (ds_ret (de_tup (da_cons de_str (da_cons (de_ix (de_v (pv 2)) de_int (fun _ _ => rfl)) da_nil))))) dss_nil)
    (dss_cons (ds_setLcD (i := 2) (own := [("place", 3)]) rfl sc_poly_fault.nd rfl rfl (sw_true rfl rfl rfl (by decide +kernel)) (di_rng2 rfl T.range de_int (de_c1 c_len (by rfl) T.z_len (by decide +kernel) (DE.r (de_v (pv 1))))) (blkOk_by (N := ["n", "value", "wrong", "place", "item"]) (sc := defScope s_poly_fault) (by decide +kernel)) (fun _ _ _ _ _ => (dg_name (i := 3) sc_poly_fault.nd rfl (Or.inl rfl))) (fun _ _ _ _ _ => (dts_one (dt_not (dt_cmp (o_ltT (un0 hr.units)) (de_ix (de_ix (de_v (pv 1)) (de_op o_sub (de_v (pv 3)) (DE.r de_int)) (fun _ _ => rfl)) de_int (fun _ _ => rfl)) (DE.r (de_ix (de_ix (de_v (pv 1)) (de_v (pv 3)) (fun _ _ => rfl)) de_int (fun _ _ => rfl))) (nomark _))))) (fun _ _ _ _ _ => (de_v (pv 3))))
    (dss_one (ds_ret (de_if (dt_cmp (o_neL (un0 hr.units)) (de_v (pv 2)) (DE.r (DF.de (df_lst da_nil))) (nomark _)) (de_tup (da_cons de_str (da_cons (de_ix (de_v (pv 2)) de_int (fun _ _ => rfl)) da_nil))) de_non))))))), ?_⟩)
  rintro ss P ⟨n, d, rfl, hz, hf, rfl⟩
  cases d with
  | tuple ds =>
    simp only [dSeq, dIfS, dRet, dRetN, dSet, dPar, dPar3, dAsg, dFor, dDrop, dNext, dBrk, dCnt, dAug, dApp, dExt, dPop, dPopAt, dSetI, dFrz, xD, xF, dC, dV, dO, dOp, dOpO, dB, dCh, dAnd, dOr, dNot, dAndV, dOrV, dNotV, dNotT, dIf, dNil, dCons, gNilD, gConsD, gLm, dTup, dLst, dLs, dSl, dSlO, dNo, dSo, d1, dIsi, dList, dCall, dCallK, putS, dGcd, dNeg, dLc, dYes, wTupI, wLstI, wRng1, wRng2, wEnT, wEnL, wName, wNil, wCons, wTup, subD, mulD, divD, modD, powD, ltD, leD, gtD, geD, reprD, wipeD, uns, gDef, dRmG, dRmS, gRm, gConsR, gLmR, dCallR, reRm, dRoom, unrm, dKvIx, dKvGet, dLcm, dListRg, wZip, dKtIn, dKtIx, sumD, sortID, keyD, wStrI, dSplit, catF, catFO, gOwnB, dCallB, wZipT, List.cons_append, List.nil_append, List.length_cons, List.length_nil, List.replicate, List.getElem?_cons_zero, List.getElem?_cons_succ, List.set_cons_zero, List.set_cons_succ, List.map_cons, List.map_nil, List.getD_cons_zero, List.getD_cons_succ, ↓reduceIte, Bool.not_true, Bool.not_false, Bool.false_eq_true, sof_fn1, sof_fn2, sof_fn1p, sof_fn2p, eqv_int, eqv_str, plain_int, plain_bool, plain_none, true_and, and_true, sizeLine_eq, Nat.reduceAdd, Nat.reduceLeDiff, Nat.zero_add, addD_int, addD_str, addD_tup, addD_list, intF_int, intD_int, eqD_int, eqD_str, neD_int, neD_str, inD_list, inD_tup, isND_none, ixD_t0, ixD_t1, ixD_t2, ixD_t3, ixD_l0, lenD_tup, lenD_list, lenD_str, absD_int, toIntD_int, toIntD_bool, toStrD_int, tupleD_list, tupleD_tup, cutSq_tup, cutSq_list, cutSq_str, isInt_none, isInt_bool, isInt_int, isInt_str, isInt_list, isInt_tup, isInt_dict, isBool_none, isBool_bool, isBool_int, isBool_str, isBool_list, isBool_tup, isBool_dict, isStr_none, isStr_bool, isStr_int, isStr_str, isStr_list, isStr_tup, isStr_dict, isTup_none, isTup_bool, isTup_int, isTup_str, isTup_list, isTup_tup, isTup_dict, isLst_none, isLst_bool, isLst_int, isLst_str, isLst_list, isLst_tup, isLst_dict, eqSD_str, neSD_str, inKvD_str, eqE_tup, eqEL_list, inSD_one, ordSD_str, notInSD_one, intB_int, intB_bool]
    have lz := szxs_len ds
    have hz' : szxs ds + 1 ≤ 16000000 := by simpa only [szx, Nat.add_comm] using hz
    simp only [fitx] at hf
    refine lc_filt (badP n) (fun i _ => .int (i : Int)) (by rw [enumD_len]; omega) (fun i y L Y N ey hL hY hN => ?_) ?_
    · obtain ⟨x, ex, rfl⟩ := enumD_un ey
      have hY : (!termD n x) = true → Y (.int (i : Int)) := hY
      have hN : (!termD n x) = false → N := hN
      simp only [dSeq, dIfS, dRet, dRetN, dSet, dPar, dPar3, dAsg, dFor, dDrop, dNext, dBrk, dCnt, dAug, dApp, dExt, dPop, dPopAt, dSetI, dFrz, xD, xF, dC, dV, dO, dOp, dOpO, dB, dCh, dAnd, dOr, dNot, dAndV, dOrV, dNotV, dNotT, dIf, dNil, dCons, gNilD, gConsD, gLm, dTup, dLst, dLs, dSl, dSlO, dNo, dSo, d1, dIsi, dList, dCall, dCallK, putS, dGcd, dNeg, dLc, dYes, wTupI, wLstI, wRng1, wRng2, wEnT, wEnL, wName, wNil, wCons, wTup, subD, mulD, divD, modD, powD, ltD, leD, gtD, geD, reprD, wipeD, uns, gDef, dRmG, dRmS, gRm, gConsR, gLmR, dCallR, reRm, dRoom, unrm, dKvIx, dKvGet, dLcm, dListRg, wZip, dKtIn, dKtIx, sumD, sortID, keyD, wStrI, dSplit, catF, catFO, gOwnB, dCallB, wZipT, List.cons_append, List.nil_append, List.length_cons, List.length_nil, List.replicate, List.getElem?_cons_zero, List.getElem?_cons_succ, List.set_cons_zero, List.set_cons_succ, List.map_cons, List.map_nil, List.getD_cons_zero, List.getD_cons_succ, ↓reduceIte, Bool.not_true, Bool.not_false, Bool.false_eq_true, sof_fn1, sof_fn2, sof_fn1p, sof_fn2p, eqv_int, eqv_str, plain_int, plain_bool, plain_none, true_and, and_true, sizeLine_eq, Nat.reduceAdd, Nat.reduceLeDiff, Nat.zero_add, addD_int, addD_str, addD_tup, addD_list, intF_int, intD_int, eqD_int, eqD_str, neD_int, neD_str, inD_list, inD_tup, isND_none, ixD_t0, ixD_t1, ixD_t2, ixD_t3, ixD_l0, lenD_tup, lenD_list, lenD_str, absD_int, toIntD_int, toIntD_bool, toStrD_int, tupleD_list, tupleD_tup, cutSq_tup, cutSq_list, cutSq_str, isInt_none, isInt_bool, isInt_int, isInt_str, isInt_list, isInt_tup, isInt_dict, isBool_none, isBool_bool, isBool_int, isBool_str, isBool_list, isBool_tup, isBool_dict, isStr_none, isStr_bool, isStr_int, isStr_str, isStr_list, isStr_tup, isStr_dict, isTup_none, isTup_bool, isTup_int, isTup_str, isTup_list, isTup_tup, isTup_dict, isLst_none, isLst_bool, isLst_int, isLst_str, isLst_list, isLst_tup, isLst_dict, eqSD_str, neSD_str, inKvD_str, eqE_tup, eqEL_list, inSD_one, ordSD_str, notInSD_one, intB_int, intB_bool]
      refine ⟨_, ⟨n, x, rfl, Nat.le_trans (szx_mem (List.mem_of_getElem? ex)) (by omega), fitxs_mem hf x (List.mem_of_getElem? ex), rfl⟩, ?_⟩
      rintro _ rfl
      dsimp only
      refine ite_both2 (fun h => ⟨hL, hY h⟩) (fun h => hN (by simpa using h))
    · have fe : firstO (badP n) 0 (enumD ds) = firstO (fun x => !termD n x) 0 ds := by rw [enumD_eq]; exact first_enum ds 0 0
      have pe : polyE n (.tuple ds) = match firstO (badP n) 0 (enumD ds) with
          | some k => .tuple [.str "term", .int (k : Int)]
          | none => match firstO (ordB ds) 0 (rngD 1 (ds.length - 1)) with
            | some k => .tuple [.str "order", .int ((k : Int) + 1)]
            | none => .none := by rw [fe]; rfl
      rw [pe]
      rcases filtO_first (bad := badP n) (f := fun i => .int (i : Int)) 0 (enumD ds) with ⟨e1, e2⟩ | ⟨j, r, e1, e2⟩
      · have all : ∀ y ∈ ds, termD n y = true := fun y hy => by
          obtain ⟨k, hk⟩ := List.getElem?_of_mem hy
          have := filtO_nil.mp e2 _ (List.mem_of_getElem? (enumD_at hk))
          have : (!termD n y) = false := this
          simpa using this
        have pw : ∀ k x, ds[k]? = some x → ∃ ps f, x = .tuple [.tuple (ps.map .int), f] ∧ powI x = ps := fun k x hx => by
          obtain ⟨ps, f, rfl, hp⟩ := term_inv (all x (List.mem_of_getElem? hx))
          exact ⟨ps.map intOf, f, by rw [← pows_ints hp], rfl⟩
        rw [e2, e1]
        simp only [dSeq, dIfS, dRet, dRetN, dSet, dPar, dPar3, dAsg, dFor, dDrop, dNext, dBrk, dCnt, dAug, dApp, dExt, dPop, dPopAt, dSetI, dFrz, xD, xF, dC, dV, dO, dOp, dOpO, dB, dCh, dAnd, dOr, dNot, dAndV, dOrV, dNotV, dNotT, dIf, dNil, dCons, gNilD, gConsD, gLm, dTup, dLst, dLs, dSl, dSlO, dNo, dSo, d1, dIsi, dList, dCall, dCallK, putS, dGcd, dNeg, dLc, dYes, wTupI, wLstI, wRng1, wRng2, wEnT, wEnL, wName, wNil, wCons, wTup, subD, mulD, divD, modD, powD, ltD, leD, gtD, geD, reprD, wipeD, uns, gDef, dRmG, dRmS, gRm, gConsR, gLmR, dCallR, reRm, dRoom, unrm, dKvIx, dKvGet, dLcm, dListRg, wZip, dKtIn, dKtIx, sumD, sortID, keyD, wStrI, dSplit, catF, catFO, gOwnB, dCallB, wZipT, List.cons_append, List.nil_append, List.length_cons, List.length_nil, List.replicate, List.getElem?_cons_zero, List.getElem?_cons_succ, List.set_cons_zero, List.set_cons_succ, List.map_cons, List.map_nil, List.getD_cons_zero, List.getD_cons_succ, ↓reduceIte, Bool.not_true, Bool.not_false, Bool.false_eq_true, sof_fn1, sof_fn2, sof_fn1p, sof_fn2p, eqv_int, eqv_str, plain_int, plain_bool, plain_none, true_and, and_true, sizeLine_eq, Nat.reduceAdd, Nat.reduceLeDiff, Nat.zero_add, addD_int, addD_str, addD_tup, addD_list, intF_int, intD_int, eqD_int, eqD_str, neD_int, neD_str, inD_list, inD_tup, isND_none, ixD_t0, ixD_t1, ixD_t2, ixD_t3, ixD_l0, lenD_tup, lenD_list, lenD_str, absD_int, toIntD_int, toIntD_bool, toStrD_int, tupleD_list, tupleD_tup, cutSq_tup, cutSq_list, cutSq_str, isInt_none, isInt_bool, isInt_int, isInt_str, isInt_list, isInt_tup, isInt_dict, isBool_none, isBool_bool, isBool_int, isBool_str, isBool_list, isBool_tup, isBool_dict, isStr_none, isStr_bool, isStr_int, isStr_str, isStr_list, isStr_tup, isStr_dict, isTup_none, isTup_bool, isTup_int, isTup_str, isTup_list, isTup_tup, isTup_dict, isLst_none, isLst_bool, isLst_int, isLst_str, isLst_list, isLst_tup, isLst_dict, eqSD_str, neSD_str, inKvD_str, eqE_tup, eqEL_list, inSD_one, ordSD_str, notInSD_one, intB_int, intB_bool]
        rw [if_neg (show ¬ (!([] : List PyData).isEmpty) = true by decide)]
        refine ⟨⟨by decide, by decide, by omega, by omega⟩, ?_⟩
        have e1 : ((ds.length : Int) - 1).toNat = ds.length - 1 := by omega
        rw [e1]
        refine lc_filt (ordB ds) (fun i _ => .int ((i : Int) + 1)) (by rw [rngD_len]; omega) (fun i y L Y N ey hL hY hN => ?_) ?_
        · have hi : i < ds.length - 1 := by
            have := (List.getElem?_eq_some_iff.mp ey).1
            rw [rngD_len] at this
            exact this
          rw [rng_at hi] at ey
          cases ey
          obtain ⟨x1, ex1⟩ : ∃ x, ds[1 + i]? = some x := ⟨_, List.getElem?_eq_getElem (by omega)⟩
          obtain ⟨x0, ex0⟩ : ∃ x, ds[i]? = some x := ⟨_, List.getElem?_eq_getElem (by omega)⟩
          obtain ⟨p1, f1, rfl, q1⟩ := pw _ _ ex1
          obtain ⟨p0, f0, rfl, q0⟩ := pw _ _ ex0
          have ob : ordB ds (.int (1 + (i : Int))) = lexLe p1 p0 := by
            show lexLe (powI (ds.getD (1 + (i : Int)).toNat .none)) (powI (ds.getD ((1 + (i : Int)).toNat - 1) .none)) = _
            rw [show (1 + (i : Int)).toNat = 1 + i by omega, show 1 + i - 1 = i by omega, List.getD_eq_getElem?_getD, List.getD_eq_getElem?_getD, ex1, ex0]
            rw [Option.getD_some, Option.getD_some, q1, q0]
          rw [ob, lex_not] at hY hN
          simp only [dSeq, dIfS, dRet, dRetN, dSet, dPar, dPar3, dAsg, dFor, dDrop, dNext, dBrk, dCnt, dAug, dApp, dExt, dPop, dPopAt, dSetI, dFrz, xD, xF, dC, dV, dO, dOp, dOpO, dB, dCh, dAnd, dOr, dNot, dAndV, dOrV, dNotV, dNotT, dIf, dNil, dCons, gNilD, gConsD, gLm, dTup, dLst, dLs, dSl, dSlO, dNo, dSo, d1, dIsi, dList, dCall, dCallK, putS, dGcd, dNeg, dLc, dYes, wTupI, wLstI, wRng1, wRng2, wEnT, wEnL, wName, wNil, wCons, wTup, subD, mulD, divD, modD, powD, ltD, leD, gtD, geD, reprD, wipeD, uns, gDef, dRmG, dRmS, gRm, gConsR, gLmR, dCallR, reRm, dRoom, unrm, dKvIx, dKvGet, dLcm, dListRg, wZip, dKtIn, dKtIx, sumD, sortID, keyD, wStrI, dSplit, catF, catFO, gOwnB, dCallB, wZipT, List.cons_append, List.nil_append, List.length_cons, List.length_nil, List.replicate, List.getElem?_cons_zero, List.getElem?_cons_succ, List.set_cons_zero, List.set_cons_succ, List.map_cons, List.map_nil, List.getD_cons_zero, List.getD_cons_succ, ↓reduceIte, Bool.not_true, Bool.not_false, Bool.false_eq_true, sof_fn1, sof_fn2, sof_fn1p, sof_fn2p, eqv_int, eqv_str, plain_int, plain_bool, plain_none, true_and, and_true, sizeLine_eq, Nat.reduceAdd, Nat.reduceLeDiff, Nat.zero_add, addD_int, addD_str, addD_tup, addD_list, intF_int, intD_int, eqD_int, eqD_str, neD_int, neD_str, inD_list, inD_tup, isND_none, ixD_t0, ixD_t1, ixD_t2, ixD_t3, ixD_l0, lenD_tup, lenD_list, lenD_str, absD_int, toIntD_int, toIntD_bool, toStrD_int, tupleD_list, tupleD_tup, cutSq_tup, cutSq_list, cutSq_str, isInt_none, isInt_bool, isInt_int, isInt_str, isInt_list, isInt_tup, isInt_dict, isBool_none, isBool_bool, isBool_int, isBool_str, isBool_list, isBool_tup, isBool_dict, isStr_none, isStr_bool, isStr_int, isStr_str, isStr_list, isStr_tup, isStr_dict, isTup_none, isTup_bool, isTup_int, isTup_str, isTup_list, isTup_tup, isTup_dict, isLst_none, isLst_bool, isLst_int, isLst_str, isLst_list, isLst_tup, isLst_dict, eqSD_str, neSD_str, inKvD_str, eqE_tup, eqEL_list, inSD_one, ordSD_str, notInSD_one, intB_int, intB_bool]
          rw [show (1 : Int) + (i : Int) - 1 = ((i : Nat) : Int) by omega, show (1 : Int) + (i : Int) = ((1 + i : Nat) : Int) by omega, ixD_of (atI_nat ex0), ixD_t0, ixD_of (atI_nat ex1), ixD_t0]
          refine ⟨p0, p1, rfl, rfl, ?_⟩
          rw [show ((1 + i : Nat) : Int) = (i : Int) + 1 by omega]
          refine ite_both2 (fun h => ⟨hL, hY h⟩) (fun h => hN (by simpa using h))
        · rcases filtO_first (bad := ordB ds) (f := fun i => .int ((i : Int) + 1)) 0 (rngD 1 (ds.length - 1)) with ⟨e3, e4⟩ | ⟨j, r, e3, e4⟩
          · rw [e3, e4]
            rw [if_neg (show ¬ (!([] : List PyData).isEmpty) = true by decide)]
          · rw [e3, e4]
            rw [if_pos (show (!(PyData.int ((j : Int) + 1) :: r).isEmpty) = true from rfl), ixD_l0]
      · rw [e2, e1]
        simp only [dSeq, dIfS, dRet, dRetN, dSet, dPar, dPar3, dAsg, dFor, dDrop, dNext, dBrk, dCnt, dAug, dApp, dExt, dPop, dPopAt, dSetI, dFrz, xD, xF, dC, dV, dO, dOp, dOpO, dB, dCh, dAnd, dOr, dNot, dAndV, dOrV, dNotV, dNotT, dIf, dNil, dCons, gNilD, gConsD, gLm, dTup, dLst, dLs, dSl, dSlO, dNo, dSo, d1, dIsi, dList, dCall, dCallK, putS, dGcd, dNeg, dLc, dYes, wTupI, wLstI, wRng1, wRng2, wEnT, wEnL, wName, wNil, wCons, wTup, subD, mulD, divD, modD, powD, ltD, leD, gtD, geD, reprD, wipeD, uns, gDef, dRmG, dRmS, gRm, gConsR, gLmR, dCallR, reRm, dRoom, unrm, dKvIx, dKvGet, dLcm, dListRg, wZip, dKtIn, dKtIx, sumD, sortID, keyD, wStrI, dSplit, catF, catFO, gOwnB, dCallB, wZipT, List.cons_append, List.nil_append, List.length_cons, List.length_nil, List.replicate, List.getElem?_cons_zero, List.getElem?_cons_succ, List.set_cons_zero, List.set_cons_succ, List.map_cons, List.map_nil, List.getD_cons_zero, List.getD_cons_succ, ↓reduceIte, Bool.not_true, Bool.not_false, Bool.false_eq_true, sof_fn1, sof_fn2, sof_fn1p, sof_fn2p, eqv_int, eqv_str, plain_int, plain_bool, plain_none, true_and, and_true, sizeLine_eq, Nat.reduceAdd, Nat.reduceLeDiff, Nat.zero_add, addD_int, addD_str, addD_tup, addD_list, intF_int, intD_int, eqD_int, eqD_str, neD_int, neD_str, inD_list, inD_tup, isND_none, ixD_t0, ixD_t1, ixD_t2, ixD_t3, ixD_l0, lenD_tup, lenD_list, lenD_str, absD_int, toIntD_int, toIntD_bool, toStrD_int, tupleD_list, tupleD_tup, cutSq_tup, cutSq_list, cutSq_str, isInt_none, isInt_bool, isInt_int, isInt_str, isInt_list, isInt_tup, isInt_dict, isBool_none, isBool_bool, isBool_int, isBool_str, isBool_list, isBool_tup, isBool_dict, isStr_none, isStr_bool, isStr_int, isStr_str, isStr_list, isStr_tup, isStr_dict, isTup_none, isTup_bool, isTup_int, isTup_str, isTup_list, isTup_tup, isTup_dict, isLst_none, isLst_bool, isLst_int, isLst_str, isLst_list, isLst_tup, isLst_dict, eqSD_str, neSD_str, inKvD_str, eqE_tup, eqEL_list, inSD_one, ordSD_str, notInSD_one, intB_int, intB_bool]
        rw [if_pos (show (!(PyData.int (j : Int) :: r).isEmpty) = true from rfl)]
        trivial
  | _ => exact rfl
end
end Ev

set_option exponentiation.threshold 3000
namespace Ev
open PySem PySem.Spec PyProof.Rows L2
theorem ldD_len {F : Addr} {s t : Int} : (ldD F s t).length < sizeLine := by
  show 3 < sizeLine
  decide
section
variable {P : Program} {w : World} {K : PySem.W.Frag} {mg : Str → Option Value} {base : Heap} {A : Nat → Addr} {D : Nat → FuncData}
theorem Txt.okh_draw (T : Txt K mg A D) : FnOk P w K mg base CX0 1 (A 5) (D 5) ["sack", "many"] sp_drawH := by
  refine T.F_draw.ok sc_draw (fun vs H Q E h => ?_) (fun cdv Ar outer s H vs Q E hr h => ?_)
  · obtain ⟨L, F, many, rfl, _⟩ := h
    rfl
  · obtain ⟨L, F, many, rfl, ⟨fs, s0, t0, hL, hF, hlen⟩, hmany, q⟩ := h
    have hu := hu_of hr
    refine ⟨_, (pss_cons (ps_if (pt_cmpR op_lt (pv 1) pe_int (nomark _)) (pss_one (ps_ret pe_int)) pss_nil)
    (pss_cons (ps_if (pt_cmpR (op_neD hr.units) (pe_dget hu (pv 0) pe_str (fun _ _ => rfl)) (pe_lst pa_nil) (nomark _)) (pss_cons (ps_set (i := 2) sc_draw.nd rfl (Or.inl rfl) (pe_bm0 PySem.F.plainAttrs_list PySem.F.slot_list_pop PySem.F.type_list_pop mt_pop (pe_dget hu (pv 0) pe_str (fun _ _ => rfl))))
    (pss_cons (ps_if (pt_cmpR op_ge (pv 2) (pv 1) (nomark _)) (pss_one (ps_expr (pe_bm PySem.F.plainAttrs_list PySem.F.slot_list_append PySem.F.type_list_append mt_append (pe_dget hu (pv 0) pe_str (fun _ _ => rfl)) (pa_cons (pe_op op_fdivN (pv 2) (pv 1)) pa_nil)))) pss_nil)
    (pss_one (ps_ret (pe_op op_mod (pe_callTy call_int1 (by rfl) T.z_int (by decide +kernel) (pa_cons (pv 2) pa_nil)) (pv 1)))))) pss_nil)
    (pss_cons (ps_dput hu (pv 0) pe_str (pe_op op_add (pe_dget hu (pv 0) pe_str (fun _ _ => rfl)) pe_int) rfl)
    (pss_cons (ps_set (i := 3) sc_draw.nd rfl (Or.inl rfl) (pe_op op_mod (pe_callTy call_int1 (by rfl) T.z_int (by decide +kernel) (pa_cons (pe_op op_add (pe_dget hu (pv 0) pe_str (fun _ _ => rfl)) (pe_op op_mul pe_int (pe_dget hu (pv 0) pe_str (fun _ _ => rfl)))) pa_nil)) pe_int))
    (pss_cons (ps_set (i := 3) sc_draw.nd rfl (Or.inl rfl) (pe_op op_mod (pe_callTy call_int1 (by rfl) T.z_int (by decide +kernel) (pa_cons (pe_op op_add (pe_op op_add (pe_op op_mul (pv 3) (pv 3)) (pe_op op_mul pe_int (pe_dget hu (pv 0) pe_str (fun _ _ => rfl)))) pe_int) pa_nil)) pe_int))
    (pss_cons (ps_set (i := 3) sc_draw.nd rfl (Or.inl rfl) (pe_op op_mod (pe_callTy call_int1 (by rfl) T.z_int (by decide +kernel) (pa_cons (pe_op op_add (pe_op op_mul (pv 3) (pv 3)) (pe_dget hu (pv 0) pe_str (fun _ _ => rfl))) pa_nil)) pe_int))
    (pss_one (ps_ret (pe_op op_mod (pe_callTy call_int1 (by rfl) T.z_int (by decide +kernel) (pa_cons (pe_op op_fdivN (pv 3) pe_int) pa_nil)) (pv 1)))))))))), ?_⟩
    -- if many < 2
    refine ⟨_, rfl, _, _, rfl, rfl, _, rfl, ite2 (fun e => ?_) (fun e => ?_)⟩
    · exact q H 0 (Kp.refl H) ⟨fs, s0, t0, hL, hF, hlen⟩ (Int.le_refl 0) (.inr rfl)
    · have h2 : 2 ≤ many := Int.not_lt.mp fun z => e (decide_eq_true z)
      refine ⟨_, rfl, L, _, rfl, DGet.k (k := Sum.inr "far") hL, ⟨Nat.zero_le _, fun p hp => ?_⟩⟩
      have hFp : (upd H p (.lst [])) F = some (.lst (fs.map V.int)) := by
        rw [upd_ne (ne_of_none hF hp)]
        exact hF
      refine ⟨_, _, .lst (.inl (.inl hFp)) (dpAll_ints fs), .lst (xs := []) (.inl (.inl upd_same)) .nil, shaped_ints fs, by decide, _, rfl, ite2 (fun e1 => ?_) (fun e1 => ?_)⟩
      · rw [eqv_ints_nil] at e1
        rcases snoc_cases fs with rfl | ⟨gs, c, rfl⟩
        · exact absurd e1 (by decide)
        · have hL1 : (upd H p (.lst [])) L = some (.dK (ldD F s0 t0)) := by
            rw [upd_ne (ne_of_none hL hp)]
            exact hL
          have nLF : L ≠ F := ne_of hL hF (by intro z; cases z)
          have last : ((gs ++ [c]).map V.int)[((gs ++ [c]).map V.int).length - 1]? = some (.int c) := by simp
          have drop : ((gs ++ [c]).map V.int).dropLast = gs.map V.int := by simp
          have hg : gs.length ≤ 62 := by
            rw [List.length_append, List.length_singleton] at hlen
            omega
          have km : 0 ≤ c % many ∧ c % many < many := ⟨Int.emod_nonneg _ (by omega), Int.emod_lt_of_pos _ (by omega)⟩
          refine ⟨_, rfl, L, _, rfl, DGet.k (k := Sum.inr "far") hL1, .inl ⟨rfl, _, SqL.of hFp⟩, F, _, _, rfl, rfl, hFp, last, ?_⟩
          rw [drop]
          -- if cell >= many
          refine ⟨_, rfl, _, rfl, _, _, rfl, rfl, _, rfl, ite2 (fun e2 => ?_) (fun e2 => ?_)⟩
          · have hL2 : (upd (upd H p (.lst [])) F (.lst (gs.map V.int))) L = some (.dK (ldD F s0 t0)) := by
              rw [upd_ne nLF]
              exact hL1
            refine ⟨_, rfl, L, _, rfl, DGet.k (k := Sum.inr "far") hL2, .inl ⟨rfl, _, SqL.of upd_same⟩, _, rfl, _, rfl, _, _, rfl, rfl, ⟨by omega, by omega⟩, F, _, _, rfl, rfl, upd_same, small1000 (by rw [List.length_map]; omega), ?_⟩
            refine ⟨_, rfl, .inl ⟨_, rfl, _, rfl, _, _, rfl, rfl, by show 0 < many; omega, ?_⟩⟩
            refine q _ _ ?_ ?_ km.1 (.inl km.2)
            · exact ((Kp.new hp).trans Kp.updF).trans Kp.updF
            · exact ⟨gs ++ [c.fdiv many], s0, t0, by rw [upd_ne nLF]; exact hL2, by rw [upd_same, List.map_append]; rfl, by rw [List.length_append, List.length_singleton]; omega⟩
          · refine ⟨_, rfl, .inl ⟨_, rfl, _, rfl, _, _, rfl, rfl, by show 0 < many; omega, ?_⟩⟩
            refine q _ _ ?_ ?_ km.1 (.inl km.2)
            · exact (Kp.new hp).trans Kp.updF
            · exact ⟨gs, s0, t0, by rw [upd_ne nLF]; exact hL1, upd_same, by omega⟩
      · have hL1 : (upd H p (.lst [])) L = some (.dK (ldD F s0 t0)) := by
          rw [upd_ne (ne_of_none hL hp)]
          exact hL
        have nLF : L ≠ F := ne_of hL hF (by intro z; cases z)
        refine ⟨_, rfl, L, _, rfl, DGet.k (k := Sum.inr "turn") hL1, _, _, rfl, rfl, _, rfl, L, _, rfl, DPut.k (k := Sum.inr "turn") hL1 ldD_len, ?_⟩
        show (_ : L2.TS) _ _ (upd (upd H p (.lst [])) L (.dK (ldD F s0 (t0 + 1))))
        have hL2 : (upd (upd H p (.lst [])) L (.dK (ldD F s0 (t0 + 1)))) L = some (.dK (ldD F s0 (t0 + 1))) := upd_same
        refine ⟨_, rfl, L, _, rfl, DGet.k (k := Sum.inr "state") hL2, _, rfl, L, _, rfl, DGet.k (k := Sum.inr "turn") hL2, _, _, rfl, rfl, .inl (by decide), _, _, rfl, rfl, .inl ⟨_, rfl, _, _, rfl, rfl, by show (0 : Int) < 4294967291; decide, ?_⟩⟩
        have b1 : 0 ≤ (s0 + 2246822519 * (t0 + 1)) % 4294967291 ∧ (s0 + 2246822519 * (t0 + 1)) % 4294967291 < 4294967291 := ⟨Int.emod_nonneg _ (by decide), Int.emod_lt_of_pos _ (by decide)⟩
        revert b1
        generalize (s0 + 2246822519 * (t0 + 1)) % 4294967291 = u1
        intro b1
        refine ⟨_, rfl, _, rfl, _, _, rfl, rfl, .inl ⟨by omega, by omega⟩, _, rfl, L, _, rfl, DGet.k (k := Sum.inr "turn") hL2, _, _, rfl, rfl, .inl (by decide), _, _, rfl, rfl, _, _, rfl, rfl, .inl ⟨_, rfl, _, _, rfl, rfl, by show (0 : Int) < 4294967231; decide, ?_⟩⟩
        have b2 : 0 ≤ (u1 * u1 + 48271 * (t0 + 1) + 31) % 4294967231 ∧ (u1 * u1 + 48271 * (t0 + 1) + 31) % 4294967231 < 4294967231 := ⟨Int.emod_nonneg _ (by decide), Int.emod_lt_of_pos _ (by decide)⟩
        revert b2
        generalize (u1 * u1 + 48271 * (t0 + 1) + 31) % 4294967231 = u2
        intro b2
        refine ⟨_, rfl, _, rfl, _, _, rfl, rfl, .inl ⟨by omega, by omega⟩, _, rfl, L, _, rfl, DGet.k (k := Sum.inr "state") hL2, _, _, rfl, rfl, .inl ⟨_, rfl, _, _, rfl, rfl, by show (0 : Int) < 4294967197; decide, ?_⟩⟩
        generalize (u2 * u2 + s0) % 4294967197 = u3
        refine ⟨_, rfl, _, _, rfl, rfl, ⟨by decide, by decide⟩, .inl ⟨_, rfl, _, rfl, _, _, rfl, rfl, by show 0 < many; omega, ?_⟩⟩
        refine q _ _ ((Kp.new hp).trans Kp.updL) ?_ (Int.emod_nonneg _ (by omega)) (.inl (Int.emod_lt_of_pos _ (by omega)))
        exact ⟨fs, s0, t0 + 1, hL2, by rw [upd_ne nLF.symm]; exact hFp, hlen⟩
theorem Txt.ok_draw (T : Txt K mg A D) : FnOk P w K mg base CX0 1 (A 5) (D 5) ["sack", "many"] (spD K drawR) := draw_of T.okh_draw
/-! ### the loom's making -/
theorem Txt.ok_sack (T : Txt K mg A D) : FnOk P w K mg base CX0 1 (A 4) (D 4) ["script"] (sp_loomH K) := by
  refine T.F_sack.ok sc_sack (fun vs H Q E h => ?_) (fun cdv Ar outer s H vs Q E hr h => ?_)
  · obtain ⟨a, ns, rfl, _⟩ := h
    rfl
  · obtain ⟨a, ns, rfl, hS, hlen, q⟩ := h
    have hu := hu_of hr
    refine ⟨_, (pss_cons (ps_par (i := 2) (j := 3) rfl sc_sack.nd rfl rfl (by decide) rfl rfl (pa_cons (pe_lc (own := [("cell", 1)]) (g := gName 1) (tt := tYes) rfl sc_sack.nd (pi_list (pe_slice sl_list (pv 0) po_none (po_some pe_int))) (blkOk_by (N := ["script", "cell", "cells", "state"]) (sc := defScope s_sack) (by decide +kernel)) (fun _ _ _ _ _ => pg_name (i := 1) sc_sack.nd rfl (Or.inl rfl)) (fun _ _ _ _ _ => pts_nil) (fun _ _ _ _ _ => (pe_op op_add (pe_op op_mul pe_int (pe_callB call_abs (by rfl) T.z_abs (by decide +kernel) (pa_cons (pv 1) pa_nil))) (pe_callTy call_int1 (by rfl) T.z_int (by decide +kernel) (pa_cons (pe_cmpR op_lt (pv 1) pe_int (nomark _)) pa_nil))))) (pa_cons (pe_op op_add pe_int (pe_callB call_len_seq (by rfl) T.z_len (by decide +kernel) (pa_cons (pv 0) pa_nil))) pa_nil)) (by rfl))
    (pss_cons (ps_for PassesOwn.never rfl (pi_list (pv 2)) (pg_name (i := 1) sc_sack.nd rfl (Or.inl rfl)) (pss_one (ps_set (i := 3) sc_sack.nd rfl (Or.inl rfl) (pe_op op_mod (pe_callTy call_int1 (by rfl) T.z_int (by decide +kernel) (pa_cons (pe_op op_add (pe_op op_add (pe_op op_mul (pv 3) pe_int) (pv 1)) pe_int) pa_nil)) pe_int))))
    (pss_one (ps_ret (pe_disp (pps_cons pe_str (pe_lc (own := [("cell", 1)]) (g := gName 1) (tt := _) rfl sc_sack.nd (pi_list (pv 2)) (blkOk_by (N := ["script", "cell", "cells", "state"]) (sc := defScope s_sack) (by decide +kernel)) (fun _ _ _ _ _ => pg_name (i := 1) sc_sack.nd rfl (Or.inl rfl)) (fun _ _ _ _ _ => (pts_one (pt_cmpR op_ge (pv 1) (pe_op op_pow pe_int pe_int) (nomark _)))) (fun _ _ _ _ _ => (pv 1))) (pps_cons pe_str (pv 3) (pps_cons pe_str pe_int pps_nil))) (by rfl) (by rfl) (fun z => by cases z) (by decide)))))), ?_⟩
    refine ⟨_, rfl, _, rfl, a, _, rfl, hS, fun p hp => ?_⟩
    obtain ⟨ms, em, hm⟩ := cut_ints ns none (some 63)
    rw [em]
    have sp : Same H (upd H p (.lst (ms.map V.int))) := same_new hp
    refine ⟨p, rfl, ⟨_, SqL.of upd_same⟩, fun D1 hD1 => ?_⟩
    have hDp : H D1 = none := sp.free hD1
    refine lc_list (K := K) (a := p) (xs := ms.map V.int) (fun i H' => Same (upd H p (.lst (ms.map V.int))) H' ∧ ∃ acc : List Int, H' D1 = some (.lst (acc.map V.int)) ∧ acc.length = i)
      ⟨same_new hD1, [], upd_same, rfl⟩ (fun i H' _ z => z.1.seq (SqL.of upd_same)) ?_ ?_
    · intro i x H' hx hP
      obtain ⟨m, hm1, rfl⟩ := int_at hx
      obtain ⟨s1, acc, hA, la⟩ := hP
      have hi : i < ms.length := (List.getElem?_eq_some_iff.mp hm1).1
      refine ⟨rfl, yes_of ?_⟩
      refine ⟨_, rfl, _, rfl, _, _, rfl, rfl, .inl ⟨by decide, by decide⟩, _, rfl, _, _, rfl, rfl, .inr ⟨_, rfl, _, _, rfl, rfl, _, hA, small1000 (by rw [List.length_map]; omega), same_put s1 hD1, acc ++ [2 * (if m < 0 then -m else m) + (if decide (m < 0) = true then 1 else 0)], ?_, ?_⟩⟩
      · rw [upd_same, List.map_append]
        rfl
      · rw [List.length_append, List.length_singleton, la]
    · intro H1 hP
      obtain ⟨s1, acc, hA, la⟩ := hP
      have sH : Same H H1 := sp.trans s1
      have sS := sH.seq hS
      refine ⟨_, rfl, a, _, rfl, .inl sS, _, _, rfl, rfl, _, _, rfl, ?_⟩
      -- the loop
      refine ⟨.ref D1, rfl, D1, rfl, ⟨_, SqL.of hA⟩, for_list (K := K) (a := D1) (xs := acc.map V.int) (fun i σ H' => H' = H1 ∧ ∃ (y : Option V) (z : Int), σ = [some (.ref a), y, some (.ref D1), some (.int z)])
        ⟨rfl, none, _, rfl⟩ (fun i σ H' _ z => by rw [z.1]; exact SqL.of hA) ?_ ?_⟩
      · rintro i x σ H' hx ⟨rfl, y, z, rfl⟩
        obtain ⟨m, hm1, rfl⟩ := int_at hx
        exact ⟨_, rfl, _, _, rfl, rfl, .inr ⟨by decide, by decide⟩, _, rfl, _, _, rfl, rfl, _, _, rfl, rfl, .inl ⟨_, rfl, _, _, rfl, rfl, by show (0 : Int) < 4294967279; decide, rfl, _, _, rfl⟩⟩
      · rintro σ H' ⟨rfl, y, z, rfl⟩
        -- the dict
        intro L hL
        have sL : Same H' (upd H' L (.dK [])) := same_new hL
        have hLH : H L = none := sH.free hL
        refine ⟨_, rfl, D1, rfl, ⟨_, (sL.seq (SqL.of hA))⟩, fun F hF => ?_⟩
        have hF' : H' F = none := sL.free hF
        refine lc_list (K := K) (a := D1) (xs := acc.map V.int) (fun i H2 => Same (upd H' L (.dK [])) H2 ∧ ∃ gs : List Int, H2 F = some (.lst (gs.map V.int)) ∧ gs.length ≤ i)
          ⟨same_new hF, [], upd_same, Nat.le_refl _⟩ (fun i H2 _ z => z.1.seq (sL.seq (SqL.of hA))) ?_ ?_
        · intro i x H2 hx hP
          obtain ⟨m, hm1, rfl⟩ := int_at hx
          obtain ⟨s2, gs, hG, lg⟩ := hP
          have hi : i < acc.length := (List.getElem?_eq_some_iff.mp hm1).1
          rw [List.length_map] at la
          refine ⟨rfl, _, rfl, _, _, rfl, rfl, ⟨by decide, by decide, by decide⟩, _, _, rfl, rfl, _, rfl, ite2 (fun e => ?_) (fun e => ?_)⟩
          · exact ⟨_, rfl, _, hG, small1000 (by rw [List.length_map]; omega), same_put s2 hF, gs ++ [m], by rw [upd_same, List.map_append]; rfl, by rw [List.length_append, List.length_singleton]; omega⟩
          · exact ⟨s2, gs, hG, by omega⟩
        · intro H2 hP
          obtain ⟨s2, gs, hG, lg⟩ := hP
          rw [List.length_map] at la lg
          have hL2 : H2 L = some (.dK []) := s2 _ _ upd_same
          refine ⟨_, rfl, hL2, ldD F z 0, rfl, (by show 3 ≤ 15; decide), ?_⟩
          have nFL : F ≠ L := fun e => by
            rw [e, hL2] at hG
            cases hG
          refine q _ L F ?_ ⟨gs, z, 0, upd_same, by rw [upd_ne nFL]; exact hG, by omega⟩ hLH (sH.free hF')
          intro b o e
          have e1 := sH _ _ e
          rw [upd_ne (ne_of_none e1 hL)]
          exact s2 _ _ (sL _ _ e1)
end
end Ev
set_option exponentiation.threshold 20000
namespace Ev
open PySem PySem.Spec PyProof.Rows L2
theorem erase_perm : ∀ {xs : List PyData} {k : Nat} (h : k < xs.length), (xs[k] :: xs.eraseIdx k).Perm xs
  | x :: xs, 0, _ => List.Perm.refl _
  | x :: xs, k + 1, h => (List.Perm.swap _ _ _).trans (List.Perm.cons x (erase_perm (Nat.lt_of_succ_lt_succ h)))
def pickR : RelD := fun ss P => ∃ xs, ss = [.lm, .d (.list xs)] ∧ xs ≠ [] ∧ xs.length < 1073741824 ∧ P = fun d => d ∈ xs
def mixedR : RelD := fun ss P => ∃ xs, ss = [.lm, .d (.list xs)] ∧ xs.length ≤ 1000 ∧ P = fun d => ∃ ys : List PyData, d = .list ys ∧ ys.Perm xs
theorem at_split {ds : List PyData} {k : Nat} {s : PyData} (e : ds[k]? = some s) : ds = ds.take k ++ s :: ds.drop (k + 1) := by
  obtain ⟨h, e⟩ := List.getElem?_eq_some_iff.mp e
  rw [← e, ← List.drop_eq_getElem_cons h, List.take_append_drop]
/-- another in its place -/
theorem put_ok {ds : List PyData} {k F d : Nat} {s f : PyData} (e : ds[k]? = some s) (hx : fitxs ds = true) (fx : fitx f = true) (hm : mz f ≤ mz s + F) (hd : f.depth + 1 ≤ PyData.depthAll ds + 1 + d) :
    fitxs (ds.take k ++ [f] ++ ds.drop (k + 1)) = true ∧ mzs (ds.take k ++ [f] ++ ds.drop (k + 1)) ≤ mzs ds + F ∧ PyData.depthAll (ds.take k ++ [f] ++ ds.drop (k + 1)) ≤ PyData.depthAll ds + d := by
  have sp := at_split e
  have a1 : fitxs ds = (fitxs (ds.take k) && fitxs (s :: ds.drop (k + 1))) := by rw [← fitxs_app, ← sp]
  have a2 : mzs ds = mzs (ds.take k) + mzs (s :: ds.drop (k + 1)) := by rw [← mzs_app, ← sp]
  have a3 : PyData.depthAll ds = max (PyData.depthAll (ds.take k)) (PyData.depthAll (s :: ds.drop (k + 1))) := by rw [← depthAll_app, ← sp]
  rw [a1] at hx
  simp only [fitxs, Bool.and_eq_true] at hx
  simp only [mzs] at a2
  simp only [PyData.depthAll] at a3
  refine ⟨?_, ?_, ?_⟩
  · rw [fitxs_app, fitxs_app, hx.1, hx.2.2]
    simp only [fitxs, fx, Bool.and_self]
  · rw [mzs_app, mzs_app]
    simp only [mzs]
    omega
  · rw [depthAll_app, depthAll_app]
    simp only [PyData.depthAll]
    omega
theorem mzs_rev : ∀ xs : List PyData, mzs xs.reverse = mzs xs
  | [] => rfl
  | x :: xs => by rw [List.reverse_cons, mzs_app, mzs_rev xs]; simp only [mzs]; omega
theorem depthAll_rev : ∀ xs : List PyData, PyData.depthAll xs.reverse = PyData.depthAll xs
  | [] => rfl
  | x :: xs => by rw [List.reverse_cons, depthAll_app, depthAll_rev xs]; simp only [PyData.depthAll]; omega
theorem fitxs_rev : ∀ xs : List PyData, fitxs xs.reverse = fitxs xs
  | [] => rfl
  | x :: xs => by rw [List.reverse_cons, fitxs_app, fitxs_rev xs]; simp only [fitxs, Bool.and_true]; rw [Bool.and_comm]
theorem Mds.rev {n k : Nat} {xs : List PyData} (h : Mds n k xs) : Mds n k xs.reverse := ⟨by rw [fitxs_rev]; exact h.fx, by rw [mzs_rev]; exact h.mz, by rw [depthAll_rev]; exact h.dp⟩
theorem mzs_len : ∀ xs : List PyData, 2 * xs.length ≤ mzs xs
  | [] => Nat.zero_le _
  | x :: xs => by have := mzs_len xs; simp only [mzs, List.length_cons]; omega
theorem Mds.len {n k : Nat} {xs : List PyData} (h : Mds n k xs) : 2 * xs.length ≤ n := Nat.le_trans (mzs_len xs) h.mz
theorem Md.parts {n k : Nat} {xs : List PyData} (h : Md n k (.tuple xs)) : Mds (n - 3) (k - 1) xs ∧ 3 ≤ n ∧ 1 ≤ k := by
  have h1 := h.mz
  have h2 := h.dp
  have h3 := h.fx
  simp only [Ev.mz] at h1
  simp only [PyData.depth] at h2
  simp only [fitx] at h3
  exact ⟨⟨h3, by omega, by omega⟩, by omega, by omega⟩
theorem mds_of {n k : Nat} {d : List PyData} (h : (fitxs d && decide (mzs d ≤ n) && decide (PyData.depthAll d ≤ k)) = true) : Mds n k d := by
  simp only [Bool.and_eq_true, decide_eq_true_eq] at h
  exact ⟨h.1.1, h.1.2, h.2⟩
theorem mds_rep {n k : Nat} {ds : List PyData} (h : Mds n k ds) : ∀ m : Nat, Mds (m * n) k (List.replicate m ds).flatten
  | 0 => by
    rw [Nat.zero_mul]
    exact (Mds.nil).le (Nat.le_refl _) (Nat.zero_le _)
  | m + 1 => by
    rw [List.replicate_succ, List.flatten_cons]
    exact (Mds.app h (mds_rep h m)).le (by rw [Nat.succ_mul]; omega) (by omega)

def Ints (xs : List PyData) : Prop := ∀ x ∈ xs, ∃ i : Int, x = .int i
theorem ints_plain : ∀ {xs : List PyData}, Ints xs → PyData.hasDictAll xs = false ∧ PyData.canLayAll0 xs = true ∧ PyData.depthAll xs = 0
  | [], _ => ⟨rfl, rfl, rfl⟩
  | x :: xs, h => by
    obtain ⟨i, rfl⟩ := h x (List.mem_cons_self ..)
    obtain ⟨a, b, c⟩ := ints_plain (xs := xs) fun y hy => h y (List.mem_cons_of_mem _ hy)
    simp only [PyData.hasDictAll, PyData.hasDict, PyData.canLayAll0, PyData.canLay0, PyData.depthAll, PyData.depth, a, b, c]
    exact ⟨rfl, rfl, rfl⟩
theorem plain_ints {xs : List PyData} (h : Ints xs) : plainD (.tuple xs) = true := by
  obtain ⟨a, b, c⟩ := ints_plain h
  simp only [plainD, PyData.hasDict, SeqAt.shaped, PyData.canLay0, PyData.depth, a, b, c]
  rfl
theorem ints_eqv : ∀ {xs ys : List PyData}, Ints xs → Ints ys → (PyData.eqvAll xs ys = true ↔ xs = ys)
  | [], [], _, _ => by simp [PyData.eqvAll]
  | [], y :: ys, _, _ => by simp [PyData.eqvAll]
  | x :: xs, [], _, _ => by simp [PyData.eqvAll]
  | x :: xs, y :: ys, h, k => by
    obtain ⟨i, rfl⟩ := h x (List.mem_cons_self ..)
    obtain ⟨j, rfl⟩ := k y (List.mem_cons_self ..)
    have ih := ints_eqv (xs := xs) (ys := ys) (fun z hz => h z (List.mem_cons_of_mem _ hz)) (fun z hz => k z (List.mem_cons_of_mem _ hz))
    simp only [PyData.eqvAll, Bool.and_eq_true, eqv_int, decide_eq_true_eq, ih, List.cons.injEq, PyData.int.injEq]
theorem eqv_ints {xs ys : List PyData} (h : Ints xs) (k : Ints ys) : PyData.eqv (.tuple xs) (.tuple ys) = true ↔ xs = ys := by
  have := ints_eqv h k
  simpa only [PyData.eqv] using this
theorem cutD_take {ds : List PyData} {k : Nat} : cutD ds none (some (k : Int)) = ds.take k := by
  unfold cutD
  rw [HT.sIx_nat, HT.sIx_none, List.drop_zero, Nat.sub_zero]
  rcases Nat.le_total k ds.length with h | h
  · rw [Nat.min_eq_left h]
  · rw [Nat.min_eq_right h, List.take_length, List.take_of_length_le h]
theorem cutD_drop {ds : List PyData} {k : Nat} : cutD ds (some (k : Int)) none = ds.drop k := by
  unfold cutD
  rw [HT.sIx_nat, HT.sIx_none]
  rcases Nat.le_total k ds.length with h | h
  · rw [Nat.min_eq_left h, ← List.length_drop, List.take_length]
  · rw [Nat.min_eq_right h, Nat.sub_self, List.take_zero, List.drop_of_length_le h]
theorem md_int24 {k : Nat} (h : k ≤ 16000001) : Md 1921 0 (.int (k : Int)) := ⟨by simp only [fitx]; exact decide_eq_true (Nat.lt_of_le_of_lt (show ((k : Int)).natAbs ≤ 16000001 by omega) (by decide +kernel)), by simp only [mz]; split <;> decide, by simp only [PyData.depth]; decide⟩
theorem firstO_le {bad : PyData → Bool} : ∀ (xs : List PyData) (k i : Nat), firstO bad k xs = some i → i ≤ k + xs.length
  | [], _, _, h => by cases h
  | x :: xs, k, i, h => by
    unfold firstO at h
    split at h
    · cases h
      omega
    · have := firstO_le xs (k + 1) i h
      rw [List.length_cons]
      omega
theorem polyE_md {n : Int} {d : PyData} (h : szx d ≤ 16000000) : Md 2100 1 (polyE n d) := by
  unfold polyE
  split
  · rename_i ds
    simp only [szx] at h
    have := szxs_len ds
    split
    · rename_i k e
      have := firstO_le _ _ _ e
      exact (Mds.tuple (Mds.cons (md_of (n := 120) (k := 0) (by decide +kernel)) (Mds.cons (md_int24 (k := k) (by omega)) Mds.nil))).le (by decide) (by decide)
    · split
      · rename_i k e
        have := firstO_le _ _ _ e
        rw [rngD_len] at this
        exact (Mds.tuple (Mds.cons (md_of (n := 120) (k := 0) (by decide +kernel)) (Mds.cons (md_int24 (k := k + 1) (by omega)) Mds.nil))).le (by decide) (by decide)
      · exact md_none.le (by decide) (by decide)
  · exact md_of (by decide +kernel)
section
variable {P : Program} {w : World} {K : PySem.W.Frag} {mg : Str → Option Value} {base : Heap} {A : Nat → Addr} {D : Nat → FuncData}
theorem Txt.kb_polynomial_error (T : Txt K mg A D) : KB0 K (D 2) ["n", "value"] ["value", "n"] [1, 0] := by
  obtain ⟨c1, c2, c3, c4, c5, c6, c7, c8, c9, e, lk, hcd⟩ := T.F_polynomial_error.ex
  rw [e]
  refine ⟨fun s ws _ hl => ?_⟩
  match ws, hl with
  | [x, y], _ => exact .of_eq rfl
theorem Txt.ok_pick (T : Txt K mg A D) : FnOk P w K mg base CX0 2 (A 6) (D 6) ["sack", "items"] (spD K pickR) := by
  refine okD T.F_pick sc_pick (by rintro ss P ⟨xs, rfl, _⟩; rfl) (fun cdv Ar outer s H E hr => ⟨_, (dss_one (ds_ret (de_ix (de_v (pv 1)) (de_call T.ok_draw hr (by rfl) T.g_draw T.k_draw T.b_draw pass0 (dg_lm (pv 0) (dg_cons (de_c1 c_len (by rfl) T.z_len (by decide +kernel) (DE.r (de_v (pv 1)))) dg_nil))) (fun _ _ => rfl)))), ?_⟩)
  rintro ss P ⟨xs, rfl, ne, hl, rfl⟩
  simp only [dSeq, dIfS, dRet, dRetN, dSet, dPar, dPar3, dAsg, dFor, dDrop, dNext, dBrk, dCnt, dAug, dApp, dExt, dPop, dPopAt, dSetI, dFrz, xD, xF, dC, dV, dO, dOp, dOpO, dB, dCh, dAnd, dOr, dNot, dAndV, dOrV, dNotV, dNotT, dIf, dNil, dCons, gNilD, gConsD, gLm, dTup, dLst, dLs, dSl, dSlO, dNo, dSo, d1, dIsi, dList, dCall, dCallK, putS, dGcd, dNeg, dLc, dYes, wTupI, wLstI, wRng1, wRng2, wEnT, wEnL, wName, wNil, wCons, wTup, subD, mulD, divD, modD, powD, ltD, leD, gtD, geD, reprD, wipeD, uns, gDef, dRmG, dRmS, gRm, gConsR, gLmR, dCallR, reRm, dRoom, unrm, dKvIx, dKvGet, dLcm, dListRg, wZip, dKtIn, dKtIx, sumD, sortID, keyD, wStrI, dSplit, catF, catFO, gOwnB, dCallB, wZipT, List.cons_append, List.nil_append, List.length_cons, List.length_nil, List.replicate, List.getElem?_cons_zero, List.getElem?_cons_succ, List.set_cons_zero, List.set_cons_succ, List.map_cons, List.map_nil, List.getD_cons_zero, List.getD_cons_succ, ↓reduceIte, Bool.not_true, Bool.not_false, Bool.false_eq_true, sof_fn1, sof_fn2, sof_fn1p, sof_fn2p, eqv_int, eqv_str, plain_int, plain_bool, plain_none, true_and, and_true, sizeLine_eq, Nat.reduceAdd, Nat.reduceLeDiff, Nat.zero_add, addD_int, addD_str, addD_tup, addD_list, intF_int, intD_int, eqD_int, eqD_str, neD_int, neD_str, inD_list, inD_tup, isND_none, ixD_t0, ixD_t1, ixD_t2, ixD_t3, ixD_l0, lenD_tup, lenD_list, lenD_str, absD_int, toIntD_int, toIntD_bool, toStrD_int, tupleD_list, tupleD_tup, cutSq_tup, cutSq_list, cutSq_str, isInt_none, isInt_bool, isInt_int, isInt_str, isInt_list, isInt_tup, isInt_dict, isBool_none, isBool_bool, isBool_int, isBool_str, isBool_list, isBool_tup, isBool_dict, isStr_none, isStr_bool, isStr_int, isStr_str, isStr_list, isStr_tup, isStr_dict, isTup_none, isTup_bool, isTup_int, isTup_str, isTup_list, isTup_tup, isTup_dict, isLst_none, isLst_bool, isLst_int, isLst_str, isLst_list, isLst_tup, isLst_dict, eqSD_str, neSD_str, inKvD_str, eqE_tup, eqEL_list, inSD_one, ordSD_str, notInSD_one, intB_int, intB_bool]
  refine ⟨_, ⟨_, rfl, by omega, rfl⟩, ?_⟩
  rintro _ ⟨k, rfl, k0, k1⟩
  have : xs.length ≠ 0 := fun z => ne (List.length_eq_zero_iff.mp z)
  obtain ⟨x, e, m⟩ := atI_ex (xs := xs) k0 (by omega)
  rw [ixD_ofL e]
  exact m
theorem Txt.ok_mixed (T : Txt K mg A D) : FnOk P w K mg base CX0 2 (A 7) (D 7) ["sack", "items"] (spD K mixedR) := by
  refine okD T.F_mixed sc_mixed (by rintro ss P ⟨xs, rfl, _⟩; rfl) (fun cdv Ar outer s H E hr => ⟨_, (dss_cons (ds_par (i := 2) (j := 3) rfl sc_mixed.nd rfl rfl (by decide) rfl rfl (DF.x (df_list (by rfl) T.z_list (by decide +kernel) (DE.r (de_v (pv 1))))) (DF.x (df_lst da_nil)) (by rfl))
    (dss_cons (ds_while PassesOwn.never (dt_cmpo (i := 2) (o_neL (un0 hr.units)) (pv 2) (DE.r (DF.de (df_lst da_nil))) (nomark _)) (dss_one (ds_expr (de_append (i := 3) (pv 3) (de_popAt (i := 2) (pv 2) (de_call T.ok_draw hr (by rfl) T.g_draw T.k_draw T.b_draw pass0 (dg_lm (pv 0) (dg_cons (de_c1 c_len (by rfl) T.z_len (by decide +kernel) (dr_o (pv 2))) dg_nil))))))))
    (dss_frz 3 (dss_one (ds_ret (de_v (pv 3))))))), ?_⟩)
  rintro ss P ⟨xs, rfl, hl, rfl⟩
  simp only [dSeq, dIfS, dRet, dRetN, dSet, dPar, dPar3, dAsg, dFor, dDrop, dNext, dBrk, dCnt, dAug, dApp, dExt, dPop, dPopAt, dSetI, dFrz, xD, xF, dC, dV, dO, dOp, dOpO, dB, dCh, dAnd, dOr, dNot, dAndV, dOrV, dNotV, dNotT, dIf, dNil, dCons, gNilD, gConsD, gLm, dTup, dLst, dLs, dSl, dSlO, dNo, dSo, d1, dIsi, dList, dCall, dCallK, putS, dGcd, dNeg, dLc, dYes, wTupI, wLstI, wRng1, wRng2, wEnT, wEnL, wName, wNil, wCons, wTup, subD, mulD, divD, modD, powD, ltD, leD, gtD, geD, reprD, wipeD, uns, gDef, dRmG, dRmS, gRm, gConsR, gLmR, dCallR, reRm, dRoom, unrm, dKvIx, dKvGet, dLcm, dListRg, wZip, dKtIn, dKtIx, sumD, sortID, keyD, wStrI, dSplit, catF, catFO, gOwnB, dCallB, wZipT, List.cons_append, List.nil_append, List.length_cons, List.length_nil, List.replicate, List.getElem?_cons_zero, List.getElem?_cons_succ, List.set_cons_zero, List.set_cons_succ, List.map_cons, List.map_nil, List.getD_cons_zero, List.getD_cons_succ, ↓reduceIte, Bool.not_true, Bool.not_false, Bool.false_eq_true, sof_fn1, sof_fn2, sof_fn1p, sof_fn2p, eqv_int, eqv_str, plain_int, plain_bool, plain_none, true_and, and_true, sizeLine_eq, Nat.reduceAdd, Nat.reduceLeDiff, Nat.zero_add, addD_int, addD_str, addD_tup, addD_list, intF_int, intD_int, eqD_int, eqD_str, neD_int, neD_str, inD_list, inD_tup, isND_none, ixD_t0, ixD_t1, ixD_t2, ixD_t3, ixD_l0, lenD_tup, lenD_list, lenD_str, absD_int, toIntD_int, toIntD_bool, toStrD_int, tupleD_list, tupleD_tup, cutSq_tup, cutSq_list, cutSq_str, isInt_none, isInt_bool, isInt_int, isInt_str, isInt_list, isInt_tup, isInt_dict, isBool_none, isBool_bool, isBool_int, isBool_str, isBool_list, isBool_tup, isBool_dict, isStr_none, isStr_bool, isStr_int, isStr_str, isStr_list, isStr_tup, isStr_dict, isTup_none, isTup_bool, isTup_int, isTup_str, isTup_list, isTup_tup, isTup_dict, isLst_none, isLst_bool, isLst_int, isLst_str, isLst_list, isLst_tup, isLst_dict, eqSD_str, neSD_str, inKvD_str, eqE_tup, eqEL_list, inSD_one, ordSD_str, notInSD_one, intB_int, intB_bool]
  unfold dWhile
  refine ⟨fun m ρ => ∃ rest found : List PyData, ρ = [.lm, .d (.list xs), .own rest, .own found] ∧ m = rest.length ∧ (rest ++ found).Perm xs, ⟨_, _, _, rfl, rfl, by simp⟩, ?_⟩
  rintro m ρ ⟨rest, found, rfl, rfl, hp⟩
  have lp := hp.length_eq
  rw [List.length_append] at lp
  simp only [dSeq, dIfS, dRet, dRetN, dSet, dPar, dPar3, dAsg, dFor, dDrop, dNext, dBrk, dCnt, dAug, dApp, dExt, dPop, dPopAt, dSetI, dFrz, xD, xF, dC, dV, dO, dOp, dOpO, dB, dCh, dAnd, dOr, dNot, dAndV, dOrV, dNotV, dNotT, dIf, dNil, dCons, gNilD, gConsD, gLm, dTup, dLst, dLs, dSl, dSlO, dNo, dSo, d1, dIsi, dList, dCall, dCallK, putS, dGcd, dNeg, dLc, dYes, wTupI, wLstI, wRng1, wRng2, wEnT, wEnL, wName, wNil, wCons, wTup, subD, mulD, divD, modD, powD, ltD, leD, gtD, geD, reprD, wipeD, uns, gDef, dRmG, dRmS, gRm, gConsR, gLmR, dCallR, reRm, dRoom, unrm, dKvIx, dKvGet, dLcm, dListRg, wZip, dKtIn, dKtIx, sumD, sortID, keyD, wStrI, dSplit, catF, catFO, gOwnB, dCallB, wZipT, List.cons_append, List.nil_append, List.length_cons, List.length_nil, List.replicate, List.getElem?_cons_zero, List.getElem?_cons_succ, List.set_cons_zero, List.set_cons_succ, List.map_cons, List.map_nil, List.getD_cons_zero, List.getD_cons_succ, ↓reduceIte, Bool.not_true, Bool.not_false, Bool.false_eq_true, sof_fn1, sof_fn2, sof_fn1p, sof_fn2p, eqv_int, eqv_str, plain_int, plain_bool, plain_none, true_and, and_true, sizeLine_eq, Nat.reduceAdd, Nat.reduceLeDiff, Nat.zero_add, addD_int, addD_str, addD_tup, addD_list, intF_int, intD_int, eqD_int, eqD_str, neD_int, neD_str, inD_list, inD_tup, isND_none, ixD_t0, ixD_t1, ixD_t2, ixD_t3, ixD_l0, lenD_tup, lenD_list, lenD_str, absD_int, toIntD_int, toIntD_bool, toStrD_int, tupleD_list, tupleD_tup, cutSq_tup, cutSq_list, cutSq_str, isInt_none, isInt_bool, isInt_int, isInt_str, isInt_list, isInt_tup, isInt_dict, isBool_none, isBool_bool, isBool_int, isBool_str, isBool_list, isBool_tup, isBool_dict, isStr_none, isStr_bool, isStr_int, isStr_str, isStr_list, isStr_tup, isStr_dict, isTup_none, isTup_bool, isTup_int, isTup_str, isTup_list, isTup_tup, isTup_dict, isLst_none, isLst_bool, isLst_int, isLst_str, isLst_list, isLst_tup, isLst_dict, eqSD_str, neSD_str, inKvD_str, eqE_tup, eqEL_list, inSD_one, ordSD_str, notInSD_one, intB_int, intB_bool]
  by_cases he : rest = []
  · subst he
    rw [if_neg (by simp)]
    exact ⟨found, rfl, by simpa using hp⟩
  · have ne : rest.length ≠ 0 := fun z => he (List.length_eq_zero_iff.mp z)
    rw [if_pos (by cases rest with | nil => exact absurd rfl he | cons _ _ => rfl)]
    refine ⟨_, ⟨_, rfl, by omega, rfl⟩, ?_⟩
    rintro _ ⟨k, rfl, k0, k1⟩
    dsimp only
    have hk : k.toNat < rest.length := by omega
    refine ⟨k0, by omega, ?_⟩
    rw [List.getElem?_eq_getElem hk]
    refine ⟨by omega, rest.length - 1, by omega, _, _, rfl, by rw [List.length_eraseIdx_of_lt hk], ?_⟩
    have p1 : (rest.eraseIdx k.toNat ++ (found ++ [rest[k.toNat]])).Perm (rest ++ found) := by
      have e := erase_perm hk
      have q : (rest.eraseIdx k.toNat ++ (found ++ [rest[k.toNat]])).Perm (rest[k.toNat] :: (rest.eraseIdx k.toNat ++ found)) := by
        rw [← List.append_assoc]
        exact List.perm_append_singleton _ _
      exact q.trans (List.Perm.append_right found e)
    exact p1.trans hp

def oddS : List PyData := [.tuple [.int 0, .int 1], .tuple [.int 2, .int 4], .tuple [.int 1, .int (-2)], .tuple [.int 1, .int 0], .tuple [.bool true, .int 1], .tuple [.int 1, .bool true], .list [.int 1, .int 2], .int 3, .tuple [.int 1, .int 2, .int 3], .none, .tuple [.str "1", .int 1], .tuple [.int 0, .int 5], .tuple [.int 6, .int 3],
  .tuple [.int (-3), .int 1], .tuple [.int (-1), .int (-1)], .tuple [.int 1], .tuple [], .tuple [.int 0, .int (-1)], .tuple [.int (10 ^ 40), .int 10], .tuple [.int (10 ^ 40 + 1), .int 10]]
def oddSR : RelD := fun ss P => ss = [.lm] ∧ P = fun d => d ∈ oddS
theorem oddS_md : ∀ d ∈ oddS, Md 2100 2 d := md_list (by decide +kernel)
theorem Txt.ok_odd_share (T : Txt K mg A D) : FnOk P w K mg base CX0 3 (A 17) (D 17) ["sack"] (spD K oddSR) := by
  refine okD T.F_odd_share sc_odd_share (by rintro ss P ⟨rfl, _⟩; rfl) (fun cdv Ar outer s H E hr => ⟨_, (dss_cons (ds_set (i := 1) sc_odd_share.nd rfl (Or.inl rfl) (DE.x (DF.de (df_lst (da_cons (de_tup (da_cons de_int (da_cons de_int da_nil))) (da_cons (de_tup (da_cons de_int (da_cons de_int da_nil))) (da_cons (de_tup (da_cons de_int (da_cons (de_neg de_int) da_nil))) (da_cons (de_tup (da_cons de_int (da_cons de_int da_nil))) (da_cons (de_tup (da_cons de_bl (da_cons de_int da_nil))) (da_cons (de_tup (da_cons de_int (da_cons de_bl da_nil))) (da_cons (DF.de (df_lst (da_cons de_int (da_cons de_int da_nil)))) (da_cons de_int (da_cons (de_tup (da_cons de_int (da_cons de_int (da_cons de_int da_nil)))) (da_cons de_non (da_cons (de_tup (da_cons de_str (da_cons de_int da_nil))) (da_cons (de_tup (da_cons de_int (da_cons de_int da_nil))) (da_cons (de_tup (da_cons de_int (da_cons de_int da_nil))) da_nil (se_cons rfl)) (se_cons rfl)) (se_cons rfl)) (se_cons rfl)) (se_cons rfl)) (se_cons rfl)) (se_cons rfl)) (se_cons rfl)) (se_cons rfl)) (se_cons rfl)) (se_cons rfl)) (se_cons rfl)) (se_cons rfl))))))
    (dss_one (ds_ret (de_call T.ok_pick hr (by rfl) T.g_pick T.k_pick T.b_pick pass0 (dg_lm (pv 0) (dg_cons (de_op o_add (de_v (pv 1)) (DE.r (DF.de (df_lst (da_cons (de_tup (da_cons (de_neg de_int) (da_cons de_int da_nil))) (da_cons (de_tup (da_cons (de_neg de_int) (da_cons (de_neg de_int) da_nil))) (da_cons (de_tup (da_cons de_int da_nil)) (da_cons (de_tup da_nil) (da_cons (de_tup (da_cons de_int (da_cons (de_neg de_int) da_nil))) (da_cons (de_tup (da_cons (de_op o_pow de_int (DE.r de_int)) (da_cons de_int da_nil))) (da_cons (de_tup (da_cons (de_op o_add (de_op o_pow de_int (DE.r de_int)) (DE.r de_int)) (da_cons de_int da_nil))) da_nil (se_cons rfl)) (se_cons rfl)) (se_cons rfl)) (se_cons rfl)) (se_cons rfl)) (se_cons rfl)) (se_cons rfl)))))) dg_nil)))))), ?_⟩)
  rintro ss P ⟨rfl, rfl⟩
  simp only [dSeq, dSet, xD, dLs, dLst, dCons, dNil, dC, dTup, dNeg, dOp, dRet, dCall, gLm, gConsD, gNilD, dV]
  iterate 12 refine ⟨by decide, ?_⟩
  simp only [dSeq, dIfS, dRet, dRetN, dSet, dPar, dPar3, dAsg, dFor, dDrop, dNext, dBrk, dCnt, dAug, dApp, dExt, dPop, dPopAt, dSetI, dFrz, xD, xF, dC, dV, dO, dOp, dOpO, dB, dCh, dAnd, dOr, dNot, dAndV, dOrV, dNotV, dNotT, dIf, dNil, dCons, gNilD, gConsD, gLm, dTup, dLst, dLs, dSl, dSlO, dNo, dSo, d1, dIsi, dList, dCall, dCallK, putS, dGcd, dNeg, dLc, dYes, wTupI, wLstI, wRng1, wRng2, wEnT, wEnL, wName, wNil, wCons, wTup, subD, mulD, divD, modD, ltD, leD, gtD, geD, reprD, wipeD, uns, gDef, dRmG, dRmS, gRm, gConsR, gLmR, dCallR, reRm, dRoom, unrm, dKvIx, dKvGet, dLcm, dListRg, wZip, dKtIn, dKtIx, sumD, sortID, keyD, wStrI, dSplit, catF, catFO, gOwnB, dCallB, wZipT, List.cons_append, List.nil_append, List.length_cons, List.length_nil, List.replicate, List.getElem?_cons_zero, List.getElem?_cons_succ, List.set_cons_zero, List.set_cons_succ, List.map_cons, List.map_nil, List.getD_cons_zero, List.getD_cons_succ, ↓reduceIte, Bool.not_true, Bool.not_false, Bool.false_eq_true, sof_fn1, sof_fn2, sof_fn1p, sof_fn2p, eqv_int, eqv_str, plain_int, plain_bool, plain_none, true_and, and_true, sizeLine_eq, Nat.reduceAdd, Nat.reduceLeDiff, Nat.zero_add, addD_int, addD_str, addD_tup, addD_list, intF_int, intD_int, eqD_int, eqD_str, neD_int, neD_str, inD_list, inD_tup, isND_none, ixD_t0, ixD_t1, ixD_t2, ixD_t3, ixD_l0, lenD_tup, lenD_list, lenD_str, absD_int, toIntD_int, toIntD_bool, toStrD_int, tupleD_list, tupleD_tup, cutSq_tup, cutSq_list, cutSq_str, isInt_none, isInt_bool, isInt_int, isInt_str, isInt_list, isInt_tup, isInt_dict, isBool_none, isBool_bool, isBool_int, isBool_str, isBool_list, isBool_tup, isBool_dict, isStr_none, isStr_bool, isStr_int, isStr_str, isStr_list, isStr_tup, isStr_dict, isTup_none, isTup_bool, isTup_int, isTup_str, isTup_list, isTup_tup, isTup_dict, isLst_none, isLst_bool, isLst_int, isLst_str, isLst_list, isLst_tup, isLst_dict, eqSD_str, neSD_str, inKvD_str, eqE_tup, eqEL_list, inSD_one, ordSD_str, notInSD_one, intB_int, intB_bool]
  refine ⟨⟨by decide, by decide, by decide⟩, ⟨by decide, by decide, by decide⟩, ?_⟩
  refine ⟨_, ⟨_, rfl, by simp, by simp, rfl⟩, ?_⟩
  exact fun d hd => hd
def powsR : RelD := fun ss P => ∃ n top : Int, ss = [.lm, .d (.int n), .d (.int top)] ∧ 0 ≤ n ∧ n ≤ 6 ∧ 0 ≤ top ∧ top ≤ 60 ∧ P = fun d => ∃ ps, d = .tuple ps ∧ (ps.length : Int) = n ∧ ∀ p ∈ ps, ∃ i : Int, p = .int i ∧ 0 ≤ i ∧ i ≤ 60
theorem Txt.ok_powers (T : Txt K mg A D) : FnOk P w K mg base CX0 3 (A 15) (D 15) ["sack", "n", "top"] (spD K powsR) := by
  refine okD T.F_powers sc_powers (by rintro ss P ⟨n, top, rfl, _⟩; rfl) (fun cdv Ar outer s H E hr => ⟨_, (dss_one (ds_ret (de_cT c_tuple (by rfl) T.z_tuple (by decide +kernel) (DE.r (DF.de (df_lc (own := [("name", 3)]) rfl sc_powers.nd (di_rng1 rfl T.range (de_v (pv 1))) (blkOk_by (N := ["sack", "n", "top", "name"]) (sc := defScope s_powers) (by decide +kernel)) (fun _ _ _ _ _ => (dg_name (i := 3) sc_powers.nd rfl (Or.inl rfl))) (fun _ _ _ _ _ => dts_nil) (fun _ _ _ _ _ => (de_call T.ok_pick hr (by rfl) T.g_pick T.k_pick T.b_pick pass0 (dg_lm (pv 0) (dg_cons (DF.de (df_lst (da_cons de_int (da_cons de_int (da_cons de_int (da_cons (de_call T.ok_draw (hr.mono (by decide)) (by rfl) T.g_draw T.k_draw T.b_draw pass0 (dg_lm (pv 0) (dg_cons (de_op o_add (de_v (pv 2)) (DE.r de_int)) dg_nil))) da_nil)))))) dg_nil)))))))))), ?_⟩)
  rintro ss P ⟨n, top, rfl, n0, n6, t0, t6, rfl⟩
  simp only [dSeq, dIfS, dRet, dRetN, dSet, dPar, dPar3, dAsg, dFor, dDrop, dNext, dBrk, dCnt, dAug, dApp, dExt, dPop, dPopAt, dSetI, dFrz, xD, xF, dC, dV, dO, dOp, dOpO, dB, dCh, dAnd, dOr, dNot, dAndV, dOrV, dNotV, dNotT, dIf, dNil, dCons, gNilD, gConsD, gLm, dTup, dLst, dLs, dSl, dSlO, dNo, dSo, d1, dIsi, dList, dCall, dCallK, putS, dGcd, dNeg, dLc, dYes, wTupI, wLstI, wRng1, wRng2, wEnT, wEnL, wName, wNil, wCons, wTup, subD, mulD, divD, modD, powD, ltD, leD, gtD, geD, reprD, wipeD, uns, gDef, dRmG, dRmS, gRm, gConsR, gLmR, dCallR, reRm, dRoom, unrm, dKvIx, dKvGet, dLcm, dListRg, wZip, dKtIn, dKtIx, sumD, sortID, keyD, wStrI, dSplit, catF, catFO, gOwnB, dCallB, wZipT, List.cons_append, List.nil_append, List.length_cons, List.length_nil, List.replicate, List.getElem?_cons_zero, List.getElem?_cons_succ, List.set_cons_zero, List.set_cons_succ, List.map_cons, List.map_nil, List.getD_cons_zero, List.getD_cons_succ, ↓reduceIte, Bool.not_true, Bool.not_false, Bool.false_eq_true, sof_fn1, sof_fn2, sof_fn1p, sof_fn2p, eqv_int, eqv_str, plain_int, plain_bool, plain_none, true_and, and_true, sizeLine_eq, Nat.reduceAdd, Nat.reduceLeDiff, Nat.zero_add, addD_int, addD_str, addD_tup, addD_list, intF_int, intD_int, eqD_int, eqD_str, neD_int, neD_str, inD_list, inD_tup, isND_none, ixD_t0, ixD_t1, ixD_t2, ixD_t3, ixD_l0, lenD_tup, lenD_list, lenD_str, absD_int, toIntD_int, toIntD_bool, toStrD_int, tupleD_list, tupleD_tup, cutSq_tup, cutSq_list, cutSq_str, isInt_none, isInt_bool, isInt_int, isInt_str, isInt_list, isInt_tup, isInt_dict, isBool_none, isBool_bool, isBool_int, isBool_str, isBool_list, isBool_tup, isBool_dict, isStr_none, isStr_bool, isStr_int, isStr_str, isStr_list, isStr_tup, isStr_dict, isTup_none, isTup_bool, isTup_int, isTup_str, isTup_list, isTup_tup, isTup_dict, isLst_none, isLst_bool, isLst_int, isLst_str, isLst_list, isLst_tup, isLst_dict, eqSD_str, neSD_str, inKvD_str, eqE_tup, eqEL_list, inSD_one, ordSD_str, notInSD_one, intB_int, intB_bool]
  refine ⟨by omega, by omega, ?_⟩
  refine lc_at (fun i acc => acc.length = i ∧ ∀ p ∈ acc, ∃ i : Int, p = .int i ∧ 0 ≤ i ∧ i ≤ 60) ⟨rfl, fun d h => nomatch h⟩ ?_ ?_
  · rintro acc ⟨la, ha⟩
    rw [rngD_len] at la
    exact ⟨acc, rfl, by omega, ha⟩
  · rintro i x acc N hi ex ⟨la, ha⟩ hN
    rw [rngD_len] at hi
    obtain ⟨y, rfl, _, _⟩ := rngD_mem (List.mem_of_getElem? ex)
    simp only [dSeq, dIfS, dRet, dRetN, dSet, dPar, dPar3, dAsg, dFor, dDrop, dNext, dBrk, dCnt, dAug, dApp, dExt, dPop, dPopAt, dSetI, dFrz, xD, xF, dC, dV, dO, dOp, dOpO, dB, dCh, dAnd, dOr, dNot, dAndV, dOrV, dNotV, dNotT, dIf, dNil, dCons, gNilD, gConsD, gLm, dTup, dLst, dLs, dSl, dSlO, dNo, dSo, d1, dIsi, dList, dCall, dCallK, putS, dGcd, dNeg, dLc, dYes, wTupI, wLstI, wRng1, wRng2, wEnT, wEnL, wName, wNil, wCons, wTup, subD, mulD, divD, modD, powD, ltD, leD, gtD, geD, reprD, wipeD, uns, gDef, dRmG, dRmS, gRm, gConsR, gLmR, dCallR, reRm, dRoom, unrm, dKvIx, dKvGet, dLcm, dListRg, wZip, dKtIn, dKtIx, sumD, sortID, keyD, wStrI, dSplit, catF, catFO, gOwnB, dCallB, wZipT, List.cons_append, List.nil_append, List.length_cons, List.length_nil, List.replicate, List.getElem?_cons_zero, List.getElem?_cons_succ, List.set_cons_zero, List.set_cons_succ, List.map_cons, List.map_nil, List.getD_cons_zero, List.getD_cons_succ, ↓reduceIte, Bool.not_true, Bool.not_false, Bool.false_eq_true, sof_fn1, sof_fn2, sof_fn1p, sof_fn2p, eqv_int, eqv_str, plain_int, plain_bool, plain_none, true_and, and_true, sizeLine_eq, Nat.reduceAdd, Nat.reduceLeDiff, Nat.zero_add, addD_int, addD_str, addD_tup, addD_list, intF_int, intD_int, eqD_int, eqD_str, neD_int, neD_str, inD_list, inD_tup, isND_none, ixD_t0, ixD_t1, ixD_t2, ixD_t3, ixD_l0, lenD_tup, lenD_list, lenD_str, absD_int, toIntD_int, toIntD_bool, toStrD_int, tupleD_list, tupleD_tup, cutSq_tup, cutSq_list, cutSq_str, isInt_none, isInt_bool, isInt_int, isInt_str, isInt_list, isInt_tup, isInt_dict, isBool_none, isBool_bool, isBool_int, isBool_str, isBool_list, isBool_tup, isBool_dict, isStr_none, isStr_bool, isStr_int, isStr_str, isStr_list, isStr_tup, isStr_dict, isTup_none, isTup_bool, isTup_int, isTup_str, isTup_list, isTup_tup, isTup_dict, isLst_none, isLst_bool, isLst_int, isLst_str, isLst_list, isLst_tup, isLst_dict, eqSD_str, neSD_str, inKvD_str, eqE_tup, eqEL_list, inSD_one, ordSD_str, notInSD_one, intB_int, intB_bool]
    refine ⟨_, ⟨_, rfl, by omega, rfl⟩, ?_⟩
    rintro _ ⟨j, rfl, j0, j1⟩
    refine ⟨_, ⟨_, rfl, by simp, by simp, rfl⟩, fun d hd => ?_⟩
    have hd' : ∃ i : Int, d = .int i ∧ 0 ≤ i ∧ i ≤ 60 := by
      simp only [List.mem_cons, List.not_mem_nil, or_false] at hd
      rcases hd with rfl | rfl | rfl | rfl <;> exact ⟨_, rfl, by omega, by omega⟩
    refine ⟨by omega, hN _ ⟨by rw [List.length_append, la]; rfl, fun e he => ?_⟩⟩
    rcases List.mem_append.mp he with he | he
    · exact ha e he
    · rw [List.mem_singleton.mp he]
      exact hd'
def oddPR : RelD := fun ss P => ∃ ps : List PyData, ss = [.lm, .d (.tuple ps)] ∧ ps.length ≤ 6 ∧ (∀ p ∈ ps, ∃ i : Int, p = .int i ∧ 0 ≤ i ∧ i ≤ 60) ∧ P = fun d => Md 300 2 d
theorem Txt.ok_odd_powers (T : Txt K mg A D) : FnOk P w K mg base CX0 3 (A 18) (D 18) ["sack", "powers"] (spD K oddPR) := by
  refine okD T.F_odd_powers sc_odd_powers (by rintro ss P ⟨ps, rfl, _⟩; rfl) (fun cdv Ar outer s H E hr => ⟨_, (dss_cons (ds_par (i := 2) (j := 3) rfl sc_odd_powers.nd rfl rfl (by decide) rfl rfl (DE.x (de_call T.ok_draw (hr.mono (by decide)) (by rfl) T.g_draw T.k_draw T.b_draw pass0 (dg_lm (pv 0) (dg_cons (de_op o_add (de_c1 c_len (by rfl) T.z_len (by decide +kernel) (DE.r (de_v (pv 1)))) (DE.r de_int)) dg_nil)))) (DE.x (de_call T.ok_draw (hr.mono (by decide)) (by rfl) T.g_draw T.k_draw T.b_draw pass0 (dg_lm (pv 0) (dg_cons de_int dg_nil)))) (by rfl))
    (dss_cons (ds_set (i := 4) sc_odd_powers.nd rfl (Or.inl rfl) (DE.x (de_call T.ok_pick hr (by rfl) T.g_pick T.k_pick T.b_pick pass0 (dg_lm (pv 0) (dg_cons (DF.de (df_lst (da_cons (de_neg de_int) (da_cons de_bl (da_cons de_bl (da_cons de_str (da_cons de_non (da_cons (de_tup (da_cons de_int da_nil)) (da_cons (de_tup (da_cons de_int (da_cons de_int da_nil))) (da_cons (DF.de (df_lst (da_cons de_int da_nil))) (da_cons de_int (da_cons de_int da_nil (se_cons rfl)) (se_cons rfl)) (se_cons rfl)) (se_cons rfl)) (se_cons rfl)) (se_cons rfl)) (se_cons rfl)) (se_cons rfl)) (se_cons rfl)) (se_cons rfl)))) dg_nil)))))
    (dss_cons (ds_if (dt_cmp (o_eq hr.units) (de_v (pv 3)) (DE.r de_int) (nomark _)) (dss_one (ds_ret (de_call T.ok_pick hr (by rfl) T.g_pick T.k_pick T.b_pick pass0 (dg_lm (pv 0) (dg_cons (DF.de (df_lst (da_cons (de_op o_add (de_v (pv 1)) (DE.r (de_tup (da_cons de_int da_nil)))) (da_cons (de_if (dt_cmp (o_ne hr.units) (de_v (pv 1)) (DE.r (de_tup da_nil)) (nomark _)) (de_sl (de_v (pv 1)) (do_some de_int) do_none) (de_tup (da_cons de_int da_nil))) (da_cons (DF.de (df_list (by rfl) T.z_list (by decide +kernel) (DE.r (de_v (pv 1))))) (da_cons de_non (da_cons de_int da_nil))))))) dg_nil))))) dss_nil)
    (dss_one (ds_ret (de_op o_add (de_op o_add (de_sl (de_v (pv 1)) do_none (do_some (de_v (pv 2)))) (DE.r (de_tup (da_cons (de_v (pv 4)) da_nil)))) (DE.r (de_sl (de_v (pv 1)) (do_some (de_op o_add (de_v (pv 2)) (DE.r de_int))) do_none)))))))), ?_⟩)
  rintro ss P ⟨ps, rfl, lp, hp, rfl⟩
  simp only [dSeq, dIfS, dRet, dRetN, dSet, dPar, dPar3, dAsg, dFor, dDrop, dNext, dBrk, dCnt, dAug, dApp, dExt, dPop, dPopAt, dSetI, dFrz, xD, xF, dC, dV, dO, dOp, dOpO, dB, dCh, dAnd, dOr, dNot, dAndV, dOrV, dNotV, dNotT, dIf, dNil, dCons, gNilD, gConsD, gLm, dTup, dLst, dLs, dSl, dSlO, dNo, dSo, d1, dIsi, dList, dCall, dCallK, putS, dGcd, dNeg, dLc, dYes, wTupI, wLstI, wRng1, wRng2, wEnT, wEnL, wName, wNil, wCons, wTup, subD, mulD, divD, modD, powD, ltD, leD, gtD, geD, reprD, wipeD, uns, gDef, dRmG, dRmS, gRm, gConsR, gLmR, dCallR, reRm, dRoom, unrm, dKvIx, dKvGet, dLcm, dListRg, wZip, dKtIn, dKtIx, sumD, sortID, keyD, wStrI, dSplit, catF, catFO, gOwnB, dCallB, wZipT, List.cons_append, List.nil_append, List.length_cons, List.length_nil, List.replicate, List.getElem?_cons_zero, List.getElem?_cons_succ, List.set_cons_zero, List.set_cons_succ, List.map_cons, List.map_nil, List.getD_cons_zero, List.getD_cons_succ, ↓reduceIte, Bool.not_true, Bool.not_false, Bool.false_eq_true, sof_fn1, sof_fn2, sof_fn1p, sof_fn2p, eqv_int, eqv_str, plain_int, plain_bool, plain_none, true_and, and_true, sizeLine_eq, Nat.reduceAdd, Nat.reduceLeDiff, Nat.zero_add, addD_int, addD_str, addD_tup, addD_list, intF_int, intD_int, eqD_int, eqD_str, neD_int, neD_str, inD_list, inD_tup, isND_none, ixD_t0, ixD_t1, ixD_t2, ixD_t3, ixD_l0, lenD_tup, lenD_list, lenD_str, absD_int, toIntD_int, toIntD_bool, toStrD_int, tupleD_list, tupleD_tup, cutSq_tup, cutSq_list, cutSq_str, isInt_none, isInt_bool, isInt_int, isInt_str, isInt_list, isInt_tup, isInt_dict, isBool_none, isBool_bool, isBool_int, isBool_str, isBool_list, isBool_tup, isBool_dict, isStr_none, isStr_bool, isStr_int, isStr_str, isStr_list, isStr_tup, isStr_dict, isTup_none, isTup_bool, isTup_int, isTup_str, isTup_list, isTup_tup, isTup_dict, isLst_none, isLst_bool, isLst_int, isLst_str, isLst_list, isLst_tup, isLst_dict, eqSD_str, neSD_str, inKvD_str, eqE_tup, eqEL_list, inSD_one, ordSD_str, notInSD_one, intB_int, intB_bool]
  refine ⟨_, ⟨_, rfl, by omega, rfl⟩, ?_⟩
  rintro _ ⟨sp, rfl, sp0, sp1⟩
  refine ⟨_, ⟨_, rfl, by decide, rfl⟩, ?_⟩
  rintro _ ⟨si, rfl, _, _⟩
  simp only [dSeq, dIfS, dRet, dRetN, dSet, dPar, dPar3, dAsg, dFor, dDrop, dNext, dBrk, dCnt, dAug, dApp, dExt, dPop, dPopAt, dSetI, dFrz, xD, xF, dC, dV, dO, dOp, dOpO, dB, dCh, dAnd, dOr, dNot, dAndV, dOrV, dNotV, dNotT, dIf, dNil, dCons, gNilD, gConsD, gLm, dTup, dLst, dLs, dSl, dSlO, dNo, dSo, d1, dIsi, dList, dCall, dCallK, putS, dGcd, dNeg, dLc, dYes, wTupI, wLstI, wRng1, wRng2, wEnT, wEnL, wName, wNil, wCons, wTup, subD, mulD, divD, modD, powD, ltD, leD, gtD, geD, reprD, wipeD, uns, gDef, dRmG, dRmS, gRm, gConsR, gLmR, dCallR, reRm, dRoom, unrm, dKvIx, dKvGet, dLcm, dListRg, wZip, dKtIn, dKtIx, sumD, sortID, keyD, wStrI, dSplit, catF, catFO, gOwnB, dCallB, wZipT, List.cons_append, List.nil_append, List.length_cons, List.length_nil, List.replicate, List.getElem?_cons_zero, List.getElem?_cons_succ, List.set_cons_zero, List.set_cons_succ, List.map_cons, List.map_nil, List.getD_cons_zero, List.getD_cons_succ, ↓reduceIte, Bool.not_true, Bool.not_false, Bool.false_eq_true, sof_fn1, sof_fn2, sof_fn1p, sof_fn2p, eqv_int, eqv_str, plain_int, plain_bool, plain_none, true_and, and_true, sizeLine_eq, Nat.reduceAdd, Nat.reduceLeDiff, Nat.zero_add, addD_int, addD_str, addD_tup, addD_list, intF_int, intD_int, eqD_int, eqD_str, neD_int, neD_str, inD_list, inD_tup, isND_none, ixD_t0, ixD_t1, ixD_t2, ixD_t3, ixD_l0, lenD_tup, lenD_list, lenD_str, absD_int, toIntD_int, toIntD_bool, toStrD_int, tupleD_list, tupleD_tup, cutSq_tup, cutSq_list, cutSq_str, isInt_none, isInt_bool, isInt_int, isInt_str, isInt_list, isInt_tup, isInt_dict, isBool_none, isBool_bool, isBool_int, isBool_str, isBool_list, isBool_tup, isBool_dict, isStr_none, isStr_bool, isStr_int, isStr_str, isStr_list, isStr_tup, isStr_dict, isTup_none, isTup_bool, isTup_int, isTup_str, isTup_list, isTup_tup, isTup_dict, isLst_none, isLst_bool, isLst_int, isLst_str, isLst_list, isLst_tup, isLst_dict, eqSD_str, neSD_str, inKvD_str, eqE_tup, eqEL_list, inSD_one, ordSD_str, notInSD_one, intB_int, intB_bool]
  refine ⟨_, ⟨_, rfl, by simp, by decide, rfl⟩, fun d hd => ?_⟩
  have md : Md 100 1 d := by
    simp only [List.mem_cons, List.not_mem_nil, or_false] at hd
    rcases hd with rfl | rfl | rfl | rfl | rfl | rfl | rfl | rfl | rfl | rfl <;> exact md_of (by decide +kernel)
  clear hd
  have mp : Mds 138 0 ps := mds_le (m := 6) (n := 21) (fun p h => by obtain ⟨i, rfl, i0, i6⟩ := hp p h; exact md_int (by omega)) lp
  have ip : Ints ps := fun p h => by obtain ⟨i, rfl, _, _⟩ := hp p h; exact ⟨i, rfl⟩
  have i1 : Md 21 0 (.int 0) := md_int (by decide)
  have c1 : ∀ lo hi, (cutD ps lo hi).length ≤ 6 := fun lo hi => by
    unfold cutD
    rw [List.length_take, List.length_drop]
    omega
  obtain ⟨k, rfl⟩ : ∃ k : Nat, sp = (k : Int) := ⟨sp.toNat, by omega⟩
  refine ite_both2 (fun _ => ?_) (fun _ => ?_)
  · refine ⟨by omega, ?_⟩
    show plainD _ = true ∧ plainD _ = true ∧ _
    refine ⟨plain_ints ip, plain_ints (fun x h => nomatch h), ?_⟩
    dsimp only
    refine ite_both2 (fun _ => ?_) (fun _ => ?_)
    all_goals
      refine ⟨_, ⟨_, rfl, by simp, by simp, rfl⟩, fun d hd => ?_⟩
      simp only [List.mem_cons, List.not_mem_nil, or_false] at hd
      rcases hd with rfl | rfl | rfl | rfl | rfl
      · exact (Mds.tuple (Mds.app mp (Mds.cons i1 Mds.nil))).le (by decide) (by decide)
      · first | exact (Mds.tuple (mp.cut (some 1) none)).le (by decide) (by decide) | exact (Mds.tuple (Mds.cons i1 Mds.nil)).le (by decide) (by decide)
      · exact (Mds.list mp).le (by decide) (by decide)
      · exact md_none.le (by decide) (by decide)
      · exact i1.le (by decide) (by decide)
  · refine ⟨by have := c1 none (some (k : Int)); omega, by rw [List.length_append]; have := c1 none (some (k : Int)); have := c1 (some ((k : Int) + 1)) none; simp only [List.length_cons, List.length_nil]; omega, ?_⟩
    have pk : ((k : Int) + 1) = ((k + 1 : Nat) : Int) := by omega
    rw [pk, cutD_take, cutD_drop]
    by_cases hk : k < ps.length
    · obtain ⟨p, ep⟩ : ∃ p, ps[k]? = some p := ⟨_, List.getElem?_eq_getElem hk⟩
      have po := put_ok (F := 100) (d := 1) ep mp.fx md.fx (by have := md.mz; omega) (by have := md.dp; omega)
      have m2 := mp.mz
      have m3 := mp.dp
      exact (Mds.tuple ⟨po.1, po.2.1, po.2.2⟩).le (by omega) (by omega)
    · rw [List.take_of_length_le (by omega), List.drop_eq_nil_of_le (by omega), List.append_nil]
      exact (Mds.tuple (Mds.app mp (Mds.cons md Mds.nil))).le (by decide) (by decide)
def toldR : RelD := fun ss P => ∃ (n : Int) (x : PyData) (b : Bool), ss = [.d (.int n), .d x, .d (.bool b)] ∧ Md 3000000 30 x ∧ P = fun d => d = .bool true
theorem Txt.ok_is_told (T : Txt K mg A D) : FnG P w K mg base CX0 6 (A 20) (D 20) ["n", "value", "is_named"] (spD K toldR) := by
  refine okDG T.F_is_told sc_is_told (by rintro ss P ⟨n, x, b, rfl, _⟩; rfl) (fun cdv Ar outer s H E hA hr => ?_)
  have hG : (Ar.deeper (envOfC (Str.ofString "_law_is_told") (defScope s_is_told) s.heap.objs.size (A 20) cdv)).guards = some [] := hA
  refine ⟨_, (dss_cons (ds_par (i := 3) (j := 4) rfl sc_is_told.nd rfl rfl (by decide) rfl rfl (DE.x (de_c1 (c_repr hG hr.units) (by rfl) T.z_repr (by decide +kernel) (DE.r (de_v (pv 1))))) (DE.x (de_c1 (c_repr hG hr.units) (by rfl) T.z_repr (by decide +kernel) (DE.r (de_call T.ok_poly_fault (hr.mono (by decide)) (by rfl) T.g_poly_fault T.k_poly_fault T.b_poly_fault pass0 (dg_cons (de_v (pv 0)) (dg_cons (de_v (pv 1)) dg_nil)))))) (by rfl))
    (dss_cons (ds_set (i := 5) sc_is_told.nd rfl (Or.inl rfl) (DE.x (de_if (dt_val (de_v (pv 2))) (de_callK T.ok_polynomial_error (hr.mono (by decide)) (by rfl) T.g_polynomial_error T.k_polynomial_error T.kb_polynomial_error pass0 (dk_cons (de_v (pv 1)) (dk_cons (de_v (pv 0)) dk_nil))) (de_call T.ok_polynomial_error (hr.mono (by decide)) (by rfl) T.g_polynomial_error T.k_polynomial_error T.b_polynomial_error pass0 (dg_cons (de_v (pv 0)) (dg_cons (de_v (pv 1)) dg_nil))))))
    (dss_one (ds_ret (de_and (de_cmp (o_eq hr.units) (de_c1 (c_repr hG hr.units) (by rfl) T.z_repr (by decide +kernel) (DE.r (de_v (pv 5)))) (DE.r (de_v (pv 4))) (nomark _)) (de_and (de_cmp (o_eq hr.units) (de_c1 (c_repr hG hr.units) (by rfl) T.z_repr (by decide +kernel) (DE.r (de_call T.ok_polynomial_error (hr.mono (by decide)) (by rfl) T.g_polynomial_error T.k_polynomial_error T.b_polynomial_error pass0 (dg_cons (de_v (pv 0)) (dg_cons (de_v (pv 1)) dg_nil))))) (DE.r (de_v (pv 4))) (nomark _)) (de_one (de_cmp (o_eq hr.units) (de_c1 (c_repr hG hr.units) (by rfl) T.z_repr (by decide +kernel) (DE.r (de_v (pv 1)))) (DE.r (de_v (pv 3))) (nomark _))))))))), ?_⟩
  rintro ss P ⟨n, x, b, rfl, hx, rfl⟩
  have s1 : showD x := hx.show (by decide) (by decide)
  have s2 : showD (polyE n x) := (polyE_md (by have := hx.szx; omega)).show (by decide) (by decide)
  have zx : szx x ≤ 16000000 := by have := hx.szx; omega
  have pl : ∀ Q : PyData → Prop, Q (polyE n x) → Sof polyR [.d (.int n), .d x] Q := fun Q h => ⟨_, ⟨n, x, rfl, zx, rfl⟩, fun r e => by rw [e]; exact h⟩
  simp only [dSeq, dIfS, dRet, dRetN, dSet, dPar, dPar3, dAsg, dFor, dDrop, dNext, dBrk, dCnt, dAug, dApp, dExt, dPop, dPopAt, dSetI, dFrz, xD, xF, dC, dV, dO, dOp, dOpO, dB, dCh, dAnd, dOr, dNot, dAndV, dOrV, dNotV, dNotT, dIf, dNil, dCons, gNilD, gConsD, gLm, dTup, dLst, dLs, dSl, dSlO, dNo, dSo, d1, dIsi, dList, dCall, dCallK, putS, dGcd, dNeg, dLc, dYes, wTupI, wLstI, wRng1, wRng2, wEnT, wEnL, wName, wNil, wCons, wTup, subD, mulD, divD, modD, powD, ltD, leD, gtD, geD, reprD, wipeD, uns, gDef, dRmG, dRmS, gRm, gConsR, gLmR, dCallR, reRm, dRoom, unrm, dKvIx, dKvGet, dLcm, dListRg, wZip, dKtIn, dKtIx, sumD, sortID, keyD, wStrI, dSplit, catF, catFO, gOwnB, dCallB, wZipT, List.cons_append, List.nil_append, List.length_cons, List.length_nil, List.replicate, List.getElem?_cons_zero, List.getElem?_cons_succ, List.set_cons_zero, List.set_cons_succ, List.map_cons, List.map_nil, List.getD_cons_zero, List.getD_cons_succ, ↓reduceIte, Bool.not_true, Bool.not_false, Bool.false_eq_true, sof_fn1, sof_fn2, sof_fn1p, sof_fn2p, eqv_int, eqv_str, plain_int, plain_bool, plain_none, true_and, and_true, sizeLine_eq, Nat.reduceAdd, Nat.reduceLeDiff, Nat.zero_add, addD_int, addD_str, addD_tup, addD_list, intF_int, intD_int, eqD_int, eqD_str, neD_int, neD_str, inD_list, inD_tup, isND_none, ixD_t0, ixD_t1, ixD_t2, ixD_t3, ixD_l0, lenD_tup, lenD_list, lenD_str, absD_int, toIntD_int, toIntD_bool, toStrD_int, tupleD_list, tupleD_tup, cutSq_tup, cutSq_list, cutSq_str, isInt_none, isInt_bool, isInt_int, isInt_str, isInt_list, isInt_tup, isInt_dict, isBool_none, isBool_bool, isBool_int, isBool_str, isBool_list, isBool_tup, isBool_dict, isStr_none, isStr_bool, isStr_int, isStr_str, isStr_list, isStr_tup, isStr_dict, isTup_none, isTup_bool, isTup_int, isTup_str, isTup_list, isTup_tup, isTup_dict, isLst_none, isLst_bool, isLst_int, isLst_str, isLst_list, isLst_tup, isLst_dict, eqSD_str, neSD_str, inKvD_str, eqE_tup, eqEL_list, inSD_one, ordSD_str, notInSD_one, intB_int, intB_bool]
  refine ⟨s1, _, ⟨n, x, rfl, zx, hx.fx, rfl⟩, ?_⟩
  rintro _ rfl
  refine ⟨s2, ?_⟩
  refine ite_both2 (fun _ => ?_) (fun _ => ?_)
  all_goals
    refine pl _ ⟨s2, ?_⟩
    rw [if_pos (by simp)]
    refine pl _ ⟨s2, ?_⟩
    rw [if_pos (by simp)]
    exact ⟨s1, by simp⟩
end
end Ev

set_option exponentiation.threshold 20000
namespace Ev
open PySem PySem.Spec PyProof.Rows L2
theorem loom_in {g : Gh} {O : List Addr} {H : Hp} (l : LoomOk g O H) : LoomOk ⟨g.lo, H, Zof g O⟩ [] H :=
  ⟨l.ok, fun p hp z => z.1.elim (l.nz p hp) (l.ok.ex hp)⟩
section
variable {P : Program} {w : World} {K : PySem.W.Frag} {mg : Str → Option Value} {base : Heap} {A : Nat → Addr} {D : Nat → FuncData}
/-- in lowest terms: a tuple that is new -/
def sp_lowX (K : PySem.W.Frag) : Sp := fun vs H Q _ => ∃ (g : Gh) (a b : Int), g.H0 = H ∧ LoomOk g [] H ∧ vs = [.int a, .int b] ∧ b ≠ 0 ∧ Big b ∧
  ∀ H' p, H' p = none → Gr g.lo H H' → Q (.ref p) (upd H' p (.tup [.int (fA a b), .int (fB a b)]))
theorem Txt.ok_lowX (T : Txt K mg A D) : FnOk P w K mg base CX0 1 (A 8) (D 8) ["a", "b"] (sp_lowX K) := by
  refine T.F_low.ok sc_low (fun vs H Q E h => ?_) (fun cdv Ar outer s H vs Q E hr h => ?_)
  · obtain ⟨g, a, b, _, _, rfl, _⟩ := h
    rfl
  · obtain ⟨g, a, b, h0, hl, rfl, hb, hB, q⟩ := h
    have R0 := rep_start (K := K) (N := ["a", "b", "one", "other"]) (ss := [.d (.int a), .d (.int b)]) h0 (.cons (.int _) (.cons (.int _) .nil)) hl
    refine ⟨_, pss_cons (DS.run (ds_par (i := 2) (j := 3) rfl sc_low.nd rfl rfl (by decide) rfl rfl (DE.x (de_c1 c_abs (by rfl) T.z_abs (by decide +kernel) (DE.r (de_v (pv 0))))) (DE.x (de_c1 c_abs (by rfl) T.z_abs (by decide +kernel) (DE.r (de_v (pv 1))))) (by rfl)))
      (pss_cons (DS.run (ds_while PassesOwn.never (dt_cmp o_gt (de_v (pv 3)) (DE.r de_int) (nomark _)) (dss_one (ds_par (i := 2) (j := 3) rfl sc_low.nd rfl rfl (by decide) rfl rfl (DE.x (de_v (pv 3))) (DE.x (de_op o_mod (de_cT c_int (by rfl) T.z_int (by decide +kernel) (DE.r (de_v (pv 2)))) (DE.r (de_v (pv 3))))) (by rfl)))))
      (pss_cons (DS.run (ds_set (i := 2) sc_low.nd rfl (Or.inl rfl) (DE.x (de_if (dt_cmp o_gt (de_v (pv 1)) (DE.r de_int) (nomark _)) (de_v (pv 2)) (de_neg (de_v (pv 2)))))))
      (pss_one (ps_ret (pe_tup (pa_cons (pe_op op_fdivZ (pv 0) (pv 2)) (pa_cons (pe_op op_fdivZ (pv 1) (pv 2)) pa_nil))))))), ?_⟩
    refine ⟨g, [], _, R0, ?_⟩
    simp only [dSeq, dIfS, dRet, dRetN, dSet, dPar, dPar3, dAsg, dFor, dDrop, dNext, dBrk, dCnt, dAug, dApp, dExt, dPop, dPopAt, dSetI, dFrz, xD, xF, dC, dV, dO, dOp, dOpO, dB, dCh, dAnd, dOr, dNot, dAndV, dOrV, dNotV, dNotT, dIf, dNil, dCons, gNilD, gConsD, gLm, dTup, dLst, dLs, dSl, dSlO, dNo, dSo, d1, dIsi, dList, dCall, dCallK, putS, dGcd, dNeg, dLc, dYes, wTupI, wLstI, wRng1, wRng2, wEnT, wEnL, wName, wNil, wCons, wTup, subD, mulD, divD, modD, powD, ltD, leD, gtD, geD, reprD, wipeD, uns, gDef, dRmG, dRmS, gRm, gConsR, gLmR, dCallR, reRm, dRoom, unrm, dKvIx, dKvGet, dLcm, dListRg, wZip, dKtIn, dKtIx, sumD, sortID, keyD, wStrI, dSplit, catF, catFO, gOwnB, dCallB, wZipT, List.cons_append, List.nil_append, List.length_cons, List.length_nil, List.replicate, List.getElem?_cons_zero, List.getElem?_cons_succ, List.set_cons_zero, List.set_cons_succ, List.map_cons, List.map_nil, List.getD_cons_zero, List.getD_cons_succ, ↓reduceIte, Bool.not_true, Bool.not_false, Bool.false_eq_true, sof_fn1, sof_fn2, sof_fn1p, sof_fn2p, eqv_int, eqv_str, plain_int, plain_bool, plain_none, true_and, and_true, sizeLine_eq, Nat.reduceAdd, Nat.reduceLeDiff, Nat.zero_add, addD_int, addD_str, addD_tup, addD_list, intF_int, intD_int, eqD_int, eqD_str, neD_int, neD_str, inD_list, inD_tup, isND_none, ixD_t0, ixD_t1, ixD_t2, ixD_t3, ixD_l0, lenD_tup, lenD_list, lenD_str, absD_int, toIntD_int, toIntD_bool, toStrD_int, tupleD_list, tupleD_tup, cutSq_tup, cutSq_list, cutSq_str, isInt_none, isInt_bool, isInt_int, isInt_str, isInt_list, isInt_tup, isInt_dict, isBool_none, isBool_bool, isBool_int, isBool_str, isBool_list, isBool_tup, isBool_dict, isStr_none, isStr_bool, isStr_int, isStr_str, isStr_list, isStr_tup, isStr_dict, isTup_none, isTup_bool, isTup_int, isTup_str, isTup_list, isTup_tup, isTup_dict, isLst_none, isLst_bool, isLst_int, isLst_str, isLst_list, isLst_tup, isLst_dict, eqSD_str, neSD_str, inKvD_str, eqE_tup, eqEL_list, inSD_one, ordSD_str, notInSD_one, intB_int, intB_bool]
    intro O1 σ1 H1 R1 k1
    refine ⟨g, O1, _, R1, ?_⟩
    unfold dWhile
    refine ⟨fun m ρ => ∃ x y : Nat, ρ = [.d (.int a), .d (.int b), .d (.int x), .d (.int y)] ∧ m = y ∧ Nat.gcd x y = gc a b, ⟨_, _, _, rfl, rfl, rfl⟩, ?_⟩
    rintro m ρ ⟨x, y, rfl, rfl, hg⟩
    simp only [dSeq, dIfS, dRet, dRetN, dSet, dPar, dPar3, dAsg, dFor, dDrop, dNext, dBrk, dCnt, dAug, dApp, dExt, dPop, dPopAt, dSetI, dFrz, xD, xF, dC, dV, dO, dOp, dOpO, dB, dCh, dAnd, dOr, dNot, dAndV, dOrV, dNotV, dNotT, dIf, dNil, dCons, gNilD, gConsD, gLm, dTup, dLst, dLs, dSl, dSlO, dNo, dSo, d1, dIsi, dList, dCall, dCallK, putS, dGcd, dNeg, dLc, dYes, wTupI, wLstI, wRng1, wRng2, wEnT, wEnL, wName, wNil, wCons, wTup, subD, mulD, divD, modD, powD, ltD, leD, gtD, geD, reprD, wipeD, uns, gDef, dRmG, dRmS, gRm, gConsR, gLmR, dCallR, reRm, dRoom, unrm, dKvIx, dKvGet, dLcm, dListRg, wZip, dKtIn, dKtIx, sumD, sortID, keyD, wStrI, dSplit, catF, catFO, gOwnB, dCallB, wZipT, List.cons_append, List.nil_append, List.length_cons, List.length_nil, List.replicate, List.getElem?_cons_zero, List.getElem?_cons_succ, List.set_cons_zero, List.set_cons_succ, List.map_cons, List.map_nil, List.getD_cons_zero, List.getD_cons_succ, ↓reduceIte, Bool.not_true, Bool.not_false, Bool.false_eq_true, sof_fn1, sof_fn2, sof_fn1p, sof_fn2p, eqv_int, eqv_str, plain_int, plain_bool, plain_none, true_and, and_true, sizeLine_eq, Nat.reduceAdd, Nat.reduceLeDiff, Nat.zero_add, addD_int, addD_str, addD_tup, addD_list, intF_int, intD_int, eqD_int, eqD_str, neD_int, neD_str, inD_list, inD_tup, isND_none, ixD_t0, ixD_t1, ixD_t2, ixD_t3, ixD_l0, lenD_tup, lenD_list, lenD_str, absD_int, toIntD_int, toIntD_bool, toStrD_int, tupleD_list, tupleD_tup, cutSq_tup, cutSq_list, cutSq_str, isInt_none, isInt_bool, isInt_int, isInt_str, isInt_list, isInt_tup, isInt_dict, isBool_none, isBool_bool, isBool_int, isBool_str, isBool_list, isBool_tup, isBool_dict, isStr_none, isStr_bool, isStr_int, isStr_str, isStr_list, isStr_tup, isStr_dict, isTup_none, isTup_bool, isTup_int, isTup_str, isTup_list, isTup_tup, isTup_dict, isLst_none, isLst_bool, isLst_int, isLst_str, isLst_list, isLst_tup, isLst_dict, eqSD_str, neSD_str, inKvD_str, eqE_tup, eqEL_list, inSD_one, ordSD_str, notInSD_one, intB_int, intB_bool]
    by_cases h : m = 0
    · subst h
      rw [if_neg (by simp)]
      rw [Nat.gcd_zero_right] at hg
      subst hg
      have hd := dv_ne (a := a) hb
      have bd : Big (dv a b) := big_le hB (by rw [dv_abs]; exact Nat.gcd_le_right _ (by omega))
      intro O2 σ2 H2 R2 k2
      refine ⟨g, O2, _, R2, ?_⟩
      simp only [dSeq, dIfS, dRet, dRetN, dSet, dPar, dPar3, dAsg, dFor, dDrop, dNext, dBrk, dCnt, dAug, dApp, dExt, dPop, dPopAt, dSetI, dFrz, xD, xF, dC, dV, dO, dOp, dOpO, dB, dCh, dAnd, dOr, dNot, dAndV, dOrV, dNotV, dNotT, dIf, dNil, dCons, gNilD, gConsD, gLm, dTup, dLst, dLs, dSl, dSlO, dNo, dSo, d1, dIsi, dList, dCall, dCallK, putS, dGcd, dNeg, dLc, dYes, wTupI, wLstI, wRng1, wRng2, wEnT, wEnL, wName, wNil, wCons, wTup, subD, mulD, divD, modD, powD, ltD, leD, gtD, geD, reprD, wipeD, uns, gDef, dRmG, dRmS, gRm, gConsR, gLmR, dCallR, reRm, dRoom, unrm, dKvIx, dKvGet, dLcm, dListRg, wZip, dKtIn, dKtIx, sumD, sortID, keyD, wStrI, dSplit, catF, catFO, gOwnB, dCallB, wZipT, List.cons_append, List.nil_append, List.length_cons, List.length_nil, List.replicate, List.getElem?_cons_zero, List.getElem?_cons_succ, List.set_cons_zero, List.set_cons_succ, List.map_cons, List.map_nil, List.getD_cons_zero, List.getD_cons_succ, ↓reduceIte, Bool.not_true, Bool.not_false, Bool.false_eq_true, sof_fn1, sof_fn2, sof_fn1p, sof_fn2p, eqv_int, eqv_str, plain_int, plain_bool, plain_none, true_and, and_true, sizeLine_eq, Nat.reduceAdd, Nat.reduceLeDiff, Nat.zero_add, addD_int, addD_str, addD_tup, addD_list, intF_int, intD_int, eqD_int, eqD_str, neD_int, neD_str, inD_list, inD_tup, isND_none, ixD_t0, ixD_t1, ixD_t2, ixD_t3, ixD_l0, lenD_tup, lenD_list, lenD_str, absD_int, toIntD_int, toIntD_bool, toStrD_int, tupleD_list, tupleD_tup, cutSq_tup, cutSq_list, cutSq_str, isInt_none, isInt_bool, isInt_int, isInt_str, isInt_list, isInt_tup, isInt_dict, isBool_none, isBool_bool, isBool_int, isBool_str, isBool_list, isBool_tup, isBool_dict, isStr_none, isStr_bool, isStr_int, isStr_str, isStr_list, isStr_tup, isStr_dict, isTup_none, isTup_bool, isTup_int, isTup_str, isTup_list, isTup_tup, isTup_dict, isLst_none, isLst_bool, isLst_int, isLst_str, isLst_list, isLst_tup, isLst_dict, eqSD_str, neSD_str, inKvD_str, eqE_tup, eqEL_list, inSD_one, ordSD_str, notInSD_one, intB_int, intB_bool]
      have fin : ∀ e : Int, e = dv a b → ∀ O3 σ3 H3, Rep K g O3 [.d (.int a), .d (.int b), .d (.int e), .d (.int ((0 : Nat) : Int))] σ3 H3 → tRet
                  (tTup
                    (tCons (tOp (rI CDivZ fun i j => V.int (i.fdiv j)) (tVar 0) (tVar 2))
                      (tCons (tOp (rI CDivZ fun i j => V.int (i.fdiv j)) (tVar 1) (tVar 2)) tNil))) { nx := fun x H' => Q V.non H', rt := Q } σ3 H3 := fun e ee O3 σ3 H3 R3 => by
        obtain ⟨v0, e0, d0⟩ := R3.var (i := 0) rfl
        obtain ⟨v1, e1, d1⟩ := R3.var (i := 1) rfl
        obtain ⟨v2, e2, d2⟩ := R3.var (i := 2) rfl
        cases d0
        cases d1
        cases d2
        subst ee
        have gr := R3.base
        rw [h0] at gr
        refine ⟨.int a, e0, .int (dv a b), e2, a, dv a b, rfl, rfl, ⟨hd, by have b := bd.log; omega⟩, .int b, e1, .int (dv a b), e2, b, dv a b, rfl, rfl, ⟨hd, by have b := bd.log; omega⟩, (by show 2 ≤ sizeLine; decide), fun p hp => ?_⟩
        exact q H3 p hp gr
      split
      · rename_i h
        have d : dv a b = (gc a b : Int) := if_pos (of_decide_eq_true h)
        intro O3 σ3 H3 R3 k3
        exact fin _ d.symm O3 σ3 H3 R3
      · rename_i h
        have d : dv a b = -(gc a b : Int) := if_neg (by simpa using h)
        intro O3 σ3 H3 R3 k3
        exact fin _ d.symm O3 σ3 H3 R3
    · rw [if_pos (decide_eq_true (by omega))]
      have z : (x : Int).fmod (m : Int) = ((x % m : Nat) : Int) := by
        rw [Int.fmod_eq_emod_of_nonneg _ (by omega)]
        rfl
      refine ⟨by omega, x % m, Nat.mod_lt _ (by omega), m, x % m, by rw [z], rfl, ?_⟩
      rw [← hg, Nat.gcd_comm x m, Nat.gcd_rec m x, Nat.gcd_comm]
/-- a drawn fraction: a tuple that is new -/
def sp_fractionX (K : PySem.W.Frag) : Sp := fun vs H Q _ => ∃ g : Gh, g.H0 = H ∧ ArgsOk K g.lo (Zof g []) H [.lm] vs ∧ LoomOk g [] H ∧
  ∀ H' p (x y : Int), H' p = none → Gr g.lo H H' → x.natAbs < 10 ^ 40 → y.natAbs < 10 ^ 40 → Q (.ref p) (upd H' p (.tup [.int x, .int y]))
theorem Txt.ok_fractionX (T : Txt K mg A D) : FnOk P w K mg base CX0 3 (A 14) (D 14) ["sack"] (sp_fractionX K) := by
  refine T.F_fraction.ok sc_fraction (fun vs H Q E h => ?_) (fun cdv Ar outer s H vs Q E hr h => ?_)
  · obtain ⟨g, _, ha, _⟩ := h
    exact argsOk_len ha
  · obtain ⟨g, h0, ha, hl, q⟩ := h
    have R0 := rep_start (K := K) (N := ["sack", "a", "b"]) (ss := [.lm]) h0 ha hl
    refine ⟨_, pss_cons (DS.run (ds_set (i := 1) sc_fraction.nd rfl (Or.inl rfl) (DE.x (de_call T.ok_pick hr (by rfl) T.g_pick T.k_pick T.b_pick pass0 (dg_lm (pv 0) (dg_cons (DF.de (df_lst (da_cons de_int (da_cons de_int (da_cons (de_neg de_int) (da_cons de_int (da_cons (de_neg de_int) (da_cons de_int (da_cons (de_neg de_int) (da_cons de_int (da_cons de_int da_nil (se_cons rfl)) (se_cons rfl)) (se_cons rfl)) (se_cons rfl)) (se_cons rfl)) (se_cons rfl)) (se_cons rfl)) (se_cons rfl)) (se_cons rfl)))) dg_nil))))))
      (pss_cons (DS.run (ds_set (i := 2) sc_fraction.nd rfl (Or.inl rfl) (DE.x (de_call T.ok_pick hr (by rfl) T.g_pick T.k_pick T.b_pick pass0 (dg_lm (pv 0) (dg_cons (DF.de (df_lst (da_cons de_int (da_cons de_int (da_cons de_int (da_cons de_int (da_cons de_int (da_cons de_int (da_cons de_int da_nil (se_cons rfl)) (se_cons rfl)) (se_cons rfl)) (se_cons rfl)) (se_cons rfl)) (se_cons rfl)) (se_cons rfl)))) dg_nil))))))
      (pss_cons (DS.run (ds_if (dt_cmp (o_eq hr.units) (de_call T.ok_draw (hr.mono (by decide)) (by rfl) T.g_draw T.k_draw T.b_draw pass0 (dg_lm (pv 0) (dg_cons de_int dg_nil))) (DE.r de_int) (nomark _)) (dss_one (ds_par (i := 1) (j := 2) rfl sc_fraction.nd rfl rfl (by decide) rfl rfl (DE.x (de_op o_add (de_op o_mul (de_v (pv 1)) (DE.r (de_op o_pow de_int (DE.r de_int)))) (DE.r (de_call T.ok_draw (hr.mono (by decide)) (by rfl) T.g_draw T.k_draw T.b_draw pass0 (dg_lm (pv 0) (dg_cons de_int dg_nil)))))) (DE.x (de_op o_add (de_op o_add (de_op o_mul (de_v (pv 2)) (DE.r (de_op o_pow de_int (DE.r de_int)))) (DE.r de_int)) (DE.r (de_call T.ok_draw (hr.mono (by decide)) (by rfl) T.g_draw T.k_draw T.b_draw pass0 (dg_lm (pv 0) (dg_cons de_int dg_nil)))))) (by rfl))) dss_nil))
      (pss_one (ps_ret (pe_call T.ok_lowX (hr.mono (by decide)) (by rfl) T.g_low T.k_low T.b_low .nil pass0 (pa_cons (pv 1) (pa_cons (pv 2) pa_nil))))))), ?_⟩
    refine ⟨g, [], _, R0, ?_⟩
    simp only [dSeq, dIfS, dRet, dRetN, dSet, dPar, dPar3, dAsg, dFor, dDrop, dNext, dBrk, dCnt, dAug, dApp, dExt, dPop, dPopAt, dSetI, dFrz, xD, xF, dC, dV, dO, dOp, dOpO, dB, dCh, dAnd, dOr, dNot, dAndV, dOrV, dNotV, dNotT, dIf, dNil, dCons, gNilD, gConsD, gLm, dTup, dLst, dLs, dSl, dSlO, dNo, dSo, d1, dIsi, dList, dCall, dCallK, putS, dGcd, dNeg, dLc, dYes, wTupI, wLstI, wRng1, wRng2, wEnT, wEnL, wName, wNil, wCons, wTup, subD, mulD, divD, modD, powD, ltD, leD, gtD, geD, reprD, wipeD, uns, gDef, dRmG, dRmS, gRm, gConsR, gLmR, dCallR, reRm, dRoom, unrm, dKvIx, dKvGet, dLcm, dListRg, wZip, dKtIn, dKtIx, sumD, sortID, keyD, wStrI, dSplit, catF, catFO, gOwnB, dCallB, wZipT, List.cons_append, List.nil_append, List.length_cons, List.length_nil, List.replicate, List.getElem?_cons_zero, List.getElem?_cons_succ, List.set_cons_zero, List.set_cons_succ, List.map_cons, List.map_nil, List.getD_cons_zero, List.getD_cons_succ, ↓reduceIte, Bool.not_true, Bool.not_false, Bool.false_eq_true, sof_fn1, sof_fn2, sof_fn1p, sof_fn2p, eqv_int, eqv_str, plain_int, plain_bool, plain_none, true_and, and_true, sizeLine_eq, Nat.reduceAdd, Nat.reduceLeDiff, Nat.zero_add, addD_int, addD_str, addD_tup, addD_list, intF_int, intD_int, eqD_int, eqD_str, neD_int, neD_str, inD_list, inD_tup, isND_none, ixD_t0, ixD_t1, ixD_t2, ixD_t3, ixD_l0, lenD_tup, lenD_list, lenD_str, absD_int, toIntD_int, toIntD_bool, toStrD_int, tupleD_list, tupleD_tup, cutSq_tup, cutSq_list, cutSq_str, isInt_none, isInt_bool, isInt_int, isInt_str, isInt_list, isInt_tup, isInt_dict, isBool_none, isBool_bool, isBool_int, isBool_str, isBool_list, isBool_tup, isBool_dict, isStr_none, isStr_bool, isStr_int, isStr_str, isStr_list, isStr_tup, isStr_dict, isTup_none, isTup_bool, isTup_int, isTup_str, isTup_list, isTup_tup, isTup_dict, isLst_none, isLst_bool, isLst_int, isLst_str, isLst_list, isLst_tup, isLst_dict, eqSD_str, neSD_str, inKvD_str, eqE_tup, eqEL_list, inSD_one, ordSD_str, notInSD_one, intB_int, intB_bool]
    refine ⟨_, ⟨_, rfl, by simp, by decide, rfl⟩, fun d hd => ?_⟩
    obtain ⟨a, rfl, a6⟩ : ∃ a : Int, d = .int a ∧ a.natAbs ≤ 6 := by
      simp only [List.mem_cons, List.not_mem_nil, or_false] at hd
      rcases hd with rfl | rfl | rfl | rfl | rfl | rfl | rfl | rfl | rfl <;> exact ⟨_, rfl, by decide⟩
    clear hd
    intro O1 σ1 H1 R1 k1
    refine ⟨g, O1, _, R1, ?_⟩
    simp only [dSeq, dIfS, dRet, dRetN, dSet, dPar, dPar3, dAsg, dFor, dDrop, dNext, dBrk, dCnt, dAug, dApp, dExt, dPop, dPopAt, dSetI, dFrz, xD, xF, dC, dV, dO, dOp, dOpO, dB, dCh, dAnd, dOr, dNot, dAndV, dOrV, dNotV, dNotT, dIf, dNil, dCons, gNilD, gConsD, gLm, dTup, dLst, dLs, dSl, dSlO, dNo, dSo, d1, dIsi, dList, dCall, dCallK, putS, dGcd, dNeg, dLc, dYes, wTupI, wLstI, wRng1, wRng2, wEnT, wEnL, wName, wNil, wCons, wTup, subD, mulD, divD, modD, powD, ltD, leD, gtD, geD, reprD, wipeD, uns, gDef, dRmG, dRmS, gRm, gConsR, gLmR, dCallR, reRm, dRoom, unrm, dKvIx, dKvGet, dLcm, dListRg, wZip, dKtIn, dKtIx, sumD, sortID, keyD, wStrI, dSplit, catF, catFO, gOwnB, dCallB, wZipT, List.cons_append, List.nil_append, List.length_cons, List.length_nil, List.replicate, List.getElem?_cons_zero, List.getElem?_cons_succ, List.set_cons_zero, List.set_cons_succ, List.map_cons, List.map_nil, List.getD_cons_zero, List.getD_cons_succ, ↓reduceIte, Bool.not_true, Bool.not_false, Bool.false_eq_true, sof_fn1, sof_fn2, sof_fn1p, sof_fn2p, eqv_int, eqv_str, plain_int, plain_bool, plain_none, true_and, and_true, sizeLine_eq, Nat.reduceAdd, Nat.reduceLeDiff, Nat.zero_add, addD_int, addD_str, addD_tup, addD_list, intF_int, intD_int, eqD_int, eqD_str, neD_int, neD_str, inD_list, inD_tup, isND_none, ixD_t0, ixD_t1, ixD_t2, ixD_t3, ixD_l0, lenD_tup, lenD_list, lenD_str, absD_int, toIntD_int, toIntD_bool, toStrD_int, tupleD_list, tupleD_tup, cutSq_tup, cutSq_list, cutSq_str, isInt_none, isInt_bool, isInt_int, isInt_str, isInt_list, isInt_tup, isInt_dict, isBool_none, isBool_bool, isBool_int, isBool_str, isBool_list, isBool_tup, isBool_dict, isStr_none, isStr_bool, isStr_int, isStr_str, isStr_list, isStr_tup, isStr_dict, isTup_none, isTup_bool, isTup_int, isTup_str, isTup_list, isTup_tup, isTup_dict, isLst_none, isLst_bool, isLst_int, isLst_str, isLst_list, isLst_tup, isLst_dict, eqSD_str, neSD_str, inKvD_str, eqE_tup, eqEL_list, inSD_one, ordSD_str, notInSD_one, intB_int, intB_bool]
    refine ⟨_, ⟨_, rfl, by simp, by decide, rfl⟩, fun d hd => ?_⟩
    obtain ⟨b, rfl, b1, b6⟩ : ∃ a : Int, d = .int a ∧ 1 ≤ a ∧ a ≤ 6 := by
      simp only [List.mem_cons, List.not_mem_nil, or_false] at hd
      rcases hd with rfl | rfl | rfl | rfl | rfl | rfl | rfl <;> exact ⟨_, rfl, by decide, by decide⟩
    clear hd
    intro O2 σ2 H2 R2 k2
    refine ⟨g, O2, _, R2, ?_⟩
    simp only [dSeq, dIfS, dRet, dRetN, dSet, dPar, dPar3, dAsg, dFor, dDrop, dNext, dBrk, dCnt, dAug, dApp, dExt, dPop, dPopAt, dSetI, dFrz, xD, xF, dC, dV, dO, dOp, dOpO, dB, dCh, dAnd, dOr, dNot, dAndV, dOrV, dNotV, dNotT, dIf, dNil, dCons, gNilD, gConsD, gLm, dTup, dLst, dLs, dSl, dSlO, dNo, dSo, d1, dIsi, dList, dCall, dCallK, putS, dGcd, dNeg, dLc, dYes, wTupI, wLstI, wRng1, wRng2, wEnT, wEnL, wName, wNil, wCons, wTup, subD, mulD, divD, modD, ltD, leD, gtD, geD, reprD, wipeD, uns, gDef, dRmG, dRmS, gRm, gConsR, gLmR, dCallR, reRm, dRoom, unrm, dKvIx, dKvGet, dLcm, dListRg, wZip, dKtIn, dKtIx, sumD, sortID, keyD, wStrI, dSplit, catF, catFO, gOwnB, dCallB, wZipT, List.cons_append, List.nil_append, List.length_cons, List.length_nil, List.replicate, List.getElem?_cons_zero, List.getElem?_cons_succ, List.set_cons_zero, List.set_cons_succ, List.map_cons, List.map_nil, List.getD_cons_zero, List.getD_cons_succ, ↓reduceIte, Bool.not_true, Bool.not_false, Bool.false_eq_true, sof_fn1, sof_fn2, sof_fn1p, sof_fn2p, eqv_int, eqv_str, plain_int, plain_bool, plain_none, true_and, and_true, sizeLine_eq, Nat.reduceAdd, Nat.reduceLeDiff, Nat.zero_add, addD_int, addD_str, addD_tup, addD_list, intF_int, intD_int, eqD_int, eqD_str, neD_int, neD_str, inD_list, inD_tup, isND_none, ixD_t0, ixD_t1, ixD_t2, ixD_t3, ixD_l0, lenD_tup, lenD_list, lenD_str, absD_int, toIntD_int, toIntD_bool, toStrD_int, tupleD_list, tupleD_tup, cutSq_tup, cutSq_list, cutSq_str, isInt_none, isInt_bool, isInt_int, isInt_str, isInt_list, isInt_tup, isInt_dict, isBool_none, isBool_bool, isBool_int, isBool_str, isBool_list, isBool_tup, isBool_dict, isStr_none, isStr_bool, isStr_int, isStr_str, isStr_list, isStr_tup, isStr_dict, isTup_none, isTup_bool, isTup_int, isTup_str, isTup_list, isTup_tup, isTup_dict, isLst_none, isLst_bool, isLst_int, isLst_str, isLst_list, isLst_tup, isLst_dict, eqSD_str, neSD_str, inKvD_str, eqE_tup, eqEL_list, inSD_one, ordSD_str, notInSD_one, intB_int, intB_bool]
    refine ⟨_, ⟨_, rfl, by decide, rfl⟩, ?_⟩
    rintro _ ⟨j, rfl, _, _⟩
    simp only [dSeq, dIfS, dRet, dRetN, dSet, dPar, dPar3, dAsg, dFor, dDrop, dNext, dBrk, dCnt, dAug, dApp, dExt, dPop, dPopAt, dSetI, dFrz, xD, xF, dC, dV, dO, dOp, dOpO, dB, dCh, dAnd, dOr, dNot, dAndV, dOrV, dNotV, dNotT, dIf, dNil, dCons, gNilD, gConsD, gLm, dTup, dLst, dLs, dSl, dSlO, dNo, dSo, d1, dIsi, dList, dCall, dCallK, putS, dGcd, dNeg, dLc, dYes, wTupI, wLstI, wRng1, wRng2, wEnT, wEnL, wName, wNil, wCons, wTup, subD, mulD, divD, modD, ltD, leD, gtD, geD, reprD, wipeD, uns, gDef, dRmG, dRmS, gRm, gConsR, gLmR, dCallR, reRm, dRoom, unrm, dKvIx, dKvGet, dLcm, dListRg, wZip, dKtIn, dKtIx, sumD, sortID, keyD, wStrI, dSplit, catF, catFO, gOwnB, dCallB, wZipT, List.cons_append, List.nil_append, List.length_cons, List.length_nil, List.replicate, List.getElem?_cons_zero, List.getElem?_cons_succ, List.set_cons_zero, List.set_cons_succ, List.map_cons, List.map_nil, List.getD_cons_zero, List.getD_cons_succ, ↓reduceIte, Bool.not_true, Bool.not_false, Bool.false_eq_true, sof_fn1, sof_fn2, sof_fn1p, sof_fn2p, eqv_int, eqv_str, plain_int, plain_bool, plain_none, true_and, and_true, sizeLine_eq, Nat.reduceAdd, Nat.reduceLeDiff, Nat.zero_add, addD_int, addD_str, addD_tup, addD_list, intF_int, intD_int, eqD_int, eqD_str, neD_int, neD_str, inD_list, inD_tup, isND_none, ixD_t0, ixD_t1, ixD_t2, ixD_t3, ixD_l0, lenD_tup, lenD_list, lenD_str, absD_int, toIntD_int, toIntD_bool, toStrD_int, tupleD_list, tupleD_tup, cutSq_tup, cutSq_list, cutSq_str, isInt_none, isInt_bool, isInt_int, isInt_str, isInt_list, isInt_tup, isInt_dict, isBool_none, isBool_bool, isBool_int, isBool_str, isBool_list, isBool_tup, isBool_dict, isStr_none, isStr_bool, isStr_int, isStr_str, isStr_list, isStr_tup, isStr_dict, isTup_none, isTup_bool, isTup_int, isTup_str, isTup_list, isTup_tup, isTup_dict, isLst_none, isLst_bool, isLst_int, isLst_str, isLst_list, isLst_tup, isLst_dict, eqSD_str, neSD_str, inKvD_str, eqE_tup, eqEL_list, inSD_one, ordSD_str, notInSD_one, intB_int, intB_bool]
    have fin : ∀ (x y : Int) O3 σ3 H3, y ≠ 0 → x.natAbs < 10 ^ 40 → y.natAbs < 10 ^ 40 → Rep K g O3 [.lm, .d (.int x), .d (.int y)] σ3 H3 → tRet (tCall (sp_lowX K) [] E0 (tCons (tVar 1) (tCons (tVar 2) tNil)))
                { nx := fun x H' => Q V.non H', rt := Q } σ3 H3 := fun x y O3 σ3 H3 y0 hx hy R3 => by
      obtain ⟨v1, e1, d1⟩ := R3.var (i := 1) rfl
      obtain ⟨v2, e2, d2⟩ := R3.var (i := 2) rfl
      cases d1
      cases d2
      have gr := R3.base
      rw [h0] at gr
      refine ⟨.int x, e1, .int y, e2, ?_⟩
      refine ⟨⟨g.lo, H3, Zof g O3⟩, x, y, rfl, loom_in R3.loom, rfl, y0, Nat.lt_trans hy (by decide +kernel), fun H' p hp gr' => ?_⟩
      exact q H' p _ _ hp (gr.trans gr') (Nat.lt_of_le_of_lt (fA_le y0) hx) (Nat.lt_of_le_of_lt (fB_le y0) hy)
    have p30 : (10 : Int) ^ Int.toNat 30 = 1000000000000000000000000000000 := by decide +kernel
    have p20 : (10 : Int) ^ Int.toNat 20 = 100000000000000000000 := by decide +kernel
    have p40 : (10 : Nat) ^ 40 = 10000000000000000000000000000000000000000 := by decide +kernel
    rw [p40] at fin
    rw [p30, p20]
    refine ite_both2 (fun _ => ?_) (fun _ => ?_)
    · refine ⟨⟨by decide, by decide, by decide⟩, ⟨Nat.lt_of_le_of_lt a6 (by decide +kernel), by unfold Big; decide +kernel⟩, _, ⟨_, rfl, by decide, rfl⟩, ?_⟩
      rintro _ ⟨u, rfl, u0, u1⟩
      rw [addD_int]
      refine ⟨⟨by decide, by decide, by decide⟩, ⟨Nat.lt_of_le_of_lt (show b.natAbs ≤ 6 by omega) (by decide +kernel), by unfold Big; decide +kernel⟩, _, ⟨_, rfl, by decide, rfl⟩, ?_⟩
      rintro _ ⟨v, rfl, v0, v1⟩
      rw [addD_int]
      intro O3 σ3 H3 R3 k3
      exact fin _ _ O3 σ3 H3 (by omega) (by omega) (by omega) R3
    · intro O3 σ3 H3 R3 k3
      exact fin _ _ O3 σ3 H3 (by omega) (by omega) (by omega) R3
/-- drawn powers: a tuple that is new -/
def sp_powersX (K : PySem.W.Frag) : Sp := fun vs H Q _ => ∃ (g : Gh) (n top : Int), g.H0 = H ∧ ArgsOk K g.lo (Zof g []) H [.lm, .d (.int n), .d (.int top)] vs ∧ LoomOk g [] H ∧ 0 ≤ n ∧ n ≤ 6 ∧ 0 ≤ top ∧ top ≤ 60 ∧
  ∀ H' p (ns : List Int), H' p = none → Gr g.lo H H' → (ns.length : Int) = n → (∀ i ∈ ns, 0 ≤ i ∧ i ≤ 60) → Q (.ref p) (upd H' p (.tup (ns.map V.int)))
theorem Txt.ok_powersX (T : Txt K mg A D) : FnOk P w K mg base CX0 3 (A 15) (D 15) ["sack", "n", "top"] (sp_powersX K) := by
  refine T.F_powers.ok sc_powers (fun vs H Q E h => ?_) (fun cdv Ar outer s H vs Q E hr h => ?_)
  · obtain ⟨g, n, top, _, ha, _⟩ := h
    exact argsOk_len ha
  · obtain ⟨g, n, top, h0, ha, hl, n0, n6, t0, t6, q⟩ := h
    have R0 := rep_start (K := K) (N := ["sack", "n", "top", "name"]) (ss := [.lm, .d (.int n), .d (.int top)]) h0 ha hl
    refine ⟨_, pss_one (ps_ret (pe_callTy call_tuple_of (by rfl) T.z_tuple (by decide +kernel) (pa_cons (DF.run (df_lc (own := [("name", 3)]) rfl sc_powers.nd (di_rng1 rfl T.range (de_v (pv 1))) (blkOk_by (N := ["sack", "n", "top", "name"]) (sc := defScope s_powers) (by decide +kernel)) (fun _ _ _ _ _ => (dg_name (i := 3) sc_powers.nd rfl (Or.inl rfl))) (fun _ _ _ _ _ => dts_nil) (fun _ _ _ _ _ => (de_call T.ok_pick hr (by rfl) T.g_pick T.k_pick T.b_pick pass0 (dg_lm (pv 0) (dg_cons (DF.de (df_lst (da_cons de_int (da_cons de_int (da_cons de_int (da_cons (de_call T.ok_draw (hr.mono (by decide)) (by rfl) T.g_draw T.k_draw T.b_draw pass0 (dg_lm (pv 0) (dg_cons (de_op o_add (de_v (pv 2)) (DE.r de_int)) dg_nil))) da_nil)))))) dg_nil)))))) pa_nil))), ?_⟩
    refine ⟨g, [], _, R0, ?_⟩
    simp only [dSeq, dIfS, dRet, dRetN, dSet, dPar, dPar3, dAsg, dFor, dDrop, dNext, dBrk, dCnt, dAug, dApp, dExt, dPop, dPopAt, dSetI, dFrz, xD, xF, dC, dV, dO, dOp, dOpO, dB, dCh, dAnd, dOr, dNot, dAndV, dOrV, dNotV, dNotT, dIf, dNil, dCons, gNilD, gConsD, gLm, dTup, dLst, dLs, dSl, dSlO, dNo, dSo, d1, dIsi, dList, dCall, dCallK, putS, dGcd, dNeg, dLc, dYes, wTupI, wLstI, wRng1, wRng2, wEnT, wEnL, wName, wNil, wCons, wTup, subD, mulD, divD, modD, powD, ltD, leD, gtD, geD, reprD, wipeD, uns, gDef, dRmG, dRmS, gRm, gConsR, gLmR, dCallR, reRm, dRoom, unrm, dKvIx, dKvGet, dLcm, dListRg, wZip, dKtIn, dKtIx, sumD, sortID, keyD, wStrI, dSplit, catF, catFO, gOwnB, dCallB, wZipT, List.cons_append, List.nil_append, List.length_cons, List.length_nil, List.replicate, List.getElem?_cons_zero, List.getElem?_cons_succ, List.set_cons_zero, List.set_cons_succ, List.map_cons, List.map_nil, List.getD_cons_zero, List.getD_cons_succ, ↓reduceIte, Bool.not_true, Bool.not_false, Bool.false_eq_true, sof_fn1, sof_fn2, sof_fn1p, sof_fn2p, eqv_int, eqv_str, plain_int, plain_bool, plain_none, true_and, and_true, sizeLine_eq, Nat.reduceAdd, Nat.reduceLeDiff, Nat.zero_add, addD_int, addD_str, addD_tup, addD_list, intF_int, intD_int, eqD_int, eqD_str, neD_int, neD_str, inD_list, inD_tup, isND_none, ixD_t0, ixD_t1, ixD_t2, ixD_t3, ixD_l0, lenD_tup, lenD_list, lenD_str, absD_int, toIntD_int, toIntD_bool, toStrD_int, tupleD_list, tupleD_tup, cutSq_tup, cutSq_list, cutSq_str, isInt_none, isInt_bool, isInt_int, isInt_str, isInt_list, isInt_tup, isInt_dict, isBool_none, isBool_bool, isBool_int, isBool_str, isBool_list, isBool_tup, isBool_dict, isStr_none, isStr_bool, isStr_int, isStr_str, isStr_list, isStr_tup, isStr_dict, isTup_none, isTup_bool, isTup_int, isTup_str, isTup_list, isTup_tup, isTup_dict, isLst_none, isLst_bool, isLst_int, isLst_str, isLst_list, isLst_tup, isLst_dict, eqSD_str, neSD_str, inKvD_str, eqE_tup, eqEL_list, inSD_one, ordSD_str, notInSD_one, intB_int, intB_bool]
    refine ⟨by omega, by omega, ?_⟩
    refine lc_at (fun i acc => acc.length = i ∧ ∃ ns : List Int, acc = ns.map .int ∧ ∀ i ∈ ns, 0 ≤ i ∧ i ≤ 60) ⟨rfl, [], rfl, fun d h => nomatch h⟩ ?_ ?_
    · rintro acc ⟨la, ns, rfl, hns⟩
      rw [rngD_len, List.length_map] at la
      rintro O1 H1 b R1 k1 ⟨p, vs', O', rfl, _, _, _, _, hp, hx⟩
      have gr := R1.base
      rw [h0] at gr
      have hx := dx_ints hx
      subst hx
      exact ⟨p, _, rfl, .inl ⟨SqL.of hp, fun l hl => q H1 l ns hl gr (by omega) hns⟩⟩
    · rintro i x acc N hi ex ⟨la, ns, rfl, hns⟩ hN
      rw [rngD_len] at hi
      obtain ⟨y, rfl, _, _⟩ := rngD_mem (List.mem_of_getElem? ex)
      simp only [dSeq, dIfS, dRet, dRetN, dSet, dPar, dPar3, dAsg, dFor, dDrop, dNext, dBrk, dCnt, dAug, dApp, dExt, dPop, dPopAt, dSetI, dFrz, xD, xF, dC, dV, dO, dOp, dOpO, dB, dCh, dAnd, dOr, dNot, dAndV, dOrV, dNotV, dNotT, dIf, dNil, dCons, gNilD, gConsD, gLm, dTup, dLst, dLs, dSl, dSlO, dNo, dSo, d1, dIsi, dList, dCall, dCallK, putS, dGcd, dNeg, dLc, dYes, wTupI, wLstI, wRng1, wRng2, wEnT, wEnL, wName, wNil, wCons, wTup, subD, mulD, divD, modD, powD, ltD, leD, gtD, geD, reprD, wipeD, uns, gDef, dRmG, dRmS, gRm, gConsR, gLmR, dCallR, reRm, dRoom, unrm, dKvIx, dKvGet, dLcm, dListRg, wZip, dKtIn, dKtIx, sumD, sortID, keyD, wStrI, dSplit, catF, catFO, gOwnB, dCallB, wZipT, List.cons_append, List.nil_append, List.length_cons, List.length_nil, List.replicate, List.getElem?_cons_zero, List.getElem?_cons_succ, List.set_cons_zero, List.set_cons_succ, List.map_cons, List.map_nil, List.getD_cons_zero, List.getD_cons_succ, ↓reduceIte, Bool.not_true, Bool.not_false, Bool.false_eq_true, sof_fn1, sof_fn2, sof_fn1p, sof_fn2p, eqv_int, eqv_str, plain_int, plain_bool, plain_none, true_and, and_true, sizeLine_eq, Nat.reduceAdd, Nat.reduceLeDiff, Nat.zero_add, addD_int, addD_str, addD_tup, addD_list, intF_int, intD_int, eqD_int, eqD_str, neD_int, neD_str, inD_list, inD_tup, isND_none, ixD_t0, ixD_t1, ixD_t2, ixD_t3, ixD_l0, lenD_tup, lenD_list, lenD_str, absD_int, toIntD_int, toIntD_bool, toStrD_int, tupleD_list, tupleD_tup, cutSq_tup, cutSq_list, cutSq_str, isInt_none, isInt_bool, isInt_int, isInt_str, isInt_list, isInt_tup, isInt_dict, isBool_none, isBool_bool, isBool_int, isBool_str, isBool_list, isBool_tup, isBool_dict, isStr_none, isStr_bool, isStr_int, isStr_str, isStr_list, isStr_tup, isStr_dict, isTup_none, isTup_bool, isTup_int, isTup_str, isTup_list, isTup_tup, isTup_dict, isLst_none, isLst_bool, isLst_int, isLst_str, isLst_list, isLst_tup, isLst_dict, eqSD_str, neSD_str, inKvD_str, eqE_tup, eqEL_list, inSD_one, ordSD_str, notInSD_one, intB_int, intB_bool]
      refine ⟨_, ⟨_, rfl, by omega, rfl⟩, ?_⟩
      rintro _ ⟨j, rfl, j0, j1⟩
      refine ⟨_, ⟨_, rfl, by simp, by simp, rfl⟩, fun d hd => ?_⟩
      have hd' : ∃ i : Int, d = .int i ∧ 0 ≤ i ∧ i ≤ 60 := by
        simp only [List.mem_cons, List.not_mem_nil, or_false] at hd
        rcases hd with rfl | rfl | rfl | rfl <;> exact ⟨_, rfl, by omega, by omega⟩
      obtain ⟨u, rfl, u0, u6⟩ := hd'
      refine ⟨by omega, hN _ ⟨by rw [List.length_append, la]; rfl, ns ++ [u], by rw [List.map_append]; rfl, fun e he => ?_⟩⟩
      rcases List.mem_append.mp he with he | he
      · exact hns e he
      · rw [List.mem_singleton.mp he]
        exact ⟨u0, u6⟩
end
end Ev

set_option exponentiation.threshold 20000
namespace Ev
open PySem PySem.Spec PyProof.Rows L2
/-- a term as it is laid -/
def termOf (t : List Int × Int × Int) : PyData := .tuple [.tuple (t.1.map .int), .tuple [.int t.2.1, .int t.2.2]]
theorem noLis_ints : ∀ ns : List Int, noLis (ns.map .int) = true
  | [] => rfl
  | n :: ns => by
    rw [List.map_cons]
    simp only [noLis, noLi, noLis_ints ns, Bool.and_self]
theorem noLis_terms : ∀ ts : List (List Int × Int × Int), noLis (ts.map termOf) = true
  | [] => rfl
  | t :: ts => by
    rw [List.map_cons]
    simp only [noLis, termOf, noLi, noLis_ints, noLis_terms ts, Bool.and_self]
theorem sqT_put {K : PySem.W.Frag} {H : Hp} {D a : Addr} {xs ys zs : List L2.V} (hA : H D = some (.lst ys)) (h : SqT K H a xs) : SqT K (upd H D (.lst zs)) a xs := by
  rcases h with (h | ⟨o, h⟩) | h
  · refine .inl (.inl ?_)
    rw [upd_ne (fun c => by rw [c, hA] at h; cases h)]
    exact h
  · refine .inl (.inr ⟨o, ?_⟩)
    rw [upd_ne (fun c => by rw [c, hA] at h; cases h)]
    exact h
  · exact .inr h
section
variable {P : Program} {w : World} {K : PySem.W.Frag} {mg : Str → Option Value} {base : Heap} {A : Nat → Addr} {D : Nat → FuncData}
/-- of a dict of powers and fractions -/
def sp_laid (K : PySem.W.Frag) : Sp := fun vs H Q _ => ∃ (a : Addr) (ks : List (List Int × Addr)) (V : List Int → Int × Int), vs = [.ref a] ∧ H a = some (.dT (ks.map entI)) ∧ ks.length < 64 ∧
  (∀ e ∈ ks, H e.2 = some (.tup [.int (V e.1).1, .int (V e.1).2])) ∧
  ∀ H' v (ts : List (List Int × Int × Int)), (∀ b o, H b = some o → H' b = some o) → ts.length ≤ ks.length → (∀ t ∈ ts, ∃ e ∈ ks, t.1 = e.1 ∧ t.2 = V e.1) → (∀ Z, Dx K Z H' v (.tuple (ts.map termOf))) → Q v H'
theorem Txt.ok_laid (T : Txt K mg A D) : FnOk P w K mg base CX0 1 (A 13) (D 13) ["known"] (sp_laid K) := by
  refine T.F_laid.ok sc_laid (fun vs H Q E h => ?_) (fun cdv Ar outer s H vs Q E hr h => ?_)
  · obtain ⟨a, ks, V, rfl, _⟩ := h
    rfl
  · obtain ⟨a, ks, V, rfl, ha, h64, hv, q⟩ := h
    refine ⟨_, (pss_one (ps_ret (pe_callTy call_tuple_of (by rfl) T.z_tuple (by decide +kernel) (pa_cons (pe_lc (own := [("powers", 1), ("share", 2)]) (g := gTup K 2 (gCons (gName 1) (gCons (gName 2) gNil))) (tt := _) rfl sc_laid.nd (pi_list (pe_callB (cr_sortedI rfl hr.units) (by rfl) T.z_sorted (by decide +kernel) (pa_cons (pe_bm0 PySem.F.plainAttrs_dict PySem.F.slot_dict_items PySem.F.type_dict_items DX.mt_itemsT (pv 0)) pa_nil))) (blkOk_by (N := ["known", "powers", "share"]) (sc := defScope s_laid) (by decide +kernel)) (fun _ _ _ _ _ => (pg_tup rfl (pgs_cons (pg_name (i := 1) sc_laid.nd rfl (Or.inl rfl)) (pgs_cons (pg_name (i := 2) sc_laid.nd rfl (Or.inl rfl)) pgs_nil)))) (fun _ _ _ _ _ => (pts_one (pt_cmpR op_ne (pe_ix (show IxR _ (rIxT K) from ix_tup) (pv 2) pe_int (fun _ _ => rfl)) pe_int (nomark _)))) (fun _ _ _ _ _ => (pe_tup (pa_cons (pv 1) (pa_cons (pv 2) pa_nil))))) pa_nil)))), ?_⟩
    refine ⟨_, rfl, .inr (.inr (.inl ⟨rfl, .inr ⟨_, ha⟩⟩)), a, _, rfl, rfl, ha, fun p hp => ?_⟩
    have sp : Same H (upd H p (DX.itemsO p a)) := same_new hp
    refine ⟨p, a, ks, fun ns => [Sum.inl (V ns).1, Sum.inl (V ns).2], rfl, upd_same, sp _ _ ha, h64, fun e he => sp _ _ (hv e he), fun H' l ps sm pm hl hps => ?_⟩
    have sH : ∀ b o, H b = some o → H' b = some o := fun b o e => sm b o (sp b o e)
    refine ⟨l, rfl, ⟨_, SqL.of hl⟩, fun D hD => ?_⟩
    have sD : ∀ b o, H' b = some o → (upd H' D (.lst [])) b = some o := same_new hD
    refine lc_list (K := K) (a := l) (xs := ps.map fun z => L2.V.ref z.1) (fun i H2 => (∀ b o, H' b = some o → H2 b = some o) ∧ ∃ (acc : List L2.V) (ts : List (List Int × Int × Int)), H2 D = some (.lst acc) ∧ DxAll K (fun _ => False) H2 acc (ts.map termOf) ∧ acc.length ≤ i ∧ ∀ t ∈ ts, ∃ e ∈ ks, t.1 = e.1 ∧ t.2 = V e.1)
      ⟨sD, [], [], upd_same, .nil, Nat.zero_le _, fun t h => nomatch h⟩ (fun i H2 _ z => SqL.of (z.1 _ _ hl)) ?_ ?_
    · rintro i x H2 hx ⟨s2, acc, ts, hA, hT, la, hts⟩
      rw [List.getElem?_map] at hx
      obtain ⟨z, hz, rfl⟩ := Option.map_eq_some_iff.mp hx
      obtain ⟨q', hq1, hq2⟩ := hps z (List.mem_of_getElem? hz)
      have hk : z.2 ∈ ks := pm.mem_iff.mp (List.mem_map_of_mem (f := (·.2)) (List.mem_of_getElem? hz))
      have hval := s2 _ _ (sH _ _ (hv z.2 hk))
      have hl2 : i < ps.length := (List.getElem?_eq_some_iff.mp hz).1
      have lps : ps.length = ks.length := by have := pm.length_eq; rw [List.length_map] at this; exact this
      refine ⟨z.1, _, rfl, SqT.of (s2 _ _ hq1), rfl, _, _, rfl, _, _, rfl, rfl, rfl, ?_⟩
      refine ⟨_, rfl, z.2.2, _, 0, _, rfl, rfl, SqT.of hval, rfl, ?_⟩
      refine ⟨rfl, _, rfl, ite2 (fun _ => ?_) (fun _ => ?_)⟩
      · refine ⟨_, rfl, _, rfl, (by show 2 ≤ sizeLine; decide), fun p2 hp2 => ?_⟩
        have s3 : Same H2 (upd H2 p2 (.tup [.ref q', .ref z.2.2])) := same_new hp2
        have hA3 := s3 _ _ hA
        refine ⟨acc, hA3, by rw [sizeLine_eq]; omega, fun b o e => ?_, acc ++ [.ref p2], ts ++ [(z.2.1, V z.2.1)], upd_same, ?_, by rw [List.length_append]; exact Nat.succ_le_succ la, fun t ht => ?_⟩
        · have ne : b ≠ D := fun c => by rw [c, hD] at e; cases e
          rw [upd_ne ne]
          exact s3 _ _ (s2 _ _ e)
        · rw [List.map_append]
          have keep : ∀ {v : L2.V} {d : PyData}, Dx K (fun _ => False) (upd H2 p2 (.tup [.ref q', .ref z.2.2])) v d → Dx K (fun _ => False) (upd (upd H2 p2 (.tup [.ref q', .ref z.2.2])) D (.lst (acc ++ [.ref p2]))) v d := fun h => dx_keep (fun b xs hs => sqT_put hA3 hs) (fun b o z => z.elim) h
          refine dxAll_app (dxAll_keep (fun b xs hs => sqT_put hA3 hs) (fun b o z => z.elim) (dxAll_same s3 hT)) (.cons (keep ?_) .nil)
          refine .tup (SqT.of upd_same) (.cons (.tup (SqT.of (s3 _ _ (s2 _ _ hq2))) (dxAll_ints _)) (.cons (.tup (SqT.of (s3 _ _ hval)) (.cons (.int _) (.cons (.int _) .nil))) .nil))
        · rcases List.mem_append.mp ht with ht | ht
          · exact hts t ht
          · rw [List.mem_singleton.mp ht]
            exact ⟨z.2, hk, rfl, rfl⟩
      · exact ⟨s2, acc, ts, hA, hT, Nat.le_succ_of_le la, hts⟩
    · rintro H2 ⟨s2, acc, ts, hA, hT, la, hts⟩
      refine ⟨D, acc, rfl, .inl ⟨SqL.of hA, fun l2 hl2 => ?_⟩⟩
      have s4 : Same H2 (upd H2 l2 (.tup acc)) := same_new hl2
      have lts : ts.length = acc.length := by have := dxAll_len hT; rw [List.length_map] at this; exact this.symm
      have lps : ps.length = ks.length := by have := pm.length_eq; rw [List.length_map] at this; exact this
      rw [List.length_map] at la
      refine q _ _ ts (fun b o e => s4 _ _ (s2 _ _ (sH _ _ e))) (by omega) hts fun Z => ?_
      refine dx_noL (.tup (SqT.of upd_same) (dxAll_same s4 hT)) ?_
      simp only [noLi]
      exact noLis_terms ts
end
end Ev

set_option exponentiation.threshold 20000
namespace Ev
open PySem PySem.Spec PyProof.Rows L2
/-- the entries with one more -/
def putI (ks : List (List Int × Addr)) (ns : List Int) (b : Addr) : List (List Int × Addr) :=
  if (ks.any fun e => decide (e.1 = ns)) = true then ks.map (fun e => if e.1 = ns then (e.1, b) else e) else ks ++ [(ns, b)]
theorem putI_len (ks : List (List Int × Addr)) (ns : List Int) (b : Addr) : (putI ks ns b).length ≤ ks.length + 1 := by
  unfold putI
  split
  · rw [List.length_map]; omega
  · rw [List.length_append]; exact Nat.le_refl _
theorem putI_mem {ks : List (List Int × Addr)} {ns : List Int} {b : Addr} {e : List Int × Addr} (h : e ∈ putI ks ns b) : (e.1 = ns ∧ e.2 = b) ∨ (e.1 ≠ ns ∧ e ∈ ks) := by
  unfold putI at h
  split at h
  · obtain ⟨x, hx, rfl⟩ := List.mem_map.mp h
    by_cases c : x.1 = ns
    · rw [if_pos c]
      exact .inl ⟨c, rfl⟩
    · rw [if_neg c]
      exact .inr ⟨c, hx⟩
  · rename_i hn
    rcases List.mem_append.mp h with h | h
    · refine .inr ⟨fun c => hn (List.any_eq_true.mpr ⟨e, h, decide_eq_true c⟩), h⟩
    · rw [List.mem_singleton.mp h]
      exact .inl ⟨rfl, rfl⟩
theorem ent_key {e : List Int × Addr} {ns : List Int} : (entI e).1 = ns.map Sum.inl ↔ e.1 = ns := ⟨fun h => map_inl_inj h, fun h => by rw [← h]⟩
theorem put_ent (ks : List (List Int × Addr)) (ns : List Int) (b : Addr) : putK (ks.map entI) (ns.map Sum.inl) (V.ref b) = (putI ks ns b).map entI := by
  have ea : ((ks.map entI).any fun kv => decide (kv.1 = ns.map Sum.inl)) = ks.any fun e => decide (e.1 = ns) := by
    rw [List.any_map]
    congr 1
    funext e
    show decide ((entI e).1 = _) = _
    rw [decide_eq_decide]
    exact ent_key
  unfold putK putI
  rw [ea]
  split
  · rw [List.map_map, List.map_map]
    refine List.map_congr_left fun e _ => ?_
    show (if (entI e).1 = ns.map Sum.inl then ((entI e).1, V.ref b) else entI e) = entI (if e.1 = ns then (e.1, b) else e)
    by_cases c : e.1 = ns
    · rw [if_pos c, if_pos (ent_key.mpr c)]
    · rw [if_neg c, if_neg fun z => c (ent_key.mp z)]
  · rw [List.map_append]
    rfl
section
variable {P : Program} {w : World} {K : PySem.W.Frag} {mg : Str → Option Value} {base : Heap} {A : Nat → Addr} {D : Nat → FuncData}
def TermOk (n : Int) (t : List Int × Int × Int) : Prop := (t.1.length : Int) = n ∧ (∀ i ∈ t.1, 0 ≤ i ∧ i ≤ 60) ∧ t.2.1.natAbs < 10 ^ 40 ∧ t.2.2.natAbs < 10 ^ 40
def drawnR : RelD := fun ss P => ∃ n most top : Int, ss = [.lm, .d (.int n), .d (.int most), .d (.int top)] ∧ 0 ≤ n ∧ n ≤ 6 ∧ 0 ≤ most ∧ most ≤ 6 ∧ 0 ≤ top ∧ top ≤ 60 ∧ P = fun d => ∃ ts : List (List Int × Int × Int), d = .tuple (ts.map termOf) ∧ ts.length ≤ 6 ∧ ∀ t ∈ ts, TermOk n t
theorem Txt.ok_poly (T : Txt K mg A D) : FnOk P w K mg base CX0 4 (A 16) (D 16) ["sack", "n", "most", "top"] (spD K drawnR) := by
  refine T.F_poly.ok sc_poly (fun vs H Q E h => ?_) (fun cdv Ar outer s H vs Q E hr h => ?_)
  · obtain ⟨g, ss, h0, ha, hl, Pp, ⟨n, most, top, rfl, _⟩, hq⟩ := h
    exact argsOk_len ha
  · obtain ⟨g, ss, h0, ha, hl, Pp, ⟨n, most, top, rfl, n0, n6, m0, m6, t0, t6, rfl⟩, hq⟩ := h
    have hu : (cxOf CX0 P w K mg base ["sack", "n", "most", "top", "known", "turn"] "_law_poly" (defScope s_poly) (A 16) cdv Ar outer s H E).nox.A.units + 1 < cLine := hu_of hr
    refine ⟨_, (pss_cons (ps_set (i := 4) sc_poly.nd rfl (Or.inl rfl) pe_dnewT)
    (pss_cons (ps_for PassesOwn.never rfl (pi_range1 rfl T.range (pa_cons (pe_call (T.ok_draw) (hr.mono (by decide)) (by rfl) T.g_draw T.k_draw T.b_draw .nil pass0 (pa_cons (pv 0) (pa_cons (pe_op op_add (pv 2) pe_int) pa_nil))) pa_nil)) (pg_name (i := 5) sc_poly.nd rfl (Or.inl rfl)) (pss_one (ps_dput hu (pv 4) (pe_call (T.ok_powersX) hr (by rfl) T.g_powers T.k_powers T.b_powers .nil pass0 (pa_cons (pv 0) (pa_cons (pv 1) (pa_cons (pv 3) pa_nil)))) (pe_call (T.ok_fractionX) hr (by rfl) T.g_fraction T.k_fraction T.b_fraction .nil pass0 (pa_cons (pv 0) pa_nil)) rfl)))
    (pss_one (ps_ret (pe_call (T.ok_laid) (hr.mono (by decide)) (by rfl) T.g_laid T.k_laid T.b_laid .nil pass0 (pa_cons (pv 4) pa_nil)))))), ?_⟩
    obtain ⟨L, F, lm, rfl⟩ : ∃ L F, g.lo.lm = some (L, F) ∧ vs = [.ref L, .int n, .int most, .int top] := by
      cases ha with
      | cons h1 r =>
        cases r with
        | cons h2 r =>
          cases r with
          | cons h3 r =>
            cases r with
            | cons h4 r =>
              cases r
              obtain ⟨L, F, lm, rfl⟩ := h1
              cases h2
              cases h3
              cases h4
              exact ⟨L, F, lm, rfl⟩
    subst h0
    have okAt : ∀ {H1 : Hp}, Gr g.lo g.H0 H1 → LoomOk ⟨g.lo, H1, Zof g []⟩ [] H1 := fun {H1} gr => loom_in ⟨gr.ok hl.ok, hl.nz⟩
    have nolo : ∀ {H1 : Hp} {p : Addr}, Gr g.lo g.H0 H1 → H1 p = none → ¬ g.lo.has p := fun {H1 p} gr hp m => (gr.ok hl.ok).ex m hp
    intro a ha
    have na : ¬ g.lo.has a := nolo (Gr.refl _) ha
    have s1 : Gr g.lo g.H0 (upd g.H0 a (.dT [])) := Gr.of_same (same_new ha)
    refine ⟨_, rfl, _, rfl, _, _, rfl, rfl, ?_⟩
    refine ⟨⟨g.lo, upd g.H0 a (.dT []), Zof g []⟩, [.lm, .d (.int (most + 1))], rfl, .cons ⟨L, F, lm, rfl⟩ (.cons (.int _) .nil), okAt s1, _, ⟨_, rfl, by omega, rfl⟩, ?_⟩
    rintro _ ⟨j, rfl, j0, j1⟩ v H1 gr1 dv
    cases dv
    have gr1 : Gr g.lo g.H0 H1 := s1.trans gr1
    have hA1 : H1 a = some (.dT []) := by
      have := (‹Gr g.lo (upd g.H0 a (.dT [])) H1›).kp a _ na upd_same
      exact this
    refine ⟨j, rfl, by omega, by omega, ?_⟩
    refine for_range (lo := 0) (n := j.toNat) (fun i σ H2 => ∃ (t5 : Option L2.V) (ks : List (List Int × Addr)) (V : List Int → Int × Int), σ = [some (.ref L), some (.int n), some (.int most), some (.int top), some (.ref a), t5] ∧ Gr g.lo g.H0 H2 ∧ H2 a = some (.dT (ks.map entI)) ∧ ks.length ≤ i ∧
        (∀ e ∈ ks, ¬ g.lo.has e.2 ∧ H2 e.2 = some (.tup [.int (V e.1).1, .int (V e.1).2])) ∧ ∀ e ∈ ks, TermOk n (e.1, V e.1)) ⟨none, [], fun _ => (0, 0), rfl, gr1, hA1, Nat.zero_le _, (fun e h => nomatch h), fun e h => nomatch h⟩ ?_ ?_
    · rintro i σ H2 hi ⟨t5, ks, V, rfl, gr2, hA, lk, hV, hT⟩
      have hi6 : i < 7 := by omega
      refine ⟨_, rfl, ⟨g.lo, H2, Zof g []⟩, rfl, .cons ⟨L, F, lm, rfl⟩ .nil, okAt gr2, fun H3 p x y hp gr3 hx hy => ?_⟩
      have s3 : Same H3 (upd H3 p (.tup [.int x, .int y])) := same_new hp
      have gr23 : Gr g.lo H2 (upd H3 p (.tup [.int x, .int y])) := gr3.trans (Gr.of_same s3)
      have np : ¬ g.lo.has p := nolo (gr2.trans gr3) hp
      have hv3 : (upd H3 p (.tup [.int x, .int y])) p = some (.tup [.int x, .int y]) := upd_same
      generalize upd H3 p (.tup [.int x, .int y]) = H4 at gr23 hv3 ⊢
      have gr4 := gr2.trans gr23
      refine ⟨_, rfl, _, rfl, _, rfl, _, rfl, ⟨g.lo, H4, Zof g []⟩, n, top, rfl, .cons ⟨L, F, lm, rfl⟩ (.cons (.int _) (.cons (.int _) .nil)), okAt gr4, n0, n6, t0, t6, fun H5 p' ns hp' gr5 ln hns => ?_⟩
      have s5 : Same H5 (upd H5 p' (.tup (ns.map L2.V.int))) := same_new hp'
      have gr25 : Gr g.lo H4 (upd H5 p' (.tup (ns.map L2.V.int))) := gr5.trans (Gr.of_same s5)
      have hk5 : (upd H5 p' (.tup (ns.map L2.V.int))) p' = some (.tup (ns.map L2.V.int)) := upd_same
      generalize upd H5 p' (.tup (ns.map L2.V.int)) = H6 at gr25 hk5 ⊢
      have hA6 : H6 a = some (.dT (ks.map entI)) := gr25.kp _ _ na (gr23.kp _ _ na hA)
      have hv6 : H6 p = some (.tup [.int x, .int y]) := gr25.kp _ _ np hv3
      have gr6 := gr4.trans gr25
      refine ⟨a, _, rfl, DPut.t (k := ns.map Sum.inl) hA6 (by rw [kV_ints]; exact hk5) (by rw [List.length_map, sizeLine_eq]; omega), ?_⟩
      rw [put_ent]
      have ne : ∀ {b : Addr} {xs : List L2.V}, H6 b = some (.tup xs) → b ≠ a := fun {b xs} e c => by rw [c, hA6] at e; cases e
      refine ⟨_, putI ks ns p, fun m => if m = ns then (x, y) else V m, rfl, ?_, upd_same, Nat.le_trans (putI_len ks ns p) (Nat.succ_le_succ lk), fun e he => ?_, fun e he => ?_⟩
      · refine ⟨fun b o nb e => ?_, fun h => (gr6.ok h).upd na⟩
        rw [upd_ne (fun c => by rw [c, ha] at e; cases e)]
        exact gr6.kp b o nb e
      · rcases putI_mem he with ⟨e1, e2⟩ | ⟨e1, e2⟩
        · rw [e2]
          refine ⟨np, ?_⟩
          rw [upd_ne (ne hv6), e1]
          dsimp only
          rw [if_pos rfl]
          exact hv6
        · obtain ⟨h1, h2⟩ := hV e e2
          have h6 := gr25.kp _ _ h1 (gr23.kp _ _ h1 h2)
          refine ⟨h1, ?_⟩
          rw [upd_ne (ne h6)]
          dsimp only
          rw [if_neg e1]
          exact h6
      · rcases putI_mem he with ⟨e1, e2⟩ | ⟨e1, e2⟩
        · show TermOk n (e.1, if e.1 = ns then (x, y) else V e.1)
          rw [if_pos e1, e1]
          exact ⟨ln, hns, hx, hy⟩
        · show TermOk n (e.1, if e.1 = ns then (x, y) else V e.1)
          rw [if_neg e1]
          exact hT e e2
    · rintro σ H2 ⟨t5, ks, V, rfl, gr2, hA, lk, hV, hT⟩
      refine ⟨_, rfl, a, ks, V, rfl, hA, by omega, fun e he => (hV e he).2, fun H' v ts s2 lt hts dv => ?_⟩
      refine hq _ ⟨ts, rfl, by omega, fun t ht => ?_⟩ v H' (gr2.trans (Gr.of_same s2)) (dv _)
      obtain ⟨e, he, e1, e2⟩ := hts t ht
      have := hT e he
      rw [← e2, ← e1] at this
      exact this
end
end Ev

set_option exponentiation.threshold 20000
namespace Ev
open PySem PySem.Spec PyProof.Rows L2
theorem ixN_small {n k : Nat} (h : k < n) : ixN n (k : Int) = some k := by
  unfold ixN
  simp
  omega
theorem pow_md {ps : List PyData} (l : ps.length ≤ 6) (h : ∀ p ∈ ps, ∃ i : Int, p = .int i ∧ 0 ≤ i ∧ i ≤ 60) : Md 150 1 (.tuple ps) :=
  (Mds.tuple (mds_le (m := 6) (n := 21) (k := 0) (fun p hp => by obtain ⟨i, rfl, i0, i6⟩ := h p hp; exact md_int (by omega)) l)).le (by decide) (by decide)
theorem fr_md {x y : Int} (hx : x.natAbs < 10 ^ 40) (hy : y.natAbs < 10 ^ 40) : Md 3900 1 (.tuple [.int x, .int y]) := by
  have mi : ∀ i : Int, i.natAbs < 10 ^ 40 → Md 1921 0 (.int i) := fun i hi => ⟨by simp only [fitx]; exact decide_eq_true (Nat.lt_of_lt_of_le hi (by decide +kernel)), by simp only [mz]; split <;> decide, by simp only [PyData.depth]; decide⟩
  exact (Mds.tuple (Mds.cons (mi _ hx) (Mds.cons (mi _ hy) Mds.nil))).le (by decide) (by decide)
theorem rep_zero : ∀ k : Nat, (List.replicate k [PyData.int 0]).flatten = (List.replicate k (0 : Int)).map PyData.int
  | 0 => rfl
  | k + 1 => by rw [List.replicate_succ, List.flatten_cons, rep_zero k, List.replicate_succ]; rfl
theorem term_md {n : Int} {t : List Int × Int × Int} (n6 : n ≤ 6) (h : TermOk n t) : Md 9000 2 (termOf t) := by
  obtain ⟨h1, h2, h3, h4⟩ := h
  have mi : ∀ i : Int, i.natAbs < 10 ^ 40 → Md 1921 0 (.int i) := fun i hi => ⟨by simp only [fitx]; exact decide_eq_true (Nat.lt_of_lt_of_le hi (by decide +kernel)), by simp only [mz]; split <;> decide, by simp only [PyData.depth]; decide⟩
  have mp : Mds 138 0 (t.1.map .int) := mds_le (m := 6) (n := 21) (fun p h => by obtain ⟨i, hi, rfl⟩ := List.mem_map.mp h; have := h2 i hi; exact md_int (by omega)) (by rw [List.length_map]; omega)
  exact (Mds.tuple (Mds.cons (Mds.tuple mp) (Mds.cons (Mds.tuple (Mds.cons (mi _ h3) (Mds.cons (mi _ h4) Mds.nil))) Mds.nil))).le (by decide) (by decide)
theorem terms_md {n : Int} {ts : List (List Int × Int × Int)} (n6 : n ≤ 6) (lt : ts.length ≤ 6) (h : ∀ t ∈ ts, TermOk n t) : Mds 60000 3 (ts.map termOf) :=
  (mds_le (m := 6) (n := 9000) (k := 2) (fun d hd => by obtain ⟨t, ht, rfl⟩ := List.mem_map.mp hd; exact term_md n6 (h t ht)) (by rw [List.length_map]; exact lt)).le (by decide) (by decide)
theorem terms_plain : ∀ ts : List (List Int × Int × Int), PyData.hasDictAll (ts.map termOf) = false ∧ PyData.canLayAll0 (ts.map termOf) = true ∧ PyData.depthAll (ts.map termOf) ≤ 2
  | [] => ⟨rfl, rfl, Nat.zero_le _⟩
  | t :: ts => by
    obtain ⟨a, b, c⟩ := terms_plain ts
    obtain ⟨a1, b1, c1⟩ := ints_plain (xs := t.1.map .int) (fun x h => by obtain ⟨i, _, rfl⟩ := List.mem_map.mp h; exact ⟨i, rfl⟩)
    rw [List.map_cons]
    refine ⟨?_, ?_, ?_⟩
    · simp only [PyData.hasDictAll, PyData.hasDict, termOf, a, a1]
      rfl
    · simp only [PyData.canLayAll0, PyData.canLay0, termOf, b, b1]
      rfl
    · simp only [PyData.depthAll, PyData.depth, termOf, c1]
      omega
theorem plain_terms (ts : List (List Int × Int × Int)) : plainD (.tuple (ts.map termOf)) = true := by
  obtain ⟨a, b, c⟩ := terms_plain ts
  simp only [plainD, PyData.hasDict, SeqAt.shaped, PyData.canLay0, PyData.depth, a, b]
  simp
  omega
section
variable {P : Program} {w : World} {K : PySem.W.Frag} {mg : Str → Option Value} {base : Heap} {A : Nat → Addr} {D : Nat → FuncData}
def nearR : RelD := fun ss P => ∃ (n : Int) (ts : List (List Int × Int × Int)), ss = [.lm, .d (.int n), .d (.tuple (ts.map termOf))] ∧ 0 ≤ n ∧ n ≤ 6 ∧ ts.length ≤ 6 ∧ (∀ t ∈ ts, TermOk n t) ∧ P = fun d => Md 200000 12 d
theorem Txt.ok_near (T : Txt K mg A D) : FnOk P w K mg base CX0 5 (A 19) (D 19) ["sack", "n", "poly"] (spD K nearR) := by
  refine okD T.F_near sc_near (by rintro ss P ⟨n, ts, rfl, _⟩; rfl) (fun cdv Ar outer s H E hr => ⟨_, (dss_cons (ds_set (i := 3) sc_near.nd rfl (Or.inl rfl) (DF.x (df_if (dt_cmp (o_ne hr.units) (de_v (pv 2)) (DE.r (de_tup da_nil)) (nomark _)) (df_list (by rfl) T.z_list (by decide +kernel) (DE.r (de_v (pv 2)))) (df_lst (da_cons (de_tup (da_cons (de_op o_repT (de_tup (da_cons de_int da_nil)) (DE.r (de_v (pv 1)))) (da_cons (de_tup (da_cons de_int (da_cons de_int da_nil))) da_nil))) da_nil)))))
    (dss_cons (ds_par (i := 4) (j := 5) rfl sc_near.nd rfl rfl (by decide) rfl rfl (DE.x (de_call T.ok_draw (hr.mono (by decide)) (by rfl) T.g_draw T.k_draw T.b_draw pass0 (dg_lm (pv 0) (dg_cons (de_c1 c_len (by rfl) T.z_len (by decide +kernel) (dr_o (pv 3))) dg_nil)))) (DE.x (de_call T.ok_draw (hr.mono (by decide)) (by rfl) T.g_draw T.k_draw T.b_draw pass0 (dg_lm (pv 0) (dg_cons de_int dg_nil)))) (by rfl))
    (dss_cons (ds_asg (de_ixo (i := 3) (pv 3) (de_v (pv 4)) (fun _ _ => rfl)) (dg_tup (n := 2) rfl (dgs_cons (dg_name (i := 6) sc_near.nd rfl (Or.inl rfl)) (dgs_cons (dg_name (i := 7) sc_near.nd rfl (Or.inl rfl)) dgs_nil))))
    (dss_cons (ds_if (dt_cmp (o_eq hr.units) (de_v (pv 5)) (DE.r de_int) (nomark _)) (dss_one (ds_ret (de_call T.ok_pick (hr.mono (by decide)) (by rfl) T.g_pick T.k_pick T.b_pick pass0 (dg_lm (pv 0) (dg_cons (DF.de (df_lst (da_cons (DF.de (df_list (by rfl) T.z_list (by decide +kernel) (DE.r (de_v (pv 2))))) (da_cons de_non (da_cons (de_dictN (by rfl) T.z_dict (by decide +kernel)) (da_cons (de_op o_add (de_v (pv 2)) (DE.r (de_tup (da_cons (de_tup da_nil) da_nil)))) (da_cons (de_op o_add (de_v (pv 2)) (DE.r (de_tup (da_cons de_non da_nil)))) (da_cons (de_tup (da_cons (de_v (pv 2)) da_nil)) da_nil)))))))) dg_nil))))) dss_nil)
    (dss_cons (ds_if (dt_cmp o_lt (de_v (pv 5)) (DE.r de_int) (nomark _)) (dss_cons (ds_setI (i := 3) (pv 3) (de_tup (da_cons (de_v (pv 6)) (da_cons (de_call T.ok_odd_share (hr.mono (by decide)) (by rfl) T.g_odd_share T.k_odd_share T.b_odd_share pass0 (dg_lm (pv 0) dg_nil)) da_nil))) (de_v (pv 4))) (dss_frz 3 dss_nil)) (dss_one (ds_if (dt_cmp o_lt (de_v (pv 5)) (DE.r de_int) (nomark _)) (dss_cons (ds_setI (i := 3) (pv 3) (de_tup (da_cons (de_call T.ok_odd_powers (hr.mono (by decide)) (by rfl) T.g_odd_powers T.k_odd_powers T.b_odd_powers pass0 (dg_lm (pv 0) (dg_cons (de_v (pv 6)) dg_nil))) (da_cons (de_v (pv 7)) da_nil))) (de_v (pv 4))) (dss_frz 3 dss_nil)) (dss_one (ds_if (dt_cmp (o_eq hr.units) (de_v (pv 5)) (DE.r de_int) (nomark _)) (dss_cons (ds_setI (i := 3) (pv 3) (de_call T.ok_pick (hr.mono (by decide)) (by rfl) T.g_pick T.k_pick T.b_pick pass0 (dg_lm (pv 0) (dg_cons (DF.de (df_lst (da_cons (DF.de (df_lst (da_cons (de_v (pv 6)) (da_cons (de_v (pv 7)) da_nil)))) (da_cons (de_tup (da_cons (de_v (pv 6)) (da_cons (de_v (pv 7)) (da_cons de_int da_nil)))) (da_cons (de_tup (da_cons (de_v (pv 6)) da_nil)) (da_cons (de_tup (da_cons (de_v (pv 7)) (da_cons (de_v (pv 6)) da_nil))) (da_cons (de_v (pv 6)) (da_cons de_int da_nil)))))))) dg_nil))) (de_v (pv 4))) (dss_frz 3 dss_nil)) (dss_one (ds_if (dt_cmp (o_eq hr.units) (de_v (pv 5)) (DE.r de_int) (nomark _)) (dss_frz 3 (dss_one (ds_set (i := 3) sc_near.nd rfl (Or.inl rfl) (DE.x (de_revL (de_v (pv 3))))))) (dss_one (ds_if (dt_cmp (o_eq hr.units) (de_v (pv 5)) (DE.r de_int) (nomark _)) (dss_frz 3 (dss_one (ds_set (i := 3) sc_near.nd rfl (Or.inl rfl) (DE.x (de_op o_add (de_op o_add (de_sl (de_v (pv 3)) do_none (do_some (de_v (pv 4)))) (DE.r (DF.de (df_lst (da_cons (de_tup (da_cons (de_v (pv 6)) (da_cons (de_tup (da_cons de_int (da_cons de_int da_nil))) da_nil))) da_nil))))) (DE.r (de_sl (de_v (pv 3)) (do_some (de_v (pv 4))) do_none))))))) (dss_one (ds_if (dt_cmp (o_eq hr.units) (de_v (pv 5)) (DE.r de_int) (nomark _)) (dss_frz 3 (dss_one (ds_set (i := 3) sc_near.nd rfl (Or.inl rfl) (DE.x (de_op o_add (de_revL (de_v (pv 3))) (DE.r (DF.de (df_lst (da_cons (de_tup (da_cons (de_v (pv 6)) (da_cons (de_call T.ok_odd_share (hr.mono (by decide)) (by rfl) T.g_odd_share T.k_odd_share T.b_odd_share pass0 (dg_lm (pv 0) dg_nil)) da_nil))) da_nil))))))))) (dss_frz 3 (dss_one (ds_set (i := 3) sc_near.nd rfl (Or.inl rfl) (DE.x (de_call T.ok_mixed (hr.mono (by decide)) (by rfl) T.g_mixed T.k_mixed T.b_mixed pass0 (dg_lm (pv 0) (dg_cons (de_op o_add (de_v (pv 3)) (DE.r (DF.de (df_lst (da_cons (de_tup (da_cons (de_call T.ok_powers (hr.mono (by decide)) (by rfl) T.g_powers T.k_powers T.b_powers pass0 (dg_lm (pv 0) (dg_cons (de_v (pv 1)) (dg_cons de_int dg_nil)))) (da_cons (de_tup (da_cons de_int (da_cons de_int da_nil))) da_nil))) da_nil))))) dg_nil))))))))))))))))))
    (dss_one (ds_ret (de_cT c_tuple (by rfl) T.z_tuple (by decide +kernel) (DE.r (de_v (pv 3))))))))))), ?_⟩)
  rintro ss P ⟨n, ts, rfl, n0, n6, lt, hts, rfl⟩
  have mt : Mds 60000 3 (ts.map termOf) := terms_md n6 lt hts
  simp only [dIfF, dRevL, dSeq, dIfS, dRet, dRetN, dSet, dPar, dPar3, dAsg, dFor, dDrop, dNext, dBrk, dCnt, dAug, dApp, dExt, dPop, dPopAt, dSetI, dFrz, xD, xF, dC, dV, dO, dOp, dOpO, dB, dCh, dAnd, dOr, dNot, dAndV, dOrV, dNotV, dNotT, dIf, dNil, dCons, gNilD, gConsD, gLm, dTup, dLst, dLs, dSl, dSlO, dNo, dSo, d1, dIsi, dList, dCall, dCallK, putS, dGcd, dNeg, dLc, dYes, wTupI, wLstI, wRng1, wRng2, wEnT, wEnL, wName, wNil, wCons, wTup, subD, mulD, divD, modD, powD, ltD, leD, gtD, geD, reprD, wipeD, uns, gDef, dRmG, dRmS, gRm, gConsR, gLmR, dCallR, reRm, dRoom, unrm, dKvIx, dKvGet, dLcm, dListRg, wZip, dKtIn, dKtIx, sumD, sortID, keyD, wStrI, dSplit, catF, catFO, gOwnB, dCallB, wZipT, List.cons_append, List.nil_append, List.length_cons, List.length_nil, List.replicate, List.getElem?_cons_zero, List.getElem?_cons_succ, List.set_cons_zero, List.set_cons_succ, List.map_cons, List.map_nil, List.getD_cons_zero, List.getD_cons_succ, ↓reduceIte, Bool.not_true, Bool.not_false, Bool.false_eq_true, sof_fn1, sof_fn2, sof_fn1p, sof_fn2p, eqv_int, eqv_str, plain_int, plain_bool, plain_none, true_and, and_true, sizeLine_eq, Nat.reduceAdd, Nat.reduceLeDiff, Nat.zero_add, addD_int, addD_str, addD_tup, addD_list, intF_int, intD_int, eqD_int, eqD_str, neD_int, neD_str, inD_list, inD_tup, isND_none, ixD_t0, ixD_t1, ixD_t2, ixD_t3, ixD_l0, lenD_tup, lenD_list, lenD_str, absD_int, toIntD_int, toIntD_bool, toStrD_int, tupleD_list, tupleD_tup, cutSq_tup, cutSq_list, cutSq_str, isInt_none, isInt_bool, isInt_int, isInt_str, isInt_list, isInt_tup, isInt_dict, isBool_none, isBool_bool, isBool_int, isBool_str, isBool_list, isBool_tup, isBool_dict, isStr_none, isStr_bool, isStr_int, isStr_str, isStr_list, isStr_tup, isStr_dict, isTup_none, isTup_bool, isTup_int, isTup_str, isTup_list, isTup_tup, isTup_dict, isLst_none, isLst_bool, isLst_int, isLst_str, isLst_list, isLst_tup, isLst_dict, eqSD_str, neSD_str, inKvD_str, eqE_tup, eqEL_list, inSD_one, ordSD_str, notInSD_one, intB_int, intB_bool]
  show plainD _ = true ∧ plainD _ = true ∧ _
  refine ⟨plain_terms ts, plain_ints (fun x h => nomatch h), ?_⟩
  have fin : ∀ xs : List PyData, xs.length ≤ 14 → (∀ d ∈ xs, Md 9500 5 d) → Md 200000 12 (.tuple xs) := fun xs l h => (Mds.tuple (mds_le h l)).le (by decide) (by decide)
  have two : ∃ us : List (List Int × Int × Int), us = (List.replicate n.toNat 0, 1, 2) :: [] ∧ ∀ t ∈ us, TermOk n t := ⟨_, rfl, fun t ht => by
    rw [List.mem_singleton.mp ht]
    exact ⟨by rw [List.length_replicate]; omega, fun i hi => by rw [(List.mem_replicate.mp hi).2]; decide, by show (1 : Int).natAbs < 10 ^ 40; decide +kernel, by show (2 : Int).natAbs < 10 ^ 40; decide +kernel⟩⟩
  dsimp only
  refine ite_both2 (fun hc => ?_) (fun _ => ?_)
  · have pos : 0 < ts.length := by
      cases ts with
      | nil => cases hc
      | cons x xs => exact Nat.succ_pos _
    obtain ⟨us, hus⟩ : ∃ us, us = ts := ⟨_, rfl⟩
    have hk : ∀ t ∈ us, TermOk n t := by rw [hus]; exact hts
    have l1 : 0 < us.length := by rw [hus]; exact pos
    have l6 : us.length ≤ 6 := by rw [hus]; exact lt
    rw [← hus] at mt ⊢
    refine ⟨_, ⟨_, rfl, by rw [List.length_map]; omega, rfl⟩, ?_⟩
    rintro _ ⟨j, rfl, j0, j1⟩
    refine ⟨_, ⟨_, rfl, by decide, rfl⟩, ?_⟩
    rintro _ ⟨si, rfl, _, _⟩
    obtain ⟨k, rfl⟩ : ∃ k : Nat, j = (k : Int) := ⟨j.toNat, by omega⟩
    have hk6 : k < us.length := by rw [List.length_map] at j1; omega
    obtain ⟨u, eu⟩ : ∃ u, us[k]? = some u := ⟨_, List.getElem?_eq_getElem hk6⟩
    have uk : TermOk n u := hk u (List.mem_of_getElem? eu)
    have eo : (us.map termOf)[k]? = some (termOf u) := by rw [List.getElem?_map, eu]; rfl
    rw [ixD_ofL (atI_nat eo), show termOf u = .tuple [.tuple (u.1.map .int), .tuple [.int u.2.1, .int u.2.2]] from rfl]
    have el : ∀ d ∈ us.map termOf, Md 9500 5 d := fun d hd => by
      obtain ⟨t, ht, rfl⟩ := List.mem_map.mp hd
      exact (term_md n6 (hk t ht)).le (by decide) (by decide)
    have lu : (us.map termOf).length = us.length := List.length_map ..
    have ixk : ixN (us.map termOf).length (k : Int) = some k := ixN_small (by omega)
    have hp6 : (u.1.map PyData.int).length ≤ 6 := by rw [List.length_map]; have := uk.1; omega
    have hpi : ∀ p ∈ u.1.map PyData.int, ∃ i : Int, p = .int i ∧ 0 ≤ i ∧ i ≤ 60 := fun p h => by
      obtain ⟨i, hi, rfl⟩ := List.mem_map.mp h
      exact ⟨i, rfl, uk.2.1 i hi⟩
    simp only [dSeq, dIfS, dRet, dRetN, dSet, dPar, dPar3, dAsg, dFor, dDrop, dNext, dBrk, dCnt, dAug, dApp, dExt, dPop, dPopAt, dSetI, dFrz, xD, xF, dC, dV, dO, dOp, dOpO, dB, dCh, dAnd, dOr, dNot, dAndV, dOrV, dNotV, dNotT, dIf, dNil, dCons, gNilD, gConsD, gLm, dTup, dLst, dLs, dSl, dSlO, dNo, dSo, d1, dIsi, dList, dCall, dCallK, putS, dGcd, dNeg, dLc, dYes, wTupI, wLstI, wRng1, wRng2, wEnT, wEnL, wName, wNil, wCons, wTup, subD, mulD, divD, modD, powD, ltD, leD, gtD, geD, reprD, wipeD, uns, gDef, dRmG, dRmS, gRm, gConsR, gLmR, dCallR, reRm, dRoom, unrm, dKvIx, dKvGet, dLcm, dListRg, wZip, dKtIn, dKtIx, sumD, sortID, keyD, wStrI, dSplit, catF, catFO, gOwnB, dCallB, wZipT, List.cons_append, List.nil_append, List.length_cons, List.length_nil, List.replicate, List.getElem?_cons_zero, List.getElem?_cons_succ, List.set_cons_zero, List.set_cons_succ, List.map_cons, List.map_nil, List.getD_cons_zero, List.getD_cons_succ, ↓reduceIte, Bool.not_true, Bool.not_false, Bool.false_eq_true, sof_fn1, sof_fn2, sof_fn1p, sof_fn2p, eqv_int, eqv_str, plain_int, plain_bool, plain_none, true_and, and_true, sizeLine_eq, Nat.reduceAdd, Nat.reduceLeDiff, Nat.zero_add, addD_int, addD_str, addD_tup, addD_list, intF_int, intD_int, eqD_int, eqD_str, neD_int, neD_str, inD_list, inD_tup, isND_none, ixD_t0, ixD_t1, ixD_t2, ixD_t3, ixD_l0, lenD_tup, lenD_list, lenD_str, absD_int, toIntD_int, toIntD_bool, toStrD_int, tupleD_list, tupleD_tup, cutSq_tup, cutSq_list, cutSq_str, isInt_none, isInt_bool, isInt_int, isInt_str, isInt_list, isInt_tup, isInt_dict, isBool_none, isBool_bool, isBool_int, isBool_str, isBool_list, isBool_tup, isBool_dict, isStr_none, isStr_bool, isStr_int, isStr_str, isStr_list, isStr_tup, isStr_dict, isTup_none, isTup_bool, isTup_int, isTup_str, isTup_list, isTup_tup, isTup_dict, isLst_none, isLst_bool, isLst_int, isLst_str, isLst_list, isLst_tup, isLst_dict, eqSD_str, neSD_str, inKvD_str, eqE_tup, eqEL_list, inSD_one, ordSD_str, notInSD_one, intB_int, intB_bool]
    have setOk : ∀ x, Md 9500 5 x → Md 200000 12 (.tuple ((us.map termOf).set k x)) := fun x hx => fin _ (by rw [List.length_set]; omega) fun d hd => by
      rcases List.mem_or_eq_of_mem_set hd with h | h
      · exact el d h
      · rw [h]; exact hx
    have mp := pow_md hp6 hpi
    have mf := fr_md uk.2.2.1 uk.2.2.2
    have ac : ∀ lo hi, (cutD (us.map termOf) lo hi).length ≤ 6 := fun lo hi => by
      unfold cutD
      rw [List.length_take, List.length_drop]
      omega
    have ec : ∀ lo hi, ∀ d ∈ cutD (us.map termOf) lo hi, Md 9500 5 d := fun lo hi d hd => el d (cutD_mem hd)
    have er : ∀ d ∈ (us.map termOf).reverse, Md 9500 5 d := fun d hd => el d (List.mem_reverse.mp hd)
    have lr : (us.map termOf).reverse.length ≤ 6 := by rw [List.length_reverse]; omega
    have one : ∀ {xs : List PyData} {x : PyData}, (∀ d ∈ xs, Md 9500 5 d) → Md 9500 5 x → ∀ d ∈ xs ++ [x], Md 9500 5 d := fun {xs x} h hx d hd => by
      rcases List.mem_append.mp hd with hd | hd
      · exact h d hd
      · rw [List.mem_singleton.mp hd]; exact hx
    refine ite_both2 (fun _ => ?_) (fun _ => ite_both2 (fun _ => ?_) (fun _ => ite_both2 (fun _ => ?_) (fun _ => ite_both2 (fun _ => ?_) (fun _ => ite_both2 (fun _ => ?_) (fun _ => ite_both2 (fun _ => ?_) (fun _ => ite_both2 (fun _ => ?_) (fun _ => ?_)))))))
    · refine ⟨by rw [List.length_map]; omega, by rw [List.length_map]; omega, _, ⟨_, rfl, by simp, by simp, rfl⟩, fun d hd => ?_⟩
      simp only [List.mem_cons, List.not_mem_nil, or_false] at hd
      rcases hd with rfl | rfl | rfl | rfl | rfl | rfl
      · exact (Mds.list mt).le (by decide) (by decide)
      · exact md_none.le (by decide) (by decide)
      · exact (md_of (n := 100) (k := 3) (by decide +kernel)).le (by decide) (by decide)
      · exact (Mds.tuple (Mds.app mt (Mds.cons (md_of (n := 100) (k := 3) (by decide +kernel)) Mds.nil))).le (by decide) (by decide)
      · exact (Mds.tuple (Mds.app mt (Mds.cons md_none Mds.nil))).le (by decide) (by decide)
      · exact (Mds.tuple (Mds.cons (Mds.tuple mt) Mds.nil)).le (by decide) (by decide)
    · refine ⟨_, ⟨rfl, rfl⟩, fun d hd => ?_⟩
      rw [ixk]
      exact setOk _ ((Mds.tuple (Mds.cons mp (Mds.cons (oddS_md d hd) Mds.nil))).le (by decide) (by decide))
    · refine ⟨_, ⟨_, rfl, hp6, hpi, rfl⟩, fun d hd => ?_⟩
      rw [ixk]
      exact setOk _ ((Mds.tuple (Mds.cons (show Md 300 2 d from hd) (Mds.cons mf Mds.nil))).le (by decide) (by decide))
    · refine ⟨_, ⟨_, rfl, by simp, by simp, rfl⟩, fun d hd => ?_⟩
      rw [ixk]
      refine setOk _ ?_
      simp only [List.mem_cons, List.not_mem_nil, or_false] at hd
      rcases hd with rfl | rfl | rfl | rfl | rfl | rfl
      · exact (Mds.list (Mds.cons mp (Mds.cons mf Mds.nil))).le (by decide) (by decide)
      · exact (Mds.tuple (Mds.cons mp (Mds.cons mf (Mds.cons (md_int (by decide)) Mds.nil)))).le (by decide) (by decide)
      · exact (Mds.tuple (Mds.cons mp Mds.nil)).le (by decide) (by decide)
      · exact (Mds.tuple (Mds.cons mf (Mds.cons mp Mds.nil))).le (by decide) (by decide)
      · exact mp.le (by decide) (by decide)
      · exact (md_int (by decide)).le (by decide) (by decide)
    · exact fin _ (by omega) er
    · refine ⟨by have := ac none (some (k : Int)); omega, ?_, fin _ ?_ ?_⟩
      · rw [List.length_append]; have := ac none (some (k : Int)); have := ac (some (k : Int)) none; simp only [List.length_cons, List.length_nil]; omega
      · rw [List.length_append, List.length_append]; have := ac none (some (k : Int)); have := ac (some (k : Int)) none; simp only [List.length_cons, List.length_nil]; omega
      · intro d hd
        rcases List.mem_append.mp hd with hd | hd
        · exact one (ec none (some (k : Int))) ((Mds.tuple (Mds.cons mp (Mds.cons (md_of (n := 100) (k := 1) (by decide +kernel)) Mds.nil))).le (by decide) (by decide)) d hd
        · exact ec _ _ d hd
    · refine ⟨_, ⟨rfl, rfl⟩, fun d hd => ⟨by omega, fin _ (by rw [List.length_append]; simp only [List.length_cons, List.length_nil]; omega) (one er ((Mds.tuple (Mds.cons mp (Mds.cons (oddS_md d hd) Mds.nil))).le (by decide) (by decide)))⟩⟩
    · refine ⟨_, ⟨n, 9, rfl, n0, n6, by decide, by decide, rfl⟩, ?_⟩
      rintro _ ⟨ps, rfl, lps, hps⟩
      have m57 : Md 9500 5 (.tuple [.tuple ps, .tuple [.int 5, .int 7]]) := (Mds.tuple (Mds.cons (pow_md (by omega) hps) (Mds.cons (md_of (n := 100) (k := 1) (by decide +kernel)) Mds.nil))).le (by decide) (by decide)
      refine ⟨by omega, _, ⟨_, rfl, by rw [List.length_append]; simp only [List.length_cons, List.length_nil]; omega, rfl⟩, ?_⟩
      rintro _ ⟨ys, rfl, hpm⟩
      rw [tupleD_list]
      exact fin ys (by rw [hpm.length_eq, List.length_append]; simp only [List.length_cons, List.length_nil]; omega) fun d hd => one el m57 d (hpm.mem_iff.mp hd)
  · rw [repT_tup]
    refine ⟨by omega, by omega, by simp only [sizeLine_eq, List.length_cons, List.length_nil]; omega, ?_⟩
    obtain ⟨us, hus, hk⟩ := two
    have e1 : [PyData.tuple [PyData.tuple (List.replicate n.toNat [PyData.int 0]).flatten, PyData.tuple [PyData.int 1, PyData.int 2]]] = us.map termOf := by
      rw [hus]
      show [_] = [PyData.tuple [PyData.tuple ((List.replicate n.toNat (0 : Int)).map PyData.int), PyData.tuple [PyData.int 1, PyData.int 2]]]
      rw [rep_zero]
    have l1 : 0 < us.length := by rw [hus]; exact Nat.succ_pos _
    have l6 : us.length ≤ 6 := by rw [hus]; show 1 ≤ 6; decide
    rw [e1]
    refine ⟨_, ⟨_, rfl, by decide, rfl⟩, ?_⟩
    rintro _ ⟨j, rfl, j0, j1⟩
    refine ⟨_, ⟨_, rfl, by decide, rfl⟩, ?_⟩
    rintro _ ⟨si, rfl, _, _⟩
    obtain ⟨k, rfl⟩ : ∃ k : Nat, j = (k : Int) := ⟨j.toNat, by omega⟩
    have hk6 : k < us.length := by omega
    obtain ⟨u, eu⟩ : ∃ u, us[k]? = some u := ⟨_, List.getElem?_eq_getElem hk6⟩
    have uk : TermOk n u := hk u (List.mem_of_getElem? eu)
    have eo : (us.map termOf)[k]? = some (termOf u) := by rw [List.getElem?_map, eu]; rfl
    rw [ixD_ofL (atI_nat eo), show termOf u = .tuple [.tuple (u.1.map .int), .tuple [.int u.2.1, .int u.2.2]] from rfl]
    have el : ∀ d ∈ us.map termOf, Md 9500 5 d := fun d hd => by
      obtain ⟨t, ht, rfl⟩ := List.mem_map.mp hd
      exact (term_md n6 (hk t ht)).le (by decide) (by decide)
    have lu : (us.map termOf).length = us.length := List.length_map ..
    have ixk : ixN (us.map termOf).length (k : Int) = some k := ixN_small (by omega)
    have hp6 : (u.1.map PyData.int).length ≤ 6 := by rw [List.length_map]; have := uk.1; omega
    have hpi : ∀ p ∈ u.1.map PyData.int, ∃ i : Int, p = .int i ∧ 0 ≤ i ∧ i ≤ 60 := fun p h => by
      obtain ⟨i, hi, rfl⟩ := List.mem_map.mp h
      exact ⟨i, rfl, uk.2.1 i hi⟩
    simp only [dSeq, dIfS, dRet, dRetN, dSet, dPar, dPar3, dAsg, dFor, dDrop, dNext, dBrk, dCnt, dAug, dApp, dExt, dPop, dPopAt, dSetI, dFrz, xD, xF, dC, dV, dO, dOp, dOpO, dB, dCh, dAnd, dOr, dNot, dAndV, dOrV, dNotV, dNotT, dIf, dNil, dCons, gNilD, gConsD, gLm, dTup, dLst, dLs, dSl, dSlO, dNo, dSo, d1, dIsi, dList, dCall, dCallK, putS, dGcd, dNeg, dLc, dYes, wTupI, wLstI, wRng1, wRng2, wEnT, wEnL, wName, wNil, wCons, wTup, subD, mulD, divD, modD, powD, ltD, leD, gtD, geD, reprD, wipeD, uns, gDef, dRmG, dRmS, gRm, gConsR, gLmR, dCallR, reRm, dRoom, unrm, dKvIx, dKvGet, dLcm, dListRg, wZip, dKtIn, dKtIx, sumD, sortID, keyD, wStrI, dSplit, catF, catFO, gOwnB, dCallB, wZipT, List.cons_append, List.nil_append, List.length_cons, List.length_nil, List.replicate, List.getElem?_cons_zero, List.getElem?_cons_succ, List.set_cons_zero, List.set_cons_succ, List.map_cons, List.map_nil, List.getD_cons_zero, List.getD_cons_succ, ↓reduceIte, Bool.not_true, Bool.not_false, Bool.false_eq_true, sof_fn1, sof_fn2, sof_fn1p, sof_fn2p, eqv_int, eqv_str, plain_int, plain_bool, plain_none, true_and, and_true, sizeLine_eq, Nat.reduceAdd, Nat.reduceLeDiff, Nat.zero_add, addD_int, addD_str, addD_tup, addD_list, intF_int, intD_int, eqD_int, eqD_str, neD_int, neD_str, inD_list, inD_tup, isND_none, ixD_t0, ixD_t1, ixD_t2, ixD_t3, ixD_l0, lenD_tup, lenD_list, lenD_str, absD_int, toIntD_int, toIntD_bool, toStrD_int, tupleD_list, tupleD_tup, cutSq_tup, cutSq_list, cutSq_str, isInt_none, isInt_bool, isInt_int, isInt_str, isInt_list, isInt_tup, isInt_dict, isBool_none, isBool_bool, isBool_int, isBool_str, isBool_list, isBool_tup, isBool_dict, isStr_none, isStr_bool, isStr_int, isStr_str, isStr_list, isStr_tup, isStr_dict, isTup_none, isTup_bool, isTup_int, isTup_str, isTup_list, isTup_tup, isTup_dict, isLst_none, isLst_bool, isLst_int, isLst_str, isLst_list, isLst_tup, isLst_dict, eqSD_str, neSD_str, inKvD_str, eqE_tup, eqEL_list, inSD_one, ordSD_str, notInSD_one, intB_int, intB_bool]
    have setOk : ∀ x, Md 9500 5 x → Md 200000 12 (.tuple ((us.map termOf).set k x)) := fun x hx => fin _ (by rw [List.length_set]; omega) fun d hd => by
      rcases List.mem_or_eq_of_mem_set hd with h | h
      · exact el d h
      · rw [h]; exact hx
    have mp := pow_md hp6 hpi
    have mf := fr_md uk.2.2.1 uk.2.2.2
    have ac : ∀ lo hi, (cutD (us.map termOf) lo hi).length ≤ 6 := fun lo hi => by
      unfold cutD
      rw [List.length_take, List.length_drop]
      omega
    have ec : ∀ lo hi, ∀ d ∈ cutD (us.map termOf) lo hi, Md 9500 5 d := fun lo hi d hd => el d (cutD_mem hd)
    have er : ∀ d ∈ (us.map termOf).reverse, Md 9500 5 d := fun d hd => el d (List.mem_reverse.mp hd)
    have lr : (us.map termOf).reverse.length ≤ 6 := by rw [List.length_reverse]; omega
    have one : ∀ {xs : List PyData} {x : PyData}, (∀ d ∈ xs, Md 9500 5 d) → Md 9500 5 x → ∀ d ∈ xs ++ [x], Md 9500 5 d := fun {xs x} h hx d hd => by
      rcases List.mem_append.mp hd with hd | hd
      · exact h d hd
      · rw [List.mem_singleton.mp hd]; exact hx
    refine ite_both2 (fun _ => ?_) (fun _ => ite_both2 (fun _ => ?_) (fun _ => ite_both2 (fun _ => ?_) (fun _ => ite_both2 (fun _ => ?_) (fun _ => ite_both2 (fun _ => ?_) (fun _ => ite_both2 (fun _ => ?_) (fun _ => ite_both2 (fun _ => ?_) (fun _ => ?_)))))))
    · refine ⟨by rw [List.length_map]; omega, by rw [List.length_map]; omega, _, ⟨_, rfl, by simp, by simp, rfl⟩, fun d hd => ?_⟩
      simp only [List.mem_cons, List.not_mem_nil, or_false] at hd
      rcases hd with rfl | rfl | rfl | rfl | rfl | rfl
      · exact (Mds.list mt).le (by decide) (by decide)
      · exact md_none.le (by decide) (by decide)
      · exact (md_of (n := 100) (k := 3) (by decide +kernel)).le (by decide) (by decide)
      · exact (Mds.tuple (Mds.app mt (Mds.cons (md_of (n := 100) (k := 3) (by decide +kernel)) Mds.nil))).le (by decide) (by decide)
      · exact (Mds.tuple (Mds.app mt (Mds.cons md_none Mds.nil))).le (by decide) (by decide)
      · exact (Mds.tuple (Mds.cons (Mds.tuple mt) Mds.nil)).le (by decide) (by decide)
    · refine ⟨_, ⟨rfl, rfl⟩, fun d hd => ?_⟩
      rw [ixk]
      exact setOk _ ((Mds.tuple (Mds.cons mp (Mds.cons (oddS_md d hd) Mds.nil))).le (by decide) (by decide))
    · refine ⟨_, ⟨_, rfl, hp6, hpi, rfl⟩, fun d hd => ?_⟩
      rw [ixk]
      exact setOk _ ((Mds.tuple (Mds.cons (show Md 300 2 d from hd) (Mds.cons mf Mds.nil))).le (by decide) (by decide))
    · refine ⟨_, ⟨_, rfl, by simp, by simp, rfl⟩, fun d hd => ?_⟩
      rw [ixk]
      refine setOk _ ?_
      simp only [List.mem_cons, List.not_mem_nil, or_false] at hd
      rcases hd with rfl | rfl | rfl | rfl | rfl | rfl
      · exact (Mds.list (Mds.cons mp (Mds.cons mf Mds.nil))).le (by decide) (by decide)
      · exact (Mds.tuple (Mds.cons mp (Mds.cons mf (Mds.cons (md_int (by decide)) Mds.nil)))).le (by decide) (by decide)
      · exact (Mds.tuple (Mds.cons mp Mds.nil)).le (by decide) (by decide)
      · exact (Mds.tuple (Mds.cons mf (Mds.cons mp Mds.nil))).le (by decide) (by decide)
      · exact mp.le (by decide) (by decide)
      · exact (md_int (by decide)).le (by decide) (by decide)
    · exact fin _ (by omega) er
    · refine ⟨by have := ac none (some (k : Int)); omega, ?_, fin _ ?_ ?_⟩
      · rw [List.length_append]; have := ac none (some (k : Int)); have := ac (some (k : Int)) none; simp only [List.length_cons, List.length_nil]; omega
      · rw [List.length_append, List.length_append]; have := ac none (some (k : Int)); have := ac (some (k : Int)) none; simp only [List.length_cons, List.length_nil]; omega
      · intro d hd
        rcases List.mem_append.mp hd with hd | hd
        · exact one (ec none (some (k : Int))) ((Mds.tuple (Mds.cons mp (Mds.cons (md_of (n := 100) (k := 1) (by decide +kernel)) Mds.nil))).le (by decide) (by decide)) d hd
        · exact ec _ _ d hd
    · refine ⟨_, ⟨rfl, rfl⟩, fun d hd => ⟨by omega, fin _ (by rw [List.length_append]; simp only [List.length_cons, List.length_nil]; omega) (one er ((Mds.tuple (Mds.cons mp (Mds.cons (oddS_md d hd) Mds.nil))).le (by decide) (by decide)))⟩⟩
    · refine ⟨_, ⟨n, 9, rfl, n0, n6, by decide, by decide, rfl⟩, ?_⟩
      rintro _ ⟨ps, rfl, lps, hps⟩
      have m57 : Md 9500 5 (.tuple [.tuple ps, .tuple [.int 5, .int 7]]) := (Mds.tuple (Mds.cons (pow_md (by omega) hps) (Mds.cons (md_of (n := 100) (k := 1) (by decide +kernel)) Mds.nil))).le (by decide) (by decide)
      refine ⟨_, ⟨_, rfl, by show 2 ≤ 1000; decide, rfl⟩, ?_⟩
      rintro _ ⟨ys, rfl, hpm⟩
      rw [tupleD_list]
      refine fin ys (by rw [hpm.length_eq]; show 2 ≤ 14; decide) fun d hd => ?_
      have hd := hpm.mem_iff.mp hd
      simp only [List.mem_cons, List.not_mem_nil, or_false] at hd
      rcases hd with rfl | rfl
      · exact el _ (by rw [← e1]; exact List.mem_cons_self ..)
      · exact m57
end
end Ev

set_option exponentiation.threshold 20000
namespace Ev
open PySem PySem.Spec PyProof.Rows L2
section
variable {P : Program} {w : World} {K : PySem.W.Frag} {mg : Str → Option Value} {base : Heap} {A : Nat → Addr} {D : Nat → FuncData}
def sp_law (K : PySem.W.Frag) : Sp := fun vs H Q _ => ∃ (a : Addr) (ns : List Int), vs = [.ref a] ∧ SqL K H a (ns.map V.int) ∧ ns.length ≤ 63 ∧ ∀ H', Q (.bl true) H'
set_option maxHeartbeats 0 in
theorem Txt.ok_law (T : Txt K mg A D) : FnG P w K mg base CX0 7 (A 21) (D 21) ["script"] (sp_law K) := by
  refine okG T.F_law sc_law (fun vs H Q E h => ?_) (fun cdv Ar outer s H vs Q E hA hr h => ?_)
  · obtain ⟨a, ns, rfl, _⟩ := h
    rfl
  · obtain ⟨a0, ns, rfl, hS, hlen, q⟩ := h
    have hG : (Ar.deeper (envOfC (Str.ofString "law") (defScope s_law) s.heap.objs.size (A 21) cdv)).guards = some [] := hA
    refine okLaw (ρ := .un :: .lm :: List.replicate 6 .un) (ps_set (i := 1) sc_law.nd rfl (Or.inl rfl) (pe_call T.ok_sack (hr.mono (by decide)) (by rfl) T.g_sack T.k_sack T.b_sack .nil pass0 (pa_cons (pv 0) pa_nil)))
      ⟨_, (dss_cons (ds_for PassesOwn.never rfl (di_rng1 rfl T.range de_int) (dg_name (i := 2) sc_law.nd rfl (Or.inl rfl)) (dss_cons (ds_set (i := 3) sc_law.nd rfl (Or.inl rfl) (DE.x (de_call T.ok_pick (hr.mono (by decide)) (by rfl) T.g_pick T.k_pick T.b_pick pass0 (dg_lm (pv 1) (dg_cons (DF.de (df_lst (da_cons de_int (da_cons de_int (da_cons de_int (da_cons de_int (da_cons de_int (da_cons de_int (da_cons de_int da_nil (se_cons rfl)) (se_cons rfl)) (se_cons rfl)) (se_cons rfl)) (se_cons rfl)) (se_cons rfl)) (se_cons rfl)))) dg_nil)))))
    (dss_cons (ds_set (i := 4) sc_law.nd rfl (Or.inl rfl) (DE.x (de_call T.ok_poly (hr.mono (by decide)) (by rfl) T.g_poly T.k_poly T.b_poly pass0 (dg_lm (pv 1) (dg_cons (de_v (pv 3)) (dg_cons de_int (dg_cons (de_call T.ok_pick (hr.mono (by decide)) (by rfl) T.g_pick T.k_pick T.b_pick pass0 (dg_lm (pv 1) (dg_cons (DF.de (df_lst (da_cons de_int (da_cons de_int (da_cons de_int da_nil))))) dg_nil))) dg_nil)))))))
    (dss_cons (ds_if (DW.pt (dw_or (dt_not (dt_val (de_callG T.ok_is_told hG hr (by rfl) T.g_is_told T.k_is_told T.b_is_told pass0 (dg_cons (de_v (pv 3)) (dg_cons (de_v (pv 4)) (dg_cons (de_cmp (o_eq hr.units) (de_v (pv 2)) (DE.r de_int) (nomark _)) dg_nil)))))) (dw_or1 (dt_not (dt_val (de_callG T.ok_is_told hG hr (by rfl) T.g_is_told T.k_is_told T.b_is_told pass0 (dg_cons (de_op o_mod (de_cT c_int (by rfl) T.z_int (by decide +kernel) (DE.r (de_op o_add (de_v (pv 3)) (DE.r de_int)))) (DE.r de_int)) (dg_cons (de_v (pv 4)) (dg_cons de_bl dg_nil))))))))) (dss_one (ds_ret de_bl)) dss_nil)
    (dss_one (ds_for PassesOwn.never rfl (di_rng1 rfl T.range de_int) (dg_name (i := 5) sc_law.nd rfl (Or.inl rfl)) (dss_one (ds_if (dt_not (dt_val (de_callG T.ok_is_told hG hr (by rfl) T.g_is_told T.k_is_told T.b_is_told pass0 (dg_cons (de_v (pv 3)) (dg_cons (de_call T.ok_near (hr.mono (by decide)) (by rfl) T.g_near T.k_near T.b_near pass0 (dg_lm (pv 1) (dg_cons (de_v (pv 3)) (dg_cons (de_v (pv 4)) dg_nil)))) (dg_cons (de_cmp (o_eq hr.units) (de_v (pv 5)) (DE.r (de_v (pv 2))) (nomark _)) dg_nil)))))) (dss_one (ds_ret de_bl)) dss_nil))))))))
    (dss_cons (ds_set (i := 6) sc_law.nd rfl (Or.inl rfl) (DE.x (DF.de (df_lst (da_cons de_non (da_cons de_bl (da_cons de_int (da_cons (de_neg de_int) (da_cons de_str (da_cons de_str (da_cons (de_tup da_nil) (da_cons (DF.de (df_lst da_nil)) (da_cons de_dict0 (da_cons (de_tup (da_cons (de_tup da_nil) da_nil)) (da_cons (de_tup (da_cons (de_tup (da_cons (de_tup da_nil) da_nil)) da_nil)) (da_cons (de_tup (da_cons (de_tup da_nil) (da_cons (de_tup da_nil) da_nil))) (da_cons (de_tup (da_cons (de_tup da_nil) (da_cons (de_tup (da_cons de_int (da_cons de_int da_nil))) da_nil))) (da_cons (de_dictT (pps_cons pe_str (pe_tup pa_nil) pps_nil) (by rfl) (by rfl) (fun z => by cases z) (by decide)) da_nil (se_cons rfl)) (se_cons rfl)) (se_cons rfl)) (se_cons rfl)) (se_cons rfl)) (se_cons rfl)) (se_cons rfl)) (se_cons rfl)) (se_cons rfl)) (se_cons rfl)) (se_cons rfl)) (se_cons rfl)) (se_cons rfl)) (se_cons rfl))))))
    (dss_cons (ds_set (i := 6) sc_law.nd rfl (Or.inl rfl) (DE.x (de_op o_add (de_v (pv 6)) (DE.r (DF.de (df_lst (da_cons (de_tup (da_cons (de_tup (da_cons (de_tup da_nil) (da_cons (de_tup (da_cons de_int (da_cons de_int da_nil))) da_nil))) da_nil)) (da_cons (de_tup (da_cons (de_tup (da_cons (de_tup da_nil) (da_cons (de_tup (da_cons de_int (da_cons de_int da_nil))) da_nil))) (da_cons (de_tup (da_cons (de_tup da_nil) (da_cons (de_tup (da_cons de_int (da_cons de_int da_nil))) da_nil))) da_nil))) da_nil))))))))
    (dss_cons (ds_for PassesOwn.never rfl (di_lst (de_v (pv 6))) (dg_name (i := 7) sc_law.nd rfl (Or.inl rfl)) (dss_one (ds_for PassesOwn.never rfl (di_tup (de_tup (da_cons de_int (da_cons de_int da_nil)))) (dg_name (i := 3) sc_law.nd rfl (Or.inl rfl)) (dss_one (ds_if (dt_not (dt_val (de_callG T.ok_is_told hG hr (by rfl) T.g_is_told T.k_is_told T.b_is_told pass0 (dg_cons (de_v (pv 3)) (dg_cons (de_v (pv 7)) (dg_cons (de_cmp (o_eq hr.units) (de_v (pv 3)) (DE.r de_int) (nomark _)) dg_nil)))))) (dss_one (ds_ret de_bl)) dss_nil)))))
    (dss_one (ds_ret de_bl)))))), ?_⟩ (fun H' => q H') (fun N hN => ⟨_, rfl, a0, ns, rfl, hS, hlen, fun H0 L F sm lm hL hF => hN _ _ _ _ (rep_loom sm lm hL hF rfl fun i s e => ?_)⟩)
    · have told : ∀ (n : Int) (d : PyData) (b : Bool) (Q : PyData → Prop), Md 3000000 30 d → Q (.bool true) → Sof toldR [.d (.int n), .d d, .d (.bool b)] Q := fun n d b Q h3 hq => ⟨_, ⟨n, d, b, rfl, h3, rfl⟩, fun r hr => by rw [hr]; exact hq⟩
      simp only [dSeq, dIfS, dRet, dRetN, dSet, dPar, dPar3, dAsg, dFor, dDrop, dNext, dBrk, dCnt, dAug, dApp, dExt, dPop, dPopAt, dSetI, dFrz, xD, xF, dC, dV, dO, dOp, dOpO, dB, dCh, dAnd, dOr, dNot, dAndV, dOrV, dNotV, dNotT, dIf, dNil, dCons, gNilD, gConsD, gLm, dTup, dLst, dLs, dSl, dSlO, dNo, dSo, d1, dIsi, dList, dCall, dCallK, putS, dGcd, dNeg, dLc, dYes, wTupI, wLstI, wRng1, wRng2, wEnT, wEnL, wName, wNil, wCons, wTup, subD, mulD, divD, modD, powD, ltD, leD, gtD, geD, reprD, wipeD, uns, gDef, dRmG, dRmS, gRm, gConsR, gLmR, dCallR, reRm, dRoom, unrm, dKvIx, dKvGet, dLcm, dListRg, wZip, dKtIn, dKtIx, sumD, sortID, keyD, wStrI, dSplit, catF, catFO, gOwnB, dCallB, wZipT, List.cons_append, List.nil_append, List.length_cons, List.length_nil, List.replicate, List.getElem?_cons_zero, List.getElem?_cons_succ, List.set_cons_zero, List.set_cons_succ, List.map_cons, List.map_nil, List.getD_cons_zero, List.getD_cons_succ, ↓reduceIte, Bool.not_true, Bool.not_false, Bool.false_eq_true, sof_fn1, sof_fn2, sof_fn1p, sof_fn2p, eqv_int, eqv_str, plain_int, plain_bool, plain_none, true_and, and_true, sizeLine_eq, Nat.reduceAdd, Nat.reduceLeDiff, Nat.zero_add, addD_int, addD_str, addD_tup, addD_list, intF_int, intD_int, eqD_int, eqD_str, neD_int, neD_str, inD_list, inD_tup, isND_none, ixD_t0, ixD_t1, ixD_t2, ixD_t3, ixD_l0, lenD_tup, lenD_list, lenD_str, absD_int, toIntD_int, toIntD_bool, toStrD_int, tupleD_list, tupleD_tup, cutSq_tup, cutSq_list, cutSq_str, isInt_none, isInt_bool, isInt_int, isInt_str, isInt_list, isInt_tup, isInt_dict, isBool_none, isBool_bool, isBool_int, isBool_str, isBool_list, isBool_tup, isBool_dict, isStr_none, isStr_bool, isStr_int, isStr_str, isStr_list, isStr_tup, isStr_dict, isTup_none, isTup_bool, isTup_int, isTup_str, isTup_list, isTup_tup, isTup_dict, isLst_none, isLst_bool, isLst_int, isLst_str, isLst_list, isLst_tup, isLst_dict, eqSD_str, neSD_str, inKvD_str, eqE_tup, eqEL_list, inSD_one, ordSD_str, notInSD_one, intB_int, intB_bool]
      refine ⟨by decide, by decide, ?_⟩
      refine for_rng (fun i ρ => ∃ x2 x3 x4 x5 x6 x7, ρ = [.un, .lm, x2, x3, x4, x5, x6, x7]) ?_ ?_ ⟨_, _, _, _, _, _, rfl⟩
      · rintro ρ ⟨x2, x3, x4, x5, x6, x7, rfl⟩
        simp only [dSeq, dSet, xD, dLs, dLst, dCons, dNil, dC, dTup, dNeg, dOp, dRet, dCall, gLm, gConsD, gNilD, dV]
        iterate 11 refine ⟨by decide, ?_⟩
        simp only [dSeq, dIfS, dRet, dRetN, dSet, dPar, dPar3, dAsg, dFor, dDrop, dNext, dBrk, dCnt, dAug, dApp, dExt, dPop, dPopAt, dSetI, dFrz, xD, xF, dC, dV, dO, dOp, dOpO, dB, dCh, dAnd, dOr, dNot, dAndV, dOrV, dNotV, dNotT, dIf, dNil, dCons, gNilD, gConsD, gLm, dTup, dLst, dLs, dSl, dSlO, dNo, dSo, d1, dIsi, dList, dCall, dCallK, putS, dGcd, dNeg, dLc, dYes, wTupI, wLstI, wRng1, wRng2, wEnT, wEnL, wName, wNil, wCons, wTup, subD, mulD, divD, modD, powD, ltD, leD, gtD, geD, reprD, wipeD, uns, gDef, dRmG, dRmS, gRm, gConsR, gLmR, dCallR, reRm, dRoom, unrm, dKvIx, dKvGet, dLcm, dListRg, wZip, dKtIn, dKtIx, sumD, sortID, keyD, wStrI, dSplit, catF, catFO, gOwnB, dCallB, wZipT, List.cons_append, List.nil_append, List.length_cons, List.length_nil, List.replicate, List.getElem?_cons_zero, List.getElem?_cons_succ, List.set_cons_zero, List.set_cons_succ, List.map_cons, List.map_nil, List.getD_cons_zero, List.getD_cons_succ, ↓reduceIte, Bool.not_true, Bool.not_false, Bool.false_eq_true, sof_fn1, sof_fn2, sof_fn1p, sof_fn2p, eqv_int, eqv_str, plain_int, plain_bool, plain_none, true_and, and_true, sizeLine_eq, Nat.reduceAdd, Nat.reduceLeDiff, Nat.zero_add, addD_int, addD_str, addD_tup, addD_list, intF_int, intD_int, eqD_int, eqD_str, neD_int, neD_str, inD_list, inD_tup, isND_none, ixD_t0, ixD_t1, ixD_t2, ixD_t3, ixD_l0, lenD_tup, lenD_list, lenD_str, absD_int, toIntD_int, toIntD_bool, toStrD_int, tupleD_list, tupleD_tup, cutSq_tup, cutSq_list, cutSq_str, isInt_none, isInt_bool, isInt_int, isInt_str, isInt_list, isInt_tup, isInt_dict, isBool_none, isBool_bool, isBool_int, isBool_str, isBool_list, isBool_tup, isBool_dict, isStr_none, isStr_bool, isStr_int, isStr_str, isStr_list, isStr_tup, isStr_dict, isTup_none, isTup_bool, isTup_int, isTup_str, isTup_list, isTup_tup, isTup_dict, isLst_none, isLst_bool, isLst_int, isLst_str, isLst_list, isLst_tup, isLst_dict, eqSD_str, neSD_str, inKvD_str, eqE_tup, eqEL_list, inSD_one, ordSD_str, notInSD_one, intB_int, intB_bool]
        have md : ∀ d ∈ [PyData.none, PyData.bool true, PyData.int 0, PyData.int (-5), PyData.str (Str.ofString ""),
      PyData.str (Str.ofString "x"), PyData.tuple [], PyData.list [], PyData.dict [], PyData.tuple [PyData.tuple []],
      PyData.tuple [PyData.tuple [PyData.tuple []]], PyData.tuple [PyData.tuple [], PyData.tuple []],
      PyData.tuple [PyData.tuple [], PyData.tuple [PyData.int 1, PyData.int 2]],
      PyData.dict [(PyData.str (Str.ofString "a"), PyData.tuple [])],
      PyData.tuple [PyData.tuple [PyData.tuple [], PyData.tuple [PyData.int 1, PyData.int 2]]],
      PyData.tuple
        [PyData.tuple [PyData.tuple [], PyData.tuple [PyData.int 1, PyData.int 2]],
          PyData.tuple [PyData.tuple [], PyData.tuple [PyData.int 1, PyData.int 2]]]], Md 2000 6 d := md_list (by decide +kernel)
        generalize [PyData.none, PyData.bool true, PyData.int 0, PyData.int (-5), PyData.str (Str.ofString ""),
      PyData.str (Str.ofString "x"), PyData.tuple [], PyData.list [], PyData.dict [], PyData.tuple [PyData.tuple []],
      PyData.tuple [PyData.tuple [PyData.tuple []]], PyData.tuple [PyData.tuple [], PyData.tuple []],
      PyData.tuple [PyData.tuple [], PyData.tuple [PyData.int 1, PyData.int 2]],
      PyData.dict [(PyData.str (Str.ofString "a"), PyData.tuple [])],
      PyData.tuple [PyData.tuple [PyData.tuple [], PyData.tuple [PyData.int 1, PyData.int 2]]],
      PyData.tuple
        [PyData.tuple [PyData.tuple [], PyData.tuple [PyData.int 1, PyData.int 2]],
          PyData.tuple [PyData.tuple [], PyData.tuple [PyData.int 1, PyData.int 2]]]] = kinds at md ⊢
        refine for_at (fun _ ρ => ∃ x2 x3 x4 x5 x7, ρ = [.un, .lm, x2, x3, x4, x5, .d (.list kinds), x7]) ?_ ?_ ⟨_, _, _, _, _, rfl⟩
        · rintro ρ ⟨x2, x3, x4, x5, x7, rfl⟩
          rfl
        · rintro k x ρ N hk ex ⟨x2, x3, x4, x5, x7, rfl⟩ hN
          have mx := md x (List.mem_of_getElem? ex)
          simp only [dSeq, dIfS, dRet, dRetN, dSet, dPar, dPar3, dAsg, dFor, dDrop, dNext, dBrk, dCnt, dAug, dApp, dExt, dPop, dPopAt, dSetI, dFrz, xD, xF, dC, dV, dO, dOp, dOpO, dB, dCh, dAnd, dOr, dNot, dAndV, dOrV, dNotV, dNotT, dIf, dNil, dCons, gNilD, gConsD, gLm, dTup, dLst, dLs, dSl, dSlO, dNo, dSo, d1, dIsi, dList, dCall, dCallK, putS, dGcd, dNeg, dLc, dYes, wTupI, wLstI, wRng1, wRng2, wEnT, wEnL, wName, wNil, wCons, wTup, subD, mulD, divD, modD, powD, ltD, leD, gtD, geD, reprD, wipeD, uns, gDef, dRmG, dRmS, gRm, gConsR, gLmR, dCallR, reRm, dRoom, unrm, dKvIx, dKvGet, dLcm, dListRg, wZip, dKtIn, dKtIx, sumD, sortID, keyD, wStrI, dSplit, catF, catFO, gOwnB, dCallB, wZipT, List.cons_append, List.nil_append, List.length_cons, List.length_nil, List.replicate, List.getElem?_cons_zero, List.getElem?_cons_succ, List.set_cons_zero, List.set_cons_succ, List.map_cons, List.map_nil, List.getD_cons_zero, List.getD_cons_succ, ↓reduceIte, Bool.not_true, Bool.not_false, Bool.false_eq_true, sof_fn1, sof_fn2, sof_fn1p, sof_fn2p, eqv_int, eqv_str, plain_int, plain_bool, plain_none, true_and, and_true, sizeLine_eq, Nat.reduceAdd, Nat.reduceLeDiff, Nat.zero_add, addD_int, addD_str, addD_tup, addD_list, intF_int, intD_int, eqD_int, eqD_str, neD_int, neD_str, inD_list, inD_tup, isND_none, ixD_t0, ixD_t1, ixD_t2, ixD_t3, ixD_l0, lenD_tup, lenD_list, lenD_str, absD_int, toIntD_int, toIntD_bool, toStrD_int, tupleD_list, tupleD_tup, cutSq_tup, cutSq_list, cutSq_str, isInt_none, isInt_bool, isInt_int, isInt_str, isInt_list, isInt_tup, isInt_dict, isBool_none, isBool_bool, isBool_int, isBool_str, isBool_list, isBool_tup, isBool_dict, isStr_none, isStr_bool, isStr_int, isStr_str, isStr_list, isStr_tup, isStr_dict, isTup_none, isTup_bool, isTup_int, isTup_str, isTup_list, isTup_tup, isTup_dict, isLst_none, isLst_bool, isLst_int, isLst_str, isLst_list, isLst_tup, isLst_dict, eqSD_str, neSD_str, inKvD_str, eqE_tup, eqEL_list, inSD_one, ordSD_str, notInSD_one, intB_int, intB_bool]
          refine for_at (fun _ ρ => ∃ x2 x3 x4 x5, ρ = [.un, .lm, x2, x3, x4, x5, .d (.list kinds), .d x]) ?_ ?_ ⟨_, _, _, _, rfl⟩
          · rintro ρ ⟨x2, x3, x4, x5, rfl⟩
            exact hN _ ⟨_, _, _, _, _, rfl⟩
          · rintro k' y ρ N' hk' ey ⟨x2, x3, x4, x5, rfl⟩ hN'
            obtain ⟨m, rfl⟩ : ∃ m : Int, y = .int m := by
              have := List.mem_of_getElem? ey
              simp only [List.mem_cons, List.not_mem_nil, or_false] at this
              rcases this with rfl | rfl <;> exact ⟨_, rfl⟩
            simp only [dSeq, dIfS, dRet, dRetN, dSet, dPar, dPar3, dAsg, dFor, dDrop, dNext, dBrk, dCnt, dAug, dApp, dExt, dPop, dPopAt, dSetI, dFrz, xD, xF, dC, dV, dO, dOp, dOpO, dB, dCh, dAnd, dOr, dNot, dAndV, dOrV, dNotV, dNotT, dIf, dNil, dCons, gNilD, gConsD, gLm, dTup, dLst, dLs, dSl, dSlO, dNo, dSo, d1, dIsi, dList, dCall, dCallK, putS, dGcd, dNeg, dLc, dYes, wTupI, wLstI, wRng1, wRng2, wEnT, wEnL, wName, wNil, wCons, wTup, subD, mulD, divD, modD, powD, ltD, leD, gtD, geD, reprD, wipeD, uns, gDef, dRmG, dRmS, gRm, gConsR, gLmR, dCallR, reRm, dRoom, unrm, dKvIx, dKvGet, dLcm, dListRg, wZip, dKtIn, dKtIx, sumD, sortID, keyD, wStrI, dSplit, catF, catFO, gOwnB, dCallB, wZipT, List.cons_append, List.nil_append, List.length_cons, List.length_nil, List.replicate, List.getElem?_cons_zero, List.getElem?_cons_succ, List.set_cons_zero, List.set_cons_succ, List.map_cons, List.map_nil, List.getD_cons_zero, List.getD_cons_succ, ↓reduceIte, Bool.not_true, Bool.not_false, Bool.false_eq_true, sof_fn1, sof_fn2, sof_fn1p, sof_fn2p, eqv_int, eqv_str, plain_int, plain_bool, plain_none, true_and, and_true, sizeLine_eq, Nat.reduceAdd, Nat.reduceLeDiff, Nat.zero_add, addD_int, addD_str, addD_tup, addD_list, intF_int, intD_int, eqD_int, eqD_str, neD_int, neD_str, inD_list, inD_tup, isND_none, ixD_t0, ixD_t1, ixD_t2, ixD_t3, ixD_l0, lenD_tup, lenD_list, lenD_str, absD_int, toIntD_int, toIntD_bool, toStrD_int, tupleD_list, tupleD_tup, cutSq_tup, cutSq_list, cutSq_str, isInt_none, isInt_bool, isInt_int, isInt_str, isInt_list, isInt_tup, isInt_dict, isBool_none, isBool_bool, isBool_int, isBool_str, isBool_list, isBool_tup, isBool_dict, isStr_none, isStr_bool, isStr_int, isStr_str, isStr_list, isStr_tup, isStr_dict, isTup_none, isTup_bool, isTup_int, isTup_str, isTup_list, isTup_tup, isTup_dict, isLst_none, isLst_bool, isLst_int, isLst_str, isLst_list, isLst_tup, isLst_dict, eqSD_str, neSD_str, inKvD_str, eqE_tup, eqEL_list, inSD_one, ordSD_str, notInSD_one, intB_int, intB_bool]
            refine told m x _ _ (mx.le (by decide) (by decide)) ?_
            simp only [dSeq, dIfS, dRet, dRetN, dSet, dPar, dPar3, dAsg, dFor, dDrop, dNext, dBrk, dCnt, dAug, dApp, dExt, dPop, dPopAt, dSetI, dFrz, xD, xF, dC, dV, dO, dOp, dOpO, dB, dCh, dAnd, dOr, dNot, dAndV, dOrV, dNotV, dNotT, dIf, dNil, dCons, gNilD, gConsD, gLm, dTup, dLst, dLs, dSl, dSlO, dNo, dSo, d1, dIsi, dList, dCall, dCallK, putS, dGcd, dNeg, dLc, dYes, wTupI, wLstI, wRng1, wRng2, wEnT, wEnL, wName, wNil, wCons, wTup, subD, mulD, divD, modD, powD, ltD, leD, gtD, geD, reprD, wipeD, uns, gDef, dRmG, dRmS, gRm, gConsR, gLmR, dCallR, reRm, dRoom, unrm, dKvIx, dKvGet, dLcm, dListRg, wZip, dKtIn, dKtIx, sumD, sortID, keyD, wStrI, dSplit, catF, catFO, gOwnB, dCallB, wZipT, List.cons_append, List.nil_append, List.length_cons, List.length_nil, List.replicate, List.getElem?_cons_zero, List.getElem?_cons_succ, List.set_cons_zero, List.set_cons_succ, List.map_cons, List.map_nil, List.getD_cons_zero, List.getD_cons_succ, ↓reduceIte, Bool.not_true, Bool.not_false, Bool.false_eq_true, sof_fn1, sof_fn2, sof_fn1p, sof_fn2p, eqv_int, eqv_str, plain_int, plain_bool, plain_none, true_and, and_true, sizeLine_eq, Nat.reduceAdd, Nat.reduceLeDiff, Nat.zero_add, addD_int, addD_str, addD_tup, addD_list, intF_int, intD_int, eqD_int, eqD_str, neD_int, neD_str, inD_list, inD_tup, isND_none, ixD_t0, ixD_t1, ixD_t2, ixD_t3, ixD_l0, lenD_tup, lenD_list, lenD_str, absD_int, toIntD_int, toIntD_bool, toStrD_int, tupleD_list, tupleD_tup, cutSq_tup, cutSq_list, cutSq_str, isInt_none, isInt_bool, isInt_int, isInt_str, isInt_list, isInt_tup, isInt_dict, isBool_none, isBool_bool, isBool_int, isBool_str, isBool_list, isBool_tup, isBool_dict, isStr_none, isStr_bool, isStr_int, isStr_str, isStr_list, isStr_tup, isStr_dict, isTup_none, isTup_bool, isTup_int, isTup_str, isTup_list, isTup_tup, isTup_dict, isLst_none, isLst_bool, isLst_int, isLst_str, isLst_list, isLst_tup, isLst_dict, eqSD_str, neSD_str, inKvD_str, eqE_tup, eqEL_list, inSD_one, ordSD_str, notInSD_one, intB_int, intB_bool]
            exact hN' _ ⟨_, _, _, _, rfl⟩
      · rintro i ρ N hi ⟨x2, x3, x4, x5, x6, x7, rfl⟩ hN
        simp only [dSeq, dIfS, dRet, dRetN, dSet, dPar, dPar3, dAsg, dFor, dDrop, dNext, dBrk, dCnt, dAug, dApp, dExt, dPop, dPopAt, dSetI, dFrz, xD, xF, dC, dV, dO, dOp, dOpO, dB, dCh, dAnd, dOr, dNot, dAndV, dOrV, dNotV, dNotT, dIf, dNil, dCons, gNilD, gConsD, gLm, dTup, dLst, dLs, dSl, dSlO, dNo, dSo, d1, dIsi, dList, dCall, dCallK, putS, dGcd, dNeg, dLc, dYes, wTupI, wLstI, wRng1, wRng2, wEnT, wEnL, wName, wNil, wCons, wTup, subD, mulD, divD, modD, powD, ltD, leD, gtD, geD, reprD, wipeD, uns, gDef, dRmG, dRmS, gRm, gConsR, gLmR, dCallR, reRm, dRoom, unrm, dKvIx, dKvGet, dLcm, dListRg, wZip, dKtIn, dKtIx, sumD, sortID, keyD, wStrI, dSplit, catF, catFO, gOwnB, dCallB, wZipT, List.cons_append, List.nil_append, List.length_cons, List.length_nil, List.replicate, List.getElem?_cons_zero, List.getElem?_cons_succ, List.set_cons_zero, List.set_cons_succ, List.map_cons, List.map_nil, List.getD_cons_zero, List.getD_cons_succ, ↓reduceIte, Bool.not_true, Bool.not_false, Bool.false_eq_true, sof_fn1, sof_fn2, sof_fn1p, sof_fn2p, eqv_int, eqv_str, plain_int, plain_bool, plain_none, true_and, and_true, sizeLine_eq, Nat.reduceAdd, Nat.reduceLeDiff, Nat.zero_add, addD_int, addD_str, addD_tup, addD_list, intF_int, intD_int, eqD_int, eqD_str, neD_int, neD_str, inD_list, inD_tup, isND_none, ixD_t0, ixD_t1, ixD_t2, ixD_t3, ixD_l0, lenD_tup, lenD_list, lenD_str, absD_int, toIntD_int, toIntD_bool, toStrD_int, tupleD_list, tupleD_tup, cutSq_tup, cutSq_list, cutSq_str, isInt_none, isInt_bool, isInt_int, isInt_str, isInt_list, isInt_tup, isInt_dict, isBool_none, isBool_bool, isBool_int, isBool_str, isBool_list, isBool_tup, isBool_dict, isStr_none, isStr_bool, isStr_int, isStr_str, isStr_list, isStr_tup, isStr_dict, isTup_none, isTup_bool, isTup_int, isTup_str, isTup_list, isTup_tup, isTup_dict, isLst_none, isLst_bool, isLst_int, isLst_str, isLst_list, isLst_tup, isLst_dict, eqSD_str, neSD_str, inKvD_str, eqE_tup, eqEL_list, inSD_one, ordSD_str, notInSD_one, intB_int, intB_bool]
        refine ⟨_, ⟨_, rfl, by simp, by decide, rfl⟩, fun d hd => ?_⟩
        obtain ⟨n, rfl, n0, n6⟩ : ∃ n : Int, d = .int n ∧ 0 ≤ n ∧ n ≤ 6 := by
          simp only [List.mem_cons, List.not_mem_nil, or_false] at hd
          rcases hd with rfl | rfl | rfl | rfl | rfl | rfl | rfl <;> exact ⟨_, rfl, by decide, by decide⟩
        clear hd
        simp only [dSeq, dIfS, dRet, dRetN, dSet, dPar, dPar3, dAsg, dFor, dDrop, dNext, dBrk, dCnt, dAug, dApp, dExt, dPop, dPopAt, dSetI, dFrz, xD, xF, dC, dV, dO, dOp, dOpO, dB, dCh, dAnd, dOr, dNot, dAndV, dOrV, dNotV, dNotT, dIf, dNil, dCons, gNilD, gConsD, gLm, dTup, dLst, dLs, dSl, dSlO, dNo, dSo, d1, dIsi, dList, dCall, dCallK, putS, dGcd, dNeg, dLc, dYes, wTupI, wLstI, wRng1, wRng2, wEnT, wEnL, wName, wNil, wCons, wTup, subD, mulD, divD, modD, powD, ltD, leD, gtD, geD, reprD, wipeD, uns, gDef, dRmG, dRmS, gRm, gConsR, gLmR, dCallR, reRm, dRoom, unrm, dKvIx, dKvGet, dLcm, dListRg, wZip, dKtIn, dKtIx, sumD, sortID, keyD, wStrI, dSplit, catF, catFO, gOwnB, dCallB, wZipT, List.cons_append, List.nil_append, List.length_cons, List.length_nil, List.replicate, List.getElem?_cons_zero, List.getElem?_cons_succ, List.set_cons_zero, List.set_cons_succ, List.map_cons, List.map_nil, List.getD_cons_zero, List.getD_cons_succ, ↓reduceIte, Bool.not_true, Bool.not_false, Bool.false_eq_true, sof_fn1, sof_fn2, sof_fn1p, sof_fn2p, eqv_int, eqv_str, plain_int, plain_bool, plain_none, true_and, and_true, sizeLine_eq, Nat.reduceAdd, Nat.reduceLeDiff, Nat.zero_add, addD_int, addD_str, addD_tup, addD_list, intF_int, intD_int, eqD_int, eqD_str, neD_int, neD_str, inD_list, inD_tup, isND_none, ixD_t0, ixD_t1, ixD_t2, ixD_t3, ixD_l0, lenD_tup, lenD_list, lenD_str, absD_int, toIntD_int, toIntD_bool, toStrD_int, tupleD_list, tupleD_tup, cutSq_tup, cutSq_list, cutSq_str, isInt_none, isInt_bool, isInt_int, isInt_str, isInt_list, isInt_tup, isInt_dict, isBool_none, isBool_bool, isBool_int, isBool_str, isBool_list, isBool_tup, isBool_dict, isStr_none, isStr_bool, isStr_int, isStr_str, isStr_list, isStr_tup, isStr_dict, isTup_none, isTup_bool, isTup_int, isTup_str, isTup_list, isTup_tup, isTup_dict, isLst_none, isLst_bool, isLst_int, isLst_str, isLst_list, isLst_tup, isLst_dict, eqSD_str, neSD_str, inKvD_str, eqE_tup, eqEL_list, inSD_one, ordSD_str, notInSD_one, intB_int, intB_bool]
        refine ⟨_, ⟨_, rfl, by simp, by decide, rfl⟩, fun d hd => ?_⟩
        obtain ⟨top, rfl, t0, t6⟩ : ∃ n : Int, d = .int n ∧ 0 ≤ n ∧ n ≤ 60 := by
          simp only [List.mem_cons, List.not_mem_nil, or_false] at hd
          rcases hd with rfl | rfl | rfl <;> exact ⟨_, rfl, by decide, by decide⟩
        clear hd
        refine ⟨_, ⟨n, 6, top, rfl, n0, n6, by decide, by decide, t0, t6, rfl⟩, ?_⟩
        rintro _ ⟨ts, rfl, lt, hts⟩
        have mp : Md 3000000 30 (.tuple (ts.map termOf)) := (Mds.tuple (terms_md n6 lt hts)).le (by decide) (by decide)
        refine told n _ _ _ mp ?_
        simp only [dSeq, dIfS, dRet, dRetN, dSet, dPar, dPar3, dAsg, dFor, dDrop, dNext, dBrk, dCnt, dAug, dApp, dExt, dPop, dPopAt, dSetI, dFrz, xD, xF, dC, dV, dO, dOp, dOpO, dB, dCh, dAnd, dOr, dNot, dAndV, dOrV, dNotV, dNotT, dIf, dNil, dCons, gNilD, gConsD, gLm, dTup, dLst, dLs, dSl, dSlO, dNo, dSo, d1, dIsi, dList, dCall, dCallK, putS, dGcd, dNeg, dLc, dYes, wTupI, wLstI, wRng1, wRng2, wEnT, wEnL, wName, wNil, wCons, wTup, subD, mulD, divD, modD, powD, ltD, leD, gtD, geD, reprD, wipeD, uns, gDef, dRmG, dRmS, gRm, gConsR, gLmR, dCallR, reRm, dRoom, unrm, dKvIx, dKvGet, dLcm, dListRg, wZip, dKtIn, dKtIx, sumD, sortID, keyD, wStrI, dSplit, catF, catFO, gOwnB, dCallB, wZipT, List.cons_append, List.nil_append, List.length_cons, List.length_nil, List.replicate, List.getElem?_cons_zero, List.getElem?_cons_succ, List.set_cons_zero, List.set_cons_succ, List.map_cons, List.map_nil, List.getD_cons_zero, List.getD_cons_succ, ↓reduceIte, Bool.not_true, Bool.not_false, Bool.false_eq_true, sof_fn1, sof_fn2, sof_fn1p, sof_fn2p, eqv_int, eqv_str, plain_int, plain_bool, plain_none, true_and, and_true, sizeLine_eq, Nat.reduceAdd, Nat.reduceLeDiff, Nat.zero_add, addD_int, addD_str, addD_tup, addD_list, intF_int, intD_int, eqD_int, eqD_str, neD_int, neD_str, inD_list, inD_tup, isND_none, ixD_t0, ixD_t1, ixD_t2, ixD_t3, ixD_l0, lenD_tup, lenD_list, lenD_str, absD_int, toIntD_int, toIntD_bool, toStrD_int, tupleD_list, tupleD_tup, cutSq_tup, cutSq_list, cutSq_str, isInt_none, isInt_bool, isInt_int, isInt_str, isInt_list, isInt_tup, isInt_dict, isBool_none, isBool_bool, isBool_int, isBool_str, isBool_list, isBool_tup, isBool_dict, isStr_none, isStr_bool, isStr_int, isStr_str, isStr_list, isStr_tup, isStr_dict, isTup_none, isTup_bool, isTup_int, isTup_str, isTup_list, isTup_tup, isTup_dict, isLst_none, isLst_bool, isLst_int, isLst_str, isLst_list, isLst_tup, isLst_dict, eqSD_str, neSD_str, inKvD_str, eqE_tup, eqEL_list, inSD_one, ordSD_str, notInSD_one, intB_int, intB_bool]
        refine ⟨by decide, told _ _ _ _ mp ?_⟩
        simp only [dSeq, dIfS, dRet, dRetN, dSet, dPar, dPar3, dAsg, dFor, dDrop, dNext, dBrk, dCnt, dAug, dApp, dExt, dPop, dPopAt, dSetI, dFrz, xD, xF, dC, dV, dO, dOp, dOpO, dB, dCh, dAnd, dOr, dNot, dAndV, dOrV, dNotV, dNotT, dIf, dNil, dCons, gNilD, gConsD, gLm, dTup, dLst, dLs, dSl, dSlO, dNo, dSo, d1, dIsi, dList, dCall, dCallK, putS, dGcd, dNeg, dLc, dYes, wTupI, wLstI, wRng1, wRng2, wEnT, wEnL, wName, wNil, wCons, wTup, subD, mulD, divD, modD, powD, ltD, leD, gtD, geD, reprD, wipeD, uns, gDef, dRmG, dRmS, gRm, gConsR, gLmR, dCallR, reRm, dRoom, unrm, dKvIx, dKvGet, dLcm, dListRg, wZip, dKtIn, dKtIx, sumD, sortID, keyD, wStrI, dSplit, catF, catFO, gOwnB, dCallB, wZipT, List.cons_append, List.nil_append, List.length_cons, List.length_nil, List.replicate, List.getElem?_cons_zero, List.getElem?_cons_succ, List.set_cons_zero, List.set_cons_succ, List.map_cons, List.map_nil, List.getD_cons_zero, List.getD_cons_succ, ↓reduceIte, Bool.not_true, Bool.not_false, Bool.false_eq_true, sof_fn1, sof_fn2, sof_fn1p, sof_fn2p, eqv_int, eqv_str, plain_int, plain_bool, plain_none, true_and, and_true, sizeLine_eq, Nat.reduceAdd, Nat.reduceLeDiff, Nat.zero_add, addD_int, addD_str, addD_tup, addD_list, intF_int, intD_int, eqD_int, eqD_str, neD_int, neD_str, inD_list, inD_tup, isND_none, ixD_t0, ixD_t1, ixD_t2, ixD_t3, ixD_l0, lenD_tup, lenD_list, lenD_str, absD_int, toIntD_int, toIntD_bool, toStrD_int, tupleD_list, tupleD_tup, cutSq_tup, cutSq_list, cutSq_str, isInt_none, isInt_bool, isInt_int, isInt_str, isInt_list, isInt_tup, isInt_dict, isBool_none, isBool_bool, isBool_int, isBool_str, isBool_list, isBool_tup, isBool_dict, isStr_none, isStr_bool, isStr_int, isStr_str, isStr_list, isStr_tup, isStr_dict, isTup_none, isTup_bool, isTup_int, isTup_str, isTup_list, isTup_tup, isTup_dict, isLst_none, isLst_bool, isLst_int, isLst_str, isLst_list, isLst_tup, isLst_dict, eqSD_str, neSD_str, inKvD_str, eqE_tup, eqEL_list, inSD_one, ordSD_str, notInSD_one, intB_int, intB_bool]
        refine ⟨by decide, by decide, ?_⟩
        refine for_rng (fun _ ρ => ∃ x5 x6 x7, ρ = [.un, .lm, .d (.int (0 + (i : Int))), .d (.int n), .d (.tuple (ts.map termOf)), x5, x6, x7]) ?_ ?_ ⟨_, _, _, rfl⟩
        · rintro ρ ⟨x5, x6, x7, rfl⟩
          exact hN _ ⟨_, _, _, _, _, _, rfl⟩
        · rintro k ρ N' hk ⟨x5, x6, x7, rfl⟩ hN'
          simp only [dSeq, dIfS, dRet, dRetN, dSet, dPar, dPar3, dAsg, dFor, dDrop, dNext, dBrk, dCnt, dAug, dApp, dExt, dPop, dPopAt, dSetI, dFrz, xD, xF, dC, dV, dO, dOp, dOpO, dB, dCh, dAnd, dOr, dNot, dAndV, dOrV, dNotV, dNotT, dIf, dNil, dCons, gNilD, gConsD, gLm, dTup, dLst, dLs, dSl, dSlO, dNo, dSo, d1, dIsi, dList, dCall, dCallK, putS, dGcd, dNeg, dLc, dYes, wTupI, wLstI, wRng1, wRng2, wEnT, wEnL, wName, wNil, wCons, wTup, subD, mulD, divD, modD, powD, ltD, leD, gtD, geD, reprD, wipeD, uns, gDef, dRmG, dRmS, gRm, gConsR, gLmR, dCallR, reRm, dRoom, unrm, dKvIx, dKvGet, dLcm, dListRg, wZip, dKtIn, dKtIx, sumD, sortID, keyD, wStrI, dSplit, catF, catFO, gOwnB, dCallB, wZipT, List.cons_append, List.nil_append, List.length_cons, List.length_nil, List.replicate, List.getElem?_cons_zero, List.getElem?_cons_succ, List.set_cons_zero, List.set_cons_succ, List.map_cons, List.map_nil, List.getD_cons_zero, List.getD_cons_succ, ↓reduceIte, Bool.not_true, Bool.not_false, Bool.false_eq_true, sof_fn1, sof_fn2, sof_fn1p, sof_fn2p, eqv_int, eqv_str, plain_int, plain_bool, plain_none, true_and, and_true, sizeLine_eq, Nat.reduceAdd, Nat.reduceLeDiff, Nat.zero_add, addD_int, addD_str, addD_tup, addD_list, intF_int, intD_int, eqD_int, eqD_str, neD_int, neD_str, inD_list, inD_tup, isND_none, ixD_t0, ixD_t1, ixD_t2, ixD_t3, ixD_l0, lenD_tup, lenD_list, lenD_str, absD_int, toIntD_int, toIntD_bool, toStrD_int, tupleD_list, tupleD_tup, cutSq_tup, cutSq_list, cutSq_str, isInt_none, isInt_bool, isInt_int, isInt_str, isInt_list, isInt_tup, isInt_dict, isBool_none, isBool_bool, isBool_int, isBool_str, isBool_list, isBool_tup, isBool_dict, isStr_none, isStr_bool, isStr_int, isStr_str, isStr_list, isStr_tup, isStr_dict, isTup_none, isTup_bool, isTup_int, isTup_str, isTup_list, isTup_tup, isTup_dict, isLst_none, isLst_bool, isLst_int, isLst_str, isLst_list, isLst_tup, isLst_dict, eqSD_str, neSD_str, inKvD_str, eqE_tup, eqEL_list, inSD_one, ordSD_str, notInSD_one, intB_int, intB_bool]
          refine ⟨_, ⟨n, ts, rfl, n0, n6, lt, hts, rfl⟩, fun d hd => ?_⟩
          refine told n d _ _ ((show Md 200000 12 d from hd).le (by decide) (by decide)) ?_
          simp only [dSeq, dIfS, dRet, dRetN, dSet, dPar, dPar3, dAsg, dFor, dDrop, dNext, dBrk, dCnt, dAug, dApp, dExt, dPop, dPopAt, dSetI, dFrz, xD, xF, dC, dV, dO, dOp, dOpO, dB, dCh, dAnd, dOr, dNot, dAndV, dOrV, dNotV, dNotT, dIf, dNil, dCons, gNilD, gConsD, gLm, dTup, dLst, dLs, dSl, dSlO, dNo, dSo, d1, dIsi, dList, dCall, dCallK, putS, dGcd, dNeg, dLc, dYes, wTupI, wLstI, wRng1, wRng2, wEnT, wEnL, wName, wNil, wCons, wTup, subD, mulD, divD, modD, powD, ltD, leD, gtD, geD, reprD, wipeD, uns, gDef, dRmG, dRmS, gRm, gConsR, gLmR, dCallR, reRm, dRoom, unrm, dKvIx, dKvGet, dLcm, dListRg, wZip, dKtIn, dKtIx, sumD, sortID, keyD, wStrI, dSplit, catF, catFO, gOwnB, dCallB, wZipT, List.cons_append, List.nil_append, List.length_cons, List.length_nil, List.replicate, List.getElem?_cons_zero, List.getElem?_cons_succ, List.set_cons_zero, List.set_cons_succ, List.map_cons, List.map_nil, List.getD_cons_zero, List.getD_cons_succ, ↓reduceIte, Bool.not_true, Bool.not_false, Bool.false_eq_true, sof_fn1, sof_fn2, sof_fn1p, sof_fn2p, eqv_int, eqv_str, plain_int, plain_bool, plain_none, true_and, and_true, sizeLine_eq, Nat.reduceAdd, Nat.reduceLeDiff, Nat.zero_add, addD_int, addD_str, addD_tup, addD_list, intF_int, intD_int, eqD_int, eqD_str, neD_int, neD_str, inD_list, inD_tup, isND_none, ixD_t0, ixD_t1, ixD_t2, ixD_t3, ixD_l0, lenD_tup, lenD_list, lenD_str, absD_int, toIntD_int, toIntD_bool, toStrD_int, tupleD_list, tupleD_tup, cutSq_tup, cutSq_list, cutSq_str, isInt_none, isInt_bool, isInt_int, isInt_str, isInt_list, isInt_tup, isInt_dict, isBool_none, isBool_bool, isBool_int, isBool_str, isBool_list, isBool_tup, isBool_dict, isStr_none, isStr_bool, isStr_int, isStr_str, isStr_list, isStr_tup, isStr_dict, isTup_none, isTup_bool, isTup_int, isTup_str, isTup_list, isTup_tup, isTup_dict, isLst_none, isLst_bool, isLst_int, isLst_str, isLst_list, isLst_tup, isLst_dict, eqSD_str, neSD_str, inKvD_str, eqE_tup, eqEL_list, inSD_one, ordSD_str, notInSD_one, intB_int, intB_bool]
          exact hN' _ ⟨_, _, _, rfl⟩
    · match i with
      | 0 => exact .inl (Option.some.inj e).symm
      | 1 => exact .inr ⟨(Option.some.inj e).symm, rfl⟩
      | n + 2 =>
        refine .inl ?_
        have : s ∈ (List.replicate 6 .un : En) := List.mem_of_getElem? (i := n) e
        exact List.eq_of_mem_replicate this
end
end Ev

set_option exponentiation.threshold 256
namespace Ev
open PySem PySem.Spec PyProof.Rows L2
theorem all_mk {l : PySem.W.OpenLaw} {w : World} {K : PySem.W.Frag} {h : Heap} {mg : Str → Option Value} {fa : Addr}
    (X : K.In h) (G : h.Ns mainGlobals mg) (hfa : mg "law" = some (.ref fa))
    {f0 : Addr} {od0 an0 : Option Addr} {sl0 : Array (Option Value)} {oc0 kV0 dc0 pm0 cd0 ct0 : Value}
    (a0 : PySem.W.nsIn K mainGlobals "is_integer" = some (some (.ref f0)))
    (l0 : K.lookup f0 = some ⟨oc0, od0, .func (PySem.W.fnOf "is_integer" "is_integer" (defArgs s_is_integer) (defBody s_is_integer) (defScope s_is_integer) .none kV0 dc0 pm0 an0 cd0 ct0), sl0⟩)
    (c0 : PySem.W.codeIn K cd0 "is_integer" = true)
    (k0 : PySem.W.keepIn K (.ref f0) = true)
    {f1 : Addr} {od1 an1 : Option Addr} {sl1 : Array (Option Value)} {oc1 kV1 dc1 pm1 cd1 ct1 : Value}
    (a1 : PySem.W.nsIn K mainGlobals "is_fraction" = some (some (.ref f1)))
    (l1 : K.lookup f1 = some ⟨oc1, od1, .func (PySem.W.fnOf "is_fraction" "is_fraction" (defArgs s_is_fraction) (defBody s_is_fraction) (defScope s_is_fraction) .none kV1 dc1 pm1 an1 cd1 ct1), sl1⟩)
    (c1 : PySem.W.codeIn K cd1 "is_fraction" = true)
    (k1 : PySem.W.keepIn K (.ref f1) = true)
    {f2 : Addr} {od2 an2 : Option Addr} {sl2 : Array (Option Value)} {oc2 kV2 dc2 pm2 cd2 ct2 : Value}
    (a2 : PySem.W.nsIn K mainGlobals "polynomial_error" = some (some (.ref f2)))
    (l2 : K.lookup f2 = some ⟨oc2, od2, .func (PySem.W.fnOf "polynomial_error" "polynomial_error" (defArgs s_polynomial_error) (defBody s_polynomial_error) (defScope s_polynomial_error) .none kV2 dc2 pm2 an2 cd2 ct2), sl2⟩)
    (c2 : PySem.W.codeIn K cd2 "polynomial_error" = true)
    (k2 : PySem.W.keepIn K (.ref f2) = true)
    {f3 : Addr} {od3 an3 : Option Addr} {sl3 : Array (Option Value)} {oc3 kV3 dc3 pm3 cd3 ct3 : Value}
    (a3 : PySem.W.nsIn K mainGlobals "_is_term" = some (some (.ref f3)))
    (l3 : K.lookup f3 = some ⟨oc3, od3, .func (PySem.W.fnOf "_is_term" "_is_term" (defArgs s_is_term) (defBody s_is_term) (defScope s_is_term) .none kV3 dc3 pm3 an3 cd3 ct3), sl3⟩)
    (c3 : PySem.W.codeIn K cd3 "_is_term" = true)
    (k3 : PySem.W.keepIn K (.ref f3) = true)
    {f4 : Addr} {od4 an4 : Option Addr} {sl4 : Array (Option Value)} {oc4 kV4 dc4 pm4 cd4 ct4 : Value}
    (a4 : PySem.W.nsIn K mainGlobals "_law_sack" = some (some (.ref f4)))
    (l4 : K.lookup f4 = some ⟨oc4, od4, .func (PySem.W.fnOf "_law_sack" "_law_sack" (defArgs s_sack) (defBody s_sack) (defScope s_sack) .none kV4 dc4 pm4 an4 cd4 ct4), sl4⟩)
    (c4 : PySem.W.codeIn K cd4 "_law_sack" = true)
    (k4 : PySem.W.keepIn K (.ref f4) = true)
    {f5 : Addr} {od5 an5 : Option Addr} {sl5 : Array (Option Value)} {oc5 kV5 dc5 pm5 cd5 ct5 : Value}
    (a5 : PySem.W.nsIn K mainGlobals "_law_draw" = some (some (.ref f5)))
    (l5 : K.lookup f5 = some ⟨oc5, od5, .func (PySem.W.fnOf "_law_draw" "_law_draw" (defArgs s_draw) (defBody s_draw) (defScope s_draw) .none kV5 dc5 pm5 an5 cd5 ct5), sl5⟩)
    (c5 : PySem.W.codeIn K cd5 "_law_draw" = true)
    (k5 : PySem.W.keepIn K (.ref f5) = true)
    {f6 : Addr} {od6 an6 : Option Addr} {sl6 : Array (Option Value)} {oc6 kV6 dc6 pm6 cd6 ct6 : Value}
    (a6 : PySem.W.nsIn K mainGlobals "_law_pick" = some (some (.ref f6)))
    (l6 : K.lookup f6 = some ⟨oc6, od6, .func (PySem.W.fnOf "_law_pick" "_law_pick" (defArgs s_pick) (defBody s_pick) (defScope s_pick) .none kV6 dc6 pm6 an6 cd6 ct6), sl6⟩)
    (c6 : PySem.W.codeIn K cd6 "_law_pick" = true)
    (k6 : PySem.W.keepIn K (.ref f6) = true)
    {f7 : Addr} {od7 an7 : Option Addr} {sl7 : Array (Option Value)} {oc7 kV7 dc7 pm7 cd7 ct7 : Value}
    (a7 : PySem.W.nsIn K mainGlobals "_law_mixed" = some (some (.ref f7)))
    (l7 : K.lookup f7 = some ⟨oc7, od7, .func (PySem.W.fnOf "_law_mixed" "_law_mixed" (defArgs s_mixed) (defBody s_mixed) (defScope s_mixed) .none kV7 dc7 pm7 an7 cd7 ct7), sl7⟩)
    (c7 : PySem.W.codeIn K cd7 "_law_mixed" = true)
    (k7 : PySem.W.keepIn K (.ref f7) = true)
    {f8 : Addr} {od8 an8 : Option Addr} {sl8 : Array (Option Value)} {oc8 kV8 dc8 pm8 cd8 ct8 : Value}
    (a8 : PySem.W.nsIn K mainGlobals "_law_low" = some (some (.ref f8)))
    (l8 : K.lookup f8 = some ⟨oc8, od8, .func (PySem.W.fnOf "_law_low" "_law_low" (defArgs s_low) (defBody s_low) (defScope s_low) .none kV8 dc8 pm8 an8 cd8 ct8), sl8⟩)
    (c8 : PySem.W.codeIn K cd8 "_law_low" = true)
    (k8 : PySem.W.keepIn K (.ref f8) = true)
    {f9 : Addr} {od9 an9 : Option Addr} {sl9 : Array (Option Value)} {oc9 kV9 dc9 pm9 cd9 ct9 : Value}
    (a9 : PySem.W.nsIn K mainGlobals "_law_is_int" = some (some (.ref f9)))
    (l9 : K.lookup f9 = some ⟨oc9, od9, .func (PySem.W.fnOf "_law_is_int" "_law_is_int" (defArgs s_is_int) (defBody s_is_int) (defScope s_is_int) .none kV9 dc9 pm9 an9 cd9 ct9), sl9⟩)
    (c9 : PySem.W.codeIn K cd9 "_law_is_int" = true)
    (k9 : PySem.W.keepIn K (.ref f9) = true)
    {f10 : Addr} {od10 an10 : Option Addr} {sl10 : Array (Option Value)} {oc10 kV10 dc10 pm10 cd10 ct10 : Value}
    (a10 : PySem.W.nsIn K mainGlobals "_law_is_fraction" = some (some (.ref f10)))
    (l10 : K.lookup f10 = some ⟨oc10, od10, .func (PySem.W.fnOf "_law_is_fraction" "_law_is_fraction" (defArgs s_l_is_fraction) (defBody s_l_is_fraction) (defScope s_l_is_fraction) .none kV10 dc10 pm10 an10 cd10 ct10), sl10⟩)
    (c10 : PySem.W.codeIn K cd10 "_law_is_fraction" = true)
    (k10 : PySem.W.keepIn K (.ref f10) = true)
    {f11 : Addr} {od11 an11 : Option Addr} {sl11 : Array (Option Value)} {oc11 kV11 dc11 pm11 cd11 ct11 : Value}
    (a11 : PySem.W.nsIn K mainGlobals "_law_is_term" = some (some (.ref f11)))
    (l11 : K.lookup f11 = some ⟨oc11, od11, .func (PySem.W.fnOf "_law_is_term" "_law_is_term" (defArgs s_l_is_term) (defBody s_l_is_term) (defScope s_l_is_term) .none kV11 dc11 pm11 an11 cd11 ct11), sl11⟩)
    (c11 : PySem.W.codeIn K cd11 "_law_is_term" = true)
    (k11 : PySem.W.keepIn K (.ref f11) = true)
    {f12 : Addr} {od12 an12 : Option Addr} {sl12 : Array (Option Value)} {oc12 kV12 dc12 pm12 cd12 ct12 : Value}
    (a12 : PySem.W.nsIn K mainGlobals "_law_poly_fault" = some (some (.ref f12)))
    (l12 : K.lookup f12 = some ⟨oc12, od12, .func (PySem.W.fnOf "_law_poly_fault" "_law_poly_fault" (defArgs s_poly_fault) (defBody s_poly_fault) (defScope s_poly_fault) .none kV12 dc12 pm12 an12 cd12 ct12), sl12⟩)
    (c12 : PySem.W.codeIn K cd12 "_law_poly_fault" = true)
    (k12 : PySem.W.keepIn K (.ref f12) = true)
    {f13 : Addr} {od13 an13 : Option Addr} {sl13 : Array (Option Value)} {oc13 kV13 dc13 pm13 cd13 ct13 : Value}
    (a13 : PySem.W.nsIn K mainGlobals "_law_laid" = some (some (.ref f13)))
    (l13 : K.lookup f13 = some ⟨oc13, od13, .func (PySem.W.fnOf "_law_laid" "_law_laid" (defArgs s_laid) (defBody s_laid) (defScope s_laid) .none kV13 dc13 pm13 an13 cd13 ct13), sl13⟩)
    (c13 : PySem.W.codeIn K cd13 "_law_laid" = true)
    (k13 : PySem.W.keepIn K (.ref f13) = true)
    {f14 : Addr} {od14 an14 : Option Addr} {sl14 : Array (Option Value)} {oc14 kV14 dc14 pm14 cd14 ct14 : Value}
    (a14 : PySem.W.nsIn K mainGlobals "_law_fraction" = some (some (.ref f14)))
    (l14 : K.lookup f14 = some ⟨oc14, od14, .func (PySem.W.fnOf "_law_fraction" "_law_fraction" (defArgs s_fraction) (defBody s_fraction) (defScope s_fraction) .none kV14 dc14 pm14 an14 cd14 ct14), sl14⟩)
    (c14 : PySem.W.codeIn K cd14 "_law_fraction" = true)
    (k14 : PySem.W.keepIn K (.ref f14) = true)
    {f15 : Addr} {od15 an15 : Option Addr} {sl15 : Array (Option Value)} {oc15 kV15 dc15 pm15 cd15 ct15 : Value}
    (a15 : PySem.W.nsIn K mainGlobals "_law_powers" = some (some (.ref f15)))
    (l15 : K.lookup f15 = some ⟨oc15, od15, .func (PySem.W.fnOf "_law_powers" "_law_powers" (defArgs s_powers) (defBody s_powers) (defScope s_powers) .none kV15 dc15 pm15 an15 cd15 ct15), sl15⟩)
    (c15 : PySem.W.codeIn K cd15 "_law_powers" = true)
    (k15 : PySem.W.keepIn K (.ref f15) = true)
    {f16 : Addr} {od16 an16 : Option Addr} {sl16 : Array (Option Value)} {oc16 kV16 dc16 pm16 cd16 ct16 : Value}
    (a16 : PySem.W.nsIn K mainGlobals "_law_poly" = some (some (.ref f16)))
    (l16 : K.lookup f16 = some ⟨oc16, od16, .func (PySem.W.fnOf "_law_poly" "_law_poly" (defArgs s_poly) (defBody s_poly) (defScope s_poly) .none kV16 dc16 pm16 an16 cd16 ct16), sl16⟩)
    (c16 : PySem.W.codeIn K cd16 "_law_poly" = true)
    (k16 : PySem.W.keepIn K (.ref f16) = true)
    {f17 : Addr} {od17 an17 : Option Addr} {sl17 : Array (Option Value)} {oc17 kV17 dc17 pm17 cd17 ct17 : Value}
    (a17 : PySem.W.nsIn K mainGlobals "_law_odd_share" = some (some (.ref f17)))
    (l17 : K.lookup f17 = some ⟨oc17, od17, .func (PySem.W.fnOf "_law_odd_share" "_law_odd_share" (defArgs s_odd_share) (defBody s_odd_share) (defScope s_odd_share) .none kV17 dc17 pm17 an17 cd17 ct17), sl17⟩)
    (c17 : PySem.W.codeIn K cd17 "_law_odd_share" = true)
    (k17 : PySem.W.keepIn K (.ref f17) = true)
    {f18 : Addr} {od18 an18 : Option Addr} {sl18 : Array (Option Value)} {oc18 kV18 dc18 pm18 cd18 ct18 : Value}
    (a18 : PySem.W.nsIn K mainGlobals "_law_odd_powers" = some (some (.ref f18)))
    (l18 : K.lookup f18 = some ⟨oc18, od18, .func (PySem.W.fnOf "_law_odd_powers" "_law_odd_powers" (defArgs s_odd_powers) (defBody s_odd_powers) (defScope s_odd_powers) .none kV18 dc18 pm18 an18 cd18 ct18), sl18⟩)
    (c18 : PySem.W.codeIn K cd18 "_law_odd_powers" = true)
    (k18 : PySem.W.keepIn K (.ref f18) = true)
    {f19 : Addr} {od19 an19 : Option Addr} {sl19 : Array (Option Value)} {oc19 kV19 dc19 pm19 cd19 ct19 : Value}
    (a19 : PySem.W.nsIn K mainGlobals "_law_near" = some (some (.ref f19)))
    (l19 : K.lookup f19 = some ⟨oc19, od19, .func (PySem.W.fnOf "_law_near" "_law_near" (defArgs s_near) (defBody s_near) (defScope s_near) .none kV19 dc19 pm19 an19 cd19 ct19), sl19⟩)
    (c19 : PySem.W.codeIn K cd19 "_law_near" = true)
    (k19 : PySem.W.keepIn K (.ref f19) = true)
    {f20 : Addr} {od20 an20 : Option Addr} {sl20 : Array (Option Value)} {oc20 kV20 dc20 pm20 cd20 ct20 : Value}
    (a20 : PySem.W.nsIn K mainGlobals "_law_is_told" = some (some (.ref f20)))
    (l20 : K.lookup f20 = some ⟨oc20, od20, .func (PySem.W.fnOf "_law_is_told" "_law_is_told" (defArgs s_is_told) (defBody s_is_told) (defScope s_is_told) .none kV20 dc20 pm20 an20 cd20 ct20), sl20⟩)
    (c20 : PySem.W.codeIn K cd20 "_law_is_told" = true)
    (k20 : PySem.W.keepIn K (.ref f20) = true)
    {f21 : Addr} {od21 an21 : Option Addr} {sl21 : Array (Option Value)} {oc21 kV21 dc21 pm21 cd21 ct21 : Value}
    (a21 : PySem.W.nsIn K mainGlobals "law" = some (some (.ref f21)))
    (l21 : K.lookup f21 = some ⟨oc21, od21, .func (PySem.W.fnOf "law" "law" (defArgs s_law) (defBody s_law) (defScope s_law) .none kV21 dc21 pm21 an21 cd21 ct21), sl21⟩)
    (c21 : PySem.W.codeIn K cd21 "law" = true)
    (k21 : PySem.W.keepIn K (.ref f21) = true)
    (n_int : PySem.W.nsIn K mainGlobals "int" = some none)
    (n_len : PySem.W.nsIn K mainGlobals "len" = some none)
    (n_abs : PySem.W.nsIn K mainGlobals "abs" = some none)
    (n_repr : PySem.W.nsIn K mainGlobals "repr" = some none)
    (n_range : PySem.W.nsIn K mainGlobals "range" = some none)
    (n_isinstance : PySem.W.nsIn K mainGlobals "isinstance" = some none)
    (n_list : PySem.W.nsIn K mainGlobals "list" = some none)
    (n_tuple : PySem.W.nsIn K mainGlobals "tuple" = some none)
    (n_enumerate : PySem.W.nsIn K mainGlobals "enumerate" = some none)
    (n_bool : PySem.W.nsIn K mainGlobals "bool" = some none)
    (n_str : PySem.W.nsIn K mainGlobals "str" = some none)
    (n_sum : PySem.W.nsIn K mainGlobals "sum" = some none)
    (n_all : PySem.W.nsIn K mainGlobals "all" = some none)
    (n_sorted : PySem.W.nsIn K mainGlobals "sorted" = some none)
    (n_zip : PySem.W.nsIn K mainGlobals "zip" = some none)
    (n_dict : PySem.W.nsIn K mainGlobals "dict" = some none)
    (n_gcd : PySem.W.nsIn K mainGlobals "gcd" = some (some (.builtin "math.gcd")))
    : ∃ fd : FuncData, (∀ (s : Shared) (v : Value), BindsTo s fd ⟨[v], []⟩ [("script", v)]) ∧ ∀ base : Heap, K.In base → base.Ns mainGlobals mg →
      FnG l.prog w K mg base CX0 7 fa fd ["script"] (sp_law K) := by
  have e : f21 = fa := by
    cases hfa.symm.trans (PySem.W.mg_of X G a21)
    rfl
  subst e
  have T : Txt K mg (fun i => [f0, f1, f2, f3, f4, f5, f6, f7, f8, f9, f10, f11, f12, f13, f14, f15, f16, f17, f18, f19, f20, f21].getD i 0) (fun i => [(PySem.W.fnOf "is_integer" "is_integer" (defArgs s_is_integer) (defBody s_is_integer) (defScope s_is_integer) .none kV0 dc0 pm0 an0 cd0 ct0),
      (PySem.W.fnOf "is_fraction" "is_fraction" (defArgs s_is_fraction) (defBody s_is_fraction) (defScope s_is_fraction) .none kV1 dc1 pm1 an1 cd1 ct1),
      (PySem.W.fnOf "polynomial_error" "polynomial_error" (defArgs s_polynomial_error) (defBody s_polynomial_error) (defScope s_polynomial_error) .none kV2 dc2 pm2 an2 cd2 ct2),
      (PySem.W.fnOf "_is_term" "_is_term" (defArgs s_is_term) (defBody s_is_term) (defScope s_is_term) .none kV3 dc3 pm3 an3 cd3 ct3),
      (PySem.W.fnOf "_law_sack" "_law_sack" (defArgs s_sack) (defBody s_sack) (defScope s_sack) .none kV4 dc4 pm4 an4 cd4 ct4),
      (PySem.W.fnOf "_law_draw" "_law_draw" (defArgs s_draw) (defBody s_draw) (defScope s_draw) .none kV5 dc5 pm5 an5 cd5 ct5),
      (PySem.W.fnOf "_law_pick" "_law_pick" (defArgs s_pick) (defBody s_pick) (defScope s_pick) .none kV6 dc6 pm6 an6 cd6 ct6),
      (PySem.W.fnOf "_law_mixed" "_law_mixed" (defArgs s_mixed) (defBody s_mixed) (defScope s_mixed) .none kV7 dc7 pm7 an7 cd7 ct7),
      (PySem.W.fnOf "_law_low" "_law_low" (defArgs s_low) (defBody s_low) (defScope s_low) .none kV8 dc8 pm8 an8 cd8 ct8),
      (PySem.W.fnOf "_law_is_int" "_law_is_int" (defArgs s_is_int) (defBody s_is_int) (defScope s_is_int) .none kV9 dc9 pm9 an9 cd9 ct9),
      (PySem.W.fnOf "_law_is_fraction" "_law_is_fraction" (defArgs s_l_is_fraction) (defBody s_l_is_fraction) (defScope s_l_is_fraction) .none kV10 dc10 pm10 an10 cd10 ct10),
      (PySem.W.fnOf "_law_is_term" "_law_is_term" (defArgs s_l_is_term) (defBody s_l_is_term) (defScope s_l_is_term) .none kV11 dc11 pm11 an11 cd11 ct11),
      (PySem.W.fnOf "_law_poly_fault" "_law_poly_fault" (defArgs s_poly_fault) (defBody s_poly_fault) (defScope s_poly_fault) .none kV12 dc12 pm12 an12 cd12 ct12),
      (PySem.W.fnOf "_law_laid" "_law_laid" (defArgs s_laid) (defBody s_laid) (defScope s_laid) .none kV13 dc13 pm13 an13 cd13 ct13),
      (PySem.W.fnOf "_law_fraction" "_law_fraction" (defArgs s_fraction) (defBody s_fraction) (defScope s_fraction) .none kV14 dc14 pm14 an14 cd14 ct14),
      (PySem.W.fnOf "_law_powers" "_law_powers" (defArgs s_powers) (defBody s_powers) (defScope s_powers) .none kV15 dc15 pm15 an15 cd15 ct15),
      (PySem.W.fnOf "_law_poly" "_law_poly" (defArgs s_poly) (defBody s_poly) (defScope s_poly) .none kV16 dc16 pm16 an16 cd16 ct16),
      (PySem.W.fnOf "_law_odd_share" "_law_odd_share" (defArgs s_odd_share) (defBody s_odd_share) (defScope s_odd_share) .none kV17 dc17 pm17 an17 cd17 ct17),
      (PySem.W.fnOf "_law_odd_powers" "_law_odd_powers" (defArgs s_odd_powers) (defBody s_odd_powers) (defScope s_odd_powers) .none kV18 dc18 pm18 an18 cd18 ct18),
      (PySem.W.fnOf "_law_near" "_law_near" (defArgs s_near) (defBody s_near) (defScope s_near) .none kV19 dc19 pm19 an19 cd19 ct19),
      (PySem.W.fnOf "_law_is_told" "_law_is_told" (defArgs s_is_told) (defBody s_is_told) (defScope s_is_told) .none kV20 dc20 pm20 an20 cd20 ct20),
      (PySem.W.fnOf "law" "law" (defArgs s_law) (defBody s_law) (defScope s_law) .none kV21 dc21 pm21 an21 cd21 ct21)].getD i (PySem.W.fnOf "is_integer" "is_integer" (defArgs s_is_integer) (defBody s_is_integer) (defScope s_is_integer) .none kV0 dc0 pm0 an0 cd0 ct0)) :=
    { F_is_integer := fun_mk (st := s_is_integer) l0 c0 k0,
      g_is_integer := PySem.W.mg_of X G a0,
      F_is_fraction := fun_mk (st := s_is_fraction) l1 c1 k1,
      g_is_fraction := PySem.W.mg_of X G a1,
      F_polynomial_error := fun_mk (st := s_polynomial_error) l2 c2 k2,
      g_polynomial_error := PySem.W.mg_of X G a2,
      F_is_term := fun_mk (st := s_is_term) l3 c3 k3,
      g_is_term := PySem.W.mg_of X G a3,
      F_sack := fun_mk (st := s_sack) l4 c4 k4,
      g_sack := PySem.W.mg_of X G a4,
      F_draw := fun_mk (st := s_draw) l5 c5 k5,
      g_draw := PySem.W.mg_of X G a5,
      F_pick := fun_mk (st := s_pick) l6 c6 k6,
      g_pick := PySem.W.mg_of X G a6,
      F_mixed := fun_mk (st := s_mixed) l7 c7 k7,
      g_mixed := PySem.W.mg_of X G a7,
      F_low := fun_mk (st := s_low) l8 c8 k8,
      g_low := PySem.W.mg_of X G a8,
      F_is_int := fun_mk (st := s_is_int) l9 c9 k9,
      g_is_int := PySem.W.mg_of X G a9,
      F_l_is_fraction := fun_mk (st := s_l_is_fraction) l10 c10 k10,
      g_l_is_fraction := PySem.W.mg_of X G a10,
      F_l_is_term := fun_mk (st := s_l_is_term) l11 c11 k11,
      g_l_is_term := PySem.W.mg_of X G a11,
      F_poly_fault := fun_mk (st := s_poly_fault) l12 c12 k12,
      g_poly_fault := PySem.W.mg_of X G a12,
      F_laid := fun_mk (st := s_laid) l13 c13 k13,
      g_laid := PySem.W.mg_of X G a13,
      F_fraction := fun_mk (st := s_fraction) l14 c14 k14,
      g_fraction := PySem.W.mg_of X G a14,
      F_powers := fun_mk (st := s_powers) l15 c15 k15,
      g_powers := PySem.W.mg_of X G a15,
      F_poly := fun_mk (st := s_poly) l16 c16 k16,
      g_poly := PySem.W.mg_of X G a16,
      F_odd_share := fun_mk (st := s_odd_share) l17 c17 k17,
      g_odd_share := PySem.W.mg_of X G a17,
      F_odd_powers := fun_mk (st := s_odd_powers) l18 c18 k18,
      g_odd_powers := PySem.W.mg_of X G a18,
      F_near := fun_mk (st := s_near) l19 c19 k19,
      g_near := PySem.W.mg_of X G a19,
      F_is_told := fun_mk (st := s_is_told) l20 c20 k20,
      g_is_told := PySem.W.mg_of X G a20,
      F_law := fun_mk (st := s_law) l21 c21 k21,
      g_law := PySem.W.mg_of X G a21,
      z_int := PySem.W.mg_none_of X G n_int,
      z_len := PySem.W.mg_none_of X G n_len,
      z_abs := PySem.W.mg_none_of X G n_abs,
      z_repr := PySem.W.mg_none_of X G n_repr,
      range := PySem.W.mg_none_of X G n_range,
      z_isinstance := PySem.W.mg_none_of X G n_isinstance,
      z_list := PySem.W.mg_none_of X G n_list,
      z_tuple := PySem.W.mg_none_of X G n_tuple,
      enumerate := PySem.W.mg_none_of X G n_enumerate,
      z_bool := PySem.W.mg_none_of X G n_bool,
      z_str := PySem.W.mg_none_of X G n_str,
      z_sum := PySem.W.mg_none_of X G n_sum,
      z_all := PySem.W.mg_none_of X G n_all,
      z_sorted := PySem.W.mg_none_of X G n_sorted,
      zip := PySem.W.mg_none_of X G n_zip,
      z_dict := PySem.W.mg_none_of X G n_dict,
      z_gcd := PySem.W.mg_of X G n_gcd }
  exact ⟨_, fun s v => .of_eq rfl, fun base _ _ => T.ok_law⟩
end Ev

open PySem PySem.W PyProof.Rows in
set_option maxRecDepth 100000 in
set_option maxHeartbeats 0 in
theorem PySem.Challenge.cw_everystart_k24_what_polynomials_are_holds : PySem.Challenge.rw_everystart_k24_what_polynomials_are.Holds := by
  w_on; o_law; k_head; (case hw => w_witness2)
  k_fill
  refine Ev.walk_ofG (l := PySem.Challenge.rw_everystart_k24_what_polynomials_are) (n := 63) (k := 7) (x := "script") (sp := fun w => Ev.sp_law _) rfl (by decide) rfl ⟨rfl, by decide, by decide⟩ (fun w h Y => PySem.W.kIn_of Y) ?F (fun _ _ a ns hl _ hS => ⟨a, ns, rfl, hS, hl, fun _ => rfl⟩)
  case F =>
    intro w mg fa h KX G hmg
    refine' Ev.all_mk KX G hmg ?a0 ?l0 ?c0 ?k0 ?a1 ?l1 ?c1 ?k1 ?a2 ?l2 ?c2 ?k2 ?a3 ?l3 ?c3 ?k3 ?a4 ?l4 ?c4 ?k4 ?a5 ?l5 ?c5 ?k5 ?a6 ?l6 ?c6 ?k6 ?a7 ?l7 ?c7 ?k7 ?a8 ?l8 ?c8 ?k8 ?a9 ?l9 ?c9 ?k9 ?a10 ?l10 ?c10 ?k10 ?a11 ?l11 ?c11 ?k11 ?a12 ?l12 ?c12 ?k12 ?a13 ?l13 ?c13 ?k13 ?a14 ?l14 ?c14 ?k14 ?a15 ?l15 ?c15 ?k15 ?a16 ?l16 ?c16 ?k16 ?a17 ?l17 ?c17 ?k17 ?a18 ?l18 ?c18 ?k18 ?a19 ?l19 ?c19 ?k19 ?a20 ?l20 ?c20 ?k20 ?a21 ?l21 ?c21 ?k21 ?n_int ?n_len ?n_abs ?n_repr ?n_range ?n_isinstance ?n_list ?n_tuple ?n_enumerate ?n_bool ?n_str ?n_sum ?n_all ?n_sorted ?n_zip ?n_dict ?n_gcd
    (case a0 => k_is)
    (case l0 => k_is)
    (case c0 => k_is)
    (case k0 => k_is)
    (case a1 => k_is)
    (case l1 => k_is)
    (case c1 => k_is)
    (case k1 => k_is)
    (case a2 => k_is)
    (case l2 => k_is)
    (case c2 => k_is)
    (case k2 => k_is)
    (case a3 => k_is)
    (case l3 => k_is)
    (case c3 => k_is)
    (case k3 => k_is)
    (case a4 => k_is)
    (case l4 => k_is)
    (case c4 => k_is)
    (case k4 => k_is)
    (case a5 => k_is)
    (case l5 => k_is)
    (case c5 => k_is)
    (case k5 => k_is)
    (case a6 => k_is)
    (case l6 => k_is)
    (case c6 => k_is)
    (case k6 => k_is)
    (case a7 => k_is)
    (case l7 => k_is)
    (case c7 => k_is)
    (case k7 => k_is)
    (case a8 => k_is)
    (case l8 => k_is)
    (case c8 => k_is)
    (case k8 => k_is)
    (case a9 => k_is)
    (case l9 => k_is)
    (case c9 => k_is)
    (case k9 => k_is)
    (case a10 => k_is)
    (case l10 => k_is)
    (case c10 => k_is)
    (case k10 => k_is)
    (case a11 => k_is)
    (case l11 => k_is)
    (case c11 => k_is)
    (case k11 => k_is)
    (case a12 => k_is)
    (case l12 => k_is)
    (case c12 => k_is)
    (case k12 => k_is)
    (case a13 => k_is)
    (case l13 => k_is)
    (case c13 => k_is)
    (case k13 => k_is)
    (case a14 => k_is)
    (case l14 => k_is)
    (case c14 => k_is)
    (case k14 => k_is)
    (case a15 => k_is)
    (case l15 => k_is)
    (case c15 => k_is)
    (case k15 => k_is)
    (case a16 => k_is)
    (case l16 => k_is)
    (case c16 => k_is)
    (case k16 => k_is)
    (case a17 => k_is)
    (case l17 => k_is)
    (case c17 => k_is)
    (case k17 => k_is)
    (case a18 => k_is)
    (case l18 => k_is)
    (case c18 => k_is)
    (case k18 => k_is)
    (case a19 => k_is)
    (case l19 => k_is)
    (case c19 => k_is)
    (case k19 => k_is)
    (case a20 => k_is)
    (case l20 => k_is)
    (case c20 => k_is)
    (case k20 => k_is)
    (case a21 => k_is)
    (case l21 => k_is)
    (case c21 => k_is)
    (case k21 => k_is)
    (case n_int => k_is)
    (case n_len => k_is)
    (case n_abs => k_is)
    (case n_repr => k_is)
    (case n_range => k_is)
    (case n_isinstance => k_is)
    (case n_list => k_is)
    (case n_tuple => k_is)
    (case n_enumerate => k_is)
    (case n_bool => k_is)
    (case n_str => k_is)
    (case n_sum => k_is)
    (case n_all => k_is)
    (case n_sorted => k_is)
    (case n_zip => k_is)
    (case n_dict => k_is)
    (case n_gcd => k_is)
