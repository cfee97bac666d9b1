import PyProof.Rows.All
import Wide.All
import OpenK.AllK
import Wide.FinOn
import PyProof.EqAt
import PyProof.EqKinds
import PyProof.TupleCall
import HandS.ForMost
import HandS.ForExc
import HandS.Wide
import HandS.Gcd
import HandS.ExcIs
import HandS.ExcBuiltin
import HandS.RaiseMore
import HandS.Codes
import HandS.IsInst
import HandS.Zip
import HandS.Zip0
import HandS.Walk
import KE.GoesEnum
import HandS.Text
import KE.KMathGC
import HandS.Style
import HandS.TupMul
import HandS.TupAny
import KE.KRevSl
import HandS.StrMore
import HandS.Rev
import HandS.WideBits
import HandS.FStr
import HandS.MapObj
import HandS.Flow
import PySem.Challenge.RW_everystart_k51_what_measures_are
set_option Elab.async false
set_option linter.all false
set_option maxRecDepth 100000
set_option pp.maxSteps 1500
set_option maxHeartbeats 1000000
set_option exponentiation.threshold 256
namespace Ev
open PySem PySem.Spec PyProof.Rows L2

/-! ### promises of defs that run where nothing is being shown (the list of guards is known to be empty) -/
structure FnG (P : Program) (w : World) (K : PySem.W.Frag) (mg : Str → Option Value) (base : Heap) (CX : CXT) (k : Nat)
    (f : Addr) (fd : FuncData) (ps : List Str) (sp : Sp) : Prop where
  len : ∀ vs H Q E, sp vs H Q E → vs.length = ps.length
  run : ∀ (A : Around), A.guards = some [] → ∀ (outer : List Env) (s : Shared) (H : Hp) (args : Args) (us : List Value) (vs : List V)
    (Q : VK) (E : XK), Room k A → Env0 P w K mg base A outer s H → BindsTo s fd args (ps.zip us) → Vals vs us → sp vs H Q E →
    codeAny (model P w) A (.call (.ref f) args) (CR CX outer P w H s Q E) s

theorem FnG.of {P : Program} {w : World} {K : PySem.W.Frag} {mg : Str → Option Value} {base : Heap} {CX : CXT} {k : Nat}
    {f : Addr} {fd : FuncData} {ps : List Str} {sp : Sp} (F : FnOk P w K mg base CX k f fd ps sp) : FnG P w K mg base CX k f fd ps sp :=
  ⟨F.len, fun A _ outer s H args us vs Q E hr he hb hv hs => F.run A outer s H args us vs Q E hr he hb hv hs⟩

section
variable {P : Program} {w : World} {K : PySem.W.Frag} {mg : Str → Option Value} {base : Heap}
theorem okG {x qual : Str} {st : Stmt} {f : Addr} {fd : FuncData} {N ps : List Str} {k : Nat} {sp : Sp}
    (F : Fun K x qual st f fd) (S : FnScope N ps (defScope st)) (len : ∀ vs H Q E, sp vs H Q E → vs.length = ps.length)
    (hbody : ∀ (cdv : Value) (A : Around) (outer : List Env) (s : Shared) (H : Hp) (vs : List V) (Q : VK) (E : XK), A.guards = some [] →
      Room k (A.deeper (envOfC qual (defScope st) s.heap.objs.size f cdv)) → sp vs H Q E →
      ∃ t, PSs (cxOf CX0 P w K mg base N qual (defScope st) f cdv A outer s H E).nox (defBody st) t ∧
        t { nx := fun _ H' => Q .non H', rt := Q } (start N vs) H) : FnG P w K mg base CX0 (k + 1) f fd ps sp := by
  obtain ⟨c1, c2, c3, c4, c5, c6, c7, c8, c9, rfl, lk, hcd⟩ := F.ex
  refine ⟨len, fun A hA outer s H args us vs Q E hr e0 hb r hsp => ?_⟩
  have long := len _ _ _ _ hsp
  have stays := e0.mod.kin.keeps (h' := s.heap) fun b o e => And.left (e0.bs b o e)
  have free := e0.mod.nolimit.keeps (h' := s.heap) fun b o e => And.left (e0.bs b o e)
  refine codeAny_call_function hr.depth (stays _ _ lk) rfl S.co S.gen rfl (PySem.W.codeRec_of stays hcd) (hb _ _ _ _ ?_)
  refine wpAny_newFunctionEnv_cells S.kind (fun y hy => ?_) fun env he s1 x => ?_
  · obtain ⟨n, v⟩ := y
    exact (S.par n (List.of_mem_zip hy).1).elim .inl fun q => .inr ⟨q, PySem.W.cellsFrom_some _ _ _ (.inl q)⟩
  cases he
  refine ⟨free.keeps x.toInCall.keep, codeAny_func ?_⟩
  obtain ⟨t, ht, hq⟩ := hbody c7 A outer s H vs Q E hA (hr.deeper _) hsp
  have J := inv_start (CX := CX0) (E := E) S hr.hd e0 long r x
  refine wpAny_mono (ht.nox.run [] s1 (start N vs) H _ J hq) (fun fl s' hs => ?_) (fun _ _ z => z)
  match fl, hs with
  | .ret u, ⟨v, σ', H', J', rv, q⟩ => exact ⟨v, H', J'.os, J'.bare, J'.base, J'.hok, rv, q⟩
  | .next, ⟨σ', H', J', q⟩ => exact ⟨V.non, H', J'.os, J'.bare, J'.base, J'.hok, rfl, q⟩
  | .brk, ⟨_, _, _, q⟩ => exact q.elim
  | .cont, ⟨_, _, _, q⟩ => exact q.elim
end

section
variable {X : Cx} {CX : CXT} {k : Nat} {f : Addr} {fd : FuncData} {ps : List Str} {ds : List Value} {dvs : List V} {sp : Sp} {E : XK}
  {x : Str} {p pos : Pos} {e : Expr} {es : List Expr} {t : TA}
theorem runG {pins : List (Addr × Obj)} {σ : L2.St} {H : Hp} {s : Shared} {Q : VK} {us : List Value} {vs : List V}
    (F : FnG X.prog X.w X.K X.mg X.base CX k f fd ps sp) (hG : X.A.guards = some []) (hr : Room k X.A) (hb : Binds X.K fd ps [])
    (hx : Passes CX X E) (I : Inv X pins σ H s) (r : Vals vs us) (h : sp vs H Q E) :
    wpAny (model X.prog X.w) X.A (call (.ref f) us) (EP X pins σ Q) X.xe s := by
  have hl : us.length = ps.length := r.length.symm.trans (F.len _ _ _ _ h)
  have b := hb s us I.kIn (by rw [List.append_nil]; exact hl)
  rw [List.append_nil] at b
  have z := F.run X.A hG X.stack s H ⟨us, []⟩ us vs Q E hr I.env0 b r h
  refine wpAny_call (codeAny_mono z fun o s' hq => ?_)
  match o, hq with
  | .error e, hq => exact hx pins σ H s e s' I hq
  | .ok (.ret u), hq => exact I.after hq
  | .ok .next, hq => exact hq.elim
  | .ok .brk, hq => exact hq.elim
  | .ok .cont, hq => exact hq.elim
theorem pe_callG (F : FnG X.prog X.w X.K X.mg X.base CX k f fd ps sp) (hG : X.A.guards = some []) (hr : Room k X.A) (hg : Gl X x)
    (hm : X.mg x = some (.ref f)) (hk : PySem.W.keepIn X.K (.ref f) = true) (hb : Binds X.K fd ps []) (hx : Passes CX X E)
    (ha : PA X (e :: es) t) (hdb : (x == ("__debug__" : Str)) = false := by decide)
    (he : starEach (e :: es) X.env = (false, eval e X.env) :: starEach es X.env := by rfl)
    (hpl : (backTo pos (starEach es X.env)).any (·.1) = false := by rfl) :
    PE X (.Call (.Name x p) (e :: es) [] pos) (fun σ H Q => t σ H fun vs H1 => sp vs H1 Q E) := by
  refine ⟨fun pins s σ H Q I h => wpAny_Call_Name_kw (ld_glob I hg hm ?_ hdb)⟩
  refine PySem.W.callWith_K (h₀ := X.base) I.ok.mod.kin hk (thn (ha.run pos pins s σ H _ I h) ?_) he hpl
  exact fun us s1 ⟨vs, H1, I1, r, q⟩ => ⟨I1.kIn, runG F hG hr hb hx I1 r q⟩
/-- how a call by keywords alone binds: the i-th parameter gets the keyword's value at place pm[i] -/
structure KB0 (K : PySem.W.Frag) (fd : FuncData) (ps ks : List Str) (pm : List Nat) : Prop where
  to : ∀ (s : Shared) (ws : List Value), K.In s.heap → ws.length = ks.length →
    BindsTo s fd ⟨[], ks.zip ws⟩ (ps.zip (pm.map fun i => ws.getD i Value.none))
def putV (pm : List Nat) (zs : List V) : List V := pm.map fun i => zs.getD i V.non
theorem relPut {zs : List V} {ws : List Value} (r : Vals zs ws) : ∀ pm : List Nat, Vals (putV pm zs) (pm.map fun i => ws.getD i Value.none)
  | [] => .nil
  | i :: pm => by
    refine .cons ?_ (relPut r pm)
    show L2.RelV (zs.getD i V.non) (ws.getD i Value.none)
    cases e : zs[i]? with
    | none =>
      have e2 := r.none_of e
      rw [List.getD_eq_getElem?_getD, List.getD_eq_getElem?_getD, e, e2]
      rfl
    | some z =>
      obtain ⟨u, e2, q⟩ := r.get e
      rw [List.getD_eq_getElem?_getD, List.getD_eq_getElem?_getD, e, e2]
      exact q
/-- f(k = v, ..), keywords alone; what is raised is wished for at the slots -/
theorem pe_callK0S {ks : List Str} {kws : List Keyword} {tk : TA} {pm : List Nat} {ES : L2.St → XK}
    (F : FnOk X.prog X.w X.K X.mg X.base CX k f fd ps sp) (hr : Room k X.A) (hg : Gl X x) (hm : X.mg x = some (.ref f))
    (hk : PySem.W.keepIn X.K (.ref f) = true) (hb : KB0 X.K fd ps ks pm) (hx : ∀ σ, PassesAt CX X σ (ES σ)) (hkw : PK X kws tk)
    (hall : (backToKw pos (keywordEach kws X.env)).all (·.1.isSome) = true := by rfl)
    (hks : (backToKw pos (keywordEach kws X.env)).filterMap (·.1) = ks := by rfl) (hdb : (x == ("__debug__" : Str)) = false := by decide)
    (hpl : ((backTo pos (starEach [] X.env)).any (·.1) || (backToKw pos (keywordEach kws X.env)).any (·.1.isNone)) = false := by rfl) :
    PE X (.Call (.Name x p) [] kws pos) (fun σ H Q => tk σ H fun zs H1 => zs.length = ks.length ∧ sp (putV pm zs) H1 Q (ES σ)) := by
  refine ⟨fun pins s σ H Q I h => wpAny_Call_Name_kw (ld_glob I hg hm ?_ hdb)⟩
  refine PySem.W.callWith_KW0 (h₀ := X.base) I.ok.mod.kin hk hall (thn (hkw.run pos pins s σ H _ I h) ?_) hpl
  intro ws s2 ⟨zs, H2, I2, rz, l2, q2⟩
  refine ⟨I2.kIn, ?_⟩
  rw [hks]
  have z := F.run X.A X.stack s2 H2 ⟨[], ks.zip ws⟩ _ (putV pm zs) Q (ES σ) hr I2.env0 (hb.to s2 ws I2.kIn (rz.length.symm.trans l2)) (relPut rz pm) q2
  refine wpAny_call (codeAny_mono z fun o s' hq => ?_)
  match o, hq with
  | .error e, hq => exact hx σ pins H2 s2 e s' I2 hq
  | .ok (.ret u), hq => exact I2.after hq
  | .ok .next, hq => exact hq.elim
  | .ok .brk, hq => exact hq.elim
  | .ok .cont, hq => exact hq.elim
theorem passC (hx : Passes CX X E) (σ : L2.St) : PassesAt CX X σ E := fun pins H s e s' I c => hx pins σ H s e s' I c
/-- f(k = v, ..), keywords alone -/
theorem pe_callK0 {ks : List Str} {kws : List Keyword} {tk : TA} {pm : List Nat}
    (F : FnOk X.prog X.w X.K X.mg X.base CX k f fd ps sp) (hr : Room k X.A) (hg : Gl X x) (hm : X.mg x = some (.ref f))
    (hk : PySem.W.keepIn X.K (.ref f) = true) (hb : KB0 X.K fd ps ks pm) (hx : Passes CX X E) (hkw : PK X kws tk)
    (hall : (backToKw pos (keywordEach kws X.env)).all (·.1.isSome) = true := by rfl)
    (hks : (backToKw pos (keywordEach kws X.env)).filterMap (·.1) = ks := by rfl) (hdb : (x == ("__debug__" : Str)) = false := by decide)
    (hpl : ((backTo pos (starEach [] X.env)).any (·.1) || (backToKw pos (keywordEach kws X.env)).any (·.1.isNone)) = false := by rfl) :
    PE X (.Call (.Name x p) [] kws pos) (fun σ H Q => tk σ H fun zs H1 => zs.length = ks.length ∧ sp (putV pm zs) H1 Q E) :=
  pe_callK0S (ES := fun _ => E) F hr hg hm hk hb (passC hx) hkw hall hks hdb hpl
/-- X(), an own class of exceptions without __init__ -/
theorem pmk_own0 {C : Addr} {bmB : List Value} {B newId initId : String} (F : ExcBaseFacts B newId initId bmB)
    (q : PySem.W.excIn X.K C bmB newId = true) (gC : X.mg x = some (.ref C)) (kC : PySem.W.keepIn X.K (.ref C) = true)
    (r : Raises X (.ref C)) (hg : Gl X x) (hdb : (x == ("__debug__" : Str)) = false := by decide) :
    PMk X (.Call (.Name x p) [] [] pos) (fun _ H Q => Q (.ref C) none H) := by
  intro pins s σ H Q I h
  refine wpAny_Call_Name_kw (ld_glob I hg gC ?_ hdb)
  refine PySem.W.callWith_K0 I.kIn kC ?_
  show wpAny _ _ (call (.ref C) []) _ _ _
  obtain ⟨bm, N, nm, qn, bs, hdct, sn, sub, ab, col, dd, k0, k1, k2, k3, k5, mN, hC, hN, hni, T⟩ := exc_obj I.kIn q
  exact wpAny_call_exc_subT F T hC hN hni (fun h' e hm => mk_of I hm r h (I.hok.gone hm.new)) (Nat.zero_le _)
end

/-- // by a divisor of either sign, below 2 ^ 9000 in size -/
def CDivZ (_ j : Int) : Prop := j ≠ 0 ∧ j.natAbs.log2 < 9000
theorem op_fdivZ {X : Cx} : OpR X (binaryOp .FloorDiv) (rI CDivZ fun i j => .int (i.fdiv j)) :=
  opI fun _ _ _ _ _ _ _ hc q => floordiv_int hc.1 q (.inl (PyProof.noPylong_of_log2 hc.2))
/-- isinstance(e, c) where the class of what the suite holds is told by the reading -/
theorem call_isE2 {X : Cx} {a D : Addr} {oe : Obj} {pn : List (Addr × Obj)} {cls : Value} {d : Option Addr} (C : ExcC X.K D) (hz : Zc cls d oe)
    (hf : ∃ vs, oe.data = .fields vs) : CallR (X.suite a ((a, oe) :: pn)) (.builtin "isinstance")
      (fun xs H Q => cls = .ref D ∧ d = none ∧ rIsE X.K D a xs H Q) := by
  intro pins s σ H xs us Q I r h
  obtain ⟨h1, h2, q⟩ := h
  subst h1; subst h2
  exact call_isE C hz hf pins s σ H xs us Q I r q

/-! ### the end of a law, by such a promise -/
theorem law_callG {P : Program} {w : World} {K : PySem.W.Frag} {mg mb : Str → Option Value} {k : Nat} {fa a : Addr} {fd : FuncData}
    {x : Str} {sp : Sp} {s₁ : Shared} {vs : List Value} {ns : List Int} (KX : K.In s₁.heap) (hns : s₁.heap.Ns mainGlobals mg)
    (hb : s₁.heap.Ns builtinsNs mb) (hbb : ∀ x : Str, x ≠ "__name__" → mb x = bootBuiltins x) (hlim : s₁.heap.NoLimit) (hg : s₁.gens = #[])
    (ha : s₁.heap.get? a = some { cls := .type "list", data := .seq vs.toArray }) (hi : IntsAre vs ns) (hl : ns.length ≤ sizeLine)
    (hr : Room k callerA) (F : ∀ base : Heap, K.In base → base.Ns mainGlobals mg → FnG P w K mg base CX0 k fa fd [x] sp)
    (hbind : ∀ (s : Shared) (u : Value), BindsTo s fd ⟨[u], []⟩ [(x, u)])
    (hsp : ∀ H : Hp, Only H → SqL K H a (ns.map V.int) → sp [.ref a] H (fun v _ => v = .bl true) fun _ _ _ => False) :
    codeAny (model P w) callerA (.call (.ref fa) ⟨[.ref a], []⟩)
      (fun r s' => r = .ok (.ret (.bool true)) ∧ OldK s₁.heap s'.heap ∧ s'.os = s₁.os ∧ AllBare s'.gens) s₁ := by
  have rv := vals_ints hi
  have lenV := hi.length
  have core : ∀ H : Hp, Only H → SqL K H a (ns.map V.int) → HOk P w H s₁.heap → (∀ b, H b ≠ none → b = a) →
      (H a ≠ none → K.lookup a = none) → codeAny (model P w) callerA (.call (.ref fa) ⟨[.ref a], []⟩)
      (fun r s' => r = .ok (.ret (.bool true)) ∧ OldK s₁.heap s'.heap ∧ s'.os = s₁.os ∧ AllBare s'.gens) s₁ := by
    intro H hO hS hok hA hK
    have away : ∀ {b : Addr} {o : Obj} {es : Array DictEntry} {ep : Nat}, s₁.heap.get? b = some o → o.data = .dict es ep → H b = none := by
      intro b o es ep e d
      cases q : H b with
      | none => rfl
      | some u =>
        have e' : b = a := hA b (fun z => by rw [q] at z; cases z)
        rw [e', ha] at e
        cases e
        exact nomatch (show Data.seq vs.toArray _ = Data.dict es ep from d)
    have nsK : ∀ {b : Addr} {m : Str → Option Value}, s₁.heap.Ns b m → (hidT s₁.heap H).Ns b m := by
      intro b m z
      obtain ⟨o, es, ep, e, d, r⟩ := z
      exact ⟨o, es, ep, hidT_get e (away e d), d, r⟩
    have hKb : K.In (hidT s₁.heap H) := by
      intro b o e
      refine hidT_get (KX b o e) ?_
      cases q : H b with
      | none => rfl
      | some u =>
        have e' : b = a := hA b (fun z => by rw [q] at z; cases z)
        subst e'
        rw [hK (fun z => by rw [q] at z; cases z)] at e
        cases e
    obtain ⟨mc, l1, l2⟩ := hlim
    have hM : Mod K mg (hidT s₁.heap H) := ⟨hKb, nsK hns, ⟨mb, nsK hb, hbb⟩, mc, nsK l1, l2⟩
    have e0 : Env0 P w K mg (hidT s₁.heap H) callerA [] s₁ H :=
      ⟨rfl, hM, fun b o e => of_hidT e, Nat.le_of_eq (hidT_size _ _), trivial, fun b hb => (nomatch hb), hok, .of_eq hg⟩
    have main := (F _ hKb (nsK hns)).run callerA rfl [] s₁ H ⟨[.ref a], []⟩ [.ref a] [.ref a] _ _ hr e0 (hbind s₁ (.ref a)) (.cons rfl .nil) (hsp H hO hS)
    refine codeAny_mono main fun r s' h => ?_
    match r, h with
    | .error e, h => exact h.elim
    | .ok .next, h => exact h.elim
    | .ok .brk, h => exact h.elim
    | .ok .cont, h => exact h.elim
    | .ok (.ret u), ⟨v, H', os, bare, un, hok', r', q⟩ =>
      have q' : v = .bl true := q
      subst q'
      have eu : u = Value.bool true := r'
      subst eu
      refine ⟨rfl, OldK.of_keep fun b o e => ?_, os, bare⟩
      cases q : H b with
      | none => exact un.keep b o e q (fun z => nomatch z) (fun z => nomatch z)
      | some u =>
        rcases hO b with z | ⟨ob, xs, z⟩
        · rw [q] at z; cases z
        · have e1 := (hok b _ z).1
          have e2 := (hok' b _ (un.frzs b ob _ z)).1
          rw [e] at e1; cases e1
          exact e2
  cases hk : K.lookup a with
  | some o =>
    have e := KX a o hk
    rw [ha] at e
    cases e
    refine core (fun _ => none) (fun _ => .inl rfl) ?_ (fun b u z => nomatch z) (fun b z => absurd rfl z) fun z => absurd rfl z
    exact .inr ⟨_, vs.toArray, _, hk, rfl, rfl, rfl, by rw [List.size_toArray, lenV]; exact hl, by simpa using rv⟩
  | none =>
    have yes : (if a = a then some (HO.frz { cls := .type "list", data := .seq vs.toArray } (.lst (ns.map V.int))) else none) =
        some (HO.frz { cls := .type "list", data := .seq vs.toArray } (.lst (ns.map V.int))) := if_pos rfl
    refine core (fun b => if b = a then some (.frz { cls := .type "list", data := .seq vs.toArray } (.lst (ns.map V.int))) else none)
      (fun b => ?_) (.inl (.inr ⟨_, yes⟩)) (fun b u z => ?_) (fun b z => ?_) fun _ => hk
    · by_cases hb : b = a
      · exact .inr ⟨_, _, if_pos hb⟩
      · exact .inl (if_neg hb)
    · by_cases hb : b = a
      · cases (if_pos hb).symm.trans z
        subst hb
        exact ⟨ha, by rw [List.length_map]; exact hl, vs, _, rv, ha⟩
      · cases (if_neg hb).symm.trans z
    · by_cases hb : b = a
      · exact hb
      · exact absurd (if_neg hb) z

theorem walk_ofG {l : PySem.W.OpenLaw} {n k : Nat} {q : Program} {loose : List Str} {XP : (Str → Option Value) → Heap → Prop}
    {YP : World → Heap → Prop} {d : DefRec} {K : Params → PySem.W.Frag} {sp : World → Sp} {x : Str}
    (hn : l.most = some n) (hn2 : n ≤ sizeLine) (hdf : d.params.defaults = []) (hr : Room k callerA)
    (hY : ∀ (w : World) (h : Heap), YP w h → (K w.params).In h)
    (F : ∀ (w : World) (mg : Str → Option Value) (fa : Addr) (h : Heap), (K w.params).In h → h.Ns mainGlobals mg → mg d.name = some (.ref fa) →
      ∃ fd : FuncData, (∀ (s : Shared) (u : Value), BindsTo s fd ⟨[u], []⟩ [(x, u)]) ∧
        ∀ base : Heap, (K w.params).In base → base.Ns mainGlobals mg → FnG l.prog w (K w.params) mg base CX0 k fa fd [x] (sp w))
    (hsp : ∀ (w : World) (H : Hp) (a : Addr) (ns : List Int), ns.length ≤ n → Only H → SqL (K w.params) H a (ns.map V.int) →
      sp w [.ref a] H (fun v _ => v = .bl true) fun _ _ _ => False) :
    PySem.W.WalkO q loose XP YP l.row.toRowW d [] (fun f vs => PySem.call f vs) := by
  refine Att.attach_call hn hdf fun w s₀ s₁ mg mb fa o pm cd doc a vs ns G Y ho hd hcd hmg hobj hints hlen hg => ?_
  obtain ⟨fd, hb, hF⟩ := F w mg fa _ (hY w _ Y) G.T.g hmg
  exact law_callG (hY w _ Y) G.T.g G.T.b G.T.builtins G.T.nolimit hg hobj hints (Nat.le_trans hlen hn2) hr hF hb fun H hO hS => hsp w H a ns hlen hO hS

/-! ### repr of what is nested -/
mutual
/-- shown by repr within the line, no dicts -/
def fits : PyData → Bool
  | .none => true
  | .bool _ => true
  | .int i => decide (i.natAbs.log2 < 1920)
  | .str x => x.cps.toList.all fun c => decide (c < 16 ^ 8)
  | .list xs => fitsAll xs
  | .tuple xs => fitsAll xs
  | .dict _ => false
def fitsAll : List PyData → Bool
  | [] => true
  | x :: xs => fits x && fitsAll xs
end
mutual
theorem fits_to : ∀ d : PyData, fits d = true → d.showable = true ∧ d.hasDict = false ∧ d.leavesShort 1921 = true
  | .none, _ => ⟨rfl, rfl, rfl⟩
  | .bool _, _ => ⟨rfl, rfl, rfl⟩
  | .int i, h => by
    have h' : i.natAbs.log2 < 1920 := by simpa only [fits, decide_eq_true_eq] using h
    refine ⟨by simpa only [PyData.showable, decide_eq_true_eq] using h', rfl, ?_⟩
    have e := int_text_length_le (k := 1920) (by decide) h'
    simp only [PyData.leavesShort, decide_eq_true_eq]
    show (Str.ofString (toString i)).length ≤ 1921
    rw [PySem.ofString_length]
    exact e
  | .str x, h => ⟨rfl, rfl, by simpa only [fits, PyData.leavesShort] using h⟩
  | .list xs, h => by
    have z := fitsAll_to xs (by simpa only [fits] using h)
    exact ⟨by simpa only [PyData.showable] using z.1, by simpa only [PyData.hasDict] using z.2.1, by simpa only [PyData.leavesShort] using z.2.2⟩
  | .tuple xs, h => by
    have z := fitsAll_to xs (by simpa only [fits] using h)
    exact ⟨by simpa only [PyData.showable] using z.1, by simpa only [PyData.hasDict] using z.2.1, by simpa only [PyData.leavesShort] using z.2.2⟩
  | .dict _, h => by simp [fits] at h
theorem fitsAll_to : ∀ xs : List PyData, fitsAll xs = true → PyData.showableAll xs = true ∧ PyData.hasDictAll xs = false ∧ PyData.leavesShortAll 1921 xs = true
  | [], _ => ⟨rfl, rfl, rfl⟩
  | x :: xs, h => by
    have h' : fits x = true ∧ fitsAll xs = true := by simpa only [fitsAll, Bool.and_eq_true] using h
    have a := fits_to x h'.1
    have b := fitsAll_to xs h'.2
    refine ⟨?_, ?_, ?_⟩
    · simp only [PyData.showableAll, a.1, b.1, Bool.and_self]
    · simp only [PyData.hasDictAll, a.2.1, b.2.1, Bool.or_self]
    · simp only [PyData.leavesShortAll, a.2.2, b.2.2, Bool.and_self]
end
mutual
/-- how many leaves and displays (a text: one more than its signs) -/
def sz : PyData → Nat
  | .none => 1
  | .bool _ => 1
  | .int _ => 1
  | .str x => x.length + 1
  | .list xs => szAll xs + 1
  | .tuple xs => szAll xs + 1
  | .dict _ => 1
def szAll : List PyData → Nat
  | [] => 0
  | x :: xs => sz x + szAll xs
end
mutual
theorem shown_sz : ∀ d : PyData, fits d = true → d.shown.length + 2 ≤ 1930 * sz d
  | .none, _ => by
    have e : (PyData.shown .none).length = 4 := rfl
    simp only [sz]
    omega
  | .bool b, _ => by
    have e : (PyData.shown (.bool b)).length ≤ 5 := by cases b <;> decide
    simp only [sz]
    omega
  | .int i, h => by
    have h' : i.natAbs.log2 < 1920 := by simpa only [fits, decide_eq_true_eq] using h
    have e := int_text_length_le (k := 1920) (by decide) h'
    have e2 : (PyData.shown (.int i)).length ≤ 1921 := by
      show (Str.ofString (toString i)).length ≤ 1921
      rw [PySem.ofString_length]
      exact e
    simp only [sz]
    omega
  | .str x, h => by
    have hx : ∀ c ∈ x.cps.toList, c < 16 ^ 8 := by simpa only [fits, List.all_eq_true, decide_eq_true_eq] using h
    have e := StrLaws.reprText_len x hx
    have e2 : (PyData.shown (.str x)).length = (reprText x).length := rfl
    simp only [sz]
    omega
  | .list xs, h => by
    have h1 := shownAll_sz xs (by simpa only [fits] using h)
    have h2 := listText_len_le (PyData.shownAll xs)
    have h3 := PyData.shownAll_length xs
    simp only [PyData.shown, sz]
    omega
  | .tuple xs, h => by
    have h1 := shownAll_sz xs (by simpa only [fits] using h)
    have h2 := tupleText_len_le (PyData.shownAll xs)
    have h3 := PyData.shownAll_length xs
    simp only [PyData.shown, sz]
    omega
  | .dict _, h => by simp [fits] at h
theorem shownAll_sz : ∀ xs : List PyData, fitsAll xs = true → ((PyData.shownAll xs).map (·.length)).sum + 2 * xs.length ≤ 1930 * szAll xs
  | [], _ => by simp [PyData.shownAll, szAll]
  | x :: xs, h => by
    have h' : fits x = true ∧ fitsAll xs = true := by simpa only [fitsAll, Bool.and_eq_true] using h
    have h1 := shown_sz x h'.1
    have h2 := shownAll_sz xs h'.2
    simp only [PyData.shownAll, szAll, List.map_cons, List.sum_cons, List.length_cons]
    omega
end
theorem fits_len {d : PyData} (h : fits d = true) (hw : sz d ≤ 8000) : d.shown.length ≤ sizeLine := by
  have e := shown_sz d h
  rw [sizeLine_eq]
  omega
section
variable {X : Cx}
/-- repr(x), x a list or a tuple of plain data -/
def rRepr (K : PySem.W.Frag) : List V → Hp → VK → Prop := fun vs H Q =>
  ∃ (a : Addr) (d : PyData), vs = [.ref a] ∧ Dp K H (.ref a) d ∧ fits d = true ∧ sz d ≤ 8000 ∧ d.depth ≤ 60 ∧ Q (.str d.shown) H
theorem call_repr (hG : X.A.guards = some []) (hu : X.A.units + 64 < cLine) : CallR X (.builtin "repr") (rRepr X.K) := by
  intro pins s σ H vs us Q I r h
  obtain ⟨a, d, rfl, hd, hf, hw, hdep, q⟩ := h
  obtain ⟨u, rfl, ru⟩ := vals1 r
  cases ru
  obtain ⟨as, rd⟩ := Dp.reads I d _ _ hd rfl
  have f := fits_to d hf
  refine repr_of_reads' rd f.1 (PyData.noDict_hsm f.2.1) hG (by omega) (fun _ _ e => e) (fun h' u tk hk => ?_) (fits_len hf hw)
  exact ⟨.str d.shown, H, I.kept hk, ⟨_, rfl⟩, q⟩
end
section
variable {X : Cx}
/-- repr(x), x plain data of any kind without dicts -/
def rReprV (K : PySem.W.Frag) : List V → Hp → VK → Prop := fun vs H Q =>
  ∃ (v : V) (d : PyData), vs = [v] ∧ Dp K H v d ∧ fits d = true ∧ sz d ≤ 8000 ∧ d.depth ≤ 60 ∧ Q (.str d.shown) H
theorem call_reprV (hG : X.A.guards = some []) (hu : X.A.units + 64 < cLine) : CallR X (.builtin "repr") (rReprV X.K) := by
  intro pins s σ H vs us Q I r h
  obtain ⟨v, d, rfl, hd, hf, hw, hdep, q⟩ := h
  have hl := fits_len hf hw
  cases hd with
  | non =>
    obtain ⟨u, rfl, ru⟩ := vals1 r
    cases ru
    exact PySem.P.repr_of_none ⟨.str _, H, I.tok _, ⟨_, rfl⟩, q⟩
  | bl b =>
    obtain ⟨u, rfl, ru⟩ := vals1 r
    cases ru
    refine PySem.P.repr_of_bool ⟨.str (PyData.shown (.bool b)), H, I.tok _, ⟨_, rfl⟩, q⟩
  | int i =>
    obtain ⟨u, rfl, t, rfl⟩ := vals1 r
    exact PySem.P.repr_of_int (of_decide_eq_true hf) ⟨.str _, H, I.tok _, ⟨_, rfl⟩, q⟩
  | str x =>
    obtain ⟨u, rfl, t, rfl⟩ := vals1 r
    exact PySem.P.repr_of_str ⟨.str _, H, I.tok _, ⟨_, rfl⟩, q⟩ hl
  | lst a b => exact call_repr hG hu pins s σ H _ us Q I r ⟨_, _, rfl, .lst a b, hf, hw, hdep, q⟩
  | tup a b => exact call_repr hG hu pins s σ H _ us Q I r ⟨_, _, rfl, .tup a b, hf, hw, hdep, q⟩
end
/-! ### data of ints -/
theorem dpAll_ints {K : PySem.W.Frag} {H : Hp} : ∀ fs : List Int, DpAll K H (fs.map V.int) (fs.map PyData.int)
  | [] => .nil
  | f :: fs => .cons (.int f) (dpAll_ints fs)
theorem canLay_ints : ∀ fs : List Int, PyData.canLayAll0 (fs.map PyData.int) = true
  | [] => rfl
  | f :: fs => by
    simp only [List.map_cons, PyData.canLayAll0, PyData.canLay0, canLay_ints fs, Bool.and_self]
theorem depth_ints : ∀ fs : List Int, PyData.depthAll (fs.map PyData.int) = 0
  | [] => rfl
  | f :: fs => by
    simp only [List.map_cons, PyData.depthAll, PyData.depth, depth_ints fs, Nat.max_self]
theorem shaped_ints (fs : List Int) : SeqAt.shaped (.list (fs.map PyData.int)) = true := by
  simp only [SeqAt.shaped, PyData.canLay0, canLay_ints, PyData.depth, depth_ints]
  decide
theorem shaped_intsT (fs : List Int) : SeqAt.shaped (.tuple (fs.map PyData.int)) = true := by
  simp only [SeqAt.shaped, PyData.canLay0, canLay_ints, PyData.depth, depth_ints]
  decide
theorem eqv_ints_nil : ∀ fs : List Int, PyData.eqv (.list (fs.map PyData.int)) (.list []) = fs.isEmpty
  | [] => rfl
  | f :: fs => by
    simp [PyData.eqv, PyData.eqvAll]
theorem snoc_cases {α : Type} (l : List α) : l = [] ∨ ∃ r a, l = r ++ [a] := by
  rcases List.eq_nil_or_concat l with h | ⟨r, a, h⟩
  · exact .inl h
  · exact .inr ⟨r, a, by rw [h, List.concat_eq_append]⟩
theorem vne {a b : V} (e : (!decide (a = b)) = true) : a ≠ b := fun z => by
  rw [decide_eq_true z] at e
  exact absurd e (by decide)
theorem veq {a b : V} (e : ¬ (!decide (a = b)) = true) : a = b := by
  by_cases h : a = b
  · exact h
  · rw [decide_eq_false h] at e
    exact absurd rfl e
theorem vneF {a b : V} (e : ¬ decide (a = b) = true) : a ≠ b := fun z => e (decide_eq_true z)
/-! ### data stay under what is new -/
theorem Same.seqT {K : PySem.W.Frag} {H H' : Hp} {a : Addr} {xs : List V} (e : Same H H') (h : SqT K H a xs) : SqT K H' a xs := by
  rcases h with (h | ⟨o, h⟩) | h
  · exact .inl (.inl (e _ _ h))
  · exact .inl (.inr ⟨o, e _ _ h⟩)
  · exact .inr h
mutual
theorem dp_same {K : PySem.W.Frag} {H H' : Hp} (s : Same H H') : ∀ (d : PyData) (v : V), Dp K H v d → Dp K H' v d
  | .none, _, h => by cases h; exact .non
  | .bool _, _, h => by cases h; exact .bl _
  | .int _, _, h => by cases h; exact .int _
  | .str _, _, h => by cases h; exact .str _
  | .list ds, _, h => by
    cases h with
    | lst a b => exact .lst (s.seq a) (dpAll_same s ds _ b)
  | .tuple ds, _, h => by
    cases h with
    | tup a b => exact .tup (Ev.Same.seqT s a) (dpAll_same s ds _ b)
  | .dict _, _, h => by cases h
theorem dpAll_same {K : PySem.W.Frag} {H H' : Hp} (s : Same H H') : ∀ (ds : List PyData) (vs : List V), DpAll K H vs ds → DpAll K H' vs ds
  | [], _, h => by cases h; exact .nil
  | d :: ds, _, h => by
    cases h with
    | cons a b => exact .cons (dp_same s d _ a) (dpAll_same s ds _ b)
end
theorem nn {c : Prop} [Decidable c] {M N : Prop} (hc : c) (h : N) : if (!decide c) = true then M else N := by
  rw [decide_eq_true hc]
  exact iteF h
/-! ### what the loom is: a dict of a list of ints and two ints -/
def ld (F : Addr) (s t : Int) : List (Key × V) := [(Sum.inr "far", .ref F), (Sum.inr "stirred", .int s), (Sum.inr "times", .int t)]
def Lm (H : Hp) (L F : Addr) : Prop := ∃ (fs : List Int) (s t : Int), H L = some (.dK (ld F s t)) ∧ H F = some (.lst (fs.map V.int)) ∧ fs.length ≤ 63
theorem ld_far {F : Addr} {s t : Int} : valV (ld F s t) (Sum.inr "far") = some (.ref F) := rfl
theorem ld_stirred {F : Addr} {s t : Int} : valV (ld F s t) (Sum.inr "stirred") = some (.int s) := rfl
theorem ld_times {F : Addr} {s t : Int} : valV (ld F s t) (Sum.inr "times") = some (.int t) := rfl
theorem ld_len {F : Addr} {s t : Int} : (ld F s t).length < sizeLine := by
  show 3 < sizeLine
  decide
theorem ld_put {F : Addr} {s t u : Int} : putK (ld F s t) (Sum.inr "times") (.int u) = ld F s u := rfl
/-- all but the loom's two objects is as it was -/
def Kp (L F : Addr) (H H' : Hp) : Prop := ∀ b o, b ≠ L → b ≠ F → H b = some o → H' b = some o
theorem Kp.refl {L F : Addr} (H : Hp) : Kp L F H H := fun _ _ _ _ h => h
theorem Kp.trans {L F : Addr} {H H1 H2 : Hp} (a : Kp L F H H1) (b : Kp L F H1 H2) : Kp L F H H2 := fun c o h1 h2 h => b c o h1 h2 (a c o h1 h2 h)
theorem Kp.new {L F p : Addr} {H : Hp} {o : HO} (h : H p = none) : Kp L F H (upd H p o) := fun b u _ _ e => by
  rw [upd_ne (ne_of_none e h)]
  exact e
theorem Kp.updL {L F : Addr} {H : Hp} {o : HO} : Kp L F H (upd H L o) := fun b u h1 _ e => by
  rw [upd_ne h1]
  exact e
theorem Kp.updF {L F : Addr} {H : Hp} {o : HO} : Kp L F H (upd H F o) := fun b u _ h2 e => by
  rw [upd_ne h2]
  exact e
theorem Lm.new {H : Hp} {L F p : Addr} {o : HO} (h : Lm H L F) (hp : H p = none) : Lm (upd H p o) L F := by
  obtain ⟨fs, s, t, h1, h2, h3⟩ := h
  exact ⟨fs, s, t, by rw [upd_ne (ne_of_none h1 hp)]; exact h1, by rw [upd_ne (ne_of_none h2 hp)]; exact h2, h3⟩
theorem Lm.ne {H : Hp} {L F p : Addr} (h : Lm H L F) (hp : H p = none) : p ≠ L ∧ p ≠ F := by
  obtain ⟨fs, s, t, h1, h2, h3⟩ := h
  refine ⟨fun e => ?_, fun e => ?_⟩
  · rw [e, h1] at hp
    cases hp
  · rw [e, h2] at hp
    cases hp
theorem kp_same {L F : Addr} {H H' : Hp} (s : Same H H') : Kp L F H H' := fun b o _ _ e => s b o e
theorem Lm.same {H H' : Hp} {L F : Addr} (h : Lm H L F) (s : Same H H') : Lm H' L F := by
  obtain ⟨fs, a, b, h1, h2, h3⟩ := h
  exact ⟨fs, a, b, s _ _ h1, s _ _ h2, h3⟩
theorem Lm.tup {H : Hp} {L F t : Addr} {xs : List V} (h : Lm H L F) (ht : H t = some (.tup xs)) : t ≠ L ∧ t ≠ F := by
  obtain ⟨fs, a, b, h1, h2, h3⟩ := h
  exact ⟨ne_of ht h1 (by intro z; cases z), ne_of ht h2 (by intro z; cases z)⟩
theorem Kp.tup {L F t : Addr} {H H' : Hp} {xs : List V} (k : Kp L F H H') (h : Lm H L F) (ht : H t = some (.tup xs)) : H' t = some (.tup xs) := k _ _ (h.tup ht).1 (h.tup ht).2 ht
theorem Kp.seq {K : PySem.W.Frag} {L F a : Addr} {H H' : Hp} {xs : List V} (k : Kp L F H H') (h1 : a ≠ L) (h2 : a ≠ F) (h : SqL K H a xs) : SqL K H' a xs := by
  rcases h with (h | ⟨o, h⟩) | h
  · exact .inl (.inl (k _ _ h1 h2 h))
  · exact .inl (.inr ⟨o, k _ _ h1 h2 h⟩)
  · exact .inr h
theorem cut_ints (ns : List Int) (lo hi : Option Int) : ∃ ms : List Int, cutV (ns.map V.int) lo hi = ms.map V.int ∧ ms.length ≤ ns.length := by
  refine ⟨(ns.drop (HT.sIx ns.length 0 lo)).take (HT.sIx ns.length ns.length hi - HT.sIx ns.length 0 lo), ?_, ?_⟩
  · unfold cutV
    rw [List.length_map, List.map_take, List.map_drop]
  · rw [List.length_take, List.length_drop]
    omega
theorem int_at {ms : List Int} {i : Nat} {x : V} (h : (ms.map V.int)[i]? = some x) : ∃ m, ms[i]? = some m ∧ x = .int m := by
  rw [List.getElem?_map] at h
  cases e : ms[i]? with
  | none => rw [e] at h; cases h
  | some m => rw [e] at h; exact ⟨m, rfl, (Option.some.inj h).symm⟩
theorem same_new {H : Hp} {p : Addr} {o : HO} (h : H p = none) : Same H (upd H p o) := fun b x e => by
  rw [upd_ne (ne_of_none e h)]
  exact e
/-- a new object's own later states leave the rest -/
theorem same_put {H H1 : Hp} {p : Addr} {o : HO} (s : Same H H1) (h : H p = none) : Same H (upd H1 p o) := fun b x e => by
  rw [upd_ne (ne_of_none e h)]
  exact s _ _ e
theorem yes_of {σ : L2.St} {H : Hp} {M N : Hp → Prop} (h : M H) : tYes σ H (fun b H3 => if b = true then M H3 else N H3) := by
  unfold tYes
  show if true = true then M H else N H
  rw [if_pos rfl]
  exact h
theorem absI (a : Int) : (if a < 0 then -a else a) = (a.natAbs : Int) := by
  split <;> omega
end Ev

set_option exponentiation.threshold 256
/-! fractions -/
namespace Ev
def gc (a b : Int) : Nat := Nat.gcd a.natAbs b.natAbs
def dv (a b : Int) : Int := if 0 < b then (gc a b : Int) else -(gc a b : Int)
def fA (a b : Int) : Int := a.fdiv (dv a b)
def fB (a b : Int) : Int := b.fdiv (dv a b)
def Low (x y : Int) : Prop := 0 < y ∧ Nat.gcd x.natAbs y.natAbs = 1
theorem gc_pos {a b : Int} (h : b ≠ 0) : 0 < gc a b := Nat.gcd_pos_of_pos_right _ (by omega)
theorem dv_abs (a b : Int) : (dv a b).natAbs = gc a b := by
  unfold dv
  split <;> omega
theorem dv_ne {a b : Int} (h : b ≠ 0) : dv a b ≠ 0 := by
  have := gc_pos (a := a) h
  have e := dv_abs a b
  omega
theorem dv_dvd_a (a b : Int) : dv a b ∣ a := by
  rw [← Int.natAbs_dvd_natAbs, dv_abs]
  exact Nat.gcd_dvd_left _ _
theorem dv_dvd_b (a b : Int) : dv a b ∣ b := by
  rw [← Int.natAbs_dvd_natAbs, dv_abs]
  exact Nat.gcd_dvd_right _ _
theorem fA_mul {a b : Int} (h : b ≠ 0) : a = dv a b * fA a b := by
  obtain ⟨c, hc⟩ := dv_dvd_a a b
  have e : fA a b = c := by
    have : fA a b = (dv a b * c).fdiv (dv a b) := by rw [← hc]; rfl
    rw [this, Int.mul_fdiv_cancel_left _ (dv_ne h)]
  rw [e]
  exact hc
theorem fB_mul {a b : Int} (h : b ≠ 0) : b = dv a b * fB a b := by
  obtain ⟨c, hc⟩ := dv_dvd_b a b
  have e : fB a b = c := by
    have : fB a b = (dv a b * c).fdiv (dv a b) := by rw [← hc]; rfl
    rw [this, Int.mul_fdiv_cancel_left _ (dv_ne h)]
  rw [e]
  exact hc
theorem fA_le {a b : Int} (h : b ≠ 0) : (fA a b).natAbs ≤ a.natAbs := by
  have e := congrArg Int.natAbs (fA_mul (a := a) h)
  rw [Int.natAbs_mul, dv_abs] at e
  rw [e]
  exact Nat.le_mul_of_pos_left _ (gc_pos h)
theorem fB_le {a b : Int} (h : b ≠ 0) : (fB a b).natAbs ≤ b.natAbs := by
  have e := congrArg Int.natAbs (fB_mul (a := a) h)
  rw [Int.natAbs_mul, dv_abs] at e
  rw [e]
  exact Nat.le_mul_of_pos_left _ (gc_pos h)
theorem low_f {a b : Int} (h : b ≠ 0) : Low (fA a b) (fB a b) := by
  have hp := gc_pos (a := a) h
  refine ⟨?_, ?_⟩
  · have e := fB_mul (a := a) h
    rcases Int.lt_trichotomy 0 b with hb | hb | hb
    · have d : dv a b = (gc a b : Int) := if_pos hb
      rw [d] at e
      rcases Int.lt_trichotomy 0 (fB a b) with z | z | z
      · exact z
      · rw [← z, Int.mul_zero] at e
        exact absurd e h
      · have : (gc a b : Int) * fB a b < 0 := Int.mul_neg_of_pos_of_neg (by omega) z
        omega
    · exact absurd hb.symm h
    · have d : dv a b = -(gc a b : Int) := if_neg (by omega)
      rw [d] at e
      rcases Int.lt_trichotomy 0 (fB a b) with z | z | z
      · exact z
      · rw [← z, Int.mul_zero] at e
        exact absurd e h
      · have : 0 < -(gc a b : Int) * fB a b := Int.mul_pos_of_neg_of_neg (by omega) z
        omega
  · have ea := congrArg Int.natAbs (fA_mul (a := a) h)
    have eb := congrArg Int.natAbs (fB_mul (a := a) h)
    rw [Int.natAbs_mul, dv_abs] at ea eb
    have g : gc a b = Nat.gcd (gc a b * (fA a b).natAbs) (gc a b * (fB a b).natAbs) := by
      conv => lhs; unfold gc; rw [ea, eb]
    rw [Nat.gcd_mul_left] at g
    have : gc a b * 1 = gc a b * Nat.gcd (fA a b).natAbs (fB a b).natAbs := by rw [Nat.mul_one]; exact g
    exact (Nat.eq_of_mul_eq_mul_left hp this).symm
theorem low_inj {x y z u : Int} (h1 : Low x y) (h2 : Low z u) (e : x * u = z * y) : x = z ∧ y = u := by
  obtain ⟨p1, c1⟩ := h1
  obtain ⟨p2, c2⟩ := h2
  have en := congrArg Int.natAbs e
  rw [Int.natAbs_mul, Int.natAbs_mul] at en
  have d1 : y.natAbs ∣ u.natAbs := by
    have : y.natAbs ∣ x.natAbs * u.natAbs := ⟨z.natAbs, by rw [en, Nat.mul_comm]⟩
    exact Nat.Coprime.dvd_of_dvd_mul_left (show Nat.Coprime y.natAbs x.natAbs by rw [Nat.coprime_comm]; exact c1) this
  have d2 : u.natAbs ∣ y.natAbs := by
    have : u.natAbs ∣ z.natAbs * y.natAbs := ⟨x.natAbs, by rw [← en, Nat.mul_comm]⟩
    exact Nat.Coprime.dvd_of_dvd_mul_left (show Nat.Coprime u.natAbs z.natAbs by rw [Nat.coprime_comm]; exact c2) this
  have ey : y = u := by
    have := Nat.dvd_antisymm d1 d2
    omega
  subst ey
  exact ⟨Int.eq_of_mul_eq_mul_right (by omega) e, rfl⟩
end Ev

set_option exponentiation.threshold 256
/-! data of any kind, dicts too, as the heap holds them -/
namespace Ev
open PySem PySem.Spec PyProof.Rows L2
def kD : Key → PyData
  | .inl i => .int i
  | .inr x => .str x
mutual
/-- v is d; lists and dicts stand at places of which Z tells something -/
inductive Dx (K : PySem.W.Frag) (Z : Addr → Prop) (H : Hp) : V → PyData → Prop
  | non : Dx K Z H .non .none
  | bl (b : Bool) : Dx K Z H (.bl b) (.bool b)
  | int (i : Int) : Dx K Z H (.int i) (.int i)
  | str (x : Str) : Dx K Z H (.str x) (.str x)
  | lst {a : Addr} {xs : List V} {ds : List PyData} (e : H a = some (.lst xs)) (z : Z a) (h : DxAll K Z H xs ds) : Dx K Z H (.ref a) (.list ds)
  | tup {a : Addr} {xs : List V} {ds : List PyData} (e : SqT K H a xs) (h : DxAll K Z H xs ds) : Dx K Z H (.ref a) (.tuple ds)
  | dct {a : Addr} {kvs : List (Key × V)} {ds : List (PyData × PyData)} (e : H a = some (.dK kvs)) (z : Z a) (h : DxKv K Z H kvs ds) : Dx K Z H (.ref a) (.dict ds)
inductive DxAll (K : PySem.W.Frag) (Z : Addr → Prop) (H : Hp) : List V → List PyData → Prop
  | nil : DxAll K Z H [] []
  | cons {v : V} {vs : List V} {d : PyData} {ds : List PyData} (h : Dx K Z H v d) (r : DxAll K Z H vs ds) : DxAll K Z H (v :: vs) (d :: ds)
inductive DxKv (K : PySem.W.Frag) (Z : Addr → Prop) (H : Hp) : List (Key × V) → List (PyData × PyData) → Prop
  | nil : DxKv K Z H [] []
  | cons {k : Key} {v : V} {vs : List (Key × V)} {d : PyData} {ds : List (PyData × PyData)} (h : Dx K Z H v d) (r : DxKv K Z H vs ds) : DxKv K Z H ((k, v) :: vs) ((kD k, d) :: ds)
end
/-! ### they stay where nothing of theirs is changed -/
mutual
theorem dx_keep {K : PySem.W.Frag} {Z : Addr → Prop} {H H' : Hp} (hT : ∀ a xs, SqT K H a xs → SqT K H' a xs) (hZ : ∀ a o, Z a → H a = some o → H' a = some o) : ∀ {v : V} {d : PyData}, Dx K Z H v d → Dx K Z H' v d
  | _, _, .non => .non
  | _, _, .bl b => .bl b
  | _, _, .int i => .int i
  | _, _, .str x => .str x
  | _, _, .lst e z h => .lst (hZ _ _ z e) z (dxAll_keep hT hZ h)
  | _, _, .tup e h => .tup (hT _ _ e) (dxAll_keep hT hZ h)
  | _, _, .dct e z h => .dct (hZ _ _ z e) z (dxKv_keep hT hZ h)
theorem dxAll_keep {K : PySem.W.Frag} {Z : Addr → Prop} {H H' : Hp} (hT : ∀ a xs, SqT K H a xs → SqT K H' a xs) (hZ : ∀ a o, Z a → H a = some o → H' a = some o) : ∀ {vs : List V} {ds : List PyData}, DxAll K Z H vs ds → DxAll K Z H' vs ds
  | _, _, .nil => .nil
  | _, _, .cons h r => .cons (dx_keep hT hZ h) (dxAll_keep hT hZ r)
theorem dxKv_keep {K : PySem.W.Frag} {Z : Addr → Prop} {H H' : Hp} (hT : ∀ a xs, SqT K H a xs → SqT K H' a xs) (hZ : ∀ a o, Z a → H a = some o → H' a = some o) : ∀ {vs : List (Key × V)} {ds : List (PyData × PyData)}, DxKv K Z H vs ds → DxKv K Z H' vs ds
  | _, _, .nil => .nil
  | _, _, .cons h r => .cons (dx_keep hT hZ h) (dxKv_keep hT hZ r)
end
theorem dx_same {K : PySem.W.Frag} {Z : Addr → Prop} {H H' : Hp} (s : Same H H') {v : V} {d : PyData} (h : Dx K Z H v d) : Dx K Z H' v d := dx_keep (fun _ _ e => Ev.Same.seqT s e) (fun _ _ _ e => s _ _ e) h
theorem dxAll_same {K : PySem.W.Frag} {Z : Addr → Prop} {H H' : Hp} (s : Same H H') {v : List V} {d : List PyData} (h : DxAll K Z H v d) : DxAll K Z H' v d := dxAll_keep (fun _ _ e => Ev.Same.seqT s e) (fun _ _ _ e => s _ _ e) h
/-- beside the loom's two -/
def ZL (L F : Addr) : Addr → Prop := fun a => a ≠ L ∧ a ≠ F
theorem Kp.sqT {K : PySem.W.Frag} {L F a : Addr} {H H' : Hp} {xs : List V} (k : Kp L F H H') (hM : Lm H L F) (h : SqT K H a xs) : SqT K H' a xs := by
  obtain ⟨fs, s, t, h1, h2, h3⟩ := hM
  rcases h with (h | ⟨o, h⟩) | h
  · exact .inl (.inl (k _ _ (ne_of h h1 (by intro z; cases z)) (ne_of h h2 (by intro z; cases z)) h))
  · exact .inl (.inr ⟨o, k _ _ (ne_of h h1 (by intro z; cases z)) (ne_of h h2 (by intro z; cases z)) h⟩)
  · exact .inr h
theorem dx_kp {K : PySem.W.Frag} {L F : Addr} {H H' : Hp} (k : Kp L F H H') (hM : Lm H L F) {v : V} {d : PyData} (h : Dx K (ZL L F) H v d) : Dx K (ZL L F) H' v d := dx_keep (fun _ _ e => k.sqT hM e) (fun _ _ z e => k _ _ z.1 z.2 e) h
theorem dxAll_kp {K : PySem.W.Frag} {L F : Addr} {H H' : Hp} (k : Kp L F H H') (hM : Lm H L F) {v : List V} {d : List PyData} (h : DxAll K (ZL L F) H v d) : DxAll K (ZL L F) H' v d := dxAll_keep (fun _ _ e => k.sqT hM e) (fun _ _ z e => k _ _ z.1 z.2 e) h
/-! ### plain data -/
mutual
theorem dp_of_dx {K : PySem.W.Frag} {Z : Addr → Prop} {H : Hp} : ∀ {v : V} {d : PyData}, Dx K Z H v d → d.hasDict = false → Dp K H v d
  | _, _, .non, _ => .non
  | _, _, .bl b, _ => .bl b
  | _, _, .int i, _ => .int i
  | _, _, .str x, _ => .str x
  | _, _, .lst e z h, n => .lst (SqL.of e) (dpAll_of_dx h (by simpa only [PyData.hasDict] using n))
  | _, _, .tup e h, n => .tup e (dpAll_of_dx h (by simpa only [PyData.hasDict] using n))
  | _, _, .dct e z h, n => by simp only [PyData.hasDict] at n; cases n
theorem dpAll_of_dx {K : PySem.W.Frag} {Z : Addr → Prop} {H : Hp} : ∀ {vs : List V} {ds : List PyData}, DxAll K Z H vs ds → PyData.hasDictAll ds = false → DpAll K H vs ds
  | _, _, .nil, _ => .nil
  | _, _, .cons h r, n => by
    simp only [PyData.hasDictAll, Bool.or_eq_false_iff] at n
    exact .cons (dp_of_dx h n.1) (dpAll_of_dx r n.2)
end
/-! ### as the library reads them -/
section
variable {X : Cx} {pins : List (Addr × Obj)} {σ : L2.St} {H : Hp} {s : Shared} {Z : Addr → Prop}
theorem kv_vals : ∀ {kvs : List (Key × V)} {ws : List (Key × Value)}, KV kvs ws → Vals (kvs.map (·.2)) (ws.map (·.2))
  | _, _, .nil => .nil
  | _, _, .cons h r => .cons h.2 (kv_vals r)
theorem key_reads {h : Heap} {k : Key} {u : Value} (e : keyIs k u = true) : Reads h u (kD k) [] := by
  rcases keyIs_shape e with ⟨i, t, rfl, rfl⟩ | ⟨x, t, rfl, rfl⟩
  · exact .int i t
  · exact .str x t
theorem keys_reads {h : Heap} {P : Program} {w : World} : ∀ {kvs : List (Key × V)} {ws : List (Key × Value)} {es : List DictEntry} {ds : List (PyData × PyData)}, KV kvs ws → Pairs (mixKind P w) es ws → DxKv X.K Z H kvs ds →
    ReadsAll h (es.map (·.key)) (ds.map (·.1)) []
  | _, _, _, _, .nil, .nil, .nil => .nil
  | _, _, _, _, .cons hk r, .cons he hv q, .cons hd t => by
    refine .cons (as := []) (bs := []) (key_reads ?_) (keys_reads r q t)
    rw [mixKind_is] at he
    have e1 := hk.1
    show keyIs _ _ = true
    dsimp only at e1 ⊢
    rw [e1]
    exact he
mutual
theorem dx_reads (I : Inv X pins σ H s) : ∀ {v : V} {d : PyData} {u : Value}, Dx X.K Z H v d → RelV v u → ∃ as, Reads s.heap u d as
  | _, _, _, .non, r => by cases r; exact ⟨_, .none⟩
  | _, _, _, .bl b, r => by cases r; exact ⟨_, .bool b⟩
  | _, _, _, .int i, r => by obtain ⟨t, rfl⟩ := r; exact ⟨_, .int i t⟩
  | _, _, _, .str x, r => by obtain ⟨t, rfl⟩ := r; exact ⟨_, .str x t⟩
  | _, _, _, .lst e z h, r => by
    cases r
    obtain ⟨its, rv, ⟨o, n, ho, hc, _, hd⟩, _⟩ := I.list (SqL.of e)
    obtain ⟨as, hr⟩ := dxAll_reads I h rv
    exact ⟨_, .list ho hc hd hr⟩
  | _, _, _, .tup e h, r => by
    cases r
    obtain ⟨its, rv, ⟨o, ho, hc, n, hd⟩, _⟩ := I.tuple e
    obtain ⟨as, hr⟩ := dxAll_reads I h rv
    exact ⟨_, .tuple ho hc hd hr⟩
  | _, _, _, .dct e z h, r => by
    cases r
    obtain ⟨_, _, ws, rk, o, es, ep, ho, hx, hd, _, hp, _⟩ := dk_of I.hok e
    obtain ⟨as, hr⟩ := dxKv_reads I h rk hp
    exact ⟨_, .dict ho hx.1 hd (keys_reads rk hp h) hr⟩
theorem dxAll_reads (I : Inv X pins σ H s) : ∀ {vs : List V} {ds : List PyData} {us : List Value}, DxAll X.K Z H vs ds → Vals vs us → ∃ as, ReadsAll s.heap us ds as
  | _, _, _, .nil, r => by cases r; exact ⟨_, .nil⟩
  | _, _, _, .cons h t, .cons r1 r2 => by
    obtain ⟨as, q1⟩ := dx_reads I h r1
    obtain ⟨bs, q2⟩ := dxAll_reads I t r2
    exact ⟨_, .cons q1 q2⟩
theorem dxKv_reads (I : Inv X pins σ H s) {P : Program} {w : World} : ∀ {kvs : List (Key × V)} {ds : List (PyData × PyData)} {ws : List (Key × Value)} {es : List DictEntry}, DxKv X.K Z H kvs ds → KV kvs ws → Pairs (mixKind P w) es ws →
    ∃ as, ReadsAll s.heap (es.map (·.val)) (ds.map (·.2)) as
  | _, _, _, _, .nil, .nil, .nil => ⟨_, .nil⟩
  | _, _, _, _, .cons h t, .cons hk r, .cons he hv q => by
    obtain ⟨as, q1⟩ := dx_reads I h hk.2
    obtain ⟨bs, q2⟩ := dxKv_reads I t r q
    refine ⟨_, .cons (as := as) (bs := bs) ?_ q2⟩
    dsimp only
    rw [hv]
    exact q1
end
/-! ### as repr shows them -/
/-- what a shown part leaves behind: deeper places than it are not among its own -/
def RK (X : Cx) (s : Shared) (n : Nat) (u : Value) (t : Str) : Prop := ∃ bs, ReadAtMost s.heap n bs ∧ ReprK X.prog X.w bs s.heap n u t
def RKs (X : Cx) (s : Shared) (n : Nat) (us : List Value) (ts : List Str) : Prop := ∃ bs, ReadAtMost s.heap n bs ∧ ReprAllK X.prog X.w bs s.heap n us ts
theorem RKs.cons {n m : Nat} {u : Value} {us : List Value} {t : Str} {ts : List Str} (a : RK X s n u t) (b : RKs X s m us ts) : RKs X s (max n m) (u :: us) (t :: ts) := by
  obtain ⟨p, hp, kp⟩ := a
  obtain ⟨q, hq, kq⟩ := b
  have l1 : n ≤ max n m := Nat.le_max_left n m
  have l2 : m ≤ max n m := Nat.le_max_right n m
  refine ⟨p ++ q, (hp.mono l1).append (hq.mono l2), .cons ((kp.more fun b hb => List.mem_append_left q hb).level_le l1) (kq.more_le (fun b hb => List.mem_append_right p hb) l2)⟩
theorem RKs.nil : RKs X s 0 [] [] := ⟨[], fun _ h => (nomatch h), .nil⟩
theorem key_repr {k : Key} {u : Value} (e : keyIs k u = true) (hs : (kD k).showable = true) (hz : (kD k).shown.length ≤ sizeLine) : RK X s (kD k).depth u (kD k).shown := by
  rcases keyIs_shape e with ⟨i, t, rfl, rfl⟩ | ⟨x, t, rfl, rfl⟩
  · have hs' : i.natAbs.log2 < 1920 := by simpa only [kD, PyData.showable, decide_eq_true_eq] using hs
    simp only [kD, PyData.shown]
    exact ⟨[], fun _ h => (nomatch h), .of_is (ReprIs.int t hs') _ _ _⟩
  · simp only [kD, PyData.shown] at hz ⊢
    exact ⟨[], fun _ h => (nomatch h), .of_is (ReprIs.str x t hz) _ _ _⟩
theorem ents_more {P : Program} {w : World} {h₀ : Heap} {as as' : List Addr} {d d' : Nat} (hsub : ∀ b ∈ as, b ∈ as') (hd : d ≤ d') : ∀ {es : List DictEntry} {ps : List Str}, ReprEntriesK P w as h₀ d es ps → ReprEntriesK P w as' h₀ d' es ps
  | _, _, .nil => .nil
  | _, _, .cons a b r => .cons ((a.more hsub).level_le hd) ((b.more hsub).level_le hd) (ents_more hsub hd r)
mutual
theorem dx_repr (I : Inv X pins σ H s) : ∀ {v : V} {d : PyData} {u : Value}, Dx X.K Z H v d → RelV v u → d.showable = true → d.shown.length ≤ sizeLine → RK X s d.depth u d.shown
  | _, _, _, .non, r, _, _ => by
    cases r
    simp only [PyData.shown]
    exact ⟨[], fun _ h => (nomatch h), .of_is ReprIs.none _ _ _⟩
  | _, _, _, .bl b, r, _, _ => by
    cases r
    simp only [PyData.shown]
    exact ⟨[], fun _ h => (nomatch h), .of_is (ReprIs.bool b) _ _ _⟩
  | _, _, _, .int i, r, hs, _ => by
    obtain ⟨t, rfl⟩ := r
    have hs' : i.natAbs.log2 < 1920 := by simpa only [PyData.showable, decide_eq_true_eq] using hs
    simp only [PyData.shown]
    exact ⟨[], fun _ h => (nomatch h), .of_is (ReprIs.int t hs') _ _ _⟩
  | _, _, _, .str x, r, _, hz => by
    obtain ⟨t, rfl⟩ := r
    simp only [PyData.shown] at hz ⊢
    exact ⟨[], fun _ h => (nomatch h), .of_is (ReprIs.str x t hz) _ _ _⟩
  | _, _, _, .lst (a := a) (ds := ds) e z h, r, hs, hz => by
    cases r
    have rd := dx_reads I (.lst e z h) (u := .ref a) rfl
    obtain ⟨its, rv, ⟨o, n, ho, hc, _, hd⟩, _⟩ := I.list (SqL.of e)
    simp only [PyData.shown] at hz
    obtain ⟨bs, hb, hk⟩ := dxAll_repr I h rv (by simpa only [PyData.showable] using hs) fun t ht => Nat.le_trans (listText_mem_le ht) hz
    obtain ⟨as, rd⟩ := rd
    simp only [PyData.shown, PyData.depth]
    have own : a ∉ bs := not_mem_of_deeper rd (by simp only [PyData.depth]; omega) hb
    refine ⟨a :: bs, ?_, ?_⟩
    · have := ReadAtMost.cons rd (by simp only [PyData.depth]; omega) hb
      simpa only [PyData.depth] using this
    · cases its with
      | nil =>
        cases rv
        cases h
        simp only [PyData.shownAll, listText_nil]
        exact ReprK.listEmpty ho hc hd
      | cons x l => exact ReprK.list ho hc hd own (by simpa using hk.length_eq) fun i y hy => hk.item i y (by simpa using hy)
  | _, _, _, .tup (a := a) e h, r, hs, hz => by
    cases r
    have rd := dx_reads I (.tup e h) (u := .ref a) rfl
    obtain ⟨its, rv, ⟨o, ho, hc, n, hd⟩, _⟩ := I.tuple e
    simp only [PyData.shown] at hz
    obtain ⟨bs, hb, hk⟩ := dxAll_repr I h rv (by simpa only [PyData.showable] using hs) fun t ht => Nat.le_trans (tupleText_mem_le ht) hz
    obtain ⟨as, rd⟩ := rd
    simp only [PyData.shown, PyData.depth]
    have own : a ∉ bs := not_mem_of_deeper rd (by simp only [PyData.depth]; omega) hb
    refine ⟨a :: bs, ?_, ReprK.tuple ho hc hd own hk⟩
    have := ReadAtMost.cons rd (by simp only [PyData.depth]; omega) hb
    simpa only [PyData.depth] using this
  | _, _, _, .dct (a := a) (ds := ds) e z h, r, hs, hz => by
    cases r
    have rd := dx_reads I (.dct e z h) (u := .ref a) rfl
    obtain ⟨_, sys, ws, rk, o, es, ep, ho, hx, hd, _, hp, _⟩ := dk_of I.hok e
    simp only [PyData.shown] at hz
    obtain ⟨bs, hb, hk⟩ := dxKv_repr I h rk hp (by simpa only [PyData.showable] using hs) fun t ht => Nat.le_trans (dictText_mem_le ht) hz
    obtain ⟨as, rd⟩ := rd
    simp only [PyData.shown, PyData.depth]
    have own : a ∉ bs := not_mem_of_deeper rd (by simp only [PyData.depth]; omega) hb
    refine ⟨a :: bs, ?_, ReprK.dict ho hx.1 hd sys own hk⟩
    have := ReadAtMost.cons rd (by simp only [PyData.depth]; omega) hb
    simpa only [PyData.depth] using this
theorem dxAll_repr (I : Inv X pins σ H s) : ∀ {vs : List V} {ds : List PyData} {us : List Value}, DxAll X.K Z H vs ds → Vals vs us → PyData.showableAll ds = true → (∀ t ∈ PyData.shownAll ds, t.length ≤ sizeLine) → RKs X s (PyData.depthAll ds) us (PyData.shownAll ds)
  | _, _, _, .nil, r, _, _ => by
    cases r
    simp only [PyData.shownAll, PyData.depthAll]
    exact RKs.nil
  | _, _, _, .cons h t, .cons r1 r2, hs, hz => by
    simp only [PyData.showableAll, Bool.and_eq_true] at hs
    simp only [PyData.shownAll, PyData.depthAll] at hz ⊢
    exact RKs.cons (dx_repr I h r1 hs.1 (hz _ (List.mem_cons_self ..))) (dxAll_repr I t r2 hs.2 fun t ht => hz t (List.mem_cons_of_mem _ ht))
theorem dxKv_repr (I : Inv X pins σ H s) {P : Program} {w : World} : ∀ {kvs : List (Key × V)} {ds : List (PyData × PyData)} {ws : List (Key × Value)} {es : List DictEntry}, DxKv X.K Z H kvs ds → KV kvs ws → Pairs (mixKind P w) es ws →
    PyData.showableKv ds = true → (∀ t ∈ PyData.shownKv ds, t.length ≤ sizeLine) → ∃ bs, ReadAtMost s.heap (PyData.depthKv ds) bs ∧ ReprEntriesK X.prog X.w bs s.heap (PyData.depthKv ds) es (PyData.shownKv ds)
  | _, _, _, _, .nil, .nil, .nil, _, _ => by
    simp only [PyData.shownKv]
    exact ⟨[], fun _ h => (nomatch h), .nil⟩
  | _, _, _, _, .cons (k := k) (d := d) (ds := ds) h t, .cons hk r, .cons (e := e) he hv q, hs, hz => by
    simp only [PyData.showableKv, Bool.and_eq_true] at hs
    simp only [PyData.shownKv, PyData.depthKv] at hz ⊢
    have lz := hz _ (List.mem_cons_self ..)
    rw [strLen_append, strLen_append] at lz
    have e1 := hk.1
    have e2 := hk.2
    dsimp only at e1 e2
    rw [mixKind_is, ← e1] at he
    obtain ⟨p, hp, kp⟩ := key_repr (X := X) (s := s) he hs.1.1 (by omega)
    obtain ⟨q1, hq, kq⟩ := dx_repr I h e2 hs.1.2 (by omega)
    obtain ⟨q2, hr, kr⟩ := dxKv_repr I t r q hs.2 fun t ht => hz t (List.mem_cons_of_mem _ ht)
    refine ⟨p ++ (q1 ++ q2), ?_, ?_⟩
    · exact (hp.mono (by omega)).append ((hq.mono (by omega)).append (hr.mono (by omega)))
    · rw [← hv] at kq
      refine .cons ((kp.more fun b hb => List.mem_append_left _ hb).level_le (by omega)) ((kq.more fun b hb => List.mem_append_right _ (List.mem_append_left _ hb)).level_le (by omega)) ?_
      exact ents_more (fun b hb => List.mem_append_right _ (List.mem_append_right _ hb)) (by omega) kr
end
end
section
variable {X : Cx}
/-- repr(x), x data of any kind -/
def rReprX (K : PySem.W.Frag) : List V → Hp → VK → Prop := fun vs H Q =>
  ∃ (v : V) (d : PyData) (Z : Addr → Prop), vs = [v] ∧ Dx K Z H v d ∧ d.showable = true ∧ d.shown.length ≤ sizeLine ∧ d.depth ≤ 60 ∧ Q (.str d.shown) H
theorem call_reprX (hG : X.A.guards = some []) (hu : X.A.units + 64 < cLine) : CallR X (.builtin "repr") (rReprX X.K) := by
  intro pins s σ H vs us Q I r h
  obtain ⟨v, d, Z, rfl, hx, hs, hz, hdep, q⟩ := h
  have keep : ∀ (h' : Heap) (u : Tok) (tk : Nat), (∀ b o, s.heap.get? b = some o → h'.get? b = some o) → EP X pins σ Q (.str d.shown u) { s with heap := h', toks := tk } :=
    fun h' u tk hk => ⟨.str d.shown, H, I.kept hk, ⟨_, rfl⟩, q⟩
  cases hx with
  | non =>
    obtain ⟨u, rfl, ru⟩ := vals1 r
    cases ru
    exact PySem.P.repr_of_none ⟨.str _, H, I.tok _, ⟨_, rfl⟩, q⟩
  | bl b =>
    obtain ⟨u, rfl, ru⟩ := vals1 r
    cases ru
    refine PySem.P.repr_of_bool ⟨.str (PyData.shown (.bool b)), H, I.tok _, ⟨_, rfl⟩, q⟩
  | int i =>
    obtain ⟨u, rfl, t, rfl⟩ := vals1 r
    have hs' : i.natAbs.log2 < 1920 := by simpa only [PyData.showable, decide_eq_true_eq] using hs
    exact PySem.P.repr_of_int hs' ⟨.str _, H, I.tok _, ⟨_, rfl⟩, q⟩
  | str x =>
    obtain ⟨u, rfl, t, rfl⟩ := vals1 r
    exact PySem.P.repr_of_str ⟨.str _, H, I.tok _, ⟨_, rfl⟩, q⟩ hz
  | lst e z h =>
    obtain ⟨u, rfl, ru⟩ := vals1 r
    cases ru
    rename_i a xs ds
    obtain ⟨as, rd⟩ := dx_reads I (.lst e z h) (u := .ref a) rfl
    obtain ⟨its, rv, ⟨o, n, ho, hc, _, hd⟩, _⟩ := I.list (SqL.of e)
    simp only [PyData.shown, PyData.depth] at hz hdep keep
    obtain ⟨bs, hb, hk⟩ := dxAll_repr I h rv (by simpa only [PyData.showable] using hs) fun t ht => Nat.le_trans (listText_mem_le ht) hz
    have own : a ∉ bs := not_mem_of_deeper rd (by simp only [PyData.depth]; omega) hb
    refine call_repr_slot (by omega) ⟨o, ho, hc⟩ F.slot_list_repr.toG ?_
    cases its with
    | nil =>
      cases rv
      cases h
      simp only [PyData.shownAll, listText_nil] at keep
      exact call_list_repr_empty ⟨o, ho, hc⟩ ho hd ⟨_, _, rfl, keep s.heap _ _ fun _ _ e => e⟩
    | cons x l =>
      exact call_list_reprK ho hc hd own (by simpa using hk.length_eq) (fun i y hy => hk.item i y (by simpa using hy)) hG (fun b _ => Clear.nil b) (by show X.A.units + 1 + (_ + 1) < cLine; omega) (fun _ _ e => e) (fun h' u tk hk' => ⟨_, _, rfl, keep h' u tk hk'⟩) hz
  | tup e h =>
    obtain ⟨u, rfl, ru⟩ := vals1 r
    cases ru
    rename_i a xs ds
    obtain ⟨as, rd⟩ := dx_reads I (Dx.tup (Z := Z) e h) (u := .ref a) rfl
    obtain ⟨its, rv, ⟨o, ho, hc, n, hd⟩, _⟩ := I.tuple e
    simp only [PyData.shown, PyData.depth] at hz hdep keep
    obtain ⟨bs, hb, hk⟩ := dxAll_repr I h rv (by simpa only [PyData.showable] using hs) fun t ht => Nat.le_trans (tupleText_mem_le ht) hz
    have own : a ∉ bs := not_mem_of_deeper rd (by simp only [PyData.depth]; omega) hb
    refine call_repr_slot (by omega) ⟨o, ho, hc⟩ F.slot_tuple_repr ?_
    exact call_tuple_reprK ho hc hd own hk hG (fun b _ => Clear.nil b) (by show X.A.units + 1 + (_ + 1) < cLine; omega) (fun _ _ e => e) (fun h' u tk hk' => ⟨_, _, rfl, keep h' u tk hk'⟩) hz
  | dct e z h =>
    obtain ⟨u, rfl, ru⟩ := vals1 r
    cases ru
    rename_i a kvs ds
    obtain ⟨as, rd⟩ := dx_reads I (.dct e z h) (u := .ref a) rfl
    obtain ⟨_, sys, ws, rk, o, es, ep, ho, hx, hd, _, hp, _⟩ := dk_of I.hok e
    simp only [PyData.shown, PyData.depth] at hz hdep keep
    obtain ⟨bs, hb, hk⟩ := dxKv_repr I h rk hp (by simpa only [PyData.showable] using hs) fun t ht => Nat.le_trans (dictText_mem_le ht) hz
    have own : a ∉ bs := not_mem_of_deeper rd (by simp only [PyData.depth]; omega) hb
    refine call_repr_slot (by omega) ⟨o, ho, hx.1⟩ F.slot_dict_repr ?_
    exact call_dict_reprK ho hx.1 hd sys own hk hG (fun b _ => Clear.nil b) (by show X.A.units + 1 + (_ + 1) < cLine; omega) (fun _ _ e => e) (fun h' u tk hk' => ⟨_, _, rfl, keep h' u tk hk'⟩) hz
end
end Ev

set_option exponentiation.threshold 256
/-! data of any kind: kinds, parts, how long they are shown -/
namespace Ev
open PySem PySem.Spec PyProof.Rows L2
/-! ### kinds -/
def tyN : PyData → String
  | .none => "NoneType"
  | .bool _ => "bool"
  | .int _ => "int"
  | .str _ => "str"
  | .list _ => "list"
  | .tuple _ => "tuple"
  | .dict _ => "dict"
def isInt : PyData → Bool
  | .int _ => true
  | .bool _ => true
  | _ => false
def isBool : PyData → Bool
  | .bool _ => true
  | _ => false
def isStr : PyData → Bool
  | .str _ => true
  | _ => false
def isTup : PyData → Bool
  | .tuple _ => true
  | _ => false
def isLst : PyData → Bool
  | .list _ => true
  | _ => false
def isDct : PyData → Bool
  | .dict _ => true
  | _ => false
section
variable {K : PySem.W.Frag} {Z : Addr → Prop} {H : Hp}
theorem kit_int : ∀ d : PyData, PySem.W.kitOne K (.type (tyN d)) (.type "int") = some (isInt d)
  | .none => kit_ty (show kitB "NoneType" "int" = some false by decide +kernel)
  | .bool _ => kit_ty (show kitB "bool" "int" = some true by decide +kernel)
  | .int _ => kit_ty (show kitB "int" "int" = some true by decide +kernel)
  | .str _ => kit_ty (show kitB "str" "int" = some false by decide +kernel)
  | .list _ => kit_ty (show kitB "list" "int" = some false by decide +kernel)
  | .tuple _ => kit_ty (show kitB "tuple" "int" = some false by decide +kernel)
  | .dict _ => kit_ty (show kitB "dict" "int" = some false by decide +kernel)
theorem kit_bool : ∀ d : PyData, PySem.W.kitOne K (.type (tyN d)) (.type "bool") = some (isBool d)
  | .none => kit_ty (show kitB "NoneType" "bool" = some false by decide +kernel)
  | .bool _ => kit_ty (show kitB "bool" "bool" = some true by decide +kernel)
  | .int _ => kit_ty (show kitB "int" "bool" = some false by decide +kernel)
  | .str _ => kit_ty (show kitB "str" "bool" = some false by decide +kernel)
  | .list _ => kit_ty (show kitB "list" "bool" = some false by decide +kernel)
  | .tuple _ => kit_ty (show kitB "tuple" "bool" = some false by decide +kernel)
  | .dict _ => kit_ty (show kitB "dict" "bool" = some false by decide +kernel)
theorem kit_str : ∀ d : PyData, PySem.W.kitOne K (.type (tyN d)) (.type "str") = some (isStr d)
  | .none => kit_ty (show kitB "NoneType" "str" = some false by decide +kernel)
  | .bool _ => kit_ty (show kitB "bool" "str" = some false by decide +kernel)
  | .int _ => kit_ty (show kitB "int" "str" = some false by decide +kernel)
  | .str _ => kit_ty (show kitB "str" "str" = some true by decide +kernel)
  | .list _ => kit_ty (show kitB "list" "str" = some false by decide +kernel)
  | .tuple _ => kit_ty (show kitB "tuple" "str" = some false by decide +kernel)
  | .dict _ => kit_ty (show kitB "dict" "str" = some false by decide +kernel)
theorem kit_tup : ∀ d : PyData, PySem.W.kitOne K (.type (tyN d)) (.type "tuple") = some (isTup d)
  | .none => kit_ty (show kitB "NoneType" "tuple" = some false by decide +kernel)
  | .bool _ => kit_ty (show kitB "bool" "tuple" = some false by decide +kernel)
  | .int _ => kit_ty (show kitB "int" "tuple" = some false by decide +kernel)
  | .str _ => kit_ty (show kitB "str" "tuple" = some false by decide +kernel)
  | .list _ => kit_ty (show kitB "list" "tuple" = some false by decide +kernel)
  | .tuple _ => kit_ty (show kitB "tuple" "tuple" = some true by decide +kernel)
  | .dict _ => kit_ty (show kitB "dict" "tuple" = some false by decide +kernel)
theorem kit_lst : ∀ d : PyData, PySem.W.kitOne K (.type (tyN d)) (.type "list") = some (isLst d)
  | .none => kit_ty (show kitB "NoneType" "list" = some false by decide +kernel)
  | .bool _ => kit_ty (show kitB "bool" "list" = some false by decide +kernel)
  | .int _ => kit_ty (show kitB "int" "list" = some false by decide +kernel)
  | .str _ => kit_ty (show kitB "str" "list" = some false by decide +kernel)
  | .list _ => kit_ty (show kitB "list" "list" = some true by decide +kernel)
  | .tuple _ => kit_ty (show kitB "tuple" "list" = some false by decide +kernel)
  | .dict _ => kit_ty (show kitB "dict" "list" = some false by decide +kernel)
theorem kit_dct : ∀ d : PyData, PySem.W.kitOne K (.type (tyN d)) (.type "dict") = some (isDct d)
  | .none => kit_ty (show kitB "NoneType" "dict" = some false by decide +kernel)
  | .bool _ => kit_ty (show kitB "bool" "dict" = some false by decide +kernel)
  | .int _ => kit_ty (show kitB "int" "dict" = some false by decide +kernel)
  | .str _ => kit_ty (show kitB "str" "dict" = some false by decide +kernel)
  | .list _ => kit_ty (show kitB "list" "dict" = some false by decide +kernel)
  | .tuple _ => kit_ty (show kitB "tuple" "dict" = some false by decide +kernel)
  | .dict _ => kit_ty (show kitB "dict" "dict" = some true by decide +kernel)
theorem dx_ty {v : V} {d : PyData} (h : Dx K Z H v d) : TyX K H v (.type (tyN d)) := by
  cases h with
  | non => exact .base .non
  | bl b => exact .base (.bl b)
  | int i => exact .base (.int i)
  | str x => exact .base (.str x)
  | lst e z h => exact .base (.lst e)
  | tup e h =>
    rcases e with (e | ⟨o, e⟩) | ⟨o, its, n, e, c, _⟩
    · exact .base (.tup e)
    · exact .fTuple e
    · exact .kTuple e c
  | dct e z h => exact .base (.dK e)
/-! ### parts -/
theorem dx_tup {v : V} {ds : List PyData} (h : Dx K Z H v (.tuple ds)) : ∃ a xs, v = .ref a ∧ SqT K H a xs ∧ DxAll K Z H xs ds := by
  cases h with
  | tup e h => exact ⟨_, _, rfl, e, h⟩
theorem dx_lst {v : V} {ds : List PyData} (h : Dx K Z H v (.list ds)) : ∃ a xs, v = .ref a ∧ H a = some (.lst xs) ∧ Z a ∧ DxAll K Z H xs ds := by
  cases h with
  | lst e z h => exact ⟨_, _, rfl, e, z, h⟩
theorem dx_int {v : V} {i : Int} (h : Dx K Z H v (.int i)) : v = .int i := by cases h; rfl
theorem dx_str {v : V} {x : Str} (h : Dx K Z H v (.str x)) : v = .str x := by cases h; rfl
theorem dx_bool {v : V} {b : Bool} (h : Dx K Z H v (.bool b)) : v = .bl b := by cases h; rfl
theorem dx_none {v : V} (h : Dx K Z H v .none) : v = .non := by cases h; rfl
theorem dxAll_len : ∀ {vs : List V} {ds : List PyData}, DxAll K Z H vs ds → vs.length = ds.length
  | _, _, .nil => rfl
  | _, _, .cons _ r => congrArg (· + 1) (dxAll_len r)
theorem dxAll_get : ∀ {vs : List V} {ds : List PyData} {i : Nat} {v : V}, DxAll K Z H vs ds → vs[i]? = some v → ∃ d, ds[i]? = some d ∧ Dx K Z H v d
  | _, _, _, _, .nil, e => by simp at e
  | _, _, 0, _, .cons h _, e => by
    simp at e
    subst e
    exact ⟨_, rfl, h⟩
  | _, _, i + 1, _, .cons _ r, e => dxAll_get (i := i) r (by simpa using e)
theorem dxAll_at : ∀ {vs : List V} {ds : List PyData} {i : Nat} {d : PyData}, DxAll K Z H vs ds → ds[i]? = some d → ∃ v, vs[i]? = some v ∧ Dx K Z H v d
  | _, _, _, _, .nil, e => by simp at e
  | _, _, 0, _, .cons h _, e => by
    simp at e
    subst e
    exact ⟨_, rfl, h⟩
  | _, _, i + 1, _, .cons _ r, e => dxAll_at (i := i) r (by simpa using e)
theorem dxAll_app : ∀ {vs ws : List V} {ds es : List PyData}, DxAll K Z H vs ds → DxAll K Z H ws es → DxAll K Z H (vs ++ ws) (ds ++ es)
  | _, _, _, _, .nil, q => q
  | _, _, _, _, .cons h r, q => .cons h (dxAll_app r q)
theorem dxAll_drop : ∀ (n : Nat) {vs : List V} {ds : List PyData}, DxAll K Z H vs ds → DxAll K Z H (vs.drop n) (ds.drop n)
  | 0, _, _, r => r
  | n + 1, _, _, .nil => .nil
  | n + 1, _, _, .cons _ r => dxAll_drop n r
theorem dxAll_take : ∀ (n : Nat) {vs : List V} {ds : List PyData}, DxAll K Z H vs ds → DxAll K Z H (vs.take n) (ds.take n)
  | 0, _, _, _ => .nil
  | n + 1, _, _, .nil => .nil
  | n + 1, _, _, .cons h r => .cons h (dxAll_take n r)
def cutD (ds : List PyData) (lo hi : Option Int) : List PyData :=
  (ds.drop (HT.sIx ds.length 0 lo)).take (HT.sIx ds.length ds.length hi - HT.sIx ds.length 0 lo)
theorem dxAll_cut {vs : List V} {ds : List PyData} (h : DxAll K Z H vs ds) (lo hi : Option Int) : DxAll K Z H (cutV vs lo hi) (cutD ds lo hi) := by
  unfold cutV cutD
  rw [dxAll_len h]
  exact dxAll_take _ (dxAll_drop _ h)
theorem dxAll_rev : ∀ {vs : List V} {ds : List PyData}, DxAll K Z H vs ds → DxAll K Z H vs.reverse ds.reverse
  | _, _, .nil => .nil
  | _, _, .cons h r => by
    rw [List.reverse_cons, List.reverse_cons]
    exact dxAll_app (dxAll_rev r) (.cons h .nil)
theorem dxAll_mem {vs : List V} {ds : List PyData} {v : V} (h : DxAll K Z H vs ds) (m : v ∈ vs) : ∃ d ∈ ds, Dx K Z H v d := by
  obtain ⟨i, e⟩ := List.getElem?_of_mem m
  obtain ⟨d, ed, hd⟩ := dxAll_get h e
  exact ⟨d, List.mem_of_getElem? ed, hd⟩
/-- one and the same place holds one datum: what is shown twice is shown alike -/
theorem dx_tuple_of {a : Addr} {xs : List V} {ds : List PyData} (e : H a = some (.tup xs)) (h : DxAll K Z H xs ds) : Dx K Z H (.ref a) (.tuple ds) := .tup (SqT.of e) h
end
/-! ### how they are shown -/
structure Ft (n k : Nat) (d : PyData) : Prop where
  sh : d.showable = true
  len : d.shown.length ≤ n
  dp : d.depth ≤ k
theorem Ft.le {n k n' k' : Nat} {d : PyData} (h : Ft n k d) (a : n ≤ n') (b : k ≤ k') : Ft n' k' d := ⟨h.sh, Nat.le_trans h.len a, Nat.le_trans h.dp b⟩
theorem ft_none : Ft 4 0 .none := ⟨rfl, by simp only [PyData.shown]; decide, by simp only [PyData.depth]; decide⟩
theorem ft_bool (b : Bool) : Ft 5 0 (.bool b) := ⟨rfl, by simp only [PyData.shown]; cases b <;> decide, by simp only [PyData.depth]; decide⟩
theorem ft_int {i : Int} (h : i.natAbs.log2 < 1920) : Ft 1921 0 (.int i) := by
  refine ⟨by simpa only [PyData.showable, decide_eq_true_eq] using h, ?_, by simp only [PyData.depth]; decide⟩
  have e := int_text_length_le (k := 1920) (by decide) h
  simp only [PyData.shown]
  show (Str.ofString (toString i)).length ≤ 1921
  rw [PySem.ofString_length]
  exact e
theorem ft_str {x : Str} (h : ∀ c ∈ x.cps.toList, c < 16 ^ 8) : Ft (10 * x.length + 2) 0 (.str x) := by
  refine ⟨rfl, ?_, by simp only [PyData.depth]; decide⟩
  simp only [PyData.shown]
  exact StrLaws.reprText_len x h
theorem all_sh {n k : Nat} : ∀ {ds : List PyData}, (∀ d ∈ ds, Ft n k d) → PyData.showableAll ds = true ∧ ((PyData.shownAll ds).map (·.length)).sum ≤ ds.length * n ∧ (PyData.shownAll ds).length = ds.length ∧ PyData.depthAll ds ≤ k
  | [], _ => by simp only [PyData.showableAll, PyData.shownAll, PyData.depthAll]; exact ⟨trivial, Nat.zero_le _, rfl, Nat.zero_le _⟩
  | d :: ds, h => by
    have a := h d (List.mem_cons_self ..)
    obtain ⟨b1, b2, b3, b4⟩ := all_sh (ds := ds) fun e he => h e (List.mem_cons_of_mem _ he)
    simp only [PyData.showableAll, PyData.shownAll, PyData.depthAll, List.map_cons, List.sum_cons, List.length_cons]
    refine ⟨by rw [a.sh, b1]; rfl, ?_, by omega, Nat.max_le.mpr ⟨a.dp, b4⟩⟩
    rw [Nat.succ_mul]
    have := a.len
    omega
theorem ft_tuple {n k m : Nat} {ds : List PyData} (h : ∀ d ∈ ds, Ft n k d) (l : ds.length ≤ m) : Ft (m * (n + 2) + 3) (k + 1) (.tuple ds) := by
  obtain ⟨b1, b2, b3, b4⟩ := all_sh h
  refine ⟨by simpa only [PyData.showable] using b1, ?_, by simp only [PyData.depth]; omega⟩
  simp only [PyData.shown]
  have e := tupleText_len_le (PyData.shownAll ds)
  have : ds.length * (n + 2) ≤ m * (n + 2) := Nat.mul_le_mul_right _ l
  rw [Nat.mul_add] at this
  rw [b3] at e
  omega
theorem ft_list {n k m : Nat} {ds : List PyData} (h : ∀ d ∈ ds, Ft n k d) (l : ds.length ≤ m) : Ft (m * (n + 2) + 3) (k + 1) (.list ds) := by
  obtain ⟨b1, b2, b3, b4⟩ := all_sh h
  refine ⟨by simpa only [PyData.showable] using b1, ?_, by simp only [PyData.depth]; omega⟩
  simp only [PyData.shown]
  have e := listText_len_le (PyData.shownAll ds)
  have : ds.length * (n + 2) ≤ m * (n + 2) := Nat.mul_le_mul_right _ l
  rw [Nat.mul_add] at this
  rw [b3] at e
  omega
end Ev

set_option exponentiation.threshold 256
/-! data of any kind: how great they are -/
namespace Ev
open PySem PySem.Spec PyProof.Rows L2
mutual
/-- ints below 2 ^ 1400 in size, signs as they are -/
def fitx : PyData → Bool
  | .none => true
  | .bool _ => true
  | .int i => decide (i.natAbs < 2 ^ 1400)
  | .str x => x.cps.toList.all fun c => decide (c < 1114112)
  | .list xs => fitxs xs
  | .tuple xs => fitxs xs
  | .dict xs => fitxk xs
def fitxs : List PyData → Bool
  | [] => true
  | x :: xs => fitx x && fitxs xs
def fitxk : List (PyData × PyData) → Bool
  | [] => true
  | (k, v) :: xs => fitx k && fitx v && fitxk xs
end
mutual
/-- how many leaves and displays, a text by its signs -/
def szx : PyData → Nat
  | .none => 1
  | .bool _ => 1
  | .int _ => 1
  | .str x => x.length + 1
  | .list xs => szxs xs + 1
  | .tuple xs => szxs xs + 1
  | .dict xs => szxk xs + 1
def szxs : List PyData → Nat
  | [] => 0
  | x :: xs => szx x + szxs xs
def szxk : List (PyData × PyData) → Nat
  | [] => 0
  | (k, v) :: xs => szx k + szx v + szxk xs
end
theorem fitx_log {i : Int} (h : i.natAbs < 2 ^ 1400) : i.natAbs.log2 < 1920 := Nat.lt_trans (PySem.Flt.log2_lt_of (by decide) h) (by decide)
mutual
theorem fitx_show : ∀ d : PyData, fitx d = true → d.showable = true ∧ d.shown.length + 2 ≤ 1930 * szx d
  | .none, _ => by
    simp only [PyData.showable, PyData.shown, szx]
    exact ⟨trivial, by decide⟩
  | .bool b, _ => by
    have e : (PyData.shown (.bool b)).length ≤ 5 := by cases b <;> decide
    simp only [PyData.showable, szx]
    exact ⟨trivial, by omega⟩
  | .int i, h => by
    simp only [fitx, decide_eq_true_eq] at h
    have f := ft_int (fitx_log h)
    refine ⟨f.sh, ?_⟩
    have := f.len
    simp only [szx]
    omega
  | .str x, h => by
    simp only [fitx, List.all_eq_true, decide_eq_true_eq] at h
    have f := ft_str (x := x) fun c hc => Nat.lt_trans (h c hc) (by decide)
    refine ⟨f.sh, ?_⟩
    have := f.len
    simp only [szx]
    omega
  | .list xs, h => by
    simp only [fitx] at h
    obtain ⟨a, b⟩ := fitxs_show xs h
    have e := listText_len_le (PyData.shownAll xs)
    have l := PyData.shownAll_length xs
    simp only [PyData.showable, PyData.shown, szx]
    exact ⟨a, by omega⟩
  | .tuple xs, h => by
    simp only [fitx] at h
    obtain ⟨a, b⟩ := fitxs_show xs h
    have e := tupleText_len_le (PyData.shownAll xs)
    have l := PyData.shownAll_length xs
    simp only [PyData.showable, PyData.shown, szx]
    exact ⟨a, by omega⟩
  | .dict xs, h => by
    simp only [fitx] at h
    obtain ⟨a, b⟩ := fitxk_show xs h
    have e := dictText_len_le (PyData.shownKv xs)
    simp only [PyData.showable, PyData.shown, szx]
    exact ⟨a, by omega⟩
theorem fitxs_show : ∀ xs : List PyData, fitxs xs = true → PyData.showableAll xs = true ∧ ((PyData.shownAll xs).map (·.length)).sum + 2 * xs.length ≤ 1930 * szxs xs
  | [], _ => by
    simp only [PyData.showableAll, PyData.shownAll, szxs]
    exact ⟨trivial, by decide⟩
  | x :: xs, h => by
    simp only [fitxs, Bool.and_eq_true] at h
    obtain ⟨a, b⟩ := fitx_show x h.1
    obtain ⟨c, d⟩ := fitxs_show xs h.2
    simp only [PyData.showableAll, PyData.shownAll, szxs, List.map_cons, List.sum_cons, List.length_cons]
    exact ⟨by rw [a, c]; rfl, by omega⟩
theorem fitxk_show : ∀ xs : List (PyData × PyData), fitxk xs = true → PyData.showableKv xs = true ∧ ((PyData.shownKv xs).map (·.length)).sum + 2 * (PyData.shownKv xs).length ≤ 1930 * szxk xs
  | [], _ => by
    simp only [PyData.showableKv, PyData.shownKv, szxk]
    exact ⟨trivial, by decide⟩
  | (k, v) :: xs, h => by
    simp only [fitxk, Bool.and_eq_true] at h
    obtain ⟨a, b⟩ := fitx_show k h.1.1
    obtain ⟨a2, b2⟩ := fitx_show v h.1.2
    obtain ⟨c, d⟩ := fitxk_show xs h.2
    simp only [PyData.showableKv, PyData.shownKv, szxk, List.map_cons, List.sum_cons, List.length_cons]
    refine ⟨by rw [a, a2, c]; rfl, ?_⟩
    rw [strLen_append, strLen_append]
    have : (": " : Str).length = 2 := rfl
    omega
end
/-- data so great and so deep at most -/
structure Dt (n k : Nat) (d : PyData) : Prop where
  fx : fitx d = true
  sz : szx d ≤ n
  dp : d.depth ≤ k
theorem Dt.le {n k n' k' : Nat} {d : PyData} (h : Dt n k d) (a : n ≤ n') (b : k ≤ k') : Dt n' k' d := ⟨h.fx, Nat.le_trans h.sz a, Nat.le_trans h.dp b⟩
theorem Dt.show {n k : Nat} {d : PyData} (h : Dt n k d) (hn : n ≤ 8000) (hk : k ≤ 60) : d.showable = true ∧ d.shown.length ≤ sizeLine ∧ d.depth ≤ 60 := by
  obtain ⟨a, b⟩ := fitx_show d h.fx
  refine ⟨a, ?_, Nat.le_trans h.dp hk⟩
  have := h.sz
  rw [sizeLine_eq]
  omega
theorem dt_none : Dt 1 0 .none := ⟨rfl, by simp only [szx]; decide, by simp only [PyData.depth]; decide⟩
theorem dt_bool (b : Bool) : Dt 1 0 (.bool b) := ⟨rfl, by simp only [szx]; exact Nat.le_refl _, by simp only [PyData.depth]; exact Nat.le_refl _⟩
theorem dt_int {i : Int} (h : i.natAbs < 2 ^ 1400) : Dt 1 0 (.int i) := ⟨by simp only [fitx]; exact decide_eq_true h, by simp only [szx]; exact Nat.le_refl _, by simp only [PyData.depth]; exact Nat.le_refl _⟩
theorem dt_small {i : Int} (h : i.natAbs < 1000000) : Dt 1 0 (.int i) := dt_int (Nat.lt_trans h (by decide +kernel))
theorem dt_str {x : Str} (h : ∀ c ∈ x.cps.toList, c < 1114112) : Dt (x.length + 1) 0 (.str x) :=
  ⟨by simp only [fitx, List.all_eq_true, decide_eq_true_eq]; exact h, by simp only [szx]; exact Nat.le_refl _, by simp only [PyData.depth]; exact Nat.le_refl _⟩
/-- of a row: all so deep, all together so great -/
structure Dts (n k : Nat) (ds : List PyData) : Prop where
  fx : fitxs ds = true
  sz : szxs ds ≤ n
  dp : PyData.depthAll ds ≤ k
theorem Dts.nil : Dts 0 0 [] := ⟨rfl, by simp only [szxs]; exact Nat.le_refl _, by simp only [PyData.depthAll]; exact Nat.le_refl _⟩
theorem Dts.cons {n m k l : Nat} {d : PyData} {ds : List PyData} (a : Dt n k d) (b : Dts m l ds) : Dts (n + m) (max k l) (d :: ds) := by
  have h1 := a.sz
  have h2 := b.sz
  have h3 := a.dp
  have h4 := b.dp
  refine ⟨by simp only [fitxs, a.fx, b.fx, Bool.and_self], by simp only [szxs]; omega, by simp only [PyData.depthAll]; omega⟩
theorem Dts.le {n k n' k' : Nat} {d : List PyData} (h : Dts n k d) (a : n ≤ n') (b : k ≤ k') : Dts n' k' d := ⟨h.fx, Nat.le_trans h.sz a, Nat.le_trans h.dp b⟩
theorem Dts.tuple {n k : Nat} {ds : List PyData} (h : Dts n k ds) : Dt (n + 1) (k + 1) (.tuple ds) := by
  have h1 := h.sz
  have h2 := h.dp
  exact ⟨by simp only [fitx]; exact h.fx, by simp only [szx]; omega, by simp only [PyData.depth]; omega⟩
theorem Dts.list {n k : Nat} {ds : List PyData} (h : Dts n k ds) : Dt (n + 1) (k + 1) (.list ds) := by
  have h1 := h.sz
  have h2 := h.dp
  exact ⟨by simp only [fitx]; exact h.fx, by simp only [szx]; omega, by simp only [PyData.depth]; omega⟩
theorem dts_all {n k : Nat} : ∀ {ds : List PyData}, (∀ d ∈ ds, Dt n k d) → Dts (ds.length * n) k ds
  | [], _ => ⟨rfl, by simp only [szxs]; exact Nat.zero_le _, by simp only [PyData.depthAll]; exact Nat.zero_le _⟩
  | d :: ds, h => by
    have a := h d (List.mem_cons_self ..)
    have b := dts_all (ds := ds) fun e he => h e (List.mem_cons_of_mem _ he)
    have c := Dts.cons a b
    rw [List.length_cons, Nat.succ_mul]
    exact c.le (by omega) (by omega)
theorem Dt.of_tuple {n k : Nat} {ds : List PyData} (h : Dt n k (.tuple ds)) : ∀ d ∈ ds, Dt n k d := by
  have go : ∀ (ds : List PyData), fitxs ds = true → ∀ d ∈ ds, fitx d = true ∧ szx d ≤ szxs ds ∧ d.depth ≤ PyData.depthAll ds := by
    intro ds
    induction ds with
    | nil => intro _ d hd; cases hd
    | cons x xs ih =>
      intro hf d hd
      simp only [fitxs, Bool.and_eq_true] at hf
      simp only [szxs, PyData.depthAll]
      rcases List.mem_cons.mp hd with rfl | hd
      · exact ⟨hf.1, by omega, by omega⟩
      · obtain ⟨a, b, c⟩ := ih hf.2 d hd
        exact ⟨a, by omega, by omega⟩
  intro d hd
  have h1 := h.fx
  have h2 := h.sz
  have h3 := h.dp
  simp only [fitx] at h1
  simp only [szx] at h2
  simp only [PyData.depth] at h3
  obtain ⟨a, b, c⟩ := go ds h1 d hd
  exact ⟨a, by omega, by omega⟩
end Ev

set_option exponentiation.threshold 256
/-! for i, x in enumerate(a tuple) -/
namespace Ev
open PySem PySem.Spec PyProof.Rows L2
open PySem.Sem (wp)
theorem draws_tup {prog : Program} {w : World} {A : Around} (hh : A.handled = none) (it l : Addr) (hne : l ≠ it) (xs : Array Value) :
    Draws prog w A it [it, l] xs.size (fun i v => xs[i]? = some v) (fun i h => h.IsTupleIter it l i ∧ h.IsTuple l xs) where
  live := fun _ _ p => let ⟨o, q, _⟩ := p.1; ⟨o, q⟩
  frame := fun _ _ _ p k => ⟨p.1.at fun o e => k it (List.mem_cons_self ..) o e, p.2.at fun o e => k l (List.mem_cons_of_mem _ (List.mem_cons_self ..)) o e⟩
  item := fun i s Q E hi p hQ => by
    have hx : xs[i]? = some xs[i] := Array.getElem?_eq_getElem hi
    exact RZ.nextOf_tuple_item p.1 p.2 hx fun h' a b => hQ _ h' s.toks hx ⟨a, p.2.at fun o e => b.extBut l o hne e⟩ b
  done := fun s Q E p hE => RZ.nextOf_tuple_end hh p.1 p.2 (Array.getElem?_eq_none (Nat.le_refl _)) hE
theorem en_new {v : Value} {o : Obj} {G : Heap → Prop} (B : Begins v o G) :
    Meets (Builtin.«enumerate.__new__» ⟨[.type "enumerate", v], []⟩) (fun _ R s => G s.heap ∧
      R (.ok (.ret (.ref (s.heap.push o).objs.size))) { s with heap := (s.heap.push o).push { cls := .type "enumerate", data := .fields #[.none, .bool false, .ref s.heap.objs.size, rawInt 0, .none, .none] } }) :=
  .of_wp fun prog w A R s z => by
    obtain ⟨h0, gg, dd, tt, oo⟩ := s
    obtain ⟨z1, z2⟩ := z
    have sb := sub_enumerate
    have go : ∀ {A' : Around} {E : Value → Shared → Prop} {Q : Value → Shared → Prop}, Q (.ref h0.objs.size) ⟨h0.push o, gg, dd, tt, oo⟩ → wpAny (model prog w) A' (pyIter v) Q E ⟨h0, gg, dd, tt, oo⟩ :=
      fun q => B.iter prog w _ _ ⟨h0, gg, dd, tt, oo⟩ _ z1 q
    wp_walk using go
    refine wpAny_stack_any fun stk => wpAny_pure ?_
    split
    · rename_i c _ _ _ _ _
      cases (c == Value.type "enumerate")
      · wp_walk using go
        exact ⟨_, rfl, z2⟩
      · wp_walk using go
        exact ⟨_, rfl, z2⟩
    · wp_walk using go
      exact ⟨_, rfl, z2⟩
section
variable {prog : Program} {w : World} {A : Around} {E : Value → Shared → Prop} {s : Shared}
theorem call_en {v : Value} {o : Obj} {G : Heap → Prop} {Q : Value → Shared → Prop} (B : Begins v o G) (g : G s.heap)
    (q : ∀ h', IsEnum h' (s.heap.objs.size + 1) s.heap.objs.size 0 .none → h'.get? s.heap.objs.size = some o → (∀ b u, s.heap.get? b = some u → h'.get? b = some u) → Q (.ref (s.heap.objs.size + 1)) { s with heap := h' }) :
    wpAny (model prog w) A (call (.type "enumerate") [v]) Q E s := by
  refine callType_new F.called_enumerate (by decide) (F.typeCall_enumerate_1 _) (F.newCall_enumerate_1 _) (fun obj => F.args_object_init_2 obj _) F.entry_enumerate_new (en_new B) ⟨g, ?_⟩
  have n1 : (s.heap.push o).objs.size = s.heap.objs.size + 1 := Heap.size_push ..
  show _ ∧ _
  have made : IsEnum ((s.heap.push o).push { cls := .type "enumerate", data := .fields #[.none, .bool false, .ref s.heap.objs.size, rawInt 0, .none, .none] }) (s.heap.push o).objs.size s.heap.objs.size 0 .none :=
    Heap.get?_push_size _ rfl
  rw [n1] at made ⊢
  have up : ∀ b u, s.heap.get? b = some u → ((s.heap.push o).push { cls := .type "enumerate", data := .fields #[.none, .bool false, .ref s.heap.objs.size, rawInt 0, .none, .none] }).get? b = some u :=
    fun b u e => Heap.get?_push_of_some _ (Heap.get?_push_of_some _ e)
  exact ⟨⟨_, made, rfl⟩, q _ made (Heap.get?_push_of_some _ (Heap.get?_push_size _ B.free)) up⟩
theorem en_stop {e it l : Addr} {i k : Nat} {old : Value} {xs : Array Value} {Q : Option Value → Shared → Prop} (hh : A.handled = none) (he : IsEnum s.heap e it k old) (hi : s.heap.IsTupleIter it l i) (hl : s.heap.IsTuple l xs) (n : xs[i]? = none)
    (q : ∀ h', Heap.ExtBut it s.heap h' → Q none { s with heap := h' }) : wpAny (model prog w) A (pyNext (.ref e)) Q E s := by
  have ty : s.TypeIs (.ref e) "enumerate" := ⟨_, he, rfl⟩
  unfold pyNext
  have slot := F.slot_enumerate_next
  refine wpAny_bind (wpAny_attempt (wpAny_callSpecial?_slot (name := Str.ofString "__next__") ty slot (wpAny_call_entry slot ty F.entry_enumerate_next ?_ (F.args_enumerate_next_1 _))))
  show wpAny _ _ (field (.ref e) 2 >>= _) _ _ s
  refine wpAny_bind (wpAny_field he rfl (x := .ref it) rfl (wpAny_bind (RZ.nextOf_tuple_end hh hi hl n fun h' a ext ho => ?_)))
  obtain ⟨o, ho, hc⟩ := ho
  exact wpAny_bind (wpAny_isInstance (T := "StopIteration") (b := true) ⟨o, ho, hc⟩ isSubtype_stop (wpAny_pure (q _ ext)))
end
/-- the tuple at a as it stands at each turn, each item in a new pair -/
def IteT (K : PySem.W.Frag) (a : Addr) : It :=
  ⟨fun i H => ∃ (xs : List V) (x : V), SqT K H a xs ∧ xs[i]? = some x,
   fun i H v H' => ∃ t x, v = .ref t ∧ H t = none ∧ H' = upd H t (.tup [.int (i : Nat), x]) ∧ ∀ xs, SqT K H a xs → xs[i]? = some x,
   fun i H => ∃ xs : List V, SqT K H a xs ∧ xs.length ≤ i⟩
theorem turn_enT {P : Program} {w : World} {K : PySem.W.Frag} {elts : List Expr} {kk : Nat} {tpos : Pos} (a e it : Addr) (nae : a ≠ e) (nai : a ≠ it) :
    Turn P w K (.Tuple elts kk tpos) (IteT K a) [e, it] e (fun i h => (∃ old, IsEnum h e it ((i : Nat) : Int) old) ∧ h.IsTupleIter it a i ∧ e ≠ it) where
  mem := List.mem_cons_self ..
  obj := fun i h p b hb => by
    obtain ⟨⟨old, p1⟩, ⟨o, p2, p3, p4⟩, _⟩ := p
    rcases List.mem_cons.mp hb with rfl | hb
    · exact ⟨_, p1, fun v q => nomatch q⟩
    · have z := List.mem_singleton.mp hb
      subst z
      exact ⟨o, p2, fun v q => by rw [p4] at q; cases q⟩
  keep := fun i h h' p k => by
    obtain ⟨⟨old, p1⟩, p2, p3⟩ := p
    exact ⟨⟨old, k e (List.mem_cons_self ..) _ p1⟩, p2.at fun o q => k it (List.mem_cons_of_mem _ (List.mem_cons_self ..)) o q, p3⟩
  item := by
    intro X hP hw hK hc i pins s σ H E I hf p hg
    subst hP hw hK
    obtain ⟨⟨old, p1⟩, p2, p3⟩ := p
    obtain ⟨xs, x, hq, hx⟩ := hg
    obtain ⟨its, rv, pt, hz⟩ := I.tuple hq
    obtain ⟨u, hu, ru⟩ := rv.get hx
    have lt1 : e < s.heap.objs.size := Heap.lt_size p1
    have lt2 : it < s.heap.objs.size := by
      obtain ⟨o, q, _⟩ := id p2
      exact Heap.lt_size q
    have hi : i < its.toArray.size := by
      rw [List.size_toArray]
      exact (List.getElem?_eq_some_iff.mp hu).1
    have D := draws_tup (prog := X.prog) (w := X.w) (A := X.A.in1) (I.ok.hd hc) it a nai its.toArray
    have off : e ∉ [it, a] := fun hm => by
      rcases List.mem_cons.mp hm with z | hm
      · exact p3 z
      · exact nae (List.mem_singleton.mp hm).symm
    refine wpAny_pyNext_enum_itemD D p1 ⟨p2, pt⟩ hi p3 off fun y h' tk hy out st2 hT hs hk => ?_
    have ey : y = u := by
      have : its.toArray[i]? = some u := by simpa using hu
      rw [this] at hy
      exact (Option.some.inj hy).symm
    subst ey
    refine ⟨_, rfl, wpAny_letOwnedTupleGo_enum (s := { s with heap := h', toks := tk + 1 }) out fun h2 p1' sb => ?_⟩
    have hT2 : h2.get? s.heap.objs.size = some { cls := .type "tuple", data := .seq #[.int i tk, y] } := (sb.2 _ (Nat.ne_of_gt lt1)).trans hT
    have ok : ObjOk X.prog X.w (upd H s.heap.objs.size (.tup [.int (i : Nat), x])) h2 s.heap.objs.size (.tup [.int (i : Nat), x]) :=
      ⟨by show 2 ≤ sizeLine; decide, [.int i tk, y], .cons ⟨_, rfl⟩ (.cons ru .nil), ⟨_, hT2, rfl, _, rfl⟩⟩
    have far : ∀ b ob, b ∉ [e, it] → s.heap.get? b = some ob → h2.get? b = some ob := fun b ob hb q => by
      have n1 : b ≠ e := fun z => hb (by rw [z]; exact List.mem_cons_self ..)
      have n2 : b ≠ it := fun z => hb (by rw [z]; exact List.mem_cons_of_mem _ (List.mem_cons_self ..))
      exact (sb.2 b n1).trans (hk b ob n1 n2 q)
    have I1 := I.turnedNew (ch := [e, it]) (t' := tk + 1) far hf (Nat.le_refl _) ok
    refine ⟨.ref s.heap.objs.size, _, I1, rfl, ⟨_, x, rfl, I.hok.fresh (Nat.le_refl _), rfl, fun ys hy => by rw [I.tuple_inj hy hq]; exact hx⟩, ⟨⟨y, ?_⟩, st2.1.at fun o q => (sb.2 it (Ne.symm p3)).trans q, p3⟩, fun b hb => ?_⟩
    · have e1 : ((i + 1 : Nat) : Int) = (i : Int) + 1 := by omega
      rw [e1]
      exact p1'
    · have hb' : b < s.heap.objs.size := by
        rcases List.mem_cons.mp hb with z | z
        · rw [z]; exact lt1
        · rw [List.mem_singleton.mp z]; exact lt2
      rw [upd_ne (Nat.ne_of_lt hb')]
      exact (hf b hb).1
  done := by
    intro X hP hw hK hc i pins s σ H E I hf p hg
    subst hP hw hK
    obtain ⟨⟨old, p1⟩, p2, p3⟩ := p
    obtain ⟨xs, hq, hx⟩ := hg
    obtain ⟨its, rv, pt, hz⟩ := I.tuple hq
    obtain ⟨f0, f1, f2, f3, f4, f5⟩ := hf it (List.mem_cons_of_mem _ (List.mem_cons_self ..))
    have lv := rv.length
    have over : its.toArray[i]? = none := Array.getElem?_eq_none (by rw [List.size_toArray]; omega)
    exact en_stop (I.ok.hd hc) p1 p2 pt over fun h' ext => ⟨rfl, I.turned (t' := s.toks) (fun b o nb q => ext b o nb q) f0 f1 f3 f4 f5⟩
  self := fun A i s Q E p h => let ⟨⟨_, p1⟩, _⟩ := p; wpAny_pyIter_enum p1 h
def iEnT (K : PySem.W.Frag) (ta : TA) : TI := fun σ H R => ta σ H fun vs H1 => ∃ a xs, vs = [.ref a] ∧ SqT K H1 a xs ∧ R (IteT K a) H1
theorem pi_enumT {X : Cx} {e : Expr} {ta : TA} {p pos tpos : Pos} {elts : List Expr} {kk : Nat} (hg : Gl X "enumerate") (hm : X.mg "enumerate" = none) (ha : PA X [e] ta) (hs : starEach [e] X.env = [(false, eval e X.env)] := by rfl) :
    PI X (.Tuple elts kk tpos) (.Call (.Name "enumerate" p) [e] [] pos) (iEnT X.K ta) := by
  refine ⟨fun pins s σ H R I h => ?_⟩
  refine Call_ (ld_blt I hg hm boot_enumerate (PyProof.Rows.callWith_type1 (thn (ha.run pos pins s σ H _ I h) fun us s1 q1 => ?_) hs rfl))
  obtain ⟨vs, H1, I1, r1, a, xs, ev, hq, q⟩ := q1
  subst ev
  obtain ⟨u, rfl, ru⟩ := vals1 r1
  cases ru
  obtain ⟨its, rv, pt, hz⟩ := I1.tuple hq
  obtain ⟨oa, ga, _⟩ := id pt
  have la : a < s1.heap.objs.size := Heap.lt_size ga
  refine call_en (begins_tuple a its.toArray) pt fun h' he ho up => wpAny_pyIter_enum he ?_
  have I2 : Inv X pins σ H1 { s1 with heap := h' } := I1.kept (t' := s1.toks) up
  have n0 : s1.heap.objs.size + 1 ≠ s1.heap.objs.size := Nat.succ_ne_self _
  have st : h'.IsTupleIter s1.heap.objs.size a 0 := ⟨_, ho, rfl, rfl⟩
  refine ⟨s1.heap.objs.size + 1, [s1.heap.objs.size + 1, s1.heap.objs.size], _, _, H1, rfl, I2, turn_enT a (s1.heap.objs.size + 1) s1.heap.objs.size (Nat.ne_of_lt (Nat.lt_succ_of_lt la)) (Nat.ne_of_lt la), ⟨⟨.none, he⟩, st, n0⟩, fun b hb => ?_, q⟩
  have hle : s1.heap.objs.size ≤ b := by
    rcases List.mem_cons.mp hb with z | z
    · rw [z]; exact Nat.le_add_right _ _
    · rw [List.mem_singleton.mp z]; exact Nat.le_refl _
  exact I1.fpOk hle (I1.hok.fresh hle)
theorem walk_enT {K : PySem.W.Frag} {a : Addr} {xs : List V} : Walk (IteT K a) xs.length (fun H => SqT K H a xs) (YPair (fun i => some (.int (i : Nat))) (fun i => xs[i]?)) := by
  refine ⟨fun i _ hi q => ⟨xs, xs[i], q, List.getElem?_eq_getElem hi⟩, fun _ q => ⟨xs, q, Nat.le_refl _⟩, fun i H v H' _ q y => ?_⟩
  obtain ⟨t, x, y1, y2, y3, y4⟩ := y
  exact ⟨t, .int (i : Nat), x, y1, y2, y3, rfl, y4 xs q⟩
end Ev

set_option exponentiation.threshold 256
/-! sums of throws: powers of a polynomial, by its parts -/
namespace Ev
def opL : List (Nat × Int) → (Nat → Int) → Nat → Int
  | [], _, _ => 0
  | (a, c) :: l, q, n => (if a ≤ n then c * q (n - a) else 0) + opL l q n
def delta (n : Nat) : Int := if n = 0 then 1 else 0
def pw (l : List (Nat × Int)) : Nat → Nat → Int
  | 0 => delta
  | m + 1 => opL l (pw l m)
theorem opL_cong {q r : Nat → Int} : ∀ (l : List (Nat × Int)) (n : Nat), (∀ k, k ≤ n → q k = r k) → opL l q n = opL l r n
  | [], _, _ => rfl
  | (a, c) :: l, n, h => by
    unfold opL
    rw [opL_cong l n h, h (n - a) (Nat.sub_le _ _)]
theorem opL_add (x y : Nat → Int) : ∀ (l : List (Nat × Int)) (n : Nat), opL l (fun k => x k + y k) n = opL l x n + opL l y n
  | [], _ => rfl
  | (a, c) :: l, n => by
    unfold opL
    rw [opL_add x y l n]
    split <;> grind
theorem opL_mul (m : Int) (x : Nat → Int) : ∀ (l : List (Nat × Int)) (n : Nat), opL l (fun k => m * x k) n = m * opL l x n
  | [], _ => by simp [opL]
  | (a, c) :: l, n => by
    unfold opL
    rw [opL_mul m x l n]
    split <;> grind
theorem opL_zero : ∀ (l : List (Nat × Int)) (n : Nat), opL l (fun _ => 0) n = 0
  | [], _ => rfl
  | (a, c) :: l, n => by
    unfold opL
    rw [opL_zero l n]
    split <;> simp
theorem opL_sh (a : Nat) (c : Int) (q : Nat → Int) : ∀ (l : List (Nat × Int)) (n : Nat), opL l (fun k => if a ≤ k then c * q (k - a) else 0) n = if a ≤ n then c * opL l q (n - a) else 0
  | [], n => by
    unfold opL
    split <;> simp
  | (b, d) :: l, n => by
    unfold opL
    rw [opL_sh a c q l n]
    have e : n - b - a = n - a - b := by omega
    show (if b ≤ n then d * (if a ≤ n - b then c * q (n - b - a) else 0) else 0) + (if a ≤ n then c * opL l q (n - a) else 0) = if a ≤ n then c * ((if b ≤ n - a then d * q (n - a - b) else 0) + opL l q (n - a)) else 0
    by_cases h1 : b ≤ n
    · by_cases h2 : a ≤ n
      · by_cases h3 : a ≤ n - b
        · rw [if_pos h1, if_pos h3, if_pos h2, if_pos h2, if_pos (show b ≤ n - a by omega), e]
          grind
        · rw [if_pos h1, if_neg h3, if_pos h2, if_pos h2, if_neg (show ¬ b ≤ n - a by omega)]
          grind
      · rw [if_pos h1, if_neg (show ¬ a ≤ n - b by omega), if_neg h2, if_neg h2]
        grind
    · by_cases h2 : a ≤ n
      · rw [if_neg h1, if_pos h2, if_pos h2, if_neg (show ¬ b ≤ n - a by omega)]
        grind
      · rw [if_neg h1, if_neg h2, if_neg h2]
        grind
theorem opL_comm (k : List (Nat × Int)) (q : Nat → Int) : ∀ (l : List (Nat × Int)) (n : Nat), opL l (opL k q) n = opL k (opL l q) n
  | [], n => by
    have e : opL ([] : List (Nat × Int)) q = fun _ => 0 := rfl
    rw [e, opL_zero]
    rfl
  | (a, c) :: l, n => by
    have e : opL ((a, c) :: l) q = fun n => (if a ≤ n then c * q (n - a) else 0) + opL l q n := by
      funext n
      rfl
    rw [e, opL_add, opL_sh, ← opL_comm k q l n]
    rfl
def dl (l : List (Nat × Int)) : List (Nat × Int) := l.map fun p => (p.1, (p.1 : Int) * p.2)
def th (q : Nat → Int) (n : Nat) : Int := (n : Int) * q n
theorem th_op (q : Nat → Int) : ∀ (l : List (Nat × Int)) (n : Nat), th (opL l q) n = opL l (th q) n + opL (dl l) q n
  | [], n => by simp [th, opL, dl]
  | (a, c) :: l, n => by
    have ih := th_op q l n
    show (n : Int) * ((if a ≤ n then c * q (n - a) else 0) + opL l q n) = ((if a ≤ n then c * th q (n - a) else 0) + opL l (th q) n) + ((if a ≤ n then ((a : Int) * c) * q (n - a) else 0) + opL (dl l) q n)
    have ih' : (n : Int) * opL l q n = opL l (th q) n + opL (dl l) q n := ih
    by_cases h : a ≤ n
    · rw [if_pos h, if_pos h, if_pos h]
      have e : ((n - a : Nat) : Int) = (n : Int) - a := by omega
      unfold th at *
      rw [e]
      grind
    · rw [if_neg h, if_neg h, if_neg h]
      grind
theorem pw_rec (l : List (Nat × Int)) : ∀ (m n : Nat), opL l (th (pw l m)) n = (m : Int) * opL (dl l) (pw l m) n
  | 0, n => by
    have e : th (pw l 0) = fun _ => 0 := by
      funext k
      unfold th pw delta
      by_cases h : k = 0
      · subst h; simp
      · rw [if_neg h]; simp
    rw [e, opL_zero]
    simp
  | m + 1, n => by
    have e : th (pw l (m + 1)) = fun k => (m : Int) * opL (dl l) (pw l m) k + opL (dl l) (pw l m) k := by
      funext k
      show th (opL l (pw l m)) k = _
      rw [th_op, pw_rec l m k]
    rw [e, opL_add, opL_mul]
    have c := opL_comm (dl l) (pw l m) l n
    have c2 : opL (dl l) (pw l (m + 1)) n = opL (dl l) (opL l (pw l m)) n := rfl
    rw [c2, c]
    grind
/-- what the weights ahead tell of the next one -/
def recT (m : Nat) (q : Nat → Int) : List (Nat × Int) → Nat → Int
  | [], _ => 0
  | (a, c) :: l, n => (if a ≤ n then ((m : Int) * a - n + a) * c * q (n - a) else 0) + recT m q l n
theorem recT_eq (m : Nat) (q : Nat → Int) : ∀ (l : List (Nat × Int)) (n : Nat), recT m q l n = (m : Int) * opL (dl l) q n - opL l (th q) n
  | [], n => by simp [recT, opL, dl]
  | (a, c) :: l, n => by
    have ih := recT_eq m q l n
    show (if a ≤ n then ((m : Int) * a - n + a) * c * q (n - a) else 0) + recT m q l n = (m : Int) * ((if a ≤ n then ((a : Int) * c) * q (n - a) else 0) + opL (dl l) q n) - ((if a ≤ n then c * th q (n - a) else 0) + opL l (th q) n)
    by_cases h : a ≤ n
    · rw [if_pos h, if_pos h, if_pos h, ih]
      have e : ((n - a : Nat) : Int) = (n : Int) - a := by omega
      unfold th
      rw [e]
      grind
    · rw [if_neg h, if_neg h, if_neg h, ih]
      grind
theorem pw_next (f : Int) (r : List (Nat × Int)) (m n : Nat) : f * n * pw ((0, f) :: r) m n = recT m (pw ((0, f) :: r) m) r n := by
  have h := pw_rec ((0, f) :: r) m n
  have e1 : opL ((0, f) :: r) (th (pw ((0, f) :: r) m)) n = f * th (pw ((0, f) :: r) m) n + opL r (th (pw ((0, f) :: r) m)) n := by
    show (if 0 ≤ n then f * th _ (n - 0) else 0) + _ = _
    rw [if_pos (Nat.zero_le _), Nat.sub_zero]
  have e2 : opL (dl ((0, f) :: r)) (pw ((0, f) :: r) m) n = opL (dl r) (pw ((0, f) :: r) m) n := by
    show (if 0 ≤ n then ((0 : Nat) : Int) * f * pw _ _ (n - 0) else 0) + _ = _
    rw [if_pos (Nat.zero_le _)]
    simp
    rfl
  rw [e1, e2] at h
  rw [recT_eq]
  have e3 : th (pw ((0, f) :: r) m) n = (n : Int) * pw ((0, f) :: r) m n := rfl
  rw [e3] at h
  grind
theorem pw_zero (f : Int) {r : List (Nat × Int)} (h : ∀ p ∈ r, 1 ≤ p.1) : ∀ m, pw ((0, f) :: r) m 0 = f ^ m
  | 0 => by
    rw [Int.pow_zero]
    rfl
  | m + 1 => by
    have z : ∀ (l : List (Nat × Int)), (∀ p ∈ l, 1 ≤ p.1) → ∀ q : Nat → Int, opL l q 0 = 0 := by
      intro l
      induction l with
      | nil => intros; rfl
      | cons p l ih =>
        intro hl q
        have h1 := hl p (List.mem_cons_self ..)
        show (if p.1 ≤ 0 then p.2 * q (0 - p.1) else 0) + opL l q 0 = 0
        rw [if_neg (by omega), ih (fun x hx => hl x (List.mem_cons_of_mem _ hx)), Int.zero_add]
    show (if 0 ≤ 0 then f * pw ((0, f) :: r) m (0 - 0) else 0) + opL r (pw ((0, f) :: r) m) 0 = _
    rw [if_pos (Nat.le_refl _), z r h, pw_zero f h m, Int.pow_succ]
    grind
theorem opL_nn {q : Nat → Int} (hq : ∀ n, 0 ≤ q n) : ∀ (l : List (Nat × Int)) (n : Nat), (∀ p ∈ l, 0 ≤ p.2) → 0 ≤ opL l q n
  | [], _, _ => Int.le_refl _
  | (a, c) :: l, n, h => by
    have h1 := opL_nn hq l n fun p hp => h p (List.mem_cons_of_mem _ hp)
    have h2 : 0 ≤ c := h (a, c) (List.mem_cons_self ..)
    show 0 ≤ (if a ≤ n then c * q (n - a) else 0) + opL l q n
    by_cases h3 : a ≤ n
    · rw [if_pos h3]
      have := Int.mul_nonneg h2 (hq (n - a))
      omega
    · rw [if_neg h3]
      omega
theorem pw_nn {l : List (Nat × Int)} (h : ∀ p ∈ l, 0 ≤ p.2) : ∀ m n, 0 ≤ pw l m n
  | 0, n => by
    show 0 ≤ (if n = 0 then (1 : Int) else 0)
    split <;> decide
  | m + 1, n => opL_nn (pw_nn h m) l n h
def wsum (l : List (Nat × Int)) : Int := (l.map (·.2)).sum
theorem opL_le {q : Nat → Int} {B : Int} (hq : ∀ n, 0 ≤ q n ∧ q n ≤ B) (hB : 0 ≤ B) : ∀ (l : List (Nat × Int)) (n : Nat), (∀ p ∈ l, 0 ≤ p.2) → opL l q n ≤ wsum l * B
  | [], _, _ => by simp [opL, wsum]
  | (a, c) :: l, n, h => by
    have h1 := opL_le hq hB l n fun p hp => h p (List.mem_cons_of_mem _ hp)
    have h2 : 0 ≤ c := h (a, c) (List.mem_cons_self ..)
    have e : wsum ((a, c) :: l) * B = c * B + wsum l * B := by
      unfold wsum
      rw [List.map_cons, List.sum_cons, Int.add_mul]
    rw [e]
    show (if a ≤ n then c * q (n - a) else 0) + opL l q n ≤ _
    by_cases h3 : a ≤ n
    · rw [if_pos h3]
      have := Int.mul_le_mul_of_nonneg_left (hq (n - a)).2 h2
      omega
    · rw [if_neg h3]
      have := Int.mul_nonneg h2 hB
      omega
theorem wsum_nn {l : List (Nat × Int)} (h : ∀ p ∈ l, 0 ≤ p.2) : 0 ≤ wsum l := by
  induction l with
  | nil => exact Int.le_refl _
  | cons p l ih =>
    unfold wsum at *
    rw [List.map_cons, List.sum_cons]
    have := h p (List.mem_cons_self ..)
    have := ih fun x hx => h x (List.mem_cons_of_mem _ hx)
    omega
theorem pw_le {l : List (Nat × Int)} (h : ∀ p ∈ l, 0 ≤ p.2) : ∀ m n, pw l m n ≤ wsum l ^ m
  | 0, n => by
    show (if n = 0 then (1 : Int) else 0) ≤ _
    rw [Int.pow_zero]
    split <;> decide
  | m + 1, n => by
    have z := opL_le (q := pw l m) (B := wsum l ^ m) (fun k => ⟨pw_nn h m k, pw_le h m k⟩) (Int.pow_nonneg (wsum_nn h)) l n h
    rw [Int.pow_succ, Int.mul_comm]
    exact z
/-- beyond the greatest of all nothing comes -/
theorem pw_top {l : List (Nat × Int)} {t : Nat} (h : ∀ p ∈ l, p.1 ≤ t) : ∀ m n, t * m < n → pw l m n = 0
  | 0, n, hn => by
    show (if n = 0 then (1 : Int) else 0) = 0
    rw [if_neg (by omega)]
  | m + 1, n, hn => by
    have hn' : t * m + t < n := by rw [Nat.mul_succ] at hn; exact hn
    have z : ∀ (k : List (Nat × Int)), (∀ p ∈ k, p.1 ≤ t) → opL k (pw l m) n = 0 := by
      intro k
      induction k with
      | nil => intros; rfl
      | cons p k ih =>
        intro hk
        have h1 := hk p (List.mem_cons_self ..)
        show (if p.1 ≤ n then p.2 * pw l m (n - p.1) else 0) + opL k (pw l m) n = 0
        rw [if_pos (by omega), pw_top h m (n - p.1) (by omega), ih (fun x hx => hk x (List.mem_cons_of_mem _ hx))]
        simp
    exact z l h
/-- numbers counted in steps from the least one -/
def spread (lo st : Nat) (l : List (Nat × Int)) : List (Nat × Int) := l.map fun p => (lo + st * p.1, p.2)
def spreadF (lo st : Nat) (q : Nat → Int) (n : Nat) : Int := if lo ≤ n ∧ st ∣ (n - lo) then q ((n - lo) / st) else 0
theorem op_spread {lo st b : Nat} (hs : 0 < st) (q : Nat → Int) : ∀ (l : List (Nat × Int)) (n : Nat),
    opL (spread lo st l) (spreadF b st q) n = spreadF (b + lo) st (opL l q) n
  | [], n => by
    show 0 = if b + lo ≤ n ∧ st ∣ (n - (b + lo)) then (0 : Int) else 0
    split <;> rfl
  | (a, c) :: l, n => by
    have ih := op_spread (lo := lo) (b := b) hs q l n
    show (if lo + st * a ≤ n then c * spreadF b st q (n - (lo + st * a)) else 0) + opL (spread lo st l) (spreadF b st q) n = _
    rw [ih]
    unfold spreadF
    by_cases h : b + lo ≤ n ∧ st ∣ (n - (b + lo))
    · obtain ⟨h1, k, hk⟩ := h
      have hn : n = b + lo + st * k := by omega
      subst hn
      have ek : (b + lo + st * k - (b + lo)) / st = k := by
        rw [Nat.add_sub_cancel_left, Nat.mul_div_cancel_left _ hs]
      have hd : b + lo ≤ b + lo + st * k ∧ st ∣ b + lo + st * k - (b + lo) := ⟨by omega, ⟨k, by omega⟩⟩
      rw [if_pos hd, if_pos hd, ek]
      show _ = (if a ≤ k then c * q (k - a) else 0) + opL l q k
      congr 1
      by_cases hak : a ≤ k
      · obtain ⟨j, rfl⟩ : ∃ j, k = a + j := ⟨k - a, by omega⟩
        have e : st * (a + j) = st * a + st * j := Nat.mul_add _ _ _
        have e2 : b + lo + st * (a + j) - (lo + st * a) = b + st * j := by omega
        rw [if_pos (by omega), e2, if_pos ⟨by omega, ⟨j, by omega⟩⟩, if_pos hak, show b + st * j - b = st * j by omega, Nat.mul_div_cancel_left _ hs, Nat.add_sub_cancel_left]
      · obtain ⟨j, rfl⟩ : ∃ j, a = k + 1 + j := ⟨a - k - 1, by omega⟩
        have e : st * (k + 1 + j) = st * k + st + st * j := by rw [Nat.mul_add, Nat.mul_add, Nat.mul_one]
        rw [if_neg hak]
        split
        · rename_i h3
          rw [if_neg (by intro z; omega)]
          simp
        · rfl
    · rw [if_neg h, if_neg h, Int.add_zero]
      split
      · rename_i h3
        rw [if_neg]
        · simp
        · rintro ⟨h4, k, hk⟩
          refine h ⟨by omega, a + k, ?_⟩
          rw [Nat.mul_add]
          omega
      · rfl
theorem pw_spread {lo st : Nat} (hs : 0 < st) (l : List (Nat × Int)) : ∀ m, pw (spread lo st l) m = spreadF (lo * m) st (pw l m)
  | 0 => by
    funext n
    show (if n = 0 then (1 : Int) else 0) = if lo * 0 ≤ n ∧ st ∣ (n - lo * 0) then (if (n - lo * 0) / st = 0 then (1 : Int) else 0) else 0
    rw [Nat.mul_zero, Nat.sub_zero]
    by_cases h : n = 0
    · subst h
      rw [if_pos rfl, if_pos ⟨Nat.le_refl _, ⟨0, rfl⟩⟩, if_pos (Nat.zero_div _)]
    · rw [if_neg h]
      split
      · rename_i h2
        obtain ⟨_, k, rfl⟩ := h2
        rw [Nat.mul_div_cancel_left _ hs, if_neg]
        intro z
        subst z
        exact h rfl
      · rfl
  | m + 1 => by
    funext n
    show opL (spread lo st l) (pw (spread lo st l) m) n = _
    rw [pw_spread hs l m, op_spread hs]
    rw [Nat.mul_succ]
    rfl
theorem pw_single (lo : Nat) (f : Int) (m n : Nat) : pw [(lo, f)] m n = if n = lo * m then f ^ m else 0 := by
  have e : [(lo, f)] = spread lo 1 [(0, f)] := rfl
  rw [e, pw_spread (by decide)]
  have z : ∀ m k, pw [(0, f)] m k = if k = 0 then f ^ m else 0 := by
    intro m
    induction m with
    | zero =>
      intro k
      rw [Int.pow_zero]
      rfl
    | succ m ih =>
      intro k
      show (if 0 ≤ k then f * pw [(0, f)] m (k - 0) else 0) + 0 = _
      rw [if_pos (Nat.zero_le _), Nat.sub_zero, ih, Int.pow_succ]
      split <;> grind
  unfold spreadF
  rw [Nat.div_one, z]
  by_cases h : n = lo * m
  · subst h
    rw [if_pos ⟨Nat.le_refl _, ⟨_, (Nat.one_mul _).symm⟩⟩, Nat.sub_self, if_pos rfl, if_pos rfl]
  · rw [if_neg h]
    split
    · rename_i h2
      rw [if_neg (by omega)]
    · rfl
end Ev

set_option exponentiation.threshold 20000
/-! math.lcm and math.comb, by the hand layer; sizes of powers -/
namespace Ev
open PySem PySem.Spec PyProof.Rows L2
def rLcm : List V → Hp → VK → Prop := fun vs H Q => ∃ a b : Int, vs = [.int a, .int b] ∧ a.natAbs < 2 ^ 13000 ∧ b.natAbs < 2 ^ 13000 ∧ Q (.int ((Nat.lcm a.natAbs b.natAbs : Nat) : Int)) H
theorem lcm_small {m n : Nat} (hm : m < 2 ^ 13000) (hn : n < 2 ^ 13000) : (Nat.lcm m n).log2 < 26001 := by
  refine PySem.Flt.log2_lt_of (n := Nat.lcm m n) (by decide) ?_
  have h1 := PySem.W.mc_lcm_le m n
  have h2 : m * n < 2 ^ 13000 * 2 ^ 13000 := Nat.mul_lt_mul'' hm hn
  rw [← Nat.pow_add] at h2
  exact Nat.lt_of_le_of_lt h1 (Nat.lt_trans h2 (Nat.pow_lt_pow_right (by decide) (by decide)))
theorem cr_lcm {X : Cx} : CallR X (.builtin "math.lcm") rLcm := by
  intro pins s σ H vs us Q I r h
  obtain ⟨a, b, rfl, ha, hb, q⟩ := h
  obtain ⟨t, u, rfl⟩ := Vals.int2 r
  have l1 : (max 1 a.natAbs).log2 < 13000 := PySem.Flt.log2_lt_of (by decide) (Nat.max_lt.mpr ⟨Nat.one_lt_pow (by decide) (by decide), ha⟩)
  have l2 : (max a.natAbs b.natAbs).log2 < 13000 := PySem.Flt.log2_lt_of (by decide) (Nat.max_lt.mpr ⟨ha, hb⟩)
  have l3 := lcm_small ha hb
  have e := PySem.W.mc_lcm_one a.natAbs
  have big : 26001 ≤ bitsLine := by decide
  refine call_function_meets PySem.W.MGF.kind_lcm PySem.W.MGF.plain_lcm PySem.W.MGF.entry_lcm (PySem.W.MGF.args_lcm _ _) (PySem.W.mg_run_lcm a t b u (by omega) (by omega) ?_).meets ?_
  · rw [e]
    show (Nat.lcm a.natAbs b.natAbs).log2 < bitsLine
    omega
  · rw [e]
    exact ⟨.int _, H, I.tok _, ⟨_, rfl⟩, q⟩
def rComb : List V → Hp → VK → Prop := fun vs H Q => ∃ a b : Int, vs = [.int a, .int b] ∧ 0 ≤ a ∧ 0 ≤ b ∧ a < 2 ^ 64 ∧ b ≤ 9000 ∧ Q (.int (PySem.W.mcComb a b)) H
theorem cr_comb {X : Cx} : CallR X (.builtin "math.comb") rComb := by
  intro pins s σ H vs us Q I r h
  obtain ⟨a, b, rfl, ha, hb, h1, h2, q⟩ := h
  obtain ⟨t, u, rfl⟩ := Vals.int2 r
  exact PySem.W.mc_comb ha hb h1 (.inl h2) fun _ => ⟨.int _, H, I.tok _, ⟨_, rfl⟩, q⟩
theorem pow_lt {b : Int} {s : Nat} (h : b.natAbs < 2 ^ s) (n : Nat) : (b ^ n).natAbs < 2 ^ (s * n + 1) := by
  rw [Int.natAbs_pow]
  have h1 : b.natAbs ^ n ≤ (2 ^ s) ^ n := Nat.pow_le_pow_left (Nat.le_of_lt h) n
  rw [← Nat.pow_mul] at h1
  exact Nat.lt_of_le_of_lt h1 (Nat.pow_lt_pow_right (by decide) (Nat.lt_succ_self _))
theorem and_one (e : Nat) : Builtin.bitAnd (e : Int) 1 = ((e % 2 : Nat) : Int) := by
  have z : Builtin.bitAnd (e : Int) (2 ^ 1 - 1) = (e : Int) % 2 ^ 1 := Bits.bitAnd_mask 1 (by omega)
  rw [show ((2 : Int) ^ 1 - 1) = 1 by decide, show ((2 : Int) ^ 1) = 2 by decide] at z
  omega
/-! ### rows of pairs -/
abbrev prD (x y : Int) : PyData := .tuple [.int x, .int y]
section
variable {K : PySem.W.Frag} {Z : Addr → Prop} {H : Hp}
theorem dx_prD {v : V} {x y : Int} (h : Dx K Z H v (prD x y)) : ∃ a, v = .ref a ∧ SqT K H a [.int x, .int y] := by
  obtain ⟨a, xs, rfl, hs, hd⟩ := dx_tup h
  cases hd with
  | cons h1 r1 =>
    cases r1 with
    | cons h2 r2 =>
      cases r2
      rw [dx_int h1, dx_int h2] at hs
      exact ⟨a, rfl, hs⟩
theorem dx_word {v : V} {x : Str} {d : PyData} (h : Dx K Z H v (.tuple [.str x, d])) : ∃ a u, v = .ref a ∧ SqT K H a [.str x, u] ∧ Dx K Z H u d := by
  obtain ⟨a, xs, rfl, hs, hd⟩ := dx_tup h
  cases hd with
  | cons h1 r1 =>
    cases r1 with
    | cons h2 r2 =>
      cases r2
      rw [dx_str h1] at hs
      exact ⟨a, _, rfl, hs, h2⟩
theorem prD_dx {a : Addr} {x y : Int} (h : SqT K H a [.int x, .int y]) : Dx K Z H (.ref a) (prD x y) := .tup h (.cons (.int _) (.cons (.int _) .nil))
theorem prs_at {vs : List V} {l : List (Int × Int)} {i : Nat} {v : V} (h : DxAll K Z H vs (l.map fun q => prD q.1 q.2)) (e : vs[i]? = some v) :
    ∃ x y a, l[i]? = some (x, y) ∧ v = .ref a ∧ SqT K H a [.int x, .int y] := by
  obtain ⟨d, h1, h2⟩ := dxAll_get h e
  rw [List.getElem?_map] at h1
  cases q : l[i]? with
  | none => rw [q] at h1; cases h1
  | some p =>
    rw [q] at h1
    cases h1
    obtain ⟨a, ea, hs⟩ := dx_prD h2
    exact ⟨p.1, p.2, a, rfl, ea, hs⟩
theorem prs_to {vs : List V} {l : List (Int × Int)} {i : Nat} {p : Int × Int} (h : DxAll K Z H vs (l.map fun q => prD q.1 q.2)) (e : l[i]? = some p) :
    ∃ a, vs[i]? = some (.ref a) ∧ SqT K H a [.int p.1, .int p.2] := by
  obtain ⟨v, h1, h2⟩ := dxAll_at h (i := i) (d := prD p.1 p.2) (by rw [List.getElem?_map, e]; rfl)
  obtain ⟨a, rfl, hs⟩ := dx_prD h2
  exact ⟨a, h1, hs⟩
theorem ix0 {x : V} {xs : List V} : atI (x :: xs) 0 = some x := atI_nat (j := 0) rfl
theorem ix1 {x y : V} {xs : List V} : atI (x :: y :: xs) 1 = some y := atI_nat (j := 1) rfl
theorem dxAll_new {p : Addr} {o : HO} {vs : List V} {ds : List PyData} (hp : H p = none) (h : DxAll K Z H vs ds) : DxAll K Z (upd H p o) vs ds := dxAll_same (same_new hp) h
end
/-! ### the whole of which weights are parts -/
def wholeN (l : List (Int × Int × Int)) : Nat := l.foldl (fun w q => Nat.lcm w q.2.2.natAbs) 1
def sdD (q : Int × Int × Int) : PyData := .tuple [.int q.1, .tuple [.int q.2.1, .int q.2.2]]
def wts (l : List (Int × Int × Int)) : List (Int × Int) := l.map fun q => (q.1, q.2.1 * ((wholeN l : Int) / q.2.2))
theorem fold_lcm_dvd : ∀ (l : List (Int × Int × Int)) (w : Nat), w ∣ l.foldl (fun w q => Nat.lcm w q.2.2.natAbs) w
  | [], w => Nat.dvd_refl _
  | q :: l, w => Nat.dvd_trans (Nat.dvd_lcm_left _ _) (fold_lcm_dvd l _)
theorem fold_lcm_pos : ∀ (l : List (Int × Int × Int)) (w : Nat), 0 < w → (∀ q ∈ l, 1 ≤ q.2.2) → 0 < l.foldl (fun w q => Nat.lcm w q.2.2.natAbs) w
  | [], w, h, _ => h
  | q :: l, w, h, hl => fold_lcm_pos l _ (Nat.lcm_pos h (by have := hl q (List.mem_cons_self ..); omega)) fun x hx => hl x (List.mem_cons_of_mem _ hx)
theorem fold_lcm_mem : ∀ (l : List (Int × Int × Int)) (w : Nat), ∀ q ∈ l, q.2.2.natAbs ∣ l.foldl (fun w q => Nat.lcm w q.2.2.natAbs) w
  | [], w, q, h => nomatch h
  | p :: l, w, q, h => by
    rcases List.mem_cons.mp h with rfl | h
    · exact Nat.dvd_trans (Nat.dvd_lcm_right _ _) (fold_lcm_dvd l _)
    · exact fold_lcm_mem l _ q h
theorem whole_take {l : List (Int × Int × Int)} {i : Nat} {q : Int × Int × Int} (h : l[i]? = some q) : wholeN (l.take (i + 1)) = Nat.lcm (wholeN (l.take i)) q.2.2.natAbs := by
  unfold wholeN
  rw [List.take_add_one, h, List.foldl_append]
  rfl
theorem whole_part (l : List (Int × Int × Int)) (i : Nat) : wholeN (l.take i) ∣ wholeN l := by
  have e : wholeN l = (l.drop i).foldl (fun w q => Nat.lcm w q.2.2.natAbs) (wholeN (l.take i)) := by
    unfold wholeN
    rw [← List.foldl_append, List.take_append_drop]
  rw [e]
  exact fold_lcm_dvd _ _
theorem whole_pos {l : List (Int × Int × Int)} (h : ∀ q ∈ l, 1 ≤ q.2.2) : 0 < wholeN l := fold_lcm_pos l 1 (by decide) h
theorem whole_mem {l : List (Int × Int × Int)} {q : Int × Int × Int} (h : q ∈ l) : q.2.2.natAbs ∣ wholeN l := fold_lcm_mem l 1 q h
/-! ### lists and dicts that are new since a heap -/
/-- beside the loom's two, and new -/
def ZN (L F : Addr) (H : Hp) : Addr → Prop := fun a => a ≠ L ∧ a ≠ F ∧ H a = none
theorem none_back {L F p : Addr} {H G : Hp} (k : Kp L F H G) (h : G p = none) (l : p ≠ L) (f : p ≠ F) : H p = none := by
  cases e : H p with
  | none => rfl
  | some u =>
    rw [k p u l f e] at h
    cases h
theorem dx_kpn {K : PySem.W.Frag} {L F : Addr} {B H H' : Hp} (k : Kp L F H H') (hM : Lm H L F) {v : V} {d : PyData} (h : Dx K (ZN L F B) H v d) : Dx K (ZN L F B) H' v d :=
  dx_keep (fun _ _ e => k.sqT hM e) (fun _ _ z e => k _ _ z.1 z.2.1 e) h
theorem dxAll_kpn {K : PySem.W.Frag} {L F : Addr} {B H H' : Hp} (k : Kp L F H H') (hM : Lm H L F) {v : List V} {d : List PyData} (h : DxAll K (ZN L F B) H v d) : DxAll K (ZN L F B) H' v d :=
  dxAll_keep (fun _ _ e => k.sqT hM e) (fun _ _ z e => k _ _ z.1 z.2.1 e) h
mutual
theorem dx_monoL {K : PySem.W.Frag} {Z Z' : Addr → Prop} {H : Hp} (hz : ∀ a, Z a → Z' a) : ∀ {v : V} {d : PyData}, Dx K Z H v d → Dx K Z' H v d
  | _, _, .non => .non
  | _, _, .bl b => .bl b
  | _, _, .int i => .int i
  | _, _, .str x => .str x
  | _, _, .lst e z h => .lst e (hz _ z) (dxAll_monoL hz h)
  | _, _, .tup e h => .tup e (dxAll_monoL hz h)
  | _, _, .dct e z h => .dct e (hz _ z) (dxKv_monoL hz h)
theorem dxAll_monoL {K : PySem.W.Frag} {Z Z' : Addr → Prop} {H : Hp} (hz : ∀ a, Z a → Z' a) : ∀ {vs : List V} {ds : List PyData}, DxAll K Z H vs ds → DxAll K Z' H vs ds
  | _, _, .nil => .nil
  | _, _, .cons h r => .cons (dx_monoL hz h) (dxAll_monoL hz r)
theorem dxKv_monoL {K : PySem.W.Frag} {Z Z' : Addr → Prop} {H : Hp} (hz : ∀ a, Z a → Z' a) : ∀ {vs : List (Key × V)} {ds : List (PyData × PyData)}, DxKv K Z H vs ds → DxKv K Z' H vs ds
  | _, _, .nil => .nil
  | _, _, .cons h r => .cons (dx_monoL hz h) (dxKv_monoL hz r)
end
/-- new since a later heap is new since an earlier one -/
theorem dx_back {K : PySem.W.Frag} {L F : Addr} {B B' H : Hp} (k : Kp L F B B') {v : V} {d : PyData} (h : Dx K (ZN L F B') H v d) : Dx K (ZN L F B) H v d :=
  dx_monoL (fun _ z => ⟨z.1, z.2.1, none_back k z.2.2 z.1 z.2.1⟩) h
theorem dxAll_back {K : PySem.W.Frag} {L F : Addr} {B B' H : Hp} (k : Kp L F B B') {v : List V} {d : List PyData} (h : DxAll K (ZN L F B') H v d) : DxAll K (ZN L F B) H v d :=
  dxAll_monoL (fun _ z => ⟨z.1, z.2.1, none_back k z.2.2 z.1 z.2.1⟩) h
theorem dx_zl {K : PySem.W.Frag} {L F : Addr} {B H : Hp} {v : V} {d : PyData} (h : Dx K (ZN L F B) H v d) : Dx K (ZL L F) H v d := dx_monoL (fun _ z => ⟨z.1, z.2.1⟩) h
mutual
/-- no list, no dict -/
def noL : PyData → Bool
  | .list _ => false
  | .dict _ => false
  | .tuple xs => noLs xs
  | _ => true
def noLs : List PyData → Bool
  | [] => true
  | x :: xs => noL x && noLs xs
end
mutual
theorem dx_any {K : PySem.W.Frag} {Z Z' : Addr → Prop} {H : Hp} : ∀ {v : V} {d : PyData}, Dx K Z H v d → noL d = true → Dx K Z' H v d
  | _, _, .non, _ => .non
  | _, _, .bl b, _ => .bl b
  | _, _, .int i, _ => .int i
  | _, _, .str x, _ => .str x
  | _, _, .lst e z h, n => by simp [noL] at n
  | _, _, .tup e h, n => .tup e (dxAll_any h (by simpa only [noL] using n))
  | _, _, .dct e z h, n => by simp [noL] at n
theorem dxAll_any {K : PySem.W.Frag} {Z Z' : Addr → Prop} {H : Hp} : ∀ {vs : List V} {ds : List PyData}, DxAll K Z H vs ds → noLs ds = true → DxAll K Z' H vs ds
  | _, _, .nil, _ => .nil
  | _, d :: ds, .cons h r, n => by
    have n' : (noL d && noLs ds) = true := by simpa only [noLs] using n
    rw [Bool.and_eq_true] at n'
    exact .cons (dx_any h n'.1) (dxAll_any r n'.2)
end
end Ev

set_option exponentiation.threshold 256
/-! t[::-1], t a tuple that is not empty -/
namespace Ev
open PySem PySem.Spec PyProof.Rows L2
section
variable {prog : Program} {w : World} {A : Around} {E : Value → Shared → Prop} {s : Shared}
theorem applied_rev {sl : Addr} {vl vu vs : Value} {n : Nat} {Q : Int × Int × Nat → Shared → Prop} (hs : s.heap.IsSliceOf sl vl vu vs) (pl : IsPart vl none) (pu : IsPart vu none) (ps : IsPart vs (some (-1)))
    (h : Q ((n : Int) - 1, -1, n) s) : wpAny (model prog w) A (Builtin.Slice.sliceApplied (.ref sl) (pure (n : Int))) Q E s := by
  obtain ⟨os, hos, hcs, hds⟩ := id hs
  unfold Builtin.Slice.sliceApplied Builtin.Slice.sliceFields
  refine wpAny_bind (wpAny_bind (wpAny_field hos hds (x := vl) rfl (wpAny_bind (wpAny_field hos hds (x := vu) rfl (wpAny_bind (wpAny_field hos hds (x := vs) rfl (wpAny_pure ?_)))))))
  refine wpAny_bind (HT.slicePart_ ps ?_)
  show wpAny _ _ (if ((-1 : Int) == 0) = true then _ else _) _ _ s
  rw [if_neg (by decide)]
  refine wpAny_bind (HT.slicePart_ pl (wpAny_bind (HT.slicePart_ pu (wpAny_bind (wpAny_pure ?_)))))
  show wpAny _ _ (match Builtin.Slice.sliceAdjust none none (-1) (n : Int) with | (lo, hi) => pure (lo, (-1 : Int), Builtin.Slice.slicePlaces lo hi (-1))) _ _ s
  have e : Builtin.Slice.sliceAdjust none none (-1) (n : Int) = ((n : Int) - 1, -1) := rfl
  rw [e]
  show wpAny _ _ (pure ((n : Int) - 1, (-1 : Int), Builtin.Slice.slicePlaces ((n : Int) - 1) (-1) (-1))) _ _ s
  have e2 : Builtin.Slice.slicePlaces ((n : Int) - 1) (-1) (-1) = n := by
    unfold Builtin.Slice.slicePlaces
    rw [if_neg (by decide)]
    by_cases h0 : (n : Int) - 1 > -1
    · rw [if_pos h0, show (- -1 : Int) = 1 by decide, Int.ediv_one]
      omega
    · rw [if_neg h0]
      omega
  rw [e2]
  exact wpAny_pure h
theorem pick_rev (xs : Array Value) : ((List.range xs.size).filterMap fun (m : Nat) => xs[((xs.size : Int) - 1 + (m : Int) * (-1)).toNat]?).toArray = xs.toList.reverse.toArray := by
  have e : (List.range xs.size).filterMap (fun (m : Nat) => xs[((xs.size : Int) - 1 + (m : Int) * (-1)).toNat]?) = ((List.range xs.size).map fun k => xs.size - 1 - k).filterMap (xs[·]?) := by
    have e1 : (List.range xs.size).map (fun (m : Nat) => ((xs.size : Int) - 1 + (m : Int) * (-1)).toNat) = (List.range xs.size).map fun k => xs.size - 1 - k := by
      refine List.map_congr_left fun m hm => ?_
      have h := List.mem_range.mp hm
      omega
    rw [← e1, List.filterMap_map]
    rfl
  rw [e, PySem.W.krv_range, List.filterMap_reverse, PySem.W.krv_all]
theorem getItem_rev {t sl : Addr} {items : Array Value} {vl vu vs : Value} {Q : Value → Shared → Prop} (ht : IsTup s.heap t items) (hs : s.heap.IsSliceOf sl vl vu vs) (pl : IsPart vl none) (pu : IsPart vu none) (ps : IsPart vs (some (-1)))
    (h : Q (.ref s.heap.objs.size) { s with heap := s.heap.push { cls := .type "tuple", data := .seq items.toList.reverse.toArray } })
    (hsz : items.size ≤ sizeLine) : wpAny (model prog w) A (getItem (.ref t) (.ref sl)) Q E s := by
  have htake : sizeOk (.seq items.toList.reverse.toArray) := by
    show items.toList.reverse.toArray.size ≤ sizeLine
    rw [List.size_toArray, List.length_reverse, Array.length_toList]
    exact hsz
  obtain ⟨os, hos, hcs, hds⟩ := id hs
  have hTs : s.TypeIs (.ref sl) "slice" := ⟨os, hos, hcs⟩
  unfold getItem
  try with_reducible refine wpAny_holding ?_
  first | refine wpAny_bind (wpAny_pure ?_) | skip
  refine wpAny_bind (wpAny_sequenceKey ht.typeIs (by decide) ?_)
  refine wpAny_bind (wpAny_callSpecial?_slot (name := Str.ofString "__getitem__") ht.typeIs PyProof.Rows.slot_tuple_getitem
    (wpAny_call_entry PyProof.Rows.slot_tuple_getitem ht.typeIs entry_tuple_getitem ?_ (args_tuple_getitem _ _)))
  show wpAny _ _ (Builtin.Tuple.tupleItemsOf (.ref t) >>= _) _ _ s
  refine wpAny_bind (tupleItemsOf_ ht ?_)
  refine wpAny_bind (wpAny_typeOf hTs ?_)
  rw [if_pos (by decide)]
  refine wpAny_bind (applied_rev hs pl pu ps ?_)
  have hno : ¬ ((((items.size : Int) - 1) == 0 && (-1 : Int) == 1 && items.size == items.size) = true) := by
    intro q
    rw [Bool.and_eq_true, Bool.and_eq_true] at q
    exact absurd q.1.2 (by decide)
  show wpAny _ _ (if ((((items.size : Int) - 1) == 0 && (-1 : Int) == 1 && items.size == items.size) = true) then _ else _) _ _ s
  rw [if_neg hno, pick_rev]
  first
    | exact wpAny_bind (m := Builtin.Tuple.tupleExact _) (wpAny_newObj_type (wpAny_pure ⟨_, rfl, wpAny_pure h⟩) htake)
    | exact wpAny_bind (m := Builtin.Tuple.tupleExact _) (wpAny_newObj_type (wpAny_bind (wpAny_pure (wpAny_pure ⟨_, rfl, wpAny_pure h⟩))) htake)
    | exact wpAny_bind (wpAny_bind (m := Builtin.Tuple.tupleExact _) (wpAny_newObj_type (wpAny_pure (wpAny_pure ⟨_, rfl, wpAny_pure h⟩)) htake))
    | exact wpAny_bind (wpAny_bind (m := Builtin.Tuple.tupleExact _) (wpAny_newObj_type (wpAny_pure ⟨_, rfl, wpAny_pure h⟩) htake))
end
section
variable {X : Cx}
def tRevT (K : PySem.W.Frag) (te : TE) : TE := fun σ H Q => te σ H fun x H1 => ∃ a xs, x = .ref a ∧ SqT K H1 a xs ∧ ∀ p, H1 p = none → Q (.ref p) (upd H1 p (.tup xs.reverse))
theorem pe_revT {e : Expr} {te : TE} {k : Nat} {p1 p2 p3 pos : Pos} (he : PE X e te) : PE X (.Subscript e (.Slice none none (some (.UnaryOp .USub (.Constant (.int 1) k p1) p2)) p3) pos) (tRevT X.K te) := by
  refine ⟨fun pins s σ H Q I h => ?_⟩
  refine Subscript_ (thn (he.run pins s σ H _ I h) fun v s1 ⟨x, H1, I1, r1, q1⟩ => ?_)
  obtain ⟨a, xs, ex, hx, q⟩ := q1
  subst ex
  cases r1
  have hst : PO X (some (.UnaryOp .USub (.Constant (.int 1) k p1) p2)) (tPart (tUn (rU fun i => .int (-i)) (tC (.int 1)))) := po_some (pe_un un_neg pe_int)
  refine wpAny_Slice (thn (po_none.run pins s1 σ H1 (fun o H2 => o = none ∧ H2 = H1) I1 ⟨rfl, rfl⟩) fun vl s2 ⟨l, H2, I2, pl, el, e2⟩ => ?_)
  subst el e2
  refine thn (po_none.run pins s2 σ H2 (fun o H3 => o = none ∧ H3 = H2) I2 ⟨rfl, rfl⟩) fun vu s3 ⟨u, H3, I3, pu, eu, e3⟩ => ?_
  subst eu e3
  refine thn (hst.run pins s3 σ H3 (fun o H4 => o = some (-1) ∧ H4 = H3) I3 ⟨1, rfl, -1, rfl, rfl, rfl⟩) fun vs s4 ⟨o, H4, I4, ps, eo, e4⟩ => ?_
  subst eo e4
  have I5 : Inv X pins σ H4 { s4 with heap := s4.heap.push { cls := .type "slice", data := .fields #[vl, vu, vs] } } := I4.kept (t' := s4.toks) fun b ob q => Heap.get?_push_of_some _ q
  obtain ⟨its, r, ht, hz⟩ := I5.tuple hx
  have hlen := r.length
  show wpAny (model X.prog X.w) X.A (subscriptTail e (.Slice none none (some (.UnaryOp .USub (.Constant (.int 1) k p1) p2)) p3) (.ref a) (.ref s4.heap.objs.size)) (EP X pins σ Q) X.xe { s4 with heap := s4.heap.push { cls := .type "slice", data := .fields #[vl, vu, vs] } }
  refine tail_any (ops := [.ref a, .ref s4.heap.objs.size]) ht.typeIs (PyProof.Rows.slot_tuple_getitem.lookup) ?_ (by with_unfolding_all rfl)
  refine getItem_rev ht (Heap.IsSliceOf.new _ vl vu vs) pl pu ps ?_ (by rw [List.size_toArray]; omega)
  refine ⟨.ref _, _, I5.laid (t' := s4.toks) (o := .tup xs.reverse) (fun b ob q => Heap.get?_push_of_some _ q) (Nat.le_refl _) ?_, rfl, q _ (I5.hok.fresh (Nat.le_refl _))⟩
  exact ⟨by rw [List.length_reverse]; exact hz, _, r.reverse, IsTup.new _ _⟩
/-- t + u: somewhere stand the items of both -/
def rCatS (K : PySem.W.Frag) : R2 := fun x y H Q => ∃ a b xs ys, x = .ref a ∧ y = .ref b ∧ SqT K H a xs ∧ SqT K H b ys ∧ xs.length + ys.length ≤ sizeLine ∧
  ∀ (H' : Hp) (p : Addr), Same H H' → SqT K H' p (xs ++ ys) → Q (.ref p) H'
theorem op_catS : OpR X (binaryOp .Add) (rCatS X.K) := by
  intro pins s σ H x y v u Q I rx ry h
  obtain ⟨a, b, xs, ys, rfl, rfl, ha, hb, hz, q⟩ := h
  refine op_catA pins s σ H _ _ v u Q I rx ry ⟨a, b, xs, ys, rfl, rfl, ha, hb, hz, fun e => ?_, fun _ e => ?_, fun _ _ p hp => ?_⟩
  · subst e
    exact q H b (Same.refl H) hb
  · subst e
    refine q H a (Same.refl H) ?_
    rw [List.append_nil]
    exact ha
  · exact q _ p (same_new hp) (SqT.of upd_same)
/-- t[lo:hi]: somewhere stand its items -/
def rSlS (K : PySem.W.Frag) : V → Option Int → Option Int → Hp → VK → Prop := fun x lo hi H Q => ∃ a xs, x = .ref a ∧ SqT K H a xs ∧ ∀ (H' : Hp) (p : Addr), Same H H' → SqT K H' p (cutV xs lo hi) → Q (.ref p) H'
theorem sl_tupS : SlR X (rSlS X.K) := by
  intro pins s σ H x v vl vu lo hi sl Q I rx hs pl pu h
  obtain ⟨a, xs, rfl, hx, q⟩ := h
  refine sl_tupA pins s σ H _ v vl vu lo hi sl Q I rx hs pl pu ⟨a, xs, rfl, hx, fun e => ?_, fun _ p hp => q _ p (same_new hp) (SqT.of upd_same)⟩
  refine q H a (Same.refl H) ?_
  have z : cutV xs lo hi = xs := by
    unfold cutV
    rw [e.1, e.2, List.drop_zero, Nat.sub_zero, List.take_of_length_le (Nat.le_refl _)]
  rw [z]
  exact hx
end
end Ev

set_option exponentiation.threshold 256
namespace Ev
open PySem PySem.Spec PyProof.Rows L2 SX
/-! ### decimal writing -/
open TL (numL numL_lt numL_step numL_digits numL_ne numL_free numL_val numL_inj numL_len)
def intL (i : Int) : List Nat := if i < 0 then 45 :: numL i.natAbs else numL i.natAbs
theorem int_text (i : Int) : Str.ofString (toString i) = S (intL i) := by
  cases i with
  | ofNat m =>
    have e : intL (Int.ofNat m) = numL m := if_neg (by show ¬ ((m : Int) < 0); omega)
    rw [e]
    exact num_S m
  | negSucc m =>
    have e : intL (Int.negSucc m) = 45 :: numL (m + 1) := if_pos (Int.negSucc_lt_zero m)
    rw [e]
    refine TL.ext_tl ?_
    have t : toString (Int.negSucc m) = "-" ++ Nat.repr (m + 1) := rfl
    rw [t, TL.tl_ofString, String.toList_append, List.map_append]
    have h := TL.tl_num (m + 1)
    rw [TL.tl_ofString] at h
    have z : (toString (((m + 1 : Nat)) : Int)) = Nat.repr (m + 1) := rfl
    rw [z] at h
    rw [h]
    rfl
/-- k figures of r, noughts ahead -/
def padL : Nat → Nat → List Nat
  | 0, _ => []
  | k + 1, r => padL k (r / 10) ++ [48 + r % 10]
theorem padL_len : ∀ k r, (padL k r).length = k
  | 0, _ => rfl
  | k + 1, r => by
    show (padL k (r / 10) ++ [48 + r % 10]).length = k + 1
    rw [List.length_append, padL_len k, List.length_singleton]
theorem padL_zero : ∀ k, padL k 0 = List.replicate k 48
  | 0 => rfl
  | k + 1 => by
    show padL k (0 / 10) ++ [48 + 0 % 10] = _
    rw [show 0 / 10 = 0 from rfl, padL_zero k, List.replicate_succ']
theorem pow_mul10 (q k r : Nat) : (q * 10 ^ (k + 1) + r) / 10 = q * 10 ^ k + r / 10 ∧ (q * 10 ^ (k + 1) + r) % 10 = r % 10 := by
  have e : q * 10 ^ (k + 1) = 10 * (q * 10 ^ k) := by rw [Nat.pow_succ, ← Nat.mul_assoc, Nat.mul_comm]
  rw [e]
  constructor <;> omega
theorem numL_cat {q : Nat} (hq : 1 ≤ q) : ∀ k r, r < 10 ^ k → numL (q * 10 ^ k + r) = numL q ++ padL k r
  | 0, r, h => by
    have e : r = 0 := by simpa using h
    subst e
    show numL (q * 10 ^ 0 + 0) = numL q ++ []
    rw [Nat.pow_zero, Nat.mul_one, Nat.add_zero, List.append_nil]
  | k + 1, r, h => by
    obtain ⟨e1, e2⟩ := pow_mul10 q k r
    have big : 10 ≤ q * 10 ^ (k + 1) + r := by
      have : 1 * 10 ^ (k + 1) ≤ q * 10 ^ (k + 1) := Nat.mul_le_mul_right _ hq
      have : 10 ^ (k + 1) = 10 ^ k * 10 := Nat.pow_succ 10 k
      have : 0 < 10 ^ k := Nat.pow_pos (by decide)
      omega
    rw [numL_step big, e1, e2, numL_cat hq k (r / 10) (by rw [Nat.pow_succ] at h; omega), List.append_assoc]
    rfl
theorem padL_eq : ∀ k r, r < 10 ^ (k + 1) → padL (k + 1) r = List.replicate (k + 1 - (numL r).length) 48 ++ numL r
  | 0, r, h => by
    have h' : r < 10 := by simpa using h
    rw [numL_lt h']
    show padL 0 (r / 10) ++ [48 + r % 10] = _
    rw [Nat.mod_eq_of_lt h']
    rfl
  | k + 1, r, h => by
    show padL (k + 1) (r / 10) ++ [48 + r % 10] = _
    by_cases hr : r < 10
    · rw [numL_lt hr, Nat.div_eq_of_lt hr, padL_zero, Nat.mod_eq_of_lt hr]
      rfl
    · have ih := padL_eq k (r / 10) (by rw [Nat.pow_succ] at h; omega)
      rw [ih, numL_step (by omega : 10 ≤ r), List.append_assoc, List.length_append, List.length_singleton]
      congr 2
      omega
theorem zfill_num {k r : Nat} (h : r < 10 ^ (k + 1)) : Txt.zfill (S (numL r)) (((k + 1 : Nat)) : Int) = S (padL (k + 1) r) := by
  have hl := numL_len (by omega) h
  have hz : (S (numL r)).length = (numL r).length := S_len _
  unfold Txt.zfill
  split
  · rename_i z
    rw [hz] at z
    have e : (numL r).length = k + 1 := by omega
    rw [padL_eq k r h, e, Nat.sub_self]
    rfl
  · rw [hz]
    have e1 : (((k + 1 : Nat) : Int)).toNat - (numL r).length = k + 1 - (numL r).length := by omega
    rw [e1, padL_eq k r h]
    unfold zfilled
    have hd : ∀ c, (S (numL r)).cps[0]? = some c → 48 ≤ c ∧ c ≤ 57 := fun c hc => by
      refine numL_digits r c ?_
      have : (numL r)[0]? = some c := by
        have z : (S (numL r)).cps[0]? = (numL r)[0]? := by simp [S]
        rw [← z]; exact hc
      exact List.mem_of_getElem? this
    have body : Builtin.Str.padded (S (numL r)) (k + 1 - (numL r).length) 0 48 = S (List.replicate (k + 1 - (numL r).length) 48 ++ numL r) := by
      refine TL.ext_tl ?_
      show (Array.replicate (k + 1 - (numL r).length) 48 ++ (numL r).toArray ++ Array.replicate 0 48).toList = _
      simp [S]
    split
    · rename_i e
      have := hd _ e
      omega
    · rename_i e
      have := hd _ e
      omega
    · exact body
/-! ### the text of a fraction -/
def fracL (a b : Int) : List Nat := if b = 1 then intL a else intL a ++ 47 :: intL b
/-! ### reading -/
def isDig (c : Nat) : Bool := decide (48 ≤ c) && decide (c ≤ 57)
def unsign (t : List Nat) : List Nat := if t.head? = some 45 then t.drop 1 else t
def rdI (t : List Nat) : Option Int :=
  if 1 ≤ (unsign t).length ∧ (unsign t).length ≤ 400 ∧ (unsign t).all isDig = true ∧ ((unsign t).head? = some 48 → t = [48]) then
    some (if t.head? = some 45 then -(NumText.digitsVal (unsign t) : Int) else (NumText.digitsVal (unsign t) : Int))
  else none
theorem removeprefix_minus (t : List Nat) : Txt.removeprefix (S t) (S [45]) = S (unsign t) := by
  rw [StrLaws.removeprefix_eq]
  have e : Builtin.Str.subAt (S t) (S [45]) 0 = decide (t.head? = some 45) := by
    rw [StrLaws.subAt_eq]
    show ((t.drop 0).take 1 == [45]) = _
    cases t with
    | nil => rfl
    | cons c r =>
      show ([c] == [45]) = decide (some c = some 45)
      by_cases h : c = 45
      · subst h; rfl
      · rw [decide_eq_false (fun z => h (Option.some.inj z))]
        simp [h]
  rw [e, S_len, S_len]
  unfold unsign
  by_cases h : t.head? = some 45
  · have hl : 1 ≤ t.length := by
      cases t with
      | nil => cases h
      | cons c r => simp
    have hl' : 0 + [45].length ≤ t.length := by simpa using hl
    rw [decide_eq_true h, decide_eq_true hl', Bool.and_self, if_pos rfl, if_pos h]
    show S ((t.drop 1).take (t.length - 1)) = S (t.drop 1)
    rw [List.take_of_length_le (by rw [List.length_drop]; omega)]
  · rw [decide_eq_false h, Bool.and_false, if_neg Bool.false_ne_true, if_neg h]
/-! ### sep.join(reversed(a list of texts)) -/
section
variable {prog : Program} {w : World} {A : Around} {E : Value → Shared → Prop} {s : Shared}
theorem join_rev {x : Str} {t : Tok} {it l : Addr} {items : Array Value} {ys : List Str} {Q : Value → Shared → Prop} (hh : A.handled = none)
    (hit : s.heap.IsRevIter it l ((items.size : Int) - 1)) (hl : s.heap.IsList l items) (hne : l ≠ it) (hn : items.size ≤ sizeLine)
    (hP : ∀ acc : Array Value, ItemsOf (fun i v => items[items.size - 1 - i]? = some v) acc items.size → StrsAre acc.toList ys)
    (hok : (ys.map (·.length)).sum + ys.length * x.length ≤ 16777216)
    (hq : ∀ (h' : Heap) (t' : Tok) (k : Nat), (∀ b o, b ≠ it → s.heap.get? b = some o → h'.get? b = some o) → Q (.str (Txt.join x ys) t') { s with heap := h', toks := k }) :
    wpAny (model prog w) A (call (.builtin "str.join") [.str x t, .ref it]) Q E s := by
  refine wpAny_call (codeAny_call_builtin F.slot_str_join.plain F.entry_str_join (F.slot_str_join.check _ _ _ _ _ _ _ _ (typeIs_str _ _ _) (F.args_str_join_2 _ _) ?_))
  rw [join_tree_other]
  have hT : s.TypeIs (.ref it) "list_reverseiterator" := hit.typeIs
  refine wpAny_bind (wpAny_typeOf hT ?_)
  show wpAny _ A.in1 ((pyIter (.ref it)).tryCatch _ >>= fun it => collect it >>= fun items => joinTail x items) _ _ s
  refine wpAny_bind (wpAny_tryCatch (wpAny_pyIter_revIter hit ?_))
  refine wpAny_bind (RT.collect_rev (A := A.in1) hh hit hl hne hn fun h' tk acc hk hacc => ?_)
  obtain ⟨ls, el, ht⟩ := strsAre_values (hP acc hacc)
  subst ht
  rw [el]
  have hok' := joinOk_of hok
  unfold JoinOk at hok'
  rw [Bool.not_eq_true'] at hok'
  have g : Gives (joinTail x (strValues ls)) (joinMade x ls) := by
    have g0 := gives_joinTail x ls hok'
    rcases ls with _ | ⟨p, _ | ⟨q, r⟩⟩ <;> exact g0
  exact g prog w A (wants Q E) _ (post_join ls ⟨joinFit_length hok', fun t' k => hq h' t' k hk⟩)
end
theorem strs_rev {ys : List Str} {its : List Value} (r : Vals (ys.map V.str) its) {acc : Array Value}
    (h : ItemsOf (fun i v => its.toArray[its.toArray.size - 1 - i]? = some v) acc its.toArray.size) : StrsAre acc.toList ys.reverse := by
  have z := RT.vals_rev r h
  rw [← List.map_reverse] at z
  exact strs_of_vals z
section
variable {X : Cx}
theorem pe_joinRev {o e : Expr} {to te : TE} {apos pos p pos2 : Pos} (hc : X.calm = true) (ho : PE X o to) (hg : Gl X "reversed") (hm : X.mg "reversed" = none) (he : PE X e te)
    (hs1 : starEach [.Call (.Name "reversed" p) [e] [] pos2] X.env = [(false, eval (.Call (.Name "reversed" p) [e] [] pos2) X.env)] := by rfl)
    (hs : starEach [e] X.env = (false, eval e X.env) :: starEach [] X.env := by rfl)
    (hbase : attributeBase o "join" X.env (eval o X.env) = eval o X.env := by rfl) (hline : (apos.endLine == pos.line) = true := by rfl) :
    PE X (.Call (.Attribute o "join" apos) [.Call (.Name "reversed" p) [e] [] pos2] [] pos)
      (fun σ H Q => to σ H fun x H1 => (∃ a, x = .str a) ∧ te σ H1 fun v H2 => ∃ (a : Str) (q : Addr) (ys : List Str), x = .str a ∧ v = .ref q ∧ SqL X.K H2 q (ys.map V.str) ∧
        (ys.map (·.length)).sum + ys.length * a.length ≤ 16777216 ∧ Q (.str (Txt.join a ys.reverse)) H2) := by
  refine ⟨fun pins s σ H Q I h => ?_⟩
  refine PySem.Call_method1 hbase hs1 hline (thn (ho.run pins s σ H _ I h) fun v s1 ⟨x, H1, I1, r1, q1⟩ => ?_)
  obtain ⟨⟨a, rfl⟩, q1⟩ := q1
  obtain ⟨t, rfl⟩ := _root_.id r1
  refine ⟨"str", _, F.plainAttrs_str, F.slot_str_join, F.type_str_join, typeIs_str _ _ _, (fun _ e => nomatch e), Calls.callWith_builtin rfl (Calls.evalArgs_plain (Calls.spliced_cons ?_))⟩
  refine Call_ (ld_blt I1 hg hm PyProof.Rows.boot_reversed (PyProof.Rows.callWith_type1 (args_cons (thn (he.run pins s1 σ H1 _ I1 q1) fun u s2 ⟨v, H2, I2, r2, q2⟩ => args_nil ?_) hs) hs rfl))
  obtain ⟨a', q, ys, ea, ev, hq, hz, q2⟩ := q2
  cases ea
  subst ev
  cases r2
  obtain ⟨its, rv, p', hsz⟩ := I2.list hq
  refine call_reversed_list p'.isList (Calls.spliced_nil ?_)
  have k0 : ∀ b o, s2.heap.get? b = some o → (s2.heap.push (revObj q ((its.toArray.size : Int) - 1))).get? b = some o := fun b o e => Heap.get?_push_of_some _ e
  have I3 : Inv X pins σ H2 { s2 with heap := s2.heap.push (revObj q ((its.toArray.size : Int) - 1)) } := I2.kept (t' := s2.toks) k0
  obtain ⟨f0, f1, f2, f3, f4, f5⟩ := I2.fpOk (H' := H2) (b := s2.heap.objs.size) (Nat.le_refl _) (I2.hok.fresh (Nat.le_refl _))
  have hl := p'.isList
  obtain ⟨ol, hol, _⟩ := _root_.id hl
  have hne : q ≠ s2.heap.objs.size := Nat.ne_of_lt (Heap.lt_size hol)
  have hn : its.toArray.size ≤ sizeLine := by rw [List.size_toArray, ← rv.length]; exact hsz
  have hz' : ((ys.reverse).map (·.length)).sum + ys.reverse.length * a.length ≤ 16777216 := by
    rw [List.map_reverse, List.sum_reverse, List.length_reverse]
    exact hz
  refine join_rev (s := { s2 with heap := s2.heap.push (revObj q ((its.toArray.size : Int) - 1)) }) (I2.ok.hd hc) ⟨_, Heap.get?_push_size _ rfl, rfl, rfl⟩ (hl.push _) hne hn (fun acc hacc => strs_rev rv hacc) hz' fun h' t' k hk => ?_
  exact ⟨.str _, H2, I3.turned (t' := k) (fun b o hb e => hk b o hb e) f0 f1 f3 f4 f5, ⟨t', rfl⟩, q2⟩
end
theorem joinL_nil : ∀ l : List (List Nat), TL.joinL [] l = l.flatten
  | [] => rfl
  | [p] => by
    show p = p ++ []
    rw [List.append_nil]
  | p :: q :: r => by
    show p ++ ([] ++ TL.joinL [] (q :: r)) = p ++ (q :: r).flatten
    rw [List.nil_append, joinL_nil (q :: r)]
theorem join_empty (ys : List (List Nat)) : Txt.join "" (ys.map S) = S ys.flatten := by
  have e : ("" : Str) = S [] := rfl
  rw [e, join_S, joinL_nil]
theorem lens_sum : ∀ ys : List (List Nat), ((ys.map S).map (·.length)).sum = ys.flatten.length
  | [] => rfl
  | y :: ys => by
    rw [List.map_cons, List.map_cons, List.sum_cons, lens_sum ys, S_len, List.flatten_cons, List.length_append]
theorem flat_rev_len : ∀ ys : List (List Nat), ys.reverse.flatten.length = ys.flatten.length
  | [] => rfl
  | y :: ys => by
    rw [List.reverse_cons, List.flatten_append, List.length_append, flat_rev_len ys, List.flatten_cons, List.length_append, List.flatten_cons, List.flatten_nil]
    simp only [List.length_append, List.length_nil]
    omega
theorem intL_len {n : Int} {k : Nat} (hk : 0 < k) (h : n.natAbs < 10 ^ k) : (intL n).length ≤ k + 1 := by
  have := numL_len hk h
  unfold intL
  split
  · rw [List.length_cons]; omega
  · omega
theorem figures_in (c : Nat) : decide (c ∈ ("0123456789" : Str).cps.toList) = isDig c := by
  have e : ("0123456789" : Str).cps.toList = [48, 49, 50, 51, 52, 53, 54, 55, 56, 57] := by decide +kernel
  rw [e]
  unfold isDig
  by_cases h : 48 ≤ c ∧ c ≤ 57
  · rw [decide_eq_true h.1, decide_eq_true h.2]
    refine decide_eq_true ?_
    have : c = 48 ∨ c = 49 ∨ c = 50 ∨ c = 51 ∨ c = 52 ∨ c = 53 ∨ c = 54 ∨ c = 55 ∨ c = 56 ∨ c = 57 := by omega
    simpa using this
  · have z : (decide (48 ≤ c) && decide (c ≤ 57)) = false := by
      rw [Bool.and_eq_false_iff, decide_eq_false_iff_not, decide_eq_false_iff_not]
      omega
    rw [z]
    refine decide_eq_false fun hm => h ?_
    simp only [List.mem_cons, List.not_mem_nil, or_false] at hm
    omega
theorem S_at (u : List Nat) (i : Nat) : (S u).cps[i]? = u[i]? := by simp [S]
theorem S_size (u : List Nat) : (S u).cps.size = u.length := by simp [S]
theorem dig_all {u : List Nat} (h : u.all isDig = true) : NumText.AllDigits u := fun c hc => by
  have z := List.all_eq_true.mp h c hc
  unfold isDig at z
  rw [Bool.and_eq_true, decide_eq_true_eq, decide_eq_true_eq] at z
  exact z
/-- int(text) of what rdI takes -/
theorem intText_rd {t : List Nat} {n : Int} (h : rdI t = some n) : intText? (S t) = some n ∧ (S t).length ≤ 640 := by
  unfold rdI at h
  split at h
  · rename_i c
    obtain ⟨c1, c2, c3, c4⟩ := c
    cases h
    have hd := dig_all c3
    unfold unsign at c1 c2 c3 hd ⊢
    by_cases hm : t.head? = some 45
    · rw [if_pos hm] at c1 c2 c3 hd
      rw [if_pos hm, if_pos hm]
      cases t with
      | nil => cases hm
      | cons x r =>
        have ex : x = 45 := Option.some.inj hm
        subst ex
        have e : (45 :: r).drop 1 = r := rfl
        rw [e] at c1 c2 hd ⊢
        refine ⟨intText_neg (x := S (45 :: r)) (cs := r) rfl hd (fun z => by rw [z] at c1; exact absurd c1 (by decide)) ?_, ?_⟩
        · rw [S_len, List.length_cons]; omega
        · rw [S_len, List.length_cons]; omega
    · rw [if_neg hm] at c1 c2 c3 hd
      rw [if_neg hm, if_neg hm]
      refine ⟨intText_digits (x := S t) hd (fun z => ?_) (by rw [S_len]; omega), by rw [S_len]; omega⟩
      have z' : t = [] := z
      rw [z'] at c1
      exact absurd c1 (by decide)
  · cases h
/-! ### reading a fraction -/
def rdF (t : List Nat) : Option (Int × Int) := match TL.par [47] [] t with
  | none => match rdI t with
    | some a => some (a, 1)
    | none => none
  | some (p, q) => match rdI p with
    | none => none
    | some a => match rdI q with
      | none => none
      | some b => if b < 2 ∨ 1 < Nat.gcd a.natAbs b.natAbs then none else some (a, b)
theorem par_len {c : List Nat} : ∀ {l acc p q : List Nat}, TL.par c acc l = some (p, q) → p.length + q.length ≤ acc.length + l.length
  | [], acc, p, q, h => by cases h
  | x :: r, acc, p, q, h => by
    by_cases hp : TL.pre c (x :: r) = true
    · rw [TL.par_hit hp] at h
      cases h
      rw [List.length_drop]
      omega
    · rw [TL.par_miss (by cases z : TL.pre c (x :: r) with | true => exact absurd z hp | false => rfl)] at h
      have := par_len h
      rw [List.length_append, List.length_singleton] at this
      rw [List.length_cons]
      omega
/-! ### more of texts -/
section
variable {X : Cx}
/-- a text so many times -/
theorem op_mulS : OpR X (binaryOp .Mult) (fun x y H Q => ∃ a n, x = .str a ∧ y = .int n ∧ MulOk a n ∧ Q (.str (Txt.mul a n)) H) := by
  intro pins s σ H x y v u Q I rx ry h
  obtain ⟨a, n, rfl, rfl, hz, q⟩ := h
  obtain ⟨t, rfl⟩ := rx
  obtain ⟨t', rfl⟩ := ry
  exact SB.mul hz fun t' tk => ⟨.str (Txt.mul a n), H, I.tok _, ⟨_, rfl⟩, q⟩
end
/-- each text is one of its signs -/
theorem S_of (x : Str) : x = S x.cps.toList := TL.ext_tl (by simp [S])
theorem len_S (x : Str) : x.cps.toList.length = x.length := by
  rw [Array.length_toList]
  rfl
end Ev

set_option exponentiation.threshold 256
/-! the layer of data, 1: what names hold as data, and how the heap bears it -/
namespace Ev
open PySem PySem.Spec PyProof.Rows L2
/-- the names of the loom's three -/
class Lo where
  far : Str
  st : Str
  tm : Str
/-- what a name holds: nothing that is known, data, a list of its own, the loom -/
inductive SV where
  | un
  | d (x : PyData)
  | own (xs : List PyData)
  | lm
abbrev En := List SV
structure Gh where
  lo : Option (Addr × Addr)
  H0 : Hp
  Z0 : Addr → Prop
section
variable [Lo]
def ldD (F : Addr) (s t : Int) : List (Key × V) := [(Sum.inr Lo.far, .ref F), (Sum.inr Lo.st, .int s), (Sum.inr Lo.tm, .int t)]
def LmD (H : Hp) (L F : Addr) : Prop := ∃ (fs : List Int) (s t : Int), H L = some (.dK (ldD F s t)) ∧ H F = some (.lst (fs.map V.int)) ∧ fs.length ≤ 63
theorem LmD.same {H H' : Hp} {L F : Addr} (h : LmD H L F) (s : Same H H') : LmD H' L F := by
  obtain ⟨fs, a, b, h1, h2, h3⟩ := h
  exact ⟨fs, a, b, s _ _ h1, s _ _ h2, h3⟩
theorem LmD.ex {H : Hp} {L F : Addr} (h : LmD H L F) : H L ≠ none ∧ H F ≠ none := by
  obtain ⟨fs, a, b, h1, h2, h3⟩ := h
  refine ⟨fun z => ?_, fun z => ?_⟩
  · rw [h1] at z
    cases z
  · rw [h2] at z
    cases z
/-- how a heap may come of another one: the loom's two may change, the rest stays -/
def Gr (lo : Option (Addr × Addr)) (H H' : Hp) : Prop :=
  match lo with
  | none => Same H H'
  | some (L, F) => Kp L F H H' ∧ (LmD H L F → LmD H' L F)
theorem Gr.of_same {lo : Option (Addr × Addr)} {H H' : Hp} (s : Same H H') : Gr lo H H' := by
  cases lo with
  | none => exact s
  | some p => exact ⟨kp_same s, fun h => h.same s⟩
theorem Gr.refl {lo : Option (Addr × Addr)} (H : Hp) : Gr lo H H := .of_same (Same.refl H)
theorem Gr.trans {lo : Option (Addr × Addr)} {H H1 H2 : Hp} (a : Gr lo H H1) (b : Gr lo H1 H2) : Gr lo H H2 := by
  cases lo with
  | none => exact Same.trans a b
  | some p => exact ⟨a.1.trans b.1, fun h => b.2 (a.2 h)⟩
theorem Gr.keep {lo : Option (Addr × Addr)} {H H' : Hp} (a : Gr lo H H') {p : Addr} {o : HO} (n : ∀ L F, lo = some (L, F) → p ≠ L ∧ p ≠ F) (e : H p = some o) : H' p = some o := by
  cases lo with
  | none => exact a _ _ e
  | some q => exact a.1 _ _ (n _ _ rfl).1 (n _ _ rfl).2 e
def Zof (g : Gh) (O : List Addr) : Addr → Prop := fun a => (g.Z0 a ∨ g.H0 a = none) ∧ a ∉ O
def LoomOk (g : Gh) (O : List Addr) (H : Hp) : Prop := ∀ L F, g.lo = some (L, F) → LmD H L F ∧ ¬ Zof g O L ∧ ¬ Zof g O F
variable {K : PySem.W.Frag}
theorem sqT_ne {H : Hp} {L F a : Addr} {xs : List V} (hM : LmD H L F) (h : Rd H a (.tup xs)) : a ≠ L ∧ a ≠ F := by
  obtain ⟨fs, s, t, h1, h2, h3⟩ := hM
  rcases h with h | ⟨o, h⟩
  · exact ⟨ne_of h h1 (by intro z; cases z), ne_of h h2 (by intro z; cases z)⟩
  · exact ⟨ne_of h h1 (by intro z; cases z), ne_of h h2 (by intro z; cases z)⟩
theorem Gr.sqT {g : Gh} {O : List Addr} {H H' : Hp} (r : Gr g.lo H H') (lk : LoomOk g O H) {a : Addr} {xs : List V} (h : SqT K H a xs) : SqT K H' a xs := by
  rcases h with h | h
  · have n : ∀ L F, g.lo = some (L, F) → a ≠ L ∧ a ≠ F := fun L F e => sqT_ne (lk L F e).1 h
    rcases h with h | ⟨o, h⟩
    · exact .inl (.inl (r.keep n h))
    · exact .inl (.inr ⟨o, r.keep n h⟩)
  · exact .inr h
theorem dx_gr {g : Gh} {O : List Addr} {H H' : Hp} (r : Gr g.lo H H') (lk : LoomOk g O H) {v : V} {d : PyData} (h : Dx K (Zof g O) H v d) : Dx K (Zof g O) H' v d :=
  dx_keep (fun _ _ e => r.sqT lk e) (fun a o z e => r.keep (fun L F q => ⟨fun w => (lk L F q).2.1 (w ▸ z), fun w => (lk L F q).2.2 (w ▸ z)⟩) e) h
theorem dxAll_gr {g : Gh} {O : List Addr} {H H' : Hp} (r : Gr g.lo H H') (lk : LoomOk g O H) {v : List V} {d : List PyData} (h : DxAll K (Zof g O) H v d) : DxAll K (Zof g O) H' v d :=
  dxAll_keep (fun _ _ e => r.sqT lk e) (fun a o z e => r.keep (fun L F q => ⟨fun w => (lk L F q).2.1 (w ▸ z), fun w => (lk L F q).2.2 (w ▸ z)⟩) e) h
def SlotOk (K : PySem.W.Frag) (g : Gh) (O : List Addr) (H : Hp) : SV → Option V → Prop
  | .un, _ => True
  | .d x, v => ∃ w, v = some w ∧ Dx K (Zof g O) H w x
  | .own xs, v => ∃ p vs, v = some (.ref p) ∧ p ∈ O ∧ g.H0 p = none ∧ H p = some (.lst vs) ∧ DxAll K (Zof g O) H vs xs ∧ ∀ L F, g.lo = some (L, F) → p ≠ L ∧ p ≠ F
  | .lm, v => ∃ L F, g.lo = some (L, F) ∧ v = some (.ref L)
def atv (σ : L2.St) (i : Nat) : Option V := (σ[i]?).join
theorem atv_some {σ : L2.St} {i : Nat} {v : V} (h : atv σ i = some v) : σ[i]? = some (some v) := by
  unfold atv at h
  cases e : σ[i]? with
  | none => rw [e] at h; cases h
  | some w => rw [e] at h; rw [← h]; rfl
theorem atv_set {σ : L2.St} {i j : Nat} {v : V} (h : i < σ.length) : atv (σ.set i (some v)) j = if i = j then some v else atv σ j := by
  unfold atv
  rw [List.getElem?_set]
  by_cases e : i = j
  · subst e
    simp [h]
  · simp [e]
structure Rep (K : PySem.W.Frag) (g : Gh) (O : List Addr) (ρ : En) (σ : L2.St) (H : Hp) : Prop where
  len : ρ.length = σ.length
  at_ : ∀ (i : Nat) (s : SV), ρ[i]? = some s → SlotOk K g O H s (atv σ i)
  uniq : ∀ (i j : Nat) (xs ys : List PyData) (p : Addr), ρ[i]? = some (.own xs) → ρ[j]? = some (.own ys) → atv σ i = some (.ref p) → atv σ j = some (.ref p) → i = j
  live : ∀ p ∈ O, H p ≠ none
  base : Gr g.lo g.H0 H
  loom : LoomOk g O H
/-- what was data stays data -/
def Kps (K : PySem.W.Frag) (g : Gh) (O : List Addr) (H : Hp) (O' : List Addr) (H' : Hp) : Prop := ∀ v d, Dx K (Zof g O) H v d → Dx K (Zof g O') H' v d
theorem Kps.refl {g : Gh} {O : List Addr} {H : Hp} : Kps K g O H O H := fun _ _ h => h
theorem Kps.trans {g : Gh} {O O1 O2 : List Addr} {H H1 H2 : Hp} (a : Kps K g O H O1 H1) (b : Kps K g O1 H1 O2 H2) : Kps K g O H O2 H2 := fun v d h => b v d (a v d h)
theorem Kps.all {g : Gh} {O O1 : List Addr} {H H1 : Hp} (a : Kps K g O H O1 H1) : ∀ {vs : List V} {ds : List PyData}, DxAll K (Zof g O) H vs ds → DxAll K (Zof g O1) H1 vs ds
  | _, _, .nil => .nil
  | _, _, .cons h r => .cons (a _ _ h) (Kps.all a r)
variable {g : Gh} {O : List Addr} {ρ : En} {σ : L2.St} {H H' : Hp}
theorem Rep.zone (R : Rep K g O ρ σ H) {a : Addr} (h : Zof g O a ∨ H a = none) : Zof g O a := by
  rcases h with h | h
  · exact h
  · refine ⟨.inr ?_, fun m => R.live a m h⟩
    cases e : g.H0 a with
    | none => rfl
    | some o =>
      have := R.base.keep (p := a) (fun L F q => ?_) e
      · rw [h] at this
        cases this
      · obtain ⟨x, y⟩ := (R.loom L F q).1.ex
        exact ⟨fun z => x (z ▸ h), fun z => y (z ▸ h)⟩
theorem Rep.grow (R : Rep K g O ρ σ H) (r : Gr g.lo H H') : Rep K g O ρ σ H' := by
  have lk : LoomOk g O H' := fun L F e => by
    obtain ⟨a, b⟩ := R.loom L F e
    refine ⟨?_, b⟩
    have r' := r
    rw [e] at r'
    exact r'.2 a
  refine ⟨R.len, fun i s e => ?_, R.uniq, fun p hp => ?_, R.base.trans r, lk⟩
  · have q := R.at_ i s e
    cases s with
    | un => exact trivial
    | d x =>
      obtain ⟨w, h1, h2⟩ := q
      exact ⟨w, h1, dx_gr r R.loom h2⟩
    | own xs =>
      obtain ⟨p, vs, h1, h2, h3, h4, h5, h6⟩ := q
      exact ⟨p, vs, h1, h2, h3, r.keep h6 h4, dxAll_gr r R.loom h5, h6⟩
    | lm => exact q
  · intro z
    cases e : H p with
    | none => exact R.live p hp e
    | some o =>
      by_cases hl : ∀ L F, g.lo = some (L, F) → p ≠ L ∧ p ≠ F
      · rw [r.keep hl e] at z
        cases z
      · refine hl fun L F q => ?_
        obtain ⟨x, y⟩ := (lk L F q).1.ex
        exact ⟨fun w => x (w ▸ z), fun w => y (w ▸ z)⟩
theorem Rep.kps (R : Rep K g O ρ σ H) (r : Gr g.lo H H') : Kps K g O H O H' := fun _ _ h => dx_gr r R.loom h
theorem Rep.res (R : Rep K g O ρ σ H) (r : Gr g.lo H H') {v : V} {d : PyData} (h : Dx K (fun a => Zof g O a ∨ H a = none) H' v d) : Rep K g O ρ σ H' ∧ Kps K g O H O H' ∧ Dx K (Zof g O) H' v d :=
  ⟨R.grow r, R.kps r, dx_monoL (fun _ z => R.zone z) h⟩
theorem Rep.var (R : Rep K g O ρ σ H) {i : Nat} {d : PyData} (e : ρ[i]? = some (.d d)) : ∃ v, σ[i]? = some (some v) ∧ Dx K (Zof g O) H v d := by
  obtain ⟨w, h1, h2⟩ := R.at_ i _ e
  exact ⟨w, atv_some h1, h2⟩
theorem Rep.set (R : Rep K g O ρ σ H) {i : Nat} {v : V} {d : PyData} (h : Dx K (Zof g O) H v d) : Rep K g O (ρ.set i (.d d)) (σ.set i (some v)) H := by
  by_cases hi : i < σ.length
  · refine ⟨by rw [List.length_set, List.length_set]; exact R.len, fun j s e => ?_, fun j k xs ys p e1 e2 a1 a2 => ?_, R.live, R.base, R.loom⟩
    · rw [List.getElem?_set] at e
      rw [atv_set hi]
      by_cases ij : i = j
      · rw [if_pos ij] at e ⊢
        rw [if_pos (by rw [R.len]; exact hi)] at e
        cases e
        exact ⟨v, rfl, h⟩
      · rw [if_neg ij] at e ⊢
        exact R.at_ j s e
    · rw [List.getElem?_set] at e1 e2
      rw [atv_set hi] at a1 a2
      by_cases ij : i = j
      · rw [if_pos ij] at e1
        split at e1 <;> cases e1
      · by_cases ik : i = k
        · rw [if_pos ik] at e2
          split at e2 <;> cases e2
        · rw [if_neg ij] at e1 a1
          rw [if_neg ik] at e2 a2
          exact R.uniq j k xs ys p e1 e2 a1 a2
  · rw [List.set_eq_of_length_le (Nat.le_of_not_lt hi), List.set_eq_of_length_le (by rw [R.len]; exact Nat.le_of_not_lt hi)]
    exact R
theorem Rep.setLm (R : Rep K g O ρ σ H) {i : Nat} {L F : Addr} (h : g.lo = some (L, F)) : Rep K g O (ρ.set i .lm) (σ.set i (some (.ref L))) H := by
  by_cases hi : i < σ.length
  · refine ⟨by rw [List.length_set, List.length_set]; exact R.len, fun j s e => ?_, fun j k xs ys p e1 e2 a1 a2 => ?_, R.live, R.base, R.loom⟩
    · rw [List.getElem?_set] at e
      rw [atv_set hi]
      by_cases ij : i = j
      · rw [if_pos ij] at e ⊢
        rw [if_pos (by rw [R.len]; exact hi)] at e
        cases e
        exact ⟨L, F, h, rfl⟩
      · rw [if_neg ij] at e ⊢
        exact R.at_ j s e
    · rw [List.getElem?_set] at e1 e2
      rw [atv_set hi] at a1 a2
      by_cases ij : i = j
      · rw [if_pos ij] at e1
        split at e1 <;> cases e1
      · by_cases ik : i = k
        · rw [if_pos ik] at e2
          split at e2 <;> cases e2
        · rw [if_neg ij] at e1 a1
          rw [if_neg ik] at e2 a2
          exact R.uniq j k xs ys p e1 e2 a1 a2
  · rw [List.set_eq_of_length_le (Nat.le_of_not_lt hi), List.set_eq_of_length_le (by rw [R.len]; exact Nat.le_of_not_lt hi)]
    exact R
/-- what is known of a new list -/
structure New (g : Gh) (ρ : En) (σ : L2.St) (p : Addr) : Prop where
  h0 : g.H0 p = none
  sl : ∀ (j : Nat) (ys : List PyData), ρ[j]? = some (.own ys) → atv σ j ≠ some (.ref p)
  nl : ∀ L F, g.lo = some (L, F) → p ≠ L ∧ p ≠ F
theorem Rep.setOwn {p : Addr} {vs : List V} {xs : List PyData} (R : Rep K g O ρ σ H) (hm : p ∈ O) (n : New g ρ σ p) {i : Nat} (e : H p = some (.lst vs)) (h : DxAll K (Zof g O) H vs xs) :
    Rep K g O (ρ.set i (.own xs)) (σ.set i (some (.ref p))) H := by
  by_cases hi : i < σ.length
  · refine ⟨by rw [List.length_set, List.length_set]; exact R.len, fun j s e1 => ?_, fun j k xs ys q e1 e2 a1 a2 => ?_, R.live, R.base, R.loom⟩
    · rw [List.getElem?_set] at e1
      rw [atv_set hi]
      by_cases ij : i = j
      · rw [if_pos ij] at e1 ⊢
        rw [if_pos (by rw [R.len]; exact hi)] at e1
        cases e1
        exact ⟨p, vs, rfl, hm, n.h0, e, h, n.nl⟩
      · rw [if_neg ij] at e1 ⊢
        exact R.at_ j s e1
    · rw [List.getElem?_set] at e1 e2
      rw [atv_set hi] at a1 a2
      by_cases ij : i = j
      · by_cases ik : i = k
        · exact ij.symm.trans ik
        · rw [if_pos ij] at a1
          rw [if_neg ik] at e2 a2
          cases a1
          exact absurd a2 (n.sl k ys e2)
      · by_cases ik : i = k
        · rw [if_pos ik] at a2
          rw [if_neg ij] at e1 a1
          cases a2
          exact absurd a1 (n.sl j xs e1)
        · rw [if_neg ij] at e1 a1
          rw [if_neg ik] at e2 a2
          exact R.uniq j k xs ys q e1 e2 a1 a2
  · rw [List.set_eq_of_length_le (Nat.le_of_not_lt hi), List.set_eq_of_length_le (by rw [R.len]; exact Nat.le_of_not_lt hi)]
    exact R
theorem zof_drop {p : Addr} {a : Addr} (h : Zof g (p :: O) a) : Zof g O a := ⟨h.1, fun m => h.2 (List.mem_cons_of_mem _ m)⟩
theorem Rep.drop {p : Addr} (R : Rep K g (p :: O) ρ σ H) (n : New g ρ σ p) : Rep K g O ρ σ H := by
  refine ⟨R.len, fun i s e => ?_, R.uniq, fun q hq => R.live q (List.mem_cons_of_mem _ hq), R.base, fun L F e => ?_⟩
  · have q := R.at_ i s e
    cases s with
    | un => exact trivial
    | d x =>
      obtain ⟨w, h1, h2⟩ := q
      exact ⟨w, h1, dx_monoL (fun _ => zof_drop) h2⟩
    | own xs =>
      obtain ⟨r, vs, h1, h2, h3, h4, h5, h6⟩ := q
      refine ⟨r, vs, h1, ?_, h3, h4, dxAll_monoL (fun _ => zof_drop) h5, h6⟩
      rcases List.mem_cons.mp h2 with z | z
      · subst z
        exact absurd h1 (n.sl i xs e)
      · exact z
    | lm => exact q
  · obtain ⟨a, b, c⟩ := R.loom L F e
    obtain ⟨x, y⟩ := n.nl L F e
    refine ⟨a, fun z => b ⟨z.1, fun m => ?_⟩, fun z => c ⟨z.1, fun m => ?_⟩⟩
    · rcases List.mem_cons.mp m with w | w
      · exact x w.symm
      · exact z.2 w
    · rcases List.mem_cons.mp m with w | w
      · exact y w.symm
      · exact z.2 w
theorem Kps.drop {p : Addr} {O1 : List Addr} (k : Kps K g O H (p :: O1) H') : Kps K g O H O1 H' := fun v d h => dx_monoL (fun _ => zof_drop) (k v d h)
mutual
theorem dx_away {Z : Addr → Prop} {p : Addr} (hp : H p = none) : ∀ {v : V} {d : PyData}, Dx K Z H v d → Dx K (fun a => Z a ∧ a ≠ p) H v d
  | _, _, .non => .non
  | _, _, .bl b => .bl b
  | _, _, .int i => .int i
  | _, _, .str x => .str x
  | _, _, .lst e z h => .lst e ⟨z, ne_of_none e hp⟩ (dxAll_away hp h)
  | _, _, .tup e h => .tup e (dxAll_away hp h)
  | _, _, .dct e z h => .dct e ⟨z, ne_of_none e hp⟩ (dxKv_away hp h)
theorem dxAll_away {Z : Addr → Prop} {p : Addr} (hp : H p = none) : ∀ {v : List V} {d : List PyData}, DxAll K Z H v d → DxAll K (fun a => Z a ∧ a ≠ p) H v d
  | _, _, .nil => .nil
  | _, _, .cons h r => .cons (dx_away hp h) (dxAll_away hp r)
theorem dxKv_away {Z : Addr → Prop} {p : Addr} (hp : H p = none) : ∀ {v : List (Key × V)} {d : List (PyData × PyData)}, DxKv K Z H v d → DxKv K (fun a => Z a ∧ a ≠ p) H v d
  | _, _, .nil => .nil
  | _, _, .cons h r => .cons (dx_away hp h) (dxKv_away hp r)
end
theorem zof_cons {p a : Addr} (h : Zof g O a ∧ a ≠ p) : Zof g (p :: O) a := ⟨h.1.1, fun m => by
  rcases List.mem_cons.mp m with w | w
  · exact h.2 w
  · exact h.1.2 w⟩
/-- a new object comes and is ours -/
theorem Rep.fresh (R : Rep K g O ρ σ H) {p : Addr} (hp : H p = none) (o : HO) : Rep K g (p :: O) ρ σ (upd H p o) ∧ New g ρ σ p ∧ Kps K g O H (p :: O) (upd H p o) := by
  have sm : Same H (upd H p o) := same_new hp
  have R1 := R.grow (Gr.of_same sm)
  have z0 := R.zone (a := p) (.inr hp)
  have nl : ∀ L F, g.lo = some (L, F) → p ≠ L ∧ p ≠ F := fun L F e => by
    obtain ⟨a, b, c⟩ := R.loom L F e
    exact ⟨fun w => b (w ▸ z0), fun w => c (w ▸ z0)⟩
  have h0 : g.H0 p = none := by
    cases e : g.H0 p with
    | none => rfl
    | some u =>
      have := R.base.keep nl e
      rw [hp] at this
      cases this
  have up : ∀ {v d}, Dx K (Zof g O) H v d → Dx K (Zof g (p :: O)) (upd H p o) v d := fun h => dx_same sm (dx_monoL (fun _ => zof_cons) (dx_away hp h))
  have ups : ∀ {vs ds}, DxAll K (Zof g O) H vs ds → DxAll K (Zof g (p :: O)) (upd H p o) vs ds := fun h => dxAll_same sm (dxAll_monoL (fun _ => zof_cons) (dxAll_away hp h))
  refine ⟨⟨R.len, fun i s e => ?_, R.uniq, fun q hq => ?_, R1.base, fun L F e => ?_⟩, ⟨h0, fun j ys e z => ?_, nl⟩, fun v d h => up h⟩
  · have q := R.at_ i s e
    cases s with
    | un => exact trivial
    | d x =>
      obtain ⟨w, h1, h2⟩ := q
      exact ⟨w, h1, up h2⟩
    | own xs =>
      obtain ⟨r, vs, h1, h2, h3, h4, h5, h6⟩ := q
      exact ⟨r, vs, h1, List.mem_cons_of_mem _ h2, h3, sm _ _ h4, ups h5, h6⟩
    | lm => exact q
  · rcases List.mem_cons.mp hq with rfl | hq
    · rw [upd_same]
      exact fun z => nomatch z
    · exact R1.live q hq
  · obtain ⟨a, b, c⟩ := R1.loom L F e
    exact ⟨a, fun z => b (zof_drop z), fun z => c (zof_drop z)⟩
  · obtain ⟨r, vs, h1, h2, h3, h4, h5, h6⟩ := R.at_ j _ e
    rw [z] at h1
    cases h1
    rw [hp] at h4
    cases h4
/-- a list of one's own is changed -/
theorem Rep.write (R : Rep K g O ρ σ H) {i : Nat} {xs ys : List PyData} {p : Addr} {vs ws : List V} (e : ρ[i]? = some (.own xs)) (ea : atv σ i = some (.ref p)) (e1 : H p = some (.lst vs)) (h : DxAll K (Zof g O) H ws ys) :
    Rep K g O (ρ.set i (.own ys)) σ (upd H p (.lst ws)) ∧ Kps K g O H O (upd H p (.lst ws)) := by
  obtain ⟨p', vs', h1, h2, h3, h4, h5, h6⟩ := R.at_ i _ e
  rw [ea] at h1
  cases h1
  have tupK : ∀ a (zs : List V), SqT K H a zs → SqT K (upd H p (.lst ws)) a zs := fun a zs q => by
    rcases q with (q | ⟨o, q⟩) | q
    · exact .inl (.inl (by rw [upd_ne (ne_of q e1 (by intro z; cases z))]; exact q))
    · exact .inl (.inr ⟨o, by rw [upd_ne (ne_of q e1 (by intro z; cases z))]; exact q⟩)
    · exact .inr q
  have zK : ∀ a o, Zof g O a → H a = some o → (upd H p (.lst ws)) a = some o := fun a o z q => by
    rw [upd_ne (fun (w : a = p) => z.2 (by rw [w]; exact h2))]
    exact q
  have up : ∀ {v d}, Dx K (Zof g O) H v d → Dx K (Zof g O) (upd H p (.lst ws)) v d := fun h => dx_keep tupK zK h
  have ups : ∀ {v d}, DxAll K (Zof g O) H v d → DxAll K (Zof g O) (upd H p (.lst ws)) v d := fun h => dxAll_keep tupK zK h
  have hi : i < ρ.length := (List.getElem?_eq_some_iff.mp e).1
  have gr : Gr g.lo g.H0 (upd H p (.lst ws)) := by
    have b := R.base
    revert b h6
    cases g.lo with
    | none =>
      intro h6 b a o q
      rw [upd_ne (ne_of_none q h3)]
      exact b a o q
    | some q =>
      intro h6 b
      refine ⟨fun a o n1 n2 q => ?_, fun hl => ?_⟩
      · rw [upd_ne (ne_of_none q h3)]
        exact b.1 a o n1 n2 q
      · obtain ⟨fs, s, t, l1, l2, l3⟩ := b.2 hl
        exact ⟨fs, s, t, by rw [upd_ne (h6 _ _ rfl).1.symm]; exact l1, by rw [upd_ne (h6 _ _ rfl).2.symm]; exact l2, l3⟩
  refine ⟨⟨by rw [List.length_set]; exact R.len, fun j s ej => ?_, fun j k xs1 ys1 q e2 e3 a1 a2 => ?_, fun q hq => ?_, gr, fun L F el => ?_⟩, fun _ _ => up⟩
  · rw [List.getElem?_set] at ej
    by_cases ij : i = j
    · rw [if_pos ij, if_pos hi] at ej
      cases ej
      subst ij
      exact ⟨p, ws, ea, h2, h3, upd_same, ups h, h6⟩
    · rw [if_neg ij] at ej
      have q := R.at_ j s ej
      cases s with
      | un => exact trivial
      | d x =>
        obtain ⟨w, b1, b2⟩ := q
        exact ⟨w, b1, up b2⟩
      | own zs =>
        obtain ⟨r, us, b1, b2, b3, b4, b5, b6⟩ := q
        have nr : r ≠ p := fun w => ij (R.uniq i j xs zs p e ej ea (w ▸ b1))
        exact ⟨r, us, b1, b2, b3, by rw [upd_ne nr]; exact b4, ups b5, b6⟩
      | lm => exact q
  · rw [List.getElem?_set] at e2 e3
    have f : ∀ k zs, (if i = k then (if i < ρ.length then some (SV.own ys) else none) else ρ[k]?) = some (.own zs) → ∃ zs', ρ[k]? = some (.own zs') := fun k zs q => by
      by_cases ik : i = k
      · subst ik
        exact ⟨xs, e⟩
      · rw [if_neg ik] at q
        exact ⟨zs, q⟩
    obtain ⟨_, q1⟩ := f j _ e2
    obtain ⟨_, q2⟩ := f k _ e3
    exact R.uniq j k _ _ q q1 q2 a1 a2
  · intro z
    by_cases hq2 : q = p
    · subst hq2
      rw [upd_same] at z
      cases z
    · rw [upd_ne hq2] at z
      exact R.live q hq z
  · obtain ⟨a, b, c⟩ := R.loom L F el
    obtain ⟨x, y⟩ := h6 L F el
    obtain ⟨fs, s, t, l1, l2, l3⟩ := a
    exact ⟨⟨fs, s, t, by rw [upd_ne x.symm]; exact l1, by rw [upd_ne y.symm]; exact l2, l3⟩, b, c⟩
/-- a list of one's own is no longer changed: it is data -/
theorem Rep.freeze (R : Rep K g O ρ σ H) {i : Nat} {xs : List PyData} (e : ρ[i]? = some (.own xs)) : ∃ O', Rep K g O' (ρ.set i (.d (.list xs))) σ H ∧ Kps K g O H O' H := by
  obtain ⟨p, vs, h1, h2, h3, h4, h5, h6⟩ := R.at_ i _ e
  have hi : i < ρ.length := (List.getElem?_eq_some_iff.mp e).1
  have zm : ∀ a, Zof g O a → Zof g (O.filter (· ≠ p)) a := fun a z => ⟨z.1, fun m => z.2 (List.mem_filter.mp m).1⟩
  have zp : Zof g (O.filter (· ≠ p)) p := ⟨.inr h3, fun m => by simpa using (List.mem_filter.mp m).2⟩
  refine ⟨O.filter (· ≠ p), ⟨by rw [List.length_set]; exact R.len, fun j s ej => ?_, fun j k xs1 ys1 q e2 e3 a1 a2 => ?_, fun q hq => R.live q (List.mem_filter.mp hq).1, R.base, fun L F el => ?_⟩, fun v d h => dx_monoL zm h⟩
  · rw [List.getElem?_set] at ej
    by_cases ij : i = j
    · rw [if_pos ij, if_pos hi] at ej
      cases ej
      subst ij
      exact ⟨.ref p, h1, .lst h4 zp (dxAll_monoL zm h5)⟩
    · rw [if_neg ij] at ej
      have q := R.at_ j s ej
      cases s with
      | un => exact trivial
      | d x =>
        obtain ⟨w, b1, b2⟩ := q
        exact ⟨w, b1, dx_monoL zm b2⟩
      | own zs =>
        obtain ⟨r, us, b1, b2, b3, b4, b5, b6⟩ := q
        have nr : r ≠ p := fun w => ij (R.uniq i j xs zs p e ej h1 (w ▸ b1))
        exact ⟨r, us, b1, List.mem_filter.mpr ⟨b2, by simpa using nr⟩, b3, b4, dxAll_monoL zm b5, b6⟩
      | lm => exact q
  · rw [List.getElem?_set] at e2 e3
    by_cases ij : i = j
    · rw [if_pos ij] at e2
      split at e2 <;> cases e2
    · by_cases ik : i = k
      · rw [if_pos ik] at e3
        split at e3 <;> cases e3
      · rw [if_neg ij] at e2
        rw [if_neg ik] at e3
        exact R.uniq j k _ _ q e2 e3 a1 a2
  · obtain ⟨a, b, c⟩ := R.loom L F el
    obtain ⟨x, y⟩ := h6 L F el
    exact ⟨a, fun z => b ⟨z.1, fun m => z.2 (List.mem_filter.mpr ⟨m, by simpa using x.symm⟩)⟩, fun z => c ⟨z.1, fun m => z.2 (List.mem_filter.mpr ⟨m, by simpa using y.symm⟩)⟩⟩
end
end Ev

set_option exponentiation.threshold 256
/-! the layer of data, 2: readings of expressions, over data -/
namespace Ev
open PySem PySem.Spec PyProof.Rows L2
/-- of what comes, and what the names hold then -/
abbrev Wp (α : Type) := En → (α → En → Prop) → Prop
def Mono {α : Type} (t : Wp α) : Prop := ∀ (ρ : En) (P Q : α → En → Prop), (∀ a ρ', P a ρ' → Q a ρ') → t ρ P → t ρ Q
/-- how a result is borne -/
abbrev Bear (α β : Type) := Gh → List Addr → List Addr → En → L2.St → Hp → β → α → Prop
section
variable [Lo]
/-- what stays: what is ours, what was data, the lists that are pending -/
structure Kp1 (K : PySem.W.Frag) (g : Gh) (O : List Addr) (ρ : En) (σ : L2.St) (H : Hp) (O' : List Addr) (ρ' : En) (H' : Hp) : Prop where
  sub : ∀ p, p ∈ O → p ∈ O'
  dat : Kps K g O H O' H'
  pnd : ∀ p vs, p ∈ O → Ev.New g ρ σ p → H p = some (.lst vs) → Ev.New g ρ' σ p ∧ H' p = some (.lst vs)
section
variable {K : PySem.W.Frag} {g : Gh} {O O1 O2 : List Addr} {ρ ρ1 ρ2 : En} {σ : L2.St} {H H1 H2 : Hp}
theorem Kp1.refl : Kp1 K g O ρ σ H O ρ H := ⟨fun _ h => h, Kps.refl, fun _ _ _ n e => ⟨n, e⟩⟩
theorem Kp1.trans (a : Kp1 K g O ρ σ H O1 ρ1 H1) (b : Kp1 K g O1 ρ1 σ H1 O2 ρ2 H2) : Kp1 K g O ρ σ H O2 ρ2 H2 :=
  ⟨fun p h => b.sub p (a.sub p h), a.dat.trans b.dat, fun p vs m n e => by
    obtain ⟨n1, e1⟩ := a.pnd p vs m n e
    exact b.pnd p vs (a.sub p m) n1 e1⟩
theorem Rep.kp1 (R : Rep K g O ρ σ H) (s : Same H H1) : Kp1 K g O ρ σ H O ρ H1 := ⟨fun _ h => h, R.kps (Gr.of_same s), fun _ _ _ n e => ⟨n, s _ _ e⟩⟩
theorem Rep.kp1g (R : Rep K g O ρ σ H) (s : Gr g.lo H H1) : Kp1 K g O ρ σ H O ρ H1 := ⟨fun _ h => h, R.kps s, fun _ _ _ n e => ⟨n, s.keep n.nl e⟩⟩
theorem Rep.fresh1 (R : Rep K g O ρ σ H) {p : Addr} (hp : H p = none) (o : HO) : Rep K g (p :: O) ρ σ (upd H p o) ∧ Ev.New g ρ σ p ∧ Kp1 K g O ρ σ H (p :: O) ρ (upd H p o) := by
  obtain ⟨a, b, c⟩ := R.fresh hp o
  exact ⟨a, b, fun _ h => List.mem_cons_of_mem _ h, c, fun q vs _ n e => ⟨n, same_new hp _ _ e⟩⟩
theorem Kp1.drop {p : Addr} (k : Kp1 K g O ρ σ H (p :: O1) ρ1 H1) (n : p ∉ O) : Kp1 K g O ρ σ H O1 ρ1 H1 :=
  ⟨fun q h => (List.mem_cons.mp (k.sub q h)).elim (fun e => absurd (e ▸ h) n) id, k.dat.drop, k.pnd⟩
end
def lift {α β : Type} (K : PySem.W.Frag) (P : Bear α β) (t : Wp α) : L2.St → Hp → (β → Hp → Prop) → Prop := fun σ H Q =>
  ∃ g O ρ, Rep K g O ρ σ H ∧ t ρ fun a ρ' => ∀ O' H' b, Rep K g O' ρ' σ H' → Kp1 K g O ρ σ H O' ρ' H' → P g O O' ρ' σ H' b a → Q b H'
theorem lift_go {α β : Type} {K : PySem.W.Frag} {P : Bear α β} {t : Wp α} {σ : L2.St} {H : Hp} {Q : β → Hp → Prop} {g : Gh} {O : List Addr} {ρ : En} {G : α → En → Prop} (m : Mono t) (R : Rep K g O ρ σ H) (q : t ρ G)
    (k : ∀ a ρ1 O1 H1 b, Rep K g O1 ρ1 σ H1 → Kp1 K g O ρ σ H O1 ρ1 H1 → P g O O1 ρ1 σ H1 b a → G a ρ1 → Q b H1) : lift K P t σ H Q :=
  ⟨g, O, ρ, R, m ρ _ _ (fun a ρ' p O' H' b R' kk hp => k a ρ' O' H' b R' kk hp p) q⟩
/-- the top of a list may be one's own -/
def DxS (K : PySem.W.Frag) (Z : Addr → Prop) (H : Hp) (v : V) : PyData → Prop
  | .list xs => ∃ a vs, v = .ref a ∧ H a = some (.lst vs) ∧ DxAll K Z H vs xs
  | d => Dx K Z H v d
theorem dx_s {K : PySem.W.Frag} {Z : Addr → Prop} {H : Hp} {v : V} {d : PyData} (h : Dx K Z H v d) : DxS K Z H v d := by
  cases h with
  | lst e z h => exact ⟨_, _, rfl, e, h⟩
  | non => exact .non
  | bl b => exact .bl b
  | int i => exact .int i
  | str x => exact .str x
  | tup e h => exact .tup e h
  | dct e z h => exact .dct e z h
/-- with some zone it is data -/
theorem dxs_any {K : PySem.W.Frag} {Z : Addr → Prop} {H : Hp} {v : V} {d : PyData} (h : DxS K Z H v d) : Dx K (fun _ => True) H v d := by
  cases d with
  | list xs =>
    obtain ⟨a, vs, rfl, e, h⟩ := h
    exact .lst e trivial (dxAll_monoL (fun _ _ => trivial) h)
  | _ => exact dx_monoL (fun _ _ => trivial) (show Dx K Z H v _ from h)
def PD (K : PySem.W.Frag) : Bear PyData V := fun g _ O _ _ H v d => Dx K (Zof g O) H v d
def PR (K : PySem.W.Frag) : Bear PyData V := fun g _ O _ _ H v d => DxS K (Zof g O) H v d
def PB : Bear Bool Bool := fun _ _ _ _ _ _ b a => b = a
def PL (K : PySem.W.Frag) : Bear (List PyData) (List V) := fun g _ O _ _ H vs ds => DxAll K (Zof g O) H vs ds
/-- a new list -/
def PF (K : PySem.W.Frag) : Bear (List PyData) V := fun g Oi O ρ σ H v xs => ∃ p vs O1, v = .ref p ∧ O = p :: O1 ∧ p ∉ O1 ∧ p ∉ Oi ∧ Ev.New g ρ σ p ∧ H p = some (.lst vs) ∧ DxAll K (Zof g O) H vs xs
def ArgOk (K : PySem.W.Frag) (lo : Option (Addr × Addr)) (Z : Addr → Prop) (H : Hp) : SV → V → Prop
  | .d x, v => Dx K Z H v x
  | .lm, v => ∃ L F, lo = some (L, F) ∧ v = .ref L
  | _, _ => False
inductive ArgsOk (K : PySem.W.Frag) (lo : Option (Addr × Addr)) (Z : Addr → Prop) (H : Hp) : List SV → List V → Prop
  | nil : ArgsOk K lo Z H [] []
  | cons {s : SV} {v : V} {ss : List SV} {vs : List V} (h : ArgOk K lo Z H s v) (r : ArgsOk K lo Z H ss vs) : ArgsOk K lo Z H (s :: ss) (v :: vs)
def PAr (K : PySem.W.Frag) : Bear (List SV) (List V) := fun g _ O _ _ H vs ss => ArgsOk K g.lo (Zof g O) H ss vs
variable {X : Cx}
theorem _root_.L2.PE.weaken {e : Expr} {t t' : TE} (h : PE X e t) (w : ∀ σ H Q, t' σ H Q → t σ H Q) : PE X e t' := ⟨fun pins s σ H Q I q => h.run pins s σ H Q I (w σ H Q q)⟩
theorem _root_.L2.PT.weaken {e : Expr} {t t' : TT} (h : PT X e t) (w : ∀ σ H Q, t' σ H Q → t σ H Q) : PT X e t' := ⟨fun pins s σ H Q I q => h.run pins s σ H Q I (w σ H Q q)⟩
theorem _root_.L2.PW.weaken {e : Expr} {t t' : TT} (h : PW X e t) (w : ∀ σ H Q, t' σ H Q → t σ H Q) : PW X e t' := ⟨fun wh pins s σ H Q I q => h.run wh pins s σ H Q I (w σ H Q q)⟩
theorem _root_.L2.PA.weaken {es : List Expr} {t t' : TA} (h : PA X es t) (w : ∀ σ H Q, t' σ H Q → t σ H Q) : PA X es t' := ⟨fun pos pins s σ H Q I q => h.run pos pins s σ H Q I (w σ H Q q)⟩
/-! ### the judgements -/
structure DE (X : Cx) (e : Expr) (t : Wp PyData) : Prop where
  mono : Mono t
  run : PE X e (lift X.K (PD X.K) t)
structure DR (X : Cx) (e : Expr) (t : Wp PyData) : Prop where
  mono : Mono t
  run : PE X e (lift X.K (PR X.K) t)
structure DF (X : Cx) (e : Expr) (t : Wp (List PyData)) : Prop where
  mono : Mono t
  run : PE X e (lift X.K (PF X.K) t)
structure DT (X : Cx) (e : Expr) (t : Wp Bool) : Prop where
  mono : Mono t
  run : PT X e (lift X.K PB t)
structure DW (X : Cx) (e : Expr) (t : Wp Bool) : Prop where
  mono : Mono t
  run : PW X e (lift X.K PB t)
structure DA (X : Cx) (es : List Expr) (t : Wp (List PyData)) : Prop where
  mono : Mono t
  run : PA X es (lift X.K (PL X.K) t)
structure DG (X : Cx) (es : List Expr) (t : Wp (List SV)) : Prop where
  mono : Mono t
  run : PA X es (lift X.K (PAr X.K) t)
variable {a b c e : Expr} {es : List Expr} {ta tb tc : Wp PyData} {pos : Pos}
theorem DE.r (h : DE X e ta) : DR X e ta := ⟨h.mono, h.run.weaken fun σ H Q ⟨g, O, ρ, R, q⟩ => lift_go h.mono R q fun d ρ1 O1 H1 v R1 k dx p => p O1 H1 v R1 k (dx_s dx)⟩
def dLs (t : Wp (List PyData)) : Wp PyData := fun ρ Q => t ρ fun xs ρ' => Q (.list xs) ρ'
theorem DF.de {t : Wp (List PyData)} (h : DF X e t) : DE X e (dLs t) := by
  refine ⟨fun ρ P Q k q => h.mono ρ _ _ (fun xs ρ' p => k _ _ p) q, h.run.weaken fun σ H Q ⟨g, O, ρ, R, q⟩ => lift_go h.mono R q fun xs ρ1 O1 H1 v R1 k hp p => ?_⟩
  obtain ⟨l, vs, O2, rfl, rfl, nm, ni, n, e, dx⟩ := hp
  exact p O2 H1 _ (R1.drop n) (k.drop ni) (.lst e ⟨.inr n.h0, nm⟩ (dxAll_monoL (fun _ => zof_drop) dx))
/-! ### constants and names -/
def dC (d : PyData) : Wp PyData := fun ρ Q => Q d ρ
theorem de_const {v : V} {d : PyData} (h : PE X e (tC v)) (hd : ∀ Z H, Dx X.K Z H v d) : DE X e (dC d) :=
  ⟨fun ρ P Q k q => k _ _ q, h.weaken fun σ H Q ⟨g, O, ρ, R, q⟩ => q O H v R Kp1.refl (hd _ _)⟩
theorem de_int {i : Int} {j} : DE X (.Constant (.int i) j pos) (dC (.int i)) := de_const pe_int fun _ _ => .int i
theorem de_bl {i : Bool} {j} : DE X (.Constant (.bool i) j pos) (dC (.bool i)) := de_const pe_bl fun _ _ => .bl i
theorem de_non {j} : DE X (.Constant .none j pos) (dC .none) := de_const pe_non fun _ _ => .non
theorem de_str {x : Str} {j} : DE X (.Constant (.str x) j pos) (dC (.str x)) := de_const pe_str fun _ _ => .str x
def dV (i : Nat) : Wp PyData := fun ρ Q => match ρ[i]? with
  | some (.d d) => Q d ρ
  | _ => False
theorem dV_ex {i : Nat} {ρ : En} {Q : PyData → En → Prop} (h : dV i ρ Q) : ∃ d, ρ[i]? = some (.d d) ∧ Q d ρ := by
  unfold dV at h
  split at h
  · exact ⟨_, by assumption, h⟩
  · exact h.elim
theorem dV_of {i : Nat} {ρ : En} {Q : PyData → En → Prop} {d : PyData} (e : ρ[i]? = some (.d d)) (h : Q d ρ) : dV i ρ Q := by
  unfold dV
  rw [e]
  exact h
theorem de_v {i : Nat} (h : PE X e (tVar i)) : DE X e (dV i) := by
  refine ⟨fun ρ P Q k q => ?_, h.weaken fun σ H Q ⟨g, O, ρ, R, q⟩ => ?_⟩
  · obtain ⟨d, e, p⟩ := dV_ex q
    exact dV_of e (k _ _ p)
  · obtain ⟨d, e, p⟩ := dV_ex q
    obtain ⟨v, e1, dx⟩ := R.var e
    exact ⟨v, e1, p O H v R Kp1.refl dx⟩
/-- a list of one's own, looked at -/
def dO (i : Nat) : Wp PyData := fun ρ Q => match ρ[i]? with
  | some (.own xs) => Q (.list xs) ρ
  | _ => False
theorem dO_ex {i : Nat} {ρ : En} {Q : PyData → En → Prop} (h : dO i ρ Q) : ∃ xs, ρ[i]? = some (.own xs) ∧ Q (.list xs) ρ := by
  unfold dO at h
  split at h
  · exact ⟨_, by assumption, h⟩
  · exact h.elim
theorem dO_of {i : Nat} {ρ : En} {Q : PyData → En → Prop} {xs : List PyData} (e : ρ[i]? = some (.own xs)) (h : Q (.list xs) ρ) : dO i ρ Q := by
  unfold dO
  rw [e]
  exact h
theorem Rep.own {K : PySem.W.Frag} {g : Gh} {O : List Addr} {ρ : En} {σ : L2.St} {H : Hp} (R : Rep K g O ρ σ H) {i : Nat} {xs : List PyData} (e : ρ[i]? = some (.own xs)) :
    ∃ p vs, σ[i]? = some (some (.ref p)) ∧ H p = some (.lst vs) ∧ DxAll K (Zof g O) H vs xs := by
  obtain ⟨p, vs, h1, h2, h3, h4, h5, h6⟩ := R.at_ i _ e
  exact ⟨p, vs, atv_some h1, h4, h5⟩
theorem dr_o {i : Nat} (h : PE X e (tVar i)) : DR X e (dO i) := by
  refine ⟨fun ρ P Q k q => ?_, h.weaken fun σ H Q ⟨g, O, ρ, R, q⟩ => ?_⟩
  · obtain ⟨d, e, p⟩ := dO_ex q
    exact dO_of e (k _ _ p)
  · obtain ⟨d, e, p⟩ := dO_ex q
    obtain ⟨l, vs, e1, e2, dx⟩ := R.own e
    exact ⟨.ref l, e1, p O H _ R Kp1.refl ⟨l, vs, rfl, e2, dx⟩⟩
/-! ### operators, over data -/
abbrev OD := PyData → PyData → (PyData → Prop) → Prop
/-- what comes of a value rule: data, in a heap that has grown -/
def Res (K : PySem.W.Frag) (Z : Addr → Prop) (H : Hp) (Q : V → Hp → Prop) (d : PyData) : Prop := ∀ v H', Same H H' → Dx K (fun a => Z a ∨ H a = none) H' v d → Q v H'
structure OpD (X : Cx) (f : Value → Value → Sem Value) (od : OD) : Prop where
  mono : ∀ x y P Q, (∀ r, P r → Q r) → od x y P → od x y Q
  run : OpR X f (fun v u H Q => ∃ Z x y, DxS X.K Z H v x ∧ DxS X.K Z H u y ∧ od x y (Res X.K Z H Q))
theorem res_fin {K : PySem.W.Frag} {g : Gh} {O : List Addr} {ρ : En} {σ : L2.St} {H : Hp} {Q : V → Hp → Prop} {r : PyData} (R : Rep K g O ρ σ H)
    (q : ∀ O' H' v, Rep K g O' ρ σ H' → Kp1 K g O ρ σ H O' ρ H' → Dx K (Zof g O') H' v r → Q v H') : Res K (Zof g O) H Q r := fun v H' sm dx => by
  obtain ⟨a, b, c⟩ := R.res (Gr.of_same sm) dx
  exact q O H' v a (R.kp1 sm) c
def dOp (od : OD) (ta tb : Wp PyData) : Wp PyData := fun ρ Q => ta ρ fun x ρ1 => tb ρ1 fun y ρ2 => od x y fun r => Q r ρ2
theorem mono_op {od : OD} (m : ∀ x y P Q, (∀ r, P r → Q r) → od x y P → od x y Q) (ha : Mono ta) (hb : Mono tb) : Mono (dOp od ta tb) :=
  fun ρ P Q k q => ha ρ _ _ (fun x ρ1 q1 => hb ρ1 _ _ (fun y ρ2 q2 => m x y _ _ (fun r p => k r ρ2 p) q2) q1) q
theorem op_go {f : Value → Value → Sem Value} {od : OD} (ho : OpD X f od) (ha : DE X a ta) (hb : DR X b tb) : ∀ σ H Q, lift X.K (PD X.K) (dOp od ta tb) σ H Q →
    tOp (fun v u H Q => ∃ Z x y, DxS X.K Z H v x ∧ DxS X.K Z H u y ∧ od x y (Res X.K Z H Q)) (lift X.K (PD X.K) ta) (lift X.K (PR X.K) tb) σ H Q := fun σ H Q ⟨g, O, ρ, R, q⟩ =>
  lift_go ha.mono R q fun x ρ1 O1 H1 v R1 k1 dx q1 => lift_go hb.mono R1 q1 fun y ρ2 O2 H2 u R2 k2 dy q2 =>
    ⟨Zof g O2, x, y, dx_s (k2.dat _ _ dx), dy, ho.mono _ _ _ _ (fun r p => res_fin R2 fun O' H' w R' k' dw => p O' H' w R' ((k1.trans k2).trans k') dw) q2⟩
theorem de_op {op : Operator} {od : OD} (ho : OpD X (binaryOp op) od) (ha : DE X a ta) (hb : DR X b tb) : DE X (.BinOp a op b pos) (dOp od ta tb) :=
  ⟨mono_op ho.mono ha.mono hb.mono, (pe_op ho.run ha.run hb.run).weaken (op_go ho ha hb)⟩
/-- the first is a list of one's own -/
def dOpO (od : OD) (i : Nat) (tb : Wp PyData) : Wp PyData := fun ρ Q => match ρ[i]? with
  | some (.own _) => tb ρ fun y ρ2 => match ρ2[i]? with
    | some (.own xs) => od (.list xs) y fun r => Q r ρ2
    | _ => False
  | _ => False
theorem mono_opo {od : OD} {i : Nat} (m : ∀ x y P Q, (∀ r, P r → Q r) → od x y P → od x y Q) (hb : Mono tb) : Mono (dOpO od i tb) := fun ρ P Q k q => by
  unfold dOpO at q ⊢
  split at q
  · refine hb ρ _ _ (fun y ρ2 q2 => ?_) q
    split at q2
    · exact m _ _ _ _ (fun r p => k r ρ2 p) q2
    · exact q2.elim
  · exact q.elim
theorem opo_go {f : Value → Value → Sem Value} {od : OD} {i : Nat} (ho : OpD X f od) (hb : DR X b tb) : ∀ σ H Q, lift X.K (PD X.K) (dOpO od i tb) σ H Q →
    tOp (fun v u H Q => ∃ Z x y, DxS X.K Z H v x ∧ DxS X.K Z H u y ∧ od x y (Res X.K Z H Q)) (tVar i) (lift X.K (PR X.K) tb) σ H Q := fun σ H Q ⟨g, O, ρ, R, q⟩ => by
  unfold dOpO at q
  split at q
  · rename_i e
    obtain ⟨p0, _, h0, _⟩ := R.own e
    refine ⟨.ref p0, h0, lift_go hb.mono R q fun y ρ2 O2 H2 u R2 k2 dy q2 => ?_⟩
    dsimp only at q2
    split at q2
    · rename_i xs e
      obtain ⟨p, vs, h1, h2, h3⟩ := R2.own e
      rw [h0] at h1
      cases h1
      exact ⟨Zof g O2, .list xs, y, ⟨p0, vs, rfl, h2, h3⟩, dy, ho.mono _ _ _ _ (fun r pr => res_fin R2 fun O' H' w R' k' dw => pr O' H' w R' (k2.trans k') dw) q2⟩
    · exact q2.elim
  · exact q.elim
theorem de_opo {op : Operator} {od : OD} {i : Nat} (ho : OpD X (binaryOp op) od) (ha : PE X a (tVar i)) (hb : DR X b tb) : DE X (.BinOp a op b pos) (dOpO od i tb) :=
  ⟨mono_opo ho.mono hb.mono, (pe_op ho.run ha hb.run).weaken (opo_go ho hb)⟩
theorem de_cmp {op : CmpOp} {od : OD} (ho : OpD X (compareOp op) od) (ha : DE X a ta) (hb : DR X b tb) (hm : behindInMarks op b = false) : DE X (.Compare a [op] [b] pos) (dOp od ta tb) :=
  ⟨mono_op ho.mono ha.mono hb.mono, (pe_cmpR ho.run ha.run hb.run hm).weaken (op_go ho ha hb)⟩
theorem de_cmpo {op : CmpOp} {od : OD} {i : Nat} (ho : OpD X (compareOp op) od) (ha : PE X a (tVar i)) (hb : DR X b tb) (hm : behindInMarks op b = false) : DE X (.Compare a [op] [b] pos) (dOpO od i tb) :=
  ⟨mono_opo ho.mono hb.mono, (pe_cmpR ho.run ha hb.run hm).weaken (opo_go ho hb)⟩
/-! ### tests -/
def dB (t : Wp PyData) : Wp Bool := fun ρ Q => t ρ fun d ρ' => match d with
  | .bool b => Q b ρ'
  | _ => False
theorem mono_B {t : Wp PyData} (h : Mono t) : Mono (dB t) := fun ρ P Q k q => h ρ _ _ (fun d ρ' p => by
  cases d with
  | bool b => exact k _ _ p
  | _ => exact p.elim) q
theorem bool_go {t : TE} {ta : Wp PyData} (m : Mono ta) (w : ∀ σ H Q, lift X.K (PD X.K) ta σ H Q → t σ H Q) : ∀ σ H Q, lift X.K PB (dB ta) σ H Q → t σ H fun x H' => ∃ k, x = .bl k ∧ Q k H' := fun σ H Q ⟨g, O, ρ, R, q⟩ =>
  w σ H _ (lift_go m R q fun d ρ1 O1 H1 v R1 k1 dx p => by
    cases d with
    | bool b =>
      have e := dx_bool dx
      subst e
      exact ⟨b, rfl, p O1 H1 b R1 k1 rfl⟩
    | _ => exact p.elim)
theorem dt_val (h : DE X e ta) (he : ∀ whole, isTrue e X.env whole = (do let v ← whole; standAt e.pos; holding [v] (truthy v)) := by intro _; rfl) : DT X e (dB ta) :=
  ⟨mono_B h.mono, (pt_val h.run he).weaken (bool_go h.mono fun _ _ _ q => q)⟩
theorem dt_cmp {op : CmpOp} {od : OD} (ho : OpD X (compareOp op) od) (ha : DE X a ta) (hb : DR X b tb) (hm : behindInMarks op b = false) : DT X (.Compare a [op] [b] pos) (dB (dOp od ta tb)) :=
  ⟨mono_B (mono_op ho.mono ha.mono hb.mono), (pt_cmpR ho.run ha.run hb.run hm).weaken (bool_go (mono_op ho.mono ha.mono hb.mono) (op_go ho ha hb))⟩
theorem dt_cmpo {op : CmpOp} {od : OD} {i : Nat} (ho : OpD X (compareOp op) od) (ha : PE X a (tVar i)) (hb : DR X b tb) (hm : behindInMarks op b = false) : DT X (.Compare a [op] [b] pos) (dB (dOpO od i tb)) :=
  ⟨mono_B (mono_opo ho.mono hb.mono), (pt_cmpR ho.run ha hb.run hm).weaken (bool_go (mono_opo ho.mono hb.mono) (opo_go ho hb))⟩
/-- a < b < c -/
def dCh (od od' : OD) (ta tb tc : Wp PyData) : Wp PyData := fun ρ Q => ta ρ fun x ρ1 => tb ρ1 fun y ρ2 => od x y fun r => match r with
  | .bool b => if b = true then tc ρ2 fun z ρ3 => od' y z fun r' => Q r' ρ3 else Q (.bool false) ρ2
  | _ => False
theorem mono_ch {od od' : OD} (m : ∀ x y P Q, (∀ r, P r → Q r) → od x y P → od x y Q) (m' : ∀ x y P Q, (∀ r, P r → Q r) → od' x y P → od' x y Q) (ha : Mono ta) (hb : Mono tb) (hc : Mono tc) : Mono (dCh od od' ta tb tc) :=
  fun ρ P Q k q => ha ρ _ _ (fun x ρ1 q1 => hb ρ1 _ _ (fun y ρ2 q2 => m x y _ _ (fun r p => by
    match r, p with
    | .bool true, p => exact hc ρ2 _ _ (fun z ρ3 p3 => m' y z _ _ (fun r' p' => k _ _ p') p3) p
    | .bool false, p => exact k _ _ p) q2) q1) q
theorem ch_go {f f' : Value → Value → Sem Value} {od od' : OD} (ho : OpD X f od) (ho' : OpD X f' od') (ha : DE X a ta) (hb : DE X b tb) (hc : DE X c tc) : ∀ σ H Q, lift X.K (PD X.K) (dCh od od' ta tb tc) σ H Q →
    tChain (fun v u H Q => ∃ Z x y, DxS X.K Z H v x ∧ DxS X.K Z H u y ∧ od x y (Res X.K Z H Q)) (fun v u H Q => ∃ Z x y, DxS X.K Z H v x ∧ DxS X.K Z H u y ∧ od' x y (Res X.K Z H Q)) (lift X.K (PD X.K) ta) (lift X.K (PD X.K) tb) (lift X.K (PD X.K) tc) σ H Q := fun σ H Q ⟨g, O, ρ, R, q⟩ =>
  lift_go ha.mono R q fun x ρ1 O1 H1 v R1 k1 dx q1 => lift_go hb.mono R1 q1 fun y ρ2 O2 H2 u R2 k2 dy q2 =>
    ⟨Zof g O2, x, y, dx_s (k2.dat _ _ dx), dx_s dy, ho.mono _ _ _ _ (fun r p => res_fin R2 fun O' H' w R' k' dw => by
      match r, p with
      | .bool true, p =>
        have e := dx_bool dw
        subst e
        refine ⟨true, rfl, ?_⟩
        rw [if_pos rfl]
        exact lift_go hc.mono R' p fun z ρ3 O3 H3 w3 R3 k3 dz q3 => ⟨Zof g O3, y, z, dx_s ((k'.trans k3).dat _ _ dy), dx_s dz, ho'.mono _ _ _ _ (fun r' p' => res_fin R3 fun O4 H4 w4 R4 k4 d4 => p' O4 H4 w4 R4 ((((k1.trans k2).trans k').trans k3).trans k4) d4) q3⟩
      | .bool false, p =>
        have e := dx_bool dw
        subst e
        refine ⟨false, rfl, ?_⟩
        rw [if_neg Bool.false_ne_true]
        exact p O' H' _ R' ((k1.trans k2).trans k') (.bl false)) q2⟩
theorem de_chain {op op' : CmpOp} {od od' : OD} (ho : OpD X (compareOp op) od) (ho' : OpD X (compareOp op') od') (ha : DE X a ta) (hb : DE X b tb) (hc : DE X c tc) (hm : lastMarks [op, op'] [b, c] = false := by with_unfolding_all rfl) :
    DE X (.Compare a [op, op'] [b, c] pos) (dCh od od' ta tb tc) :=
  ⟨mono_ch ho.mono ho'.mono ha.mono hb.mono hc.mono, (pe_chain ho.run ho'.run ha.run hb.run hc.run hm).weaken (ch_go ho ho' ha hb hc)⟩
theorem dt_chain {op op' : CmpOp} {od od' : OD} (ho : OpD X (compareOp op) od) (ho' : OpD X (compareOp op') od') (ha : DE X a ta) (hb : DE X b tb) (hc : DE X c tc) (hm : lastMarks [op, op'] [b, c] = false := by with_unfolding_all rfl) :
    DT X (.Compare a [op, op'] [b, c] pos) (dB (dCh od od' ta tb tc)) :=
  ⟨mono_B (mono_ch ho.mono ho'.mono ha.mono hb.mono hc.mono), (pt_chain ho.run ho'.run ha.run hb.run hc.run hm).weaken (bool_go (mono_ch ho.mono ho'.mono ha.mono hb.mono hc.mono) (ch_go ho ho' ha hb hc))⟩
def dAnd (t u : Wp Bool) : Wp Bool := fun ρ Q => t ρ fun b ρ1 => if b = true then u ρ1 Q else Q false ρ1
def dOr (t u : Wp Bool) : Wp Bool := fun ρ Q => t ρ fun b ρ1 => if b = true then Q true ρ1 else u ρ1 Q
def dNot (t : Wp Bool) : Wp Bool := fun ρ Q => t ρ fun b ρ1 => Q (!b) ρ1
variable {sa sb : Wp Bool} {rest : List Expr}
theorem mono_and (h1 : Mono sa) (h2 : Mono sb) : Mono (dAnd sa sb) := fun ρ P Q k q => h1 ρ _ _ (fun b ρ1 p => by
  cases b with
  | true => exact h2 ρ1 _ _ k p
  | false => exact k _ _ p) q
theorem mono_or (h1 : Mono sa) (h2 : Mono sb) : Mono (dOr sa sb) := fun ρ P Q k q => h1 ρ _ _ (fun b ρ1 p => by
  cases b with
  | false => exact h2 ρ1 _ _ k p
  | true => exact k _ _ p) q
theorem mono_not (h1 : Mono sa) : Mono (dNot sa) := fun ρ P Q k q => h1 ρ _ _ (fun b ρ1 p => k _ _ p) q
theorem DW.pt (h : DW X e sa) : DT X e sa := ⟨h.mono, h.run.pt⟩
theorem dw_and1 (ha : DT X a sa) : DW X (.BoolOp .And [a] pos) sa := ⟨ha.mono, pw_and1 ha.run⟩
theorem dw_or1 (ha : DT X a sa) : DW X (.BoolOp .Or [a] pos) sa := ⟨ha.mono, pw_or1 ha.run⟩
theorem dw_and (ha : DT X a sa) (hb : DW X (.BoolOp .And (b :: rest) pos) sb) : DW X (.BoolOp .And (a :: b :: rest) pos) (dAnd sa sb) :=
  ⟨mono_and ha.mono hb.mono, (pw_and ha.run hb.run).weaken fun σ H Q ⟨g, O, ρ, R, q⟩ => lift_go ha.mono R q fun k ρ1 O1 H1 b R1 k1 e q1 => by
    subst e
    cases b with
    | true =>
      rw [if_pos rfl] at q1 ⊢
      exact lift_go hb.mono R1 q1 fun k' ρ2 O2 H2 b' R2 k2 e q2 => q2 O2 H2 b' R2 (k1.trans k2) e
    | false =>
      rw [if_neg Bool.false_ne_true] at q1 ⊢
      exact q1 O1 H1 _ R1 k1 rfl⟩
theorem dw_or (ha : DT X a sa) (hb : DW X (.BoolOp .Or (b :: rest) pos) sb) : DW X (.BoolOp .Or (a :: b :: rest) pos) (dOr sa sb) :=
  ⟨mono_or ha.mono hb.mono, (pw_or ha.run hb.run).weaken fun σ H Q ⟨g, O, ρ, R, q⟩ => lift_go ha.mono R q fun k ρ1 O1 H1 b R1 k1 e q1 => by
    subst e
    cases b with
    | false =>
      rw [if_neg Bool.false_ne_true] at q1 ⊢
      exact lift_go hb.mono R1 q1 fun k' ρ2 O2 H2 b' R2 k2 e q2 => q2 O2 H2 b' R2 (k1.trans k2) e
    | true =>
      rw [if_pos rfl] at q1 ⊢
      exact q1 O1 H1 _ R1 k1 rfl⟩
theorem dt_not (ha : DT X a sa) : DT X (.UnaryOp .Not a pos) (dNot sa) :=
  ⟨mono_not ha.mono, (pt_not ha.run).weaken fun σ H Q ⟨g, O, ρ, R, q⟩ => lift_go ha.mono R q fun k ρ1 O1 H1 b R1 k1 e q1 => by
    subst e
    exact q1 O1 H1 _ R1 k1 rfl⟩
/-- .. as values -/
def dAndV (ta tb : Wp PyData) : Wp PyData := fun ρ Q => ta ρ fun x ρ1 => match x with
  | .bool b => if b = true then tb ρ1 Q else Q (.bool false) ρ1
  | _ => False
def dOrV (ta tb : Wp PyData) : Wp PyData := fun ρ Q => ta ρ fun x ρ1 => match x with
  | .bool b => if b = true then Q (.bool true) ρ1 else tb ρ1 Q
  | _ => False
def dNotV (ta : Wp PyData) : Wp PyData := fun ρ Q => ta ρ fun x ρ1 => match x with
  | .bool b => Q (.bool (!b)) ρ1
  | _ => False
theorem de_one {op} (h : DE X a ta) : DE X (.BoolOp op [a] pos) ta := ⟨h.mono, pe_one h.run⟩
theorem de_and (ha : DE X a ta) (hb : DE X (.BoolOp .And (b :: rest) pos) tb) : DE X (.BoolOp .And (a :: b :: rest) pos) (dAndV ta tb) := by
  refine ⟨fun ρ P Q k q => ha.mono ρ _ _ (fun x ρ1 p => ?_) q, (pe_and ha.run hb.run).weaken fun σ H Q ⟨g, O, ρ, R, q⟩ => lift_go ha.mono R q fun x ρ1 O1 H1 v R1 k1 dx q1 => ?_⟩
  · match x, p with
    | .bool true, p => exact hb.mono ρ1 _ _ k p
    | .bool false, p => exact k _ _ p
  · match x, q1, dx with
    | .bool true, q1, dx =>
      have e := dx_bool dx
      subst e
      refine ⟨true, rfl, ?_⟩
      rw [if_pos rfl]
      exact lift_go hb.mono R1 q1 fun k' ρ2 O2 H2 b' R2 k2 e q2 => q2 O2 H2 b' R2 (k1.trans k2) e
    | .bool false, q1, dx =>
      have e := dx_bool dx
      subst e
      refine ⟨false, rfl, ?_⟩
      rw [if_neg Bool.false_ne_true]
      exact q1 O1 H1 _ R1 k1 (.bl false)
theorem de_or (ha : DE X a ta) (hb : DE X (.BoolOp .Or (b :: rest) pos) tb) : DE X (.BoolOp .Or (a :: b :: rest) pos) (dOrV ta tb) := by
  refine ⟨fun ρ P Q k q => ha.mono ρ _ _ (fun x ρ1 p => ?_) q, (pe_or ha.run hb.run).weaken fun σ H Q ⟨g, O, ρ, R, q⟩ => lift_go ha.mono R q fun x ρ1 O1 H1 v R1 k1 dx q1 => ?_⟩
  · match x, p with
    | .bool true, p => exact k _ _ p
    | .bool false, p => exact hb.mono ρ1 _ _ k p
  · match x, q1, dx with
    | .bool true, q1, dx =>
      have e := dx_bool dx
      subst e
      refine ⟨true, rfl, ?_⟩
      rw [if_pos rfl]
      exact q1 O1 H1 _ R1 k1 (.bl true)
    | .bool false, q1, dx =>
      have e := dx_bool dx
      subst e
      refine ⟨false, rfl, ?_⟩
      rw [if_neg Bool.false_ne_true]
      exact lift_go hb.mono R1 q1 fun k' ρ2 O2 H2 b' R2 k2 e q2 => q2 O2 H2 b' R2 (k1.trans k2) e
theorem de_not (ha : DE X a ta) : DE X (.UnaryOp .Not a pos) (dNotV ta) := by
  refine ⟨fun ρ P Q k q => ha.mono ρ _ _ (fun x ρ1 p => ?_) q, (pe_not ha.run).weaken fun σ H Q ⟨g, O, ρ, R, q⟩ => lift_go ha.mono R q fun x ρ1 O1 H1 v R1 k1 dx q1 => ?_⟩
  · match x, p with
    | .bool b, p => exact k _ _ p
  · match x, q1, dx with
    | .bool b, q1, dx =>
      have e := dx_bool dx
      subst e
      exact ⟨b, rfl, q1 O1 H1 _ R1 k1 (.bl _)⟩
def dIf (t : Wp Bool) (ta tb : Wp PyData) : Wp PyData := fun ρ Q => t ρ fun b ρ1 => if b = true then ta ρ1 Q else tb ρ1 Q
theorem de_if (hc : DT X c sa) (ha : DE X a ta) (hb : DE X b tb) : DE X (.IfExp c a b pos) (dIf sa ta tb) := by
  refine ⟨fun ρ P Q k q => hc.mono ρ _ _ (fun x ρ1 p => ?_) q, (pe_ifExp hc.run ha.run hb.run).weaken fun σ H Q ⟨g, O, ρ, R, q⟩ => lift_go hc.mono R q fun x ρ1 O1 H1 v R1 k1 e q1 => ?_⟩
  · cases x with
    | true => exact ha.mono ρ1 _ _ k p
    | false => exact hb.mono ρ1 _ _ k p
  · subst e
    cases v with
    | true =>
      rw [if_pos rfl] at q1 ⊢
      exact lift_go ha.mono R1 q1 fun k' ρ2 O2 H2 b' R2 k2 e q2 => q2 O2 H2 b' R2 (k1.trans k2) e
    | false =>
      rw [if_neg Bool.false_ne_true] at q1 ⊢
      exact lift_go hb.mono R1 q1 fun k' ρ2 O2 H2 b' R2 k2 e q2 => q2 O2 H2 b' R2 (k1.trans k2) e
/-! ### argument lists, displays -/
def dNil : Wp (List PyData) := fun ρ Q => Q [] ρ
def dCons (ta : Wp PyData) (t : Wp (List PyData)) : Wp (List PyData) := fun ρ Q => ta ρ fun x ρ1 => t ρ1 fun xs ρ2 => Q (x :: xs) ρ2
variable {tl : Wp (List PyData)} {ts : Wp (List SV)}
theorem da_nil : DA X [] dNil := ⟨fun ρ P Q k q => k _ _ q, pa_nil.weaken fun σ H Q ⟨g, O, ρ, R, q⟩ => q O H [] R Kp1.refl .nil⟩
theorem da_cons (ha : DE X e ta) (hr : DA X es tl) (hs : starEach (e :: es) X.env = (false, eval e X.env) :: starEach es X.env := by rfl) : DA X (e :: es) (dCons ta tl) :=
  ⟨fun ρ P Q k q => ha.mono ρ _ _ (fun x ρ1 p => hr.mono ρ1 _ _ (fun xs ρ2 p2 => k _ _ p2) p) q, (pa_cons ha.run hr.run hs).weaken fun σ H Q ⟨g, O, ρ, R, q⟩ => lift_go ha.mono R q fun x ρ1 O1 H1 v R1 k1 dx q1 =>
    lift_go hr.mono R1 q1 fun xs ρ2 O2 H2 vs R2 k2 dxs q2 => q2 O2 H2 (v :: vs) R2 (k1.trans k2) (.cons (k2.dat _ _ dx) dxs)⟩
def gNilD : Wp (List SV) := fun ρ Q => Q [] ρ
def gConsD (ta : Wp PyData) (t : Wp (List SV)) : Wp (List SV) := fun ρ Q => ta ρ fun x ρ1 => t ρ1 fun xs ρ2 => Q (.d x :: xs) ρ2
def gLm (i : Nat) (t : Wp (List SV)) : Wp (List SV) := fun ρ Q => match ρ[i]? with
  | some .lm => t ρ fun xs ρ2 => Q (.lm :: xs) ρ2
  | _ => False
theorem ArgsOk.kps {K : PySem.W.Frag} {g : Gh} {O O1 : List Addr} {H H1 : Hp} (k : Kps K g O H O1 H1) : ∀ {ss : List SV} {vs : List V}, ArgsOk K g.lo (Zof g O) H ss vs → ArgsOk K g.lo (Zof g O1) H1 ss vs
  | _, _, .nil => .nil
  | _, _, .cons (s := s) h r => .cons (by
      cases s with
      | d x => exact k _ _ h
      | lm => exact h
      | un => exact h
      | own xs => exact h) (ArgsOk.kps k r)
theorem dg_nil : DG X [] gNilD := ⟨fun ρ P Q k q => k _ _ q, pa_nil.weaken fun σ H Q ⟨g, O, ρ, R, q⟩ => q O H [] R Kp1.refl .nil⟩
theorem dg_cons (ha : DE X e ta) (hr : DG X es ts) (hs : starEach (e :: es) X.env = (false, eval e X.env) :: starEach es X.env := by rfl) : DG X (e :: es) (gConsD ta ts) :=
  ⟨fun ρ P Q k q => ha.mono ρ _ _ (fun x ρ1 p => hr.mono ρ1 _ _ (fun xs ρ2 p2 => k _ _ p2) p) q, (pa_cons ha.run hr.run hs).weaken fun σ H Q ⟨g, O, ρ, R, q⟩ => lift_go ha.mono R q fun x ρ1 O1 H1 v R1 k1 dx q1 =>
    lift_go hr.mono R1 q1 fun xs ρ2 O2 H2 vs R2 k2 dxs q2 => q2 O2 H2 (v :: vs) R2 (k1.trans k2) (.cons (k2.dat _ _ dx) dxs)⟩
theorem dg_lm {i : Nat} (ha : PE X e (tVar i)) (hr : DG X es ts) (hs : starEach (e :: es) X.env = (false, eval e X.env) :: starEach es X.env := by rfl) : DG X (e :: es) (gLm i ts) := by
  refine ⟨fun ρ P Q k q => ?_, (pa_cons ha hr.run hs).weaken fun σ H Q ⟨g, O, ρ, R, q⟩ => ?_⟩
  · unfold gLm at q ⊢
    split at q
    · exact hr.mono ρ _ _ (fun xs ρ2 p2 => k _ _ p2) q
    · exact q.elim
  · unfold gLm at q
    split at q
    · rename_i e
      obtain ⟨L, F, hl, hv⟩ := R.at_ i _ e
      exact ⟨.ref L, atv_some hv, lift_go hr.mono R q fun xs ρ2 O2 H2 vs R2 k2 dxs q2 => q2 O2 H2 (.ref L :: vs) R2 k2 (.cons ⟨L, F, hl, rfl⟩ dxs)⟩
    · exact q.elim
def dTup (t : Wp (List PyData)) : Wp PyData := fun ρ Q => t ρ fun xs ρ1 => xs.length ≤ sizeLine ∧ Q (.tuple xs) ρ1
def dLst (t : Wp (List PyData)) : Wp (List PyData) := fun ρ Q => t ρ fun xs ρ1 => xs.length ≤ sizeLine ∧ Q xs ρ1
theorem de_tup {x1} (h : DA X es tl) : DE X (.Tuple es x1 pos) (dTup tl) :=
  ⟨fun ρ P Q k q => h.mono ρ _ _ (fun x ρ1 p => ⟨p.1, k _ _ p.2⟩) q, (pe_tup h.run).weaken fun σ H Q ⟨g, O, ρ, R, q⟩ => lift_go h.mono R q fun xs ρ1 O1 H1 vs R1 k1 dx q1 =>
    ⟨by rw [dxAll_len dx]; exact q1.1, fun p hp => by
      have sm : Same H1 (upd H1 p (.tup vs)) := same_new hp
      exact q1.2 O1 _ _ (R1.grow (Gr.of_same sm)) (k1.trans (R1.kp1 sm)) (.tup (SqT.of upd_same) (dxAll_same sm dx))⟩⟩
theorem df_lst (h : DA X es tl) : DF X (.List es pos) (dLst tl) :=
  ⟨fun ρ P Q k q => h.mono ρ _ _ (fun x ρ1 p => ⟨p.1, k _ _ p.2⟩) q, (pe_lst h.run).weaken fun σ H Q ⟨g, O, ρ, R, q⟩ => lift_go h.mono R q fun xs ρ1 O1 H1 vs R1 k1 dx q1 =>
    ⟨by rw [dxAll_len dx]; exact q1.1, fun p hp => by
      obtain ⟨R2, n, k2⟩ := R1.fresh1 hp (.lst vs)
      exact q1.2 (p :: O1) _ _ R2 (k1.trans k2) ⟨p, vs, O1, rfl, rfl, fun m => R1.live p m hp, fun m => R1.live p (k1.sub p m) hp, n, upd_same, k2.dat.all dx⟩⟩⟩
end
end Ev

set_option exponentiation.threshold 256
/-! the layer of data, 3: operators, subscripts, built-ins, over data -/
namespace Ev
open PySem PySem.Spec PyProof.Rows L2
section
variable [Lo] {X : Cx}
/-! ### operators -/
def addD : OD := fun x y Q => match x, y with
  | .int i, .int j => Q (.int (i + j))
  | .str a, .str b => a.length + b.length ≤ sizeLine ∧ Q (.str (a ++ b))
  | .tuple a, .tuple b => a.length + b.length ≤ sizeLine ∧ Q (.tuple (a ++ b))
  | .list a, .list b => a.length + b.length ≤ sizeLine ∧ Q (.list (a ++ b))
  | _, _ => False
theorem o_add : OpD X (binaryOp .Add) addD := by
  refine ⟨fun x y P Q k q => ?_, fun pins s σ H v u V U Q I rv ru ⟨Z, x, y, dx, dy, q⟩ => ?_⟩
  · unfold addD at q ⊢
    split at q <;> first | exact k _ q | exact ⟨q.1, k _ q.2⟩ | exact q.elim
  · unfold addD at q
    split at q
    · cases dx_int dx
      cases dx_int dy
      exact op_add pins s σ H _ _ V U Q I rv ru ⟨_, _, rfl, rfl, q _ H (Same.refl _) (.int _)⟩
    · cases dx_str dx
      cases dx_str dy
      exact op_add_str pins s σ H _ _ V U Q I rv ru ⟨_, _, rfl, rfl, q.1, q.2 _ H (Same.refl _) (.str _)⟩
    · obtain ⟨a, xs, rfl, h1, h2⟩ := dx_tup dx
      obtain ⟨b, ys, rfl, h3, h4⟩ := dx_tup dy
      exact op_catS pins s σ H _ _ V U Q I rv ru ⟨a, b, xs, ys, rfl, rfl, h1, h3, by rw [dxAll_len h2, dxAll_len h4]; exact q.1,
        fun H' p sm hp => q.2 _ H' sm (.tup hp (dxAll_monoL (fun _ z => .inl z) (dxAll_app (dxAll_same sm h2) (dxAll_same sm h4))))⟩
    · obtain ⟨a, xs, rfl, h1, h2⟩ := dx
      obtain ⟨b, ys, rfl, h3, h4⟩ := dy
      exact op_cat pins s σ H _ _ V U Q I rv ru ⟨a, b, xs, ys, rfl, rfl, h1, h3, by rw [dxAll_len h2, dxAll_len h4]; exact q.1,
        fun p hp => q.2 _ _ (same_new hp) (.lst upd_same (.inr hp) (dxAll_monoL (fun _ z => .inl z) (dxAll_app (dxAll_same (same_new hp) h2) (dxAll_same (same_new hp) h4))))⟩
    · exact q.elim
/-- an operation on ints -/
def intD (C : Int → Int → Prop) (f : Int → Int → PyData) : OD := fun x y Q => match x, y with
  | .int i, .int j => C i j ∧ Q (f i j)
  | _, _ => False
theorem o_int {fn : Value → Value → Sem Value} {C : Int → Int → Prop} {f : Int → Int → Int} (h : OpR X fn (rI C fun i j => .int (f i j))) : OpD X fn (intD C fun i j => .int (f i j)) := by
  refine ⟨fun x y P Q k q => ?_, fun pins s σ H v u V U Q I rv ru ⟨Z, x, y, dx, dy, q⟩ => ?_⟩
  · unfold intD at q ⊢
    split at q <;> first | exact ⟨q.1, k _ q.2⟩ | exact q.elim
  · unfold intD at q
    split at q
    · cases dx_int dx
      cases dx_int dy
      exact h pins s σ H _ _ V U Q I rv ru ⟨_, _, rfl, rfl, q.1, q.2 _ H (Same.refl _) (.int _)⟩
    · exact q.elim
/-- an operation on ints, without a condition -/
def intF (f : Int → Int → PyData) : OD := fun x y Q => match x, y with
  | .int i, .int j => Q (f i j)
  | _, _ => False
theorem o_int0 {fn : Value → Value → Sem Value} {f : Int → Int → Int} (h : OpR X fn (rI0 fun i j => .int (f i j))) : OpD X fn (intF fun i j => .int (f i j)) := by
  refine ⟨fun x y P Q k q => ?_, fun pins s σ H v u V U Q I rv ru ⟨Z, x, y, dx, dy, q⟩ => ?_⟩
  · unfold intF at q ⊢
    split at q <;> first | exact k _ q | exact q.elim
  · unfold intF at q
    split at q
    · cases dx_int dx
      cases dx_int dy
      exact h pins s σ H _ _ V U Q I rv ru ⟨_, _, rfl, rfl, q _ H (Same.refl _) (.int _)⟩
    · exact q.elim
theorem o_cmp0 {fn : Value → Value → Sem Value} {f : Int → Int → Bool} (h : OpR X fn (rI0 fun i j => .bl (f i j))) : OpD X fn (intF fun i j => .bool (f i j)) := by
  refine ⟨fun x y P Q k q => ?_, fun pins s σ H v u V U Q I rv ru ⟨Z, x, y, dx, dy, q⟩ => ?_⟩
  · unfold intF at q ⊢
    split at q <;> first | exact k _ q | exact q.elim
  · unfold intF at q
    split at q
    · cases dx_int dx
      cases dx_int dy
      exact h pins s σ H _ _ V U Q I rv ru ⟨_, _, rfl, rfl, q _ H (Same.refl _) (.bl _)⟩
    · exact q.elim
abbrev subD : OD := intF fun i j => .int (i - j)
theorem o_sub : OpD X (binaryOp .Sub) subD := o_int0 op_sub
/-- below so many bits that all goes -/
def Big (i : Int) : Prop := i.natAbs < 2 ^ 8000
theorem Big.log {i : Int} (h : Big i) : i.natAbs.log2 < 8000 := PySem.Flt.log2_lt_of (by decide) h
abbrev mulD : OD := intD (fun i j => Big i ∧ Big j) fun i j => .int (i * j)
theorem o_mul : OpD X (binaryOp .Mult) mulD := o_int fun pins s σ H x y v u Q I rx ry ⟨i, j, e1, e2, ⟨h1, h2⟩, q⟩ => op_mulW pins s σ H x y v u Q I rx ry ⟨i, j, e1, e2, by
  have a := h1.log
  have b := h2.log
  show _ < 1000000
  omega, q⟩
abbrev divD : OD := intD (fun _ j => j ≠ 0 ∧ Big j) fun i j => .int (i.fdiv j)
theorem o_div : OpD X (binaryOp .FloorDiv) divD := o_int fun pins s σ H x y v u Q I rx ry ⟨i, j, e1, e2, ⟨h1, h2⟩, q⟩ => op_fdivZ pins s σ H x y v u Q I rx ry ⟨i, j, e1, e2, ⟨h1, by
  have b := h2.log
  omega⟩, q⟩
abbrev modD : OD := intD (fun _ j => j ≠ 0) fun i j => .int (i.fmod j)
theorem o_mod : OpD X (binaryOp .Mod) modD := o_int op_modN
abbrev powD : OD := intD (fun i j => 0 ≤ j ∧ j ≤ 1000000 ∧ i.natAbs < 2 ^ 64) fun i j => .int (i ^ j.toNat)
theorem o_pow : OpD X (binaryOp .Pow) powD := o_int op_pow
abbrev ltD : OD := intF fun i j => .bool (decide (i < j))
abbrev leD : OD := intF fun i j => .bool (decide (i ≤ j))
abbrev gtD : OD := intF fun i j => .bool (decide (j < i))
abbrev geD : OD := intF fun i j => .bool (decide (j ≤ i))
theorem o_lt : OpD X (compareOp .Lt) ltD := o_cmp0 op_lt
theorem o_le : OpD X (compareOp .LtE) leD := o_cmp0 op_le
theorem o_gt : OpD X (compareOp .Gt) gtD := o_cmp0 op_gt
theorem o_ge : OpD X (compareOp .GtE) geD := o_cmp0 op_ge
/-- xs * k -/
def repD : OD := fun x y Q => match x, y with
  | .list xs, .int k => k < 2 ^ 30 ∧ -(2 ^ 30) < k ∧ xs.length * k.toNat ≤ sizeLine ∧ Q (.list (List.replicate k.toNat xs).flatten)
  | .tuple xs, .int k => xs ≠ [] ∧ 2 ≤ k ∧ k ≤ 1000 ∧ xs.length ≤ 1000 ∧ Q (.tuple (List.replicate k.toNat xs).flatten)
  | _, _ => False
theorem dxAll_rep {K : PySem.W.Frag} {Z : Addr → Prop} {H : Hp} {vs : List V} {ds : List PyData} (h : DxAll K Z H vs ds) : ∀ n, DxAll K Z H (List.replicate n vs).flatten (List.replicate n ds).flatten
  | 0 => .nil
  | n + 1 => by
    rw [List.replicate_succ, List.replicate_succ, List.flatten_cons, List.flatten_cons]
    exact dxAll_app h (dxAll_rep h n)
theorem o_rep : OpD X (binaryOp .Mult) repD := by
  refine ⟨fun x y P Q k q => ?_, fun pins s σ H v u V U Q I rv ru ⟨Z, x, y, dx, dy, q⟩ => ?_⟩
  · unfold repD at q ⊢
    split at q
    · exact ⟨q.1, q.2.1, q.2.2.1, k _ q.2.2.2⟩
    · exact ⟨q.1, q.2.1, q.2.2.1, q.2.2.2.1, k _ q.2.2.2.2⟩
    · exact q.elim
  · unfold repD at q
    split at q
    · obtain ⟨a, xs, rfl, h1, h2⟩ := dx
      cases dx_int dy
      obtain ⟨q1, q2, q3, q4⟩ := q
      exact op_rep pins s σ H _ _ V U Q I rv ru ⟨a, _, xs, rfl, rfl, h1, by omega, by omega, by rw [dxAll_len h2]; exact q3,
        fun p hp => q4 _ _ (same_new hp) (.lst upd_same (.inr hp) (dxAll_monoL (fun _ z => .inl z) (dxAll_rep (dxAll_same (same_new hp) h2) _)))⟩
    · obtain ⟨a, xs, rfl, h1, h2⟩ := dx_tup dx
      cases dx_int dy
      obtain ⟨q1, q2, q3, q4, q5⟩ := q
      have l := dxAll_len h2
      refine op_repT pins s σ H _ _ V U Q I rv ru ⟨a, _, xs, rfl, rfl, h1, fun z => ?_, q2, q3, by rw [l]; exact q4,
        fun p hp => q5 _ _ (same_new hp) (.tup (SqT.of upd_same) (dxAll_monoL (fun _ z => .inl z) (dxAll_rep (dxAll_same (same_new hp) h2) _)))⟩
      subst z
      cases h2
      exact q1 rfl
    · exact q.elim
/-- data that == tells apart item by item -/
def plainD (d : PyData) : Bool := !d.hasDict && SeqAt.shaped d
def eqD : OD := fun x y Q => match x, y with
  | .int i, .int j => Q (.bool (decide (i = j)))
  | .str a, .str b => Q (.bool (decide (a = b)))
  | x, y => plainD x = true ∧ plainD y = true ∧ Q (.bool (PyData.eqv x y))
def neD : OD := fun x y Q => match x, y with
  | .int i, .int j => Q (.bool (!decide (i = j)))
  | .str a, .str b => Q (.bool (!decide (a = b)))
  | x, y => plainD x = true ∧ plainD y = true ∧ Q (.bool (!PyData.eqv x y))
theorem plain_of {d : PyData} (h : plainD d = true) : d.hasDict = false ∧ SeqAt.shaped d = true := by
  unfold plainD at h
  rw [Bool.and_eq_true, Bool.not_eq_true'] at h
  exact h
theorem dec_vint (i j : Int) : decide (V.int i = V.int j) = decide (i = j) := by
  by_cases h : i = j
  · subst h; simp
  · rw [decide_eq_false h, decide_eq_false (fun z => h (V.int.inj z))]
theorem dec_vstr (i j : Str) : decide (V.str i = V.str j) = decide (i = j) := by
  by_cases h : i = j
  · subst h; simp
  · rw [decide_eq_false h, decide_eq_false (fun z => h (V.str.inj z))]
theorem o_eq (hu : X.A.units + 64 < cLine) : OpD X (compareOp .Eq) eqD := by
  refine ⟨fun x y P Q k q => ?_, fun pins s σ H v u V U Q I rv ru ⟨Z, x, y, dx, dy, q⟩ => ?_⟩
  · unfold eqD at q ⊢
    split at q
    · exact k _ q
    · exact k _ q
    · exact ⟨q.1, q.2.1, k _ q.2.2⟩
  · unfold eqD at q
    split at q
    · cases dx_int dx
      cases dx_int dy
      exact op_eq pins s σ H _ _ V U Q I rv ru ⟨rfl, by rw [dec_vint]; exact q _ H (Same.refl _) (.bl _)⟩
    · cases dx_str dx
      cases dx_str dy
      exact op_eq pins s σ H _ _ V U Q I rv ru ⟨rfl, by rw [dec_vstr]; exact q _ H (Same.refl _) (.bl _)⟩
    · obtain ⟨a1, a2⟩ := plain_of q.1
      obtain ⟨b1, b2⟩ := plain_of q.2.1
      exact op_eqD hu pins s σ H _ _ V U Q I rv ru ⟨x, y, dp_of_dx (dxs_any dx) a1, dp_of_dx (dxs_any dy) b1, a2, b2, q.2.2 _ H (Same.refl _) (.bl _)⟩
theorem o_ne (hu : X.A.units + 64 < cLine) : OpD X (compareOp .NotEq) neD := by
  refine ⟨fun x y P Q k q => ?_, fun pins s σ H v u V U Q I rv ru ⟨Z, x, y, dx, dy, q⟩ => ?_⟩
  · unfold neD at q ⊢
    split at q
    · exact k _ q
    · exact k _ q
    · exact ⟨q.1, q.2.1, k _ q.2.2⟩
  · unfold neD at q
    split at q
    · cases dx_int dx
      cases dx_int dy
      exact op_ne pins s σ H _ _ V U Q I rv ru ⟨rfl, by rw [dec_vint]; exact q _ H (Same.refl _) (.bl _)⟩
    · cases dx_str dx
      cases dx_str dy
      exact op_ne pins s σ H _ _ V U Q I rv ru ⟨rfl, by rw [dec_vstr]; exact q _ H (Same.refl _) (.bl _)⟩
    · obtain ⟨a1, a2⟩ := plain_of q.1
      obtain ⟨b1, b2⟩ := plain_of q.2.1
      exact op_neD hu pins s σ H _ _ V U Q I rv ru ⟨x, y, dp_of_dx (dxs_any dx) a1, dp_of_dx (dxs_any dy) b1, a2, b2, q.2.2 _ H (Same.refl _) (.bl _)⟩
/-- what is flat, as a value -/
def toV : PyData → V
  | .none => .non
  | .bool b => .bl b
  | .int i => .int i
  | .str x => .str x
  | _ => .non
def flatD : PyData → Bool
  | .none => true
  | .bool _ => true
  | .int _ => true
  | .str _ => true
  | _ => false
theorem flat_v {K : PySem.W.Frag} {Z : Addr → Prop} {H : Hp} {v : V} {d : PyData} (h : DxS K Z H v d) (f : flatD d = true) : v = toV d ∧ flatV v = true := by
  cases d with
  | none => cases dx_none h; exact ⟨rfl, rfl⟩
  | bool b => cases dx_bool h; exact ⟨rfl, rfl⟩
  | int i => cases dx_int h; exact ⟨rfl, rfl⟩
  | str x => cases dx_str h; exact ⟨rfl, rfl⟩
  | _ => cases f
theorem flat_all {K : PySem.W.Frag} {Z : Addr → Prop} {H : Hp} : ∀ {vs : List V} {ds : List PyData}, DxAll K Z H vs ds → ds.all flatD = true → vs = ds.map toV ∧ vs.all flatV = true
  | _, _, .nil, _ => ⟨rfl, rfl⟩
  | _, _, .cons h r, f => by
    rw [List.all_cons, Bool.and_eq_true] at f
    obtain ⟨a, b⟩ := flat_v (dx_s h) f.1
    obtain ⟨c, d⟩ := flat_all r f.2
    exact ⟨by rw [List.map_cons, ← a, ← c], by rw [List.all_cons, b, d]; rfl⟩
def inDb (x : PyData) (ys : List PyData) : Bool := inV (toV x) (ys.map toV)
def inD (neg : Bool) : OD := fun x y Q => match y with
  | .list ys => flatD x = true ∧ ys.all flatD = true ∧ Q (.bool (if neg then !inDb x ys else inDb x ys))
  | .tuple ys => flatD x = true ∧ ys.all flatD = true ∧ Q (.bool (if neg then !inDb x ys else inDb x ys))
  | _ => False
theorem o_inx {f : Value → Value → Sem Value} {neg : Bool} (h : OpR X f (rIn X.K neg)) : OpD X f (inD neg) := by
  refine ⟨fun x y P Q k q => ?_, fun pins s σ H v u V U Q I rv ru ⟨Z, x, y, dx, dy, q⟩ => ?_⟩
  · unfold inD at q ⊢
    split at q <;> first | exact ⟨q.1, q.2.1, k _ q.2.2⟩ | exact q.elim
  · unfold inD at q
    split at q
    · obtain ⟨a, xs, rfl, h1, h2⟩ := dy
      obtain ⟨e1, e2⟩ := flat_v dx q.1
      obtain ⟨e3, e4⟩ := flat_all h2 q.2.1
      refine h pins s σ H _ _ V U Q I rv ru ⟨a, xs, rfl, .inl (SqL.of h1), e2, e4, ?_⟩
      have := q.2.2 _ H (Same.refl _) (.bl _)
      unfold inDb at this
      rw [e1, e3]
      exact this
    · obtain ⟨a, xs, rfl, h1, h2⟩ := dx_tup dy
      obtain ⟨e1, e2⟩ := flat_v dx q.1
      obtain ⟨e3, e4⟩ := flat_all h2 q.2.1
      refine h pins s σ H _ _ V U Q I rv ru ⟨a, xs, rfl, .inr h1, e2, e4, ?_⟩
      have := q.2.2 _ H (Same.refl _) (.bl _)
      unfold inDb at this
      rw [e1, e3]
      exact this
    · exact q.elim
theorem o_in : OpD X (compareOp .In) (inD false) := o_inx op_in_seq
theorem o_notIn : OpD X (compareOp .NotIn) (inD true) := o_inx op_notIn_seq
/-- is None -/
def isNone : PyData → Bool
  | .none => true
  | _ => false
def isND (neg : Bool) : OD := fun x y Q => match y with
  | .none => Q (.bool (if neg then !isNone x else isNone x))
  | _ => False
theorem dec_non {K : PySem.W.Frag} {Z : Addr → Prop} {H : Hp} {v : V} {d : PyData} (h : DxS K Z H v d) : decide (v = .non) = isNone d := by
  cases d with
  | none => cases dx_none h; rfl
  | bool b => cases dx_bool h; rfl
  | int i => cases dx_int h; rfl
  | str x => cases dx_str h; rfl
  | list xs =>
    obtain ⟨a, vs, rfl, _⟩ := h
    rfl
  | tuple xs =>
    obtain ⟨a, vs, rfl, _⟩ := dx_tup h
    rfl
  | dict kvs =>
    cases h
    rfl
theorem o_isN : OpD X (compareOp .Is) (isND false) := by
  refine ⟨fun x y P Q k q => ?_, fun pins s σ H v u V U Q I rv ru ⟨Z, x, y, dx, dy, q⟩ => ?_⟩
  · unfold isND at q ⊢
    split at q <;> first | exact k _ q | exact q.elim
  · unfold isND at q
    split at q
    · cases dx_none dy
      refine op_isN pins s σ H _ _ V U Q I rv ru ⟨rfl, ?_⟩
      rw [dec_non dx]
      exact q _ H (Same.refl _) (.bl _)
    · exact q.elim
theorem o_notN : OpD X (compareOp .IsNot) (isND true) := by
  refine ⟨fun x y P Q k q => ?_, fun pins s σ H v u V U Q I rv ru ⟨Z, x, y, dx, dy, q⟩ => ?_⟩
  · unfold isND at q ⊢
    split at q <;> first | exact k _ q | exact q.elim
  · unfold isND at q
    split at q
    · cases dx_none dy
      refine op_notN pins s σ H _ _ V U Q I rv ru ⟨rfl, ?_⟩
      rw [dec_non dx]
      exact q _ H (Same.refl _) (.bl _)
    · exact q.elim
/-! ### subscripts -/
variable {a b e : Expr} {ta tb : Wp PyData} {pos : Pos}
def ixD : OD := fun x y Q => match x, y with
  | .tuple xs, .int i => match atI xs i with | some d => Q d | none => False
  | .list xs, .int i => match atI xs i with | some d => Q d | none => False
  | .str z, .int i => z.length ≤ sizeLine ∧ match atI z.cps.toList i with | some c => Q (.str ⟨#[c]⟩) | none => False
  | _, _ => False
theorem ixD_mono : ∀ x y P Q, (∀ r, P r → Q r) → ixD x y P → ixD x y Q := fun x y P Q k q => by
  unfold ixD at q ⊢
  split at q
  · split at q
    · exact k _ q
    · exact q
  · split at q
    · exact k _ q
    · exact q
  · refine ⟨q.1, ?_⟩
    have q2 := q.2
    split at q2
    · exact k _ q2
    · exact q2
  · exact q
theorem at_dx {K : PySem.W.Frag} {Z : Addr → Prop} {H : Hp} {vs : List V} {ds : List PyData} {i : Int} {d : PyData} (h : DxAll K Z H vs ds) (e : atI ds i = some d) : ∃ v, atI vs i = some v ∧ Dx K Z H v d := by
  unfold atI at e ⊢
  rw [dxAll_len h]
  cases q : ixN ds.length i with
  | none => rw [q] at e; cases e
  | some j =>
    rw [q] at e
    exact dxAll_at h e
theorem ixD_run {Z : Addr → Prop} {H : Hp} {v u : V} {x y : PyData} {Q : VK} (dx : DxS X.K Z H v x) (dy : DxS X.K Z H u y) (q : ixD x y (Res X.K Z H Q)) : rIx X.K v u H Q := by
  unfold ixD at q
  split at q
  · obtain ⟨a, vs, rfl, h1, h2⟩ := dx_tup dx
    cases dx_int dy
    split at q
    · obtain ⟨w, e1, e2⟩ := at_dx h2 (by assumption)
      exact .inr (.inl ⟨a, vs, _, w, rfl, rfl, h1, e1, q w H (Same.refl _) (dx_monoL (fun _ z => .inl z) e2)⟩)
    · exact q.elim
  · obtain ⟨a, vs, rfl, h1, h2⟩ := dx
    cases dx_int dy
    split at q
    · obtain ⟨w, e1, e2⟩ := at_dx h2 (by assumption)
      exact .inl ⟨a, vs, _, w, rfl, rfl, SqL.of h1, e1, q w H (Same.refl _) (dx_monoL (fun _ z => .inl z) e2)⟩
    · exact q.elim
  · cases dx_str dx
    cases dx_int dy
    have q2 := q.2
    split at q2
    · exact .inr (.inr ⟨_, _, _, rfl, rfl, q.1, by assumption, q2 _ H (Same.refl _) (.str _)⟩)
    · exact q2.elim
  · exact q.elim
theorem de_ix (ha : DE X a ta) (hb : DE X b tb) (hs : PlainIx b) : DE X (.Subscript a b pos) (dOp ixD ta tb) :=
  ⟨mono_op ixD_mono ha.mono hb.mono, (pe_ix ix_seq ha.run hb.run hs).weaken fun σ H Q ⟨g, O, ρ, R, q⟩ => lift_go ha.mono R q fun x ρ1 O1 H1 v R1 k1 dx q1 => lift_go hb.mono R1 q1 fun y ρ2 O2 H2 u R2 k2 dy q2 =>
    ixD_run (dx_s (k2.dat _ _ dx)) (dx_s dy) (ixD_mono _ _ _ _ (fun r p => res_fin R2 fun O' H' w R' k' dw => p O' H' w R' ((k1.trans k2).trans k') dw) q2)⟩
theorem de_ixo {i : Nat} (ha : PE X a (tVar i)) (hb : DE X b tb) (hs : PlainIx b) : DE X (.Subscript a b pos) (dOpO ixD i tb) :=
  ⟨mono_opo ixD_mono hb.mono, (pe_ix ix_seq ha hb.run hs).weaken fun σ H Q ⟨g, O, ρ, R, q⟩ => by
    unfold dOpO at q
    split at q
    · rename_i e
      obtain ⟨p0, _, h0, _⟩ := R.own e
      refine ⟨.ref p0, h0, lift_go hb.mono R q fun y ρ2 O2 H2 u R2 k2 dy q2 => ?_⟩
      dsimp only at q2
      split at q2
      · rename_i xs e
        obtain ⟨p, vs, h1, h2, h3⟩ := R2.own e
        rw [h0] at h1
        cases h1
        exact ixD_run (x := .list xs) ⟨p0, vs, rfl, h2, h3⟩ (dx_s dy) (ixD_mono _ _ _ _ (fun r pr => res_fin R2 fun O' H' w R' k' dw => pr O' H' w R' (k2.trans k') dw) q2)
      · exact q2.elim
    · exact q.elim⟩
/-! ### slices -/
def PO1 : Bear (Option Int) (Option Int) := fun _ _ _ _ _ _ b a => b = a
structure DO (X : Cx) (oe : Option Expr) (t : Wp (Option Int)) : Prop where
  mono : Mono t
  run : PO X oe (lift X.K PO1 t)
def dNo : Wp (Option Int) := fun ρ Q => Q none ρ
def dSo (t : Wp PyData) : Wp (Option Int) := fun ρ Q => t ρ fun d ρ' => match d with | .int i => Q (some i) ρ' | _ => False
theorem _root_.L2.PO.weaken {oe : Option Expr} {t t' : TO} (h : PO X oe t) (w : ∀ σ H Q, t' σ H Q → t σ H Q) : PO X oe t' := ⟨fun pins s σ H Q I q => h.run pins s σ H Q I (w σ H Q q)⟩
theorem do_none : DO X none dNo := ⟨fun ρ P Q k q => k _ _ q, po_none.weaken fun σ H Q ⟨g, O, ρ, R, q⟩ => q O H none R Kp1.refl rfl⟩
theorem do_some (h : DE X e ta) : DO X (some e) (dSo ta) := by
  refine ⟨fun ρ P Q k q => h.mono ρ _ _ (fun d ρ' p => ?_) q, (po_some h.run).weaken fun σ H Q ⟨g, O, ρ, R, q⟩ => lift_go h.mono R q fun d ρ1 O1 H1 v R1 k1 dx p => ?_⟩
  · cases d with
    | int i => exact k _ _ p
    | _ => exact p.elim
  · cases d with
    | int i =>
      cases dx_int dx
      exact ⟨i, rfl, p O1 H1 _ R1 k1 rfl⟩
    | _ => exact p.elim
def cutSq (x : PyData) (lo hi : Option Int) (Q : PyData → Prop) : Prop := match x with
  | .tuple xs => Q (.tuple (cutD xs lo hi))
  | .list xs => Q (.list (cutD xs lo hi))
  | .str z => z.length ≤ sizeLine ∧ Q (.str (cutS z lo hi))
  | _ => False
theorem cutSq_mono {x : PyData} {lo hi : Option Int} {P Q : PyData → Prop} (k : ∀ r, P r → Q r) (q : cutSq x lo hi P) : cutSq x lo hi Q := by
  unfold cutSq at q ⊢
  split at q <;> first | exact k _ q | exact ⟨q.1, k _ q.2⟩ | exact q.elim
theorem sl_any : SlR X (fun v lo hi H Q => ∃ Z x, DxS X.K Z H v x ∧ cutSq x lo hi (Res X.K Z H Q)) := by
  intro pins s σ H v V vl vu lo hi sl Q I rv hs pl pu ⟨Z, x, dx, q⟩
  unfold cutSq at q
  split at q
  · obtain ⟨a, vs, rfl, h1, h2⟩ := dx_tup dx
    exact sl_tupS pins s σ H _ V vl vu lo hi sl Q I rv hs pl pu ⟨a, vs, rfl, h1, fun H' p sm hp => q _ H' sm (.tup hp (dxAll_monoL (fun _ z => .inl z) (dxAll_cut (dxAll_same sm h2) lo hi)))⟩
  · obtain ⟨a, vs, rfl, h1, h2⟩ := dx
    exact sl_list pins s σ H _ V vl vu lo hi sl Q I rv hs pl pu ⟨a, vs, rfl, SqL.of h1, fun p hp => q _ _ (same_new hp) (.lst upd_same (.inr hp) (dxAll_monoL (fun _ z => .inl z) (dxAll_cut (dxAll_same (same_new hp) h2) lo hi)))⟩
  · cases dx_str dx
    exact sl_str pins s σ H _ V vl vu lo hi sl Q I rv hs pl pu ⟨_, rfl, q.1, q.2 _ H (Same.refl _) (.str _)⟩
  · exact q.elim
variable {lo hi : Option Expr} {sl sh : Wp (Option Int)} {p2 : Pos}
def dSl (ta : Wp PyData) (sl sh : Wp (Option Int)) : Wp PyData := fun ρ Q => ta ρ fun x ρ1 => sl ρ1 fun l ρ2 => sh ρ2 fun h ρ3 => cutSq x l h fun r => Q r ρ3
theorem de_sl (ha : DE X a ta) (hl : DO X lo sl) (hh : DO X hi sh) : DE X (.Subscript a (.Slice lo hi none p2) pos) (dSl ta sl sh) :=
  ⟨fun ρ P Q k q => ha.mono ρ _ _ (fun x ρ1 p => hl.mono ρ1 _ _ (fun l ρ2 p => hh.mono ρ2 _ _ (fun h ρ3 p => cutSq_mono (fun r p => k _ _ p) p) p) p) q,
    (pe_slice sl_any ha.run hl.run hh.run).weaken fun σ H Q ⟨g, O, ρ, R, q⟩ => lift_go ha.mono R q fun x ρ1 O1 H1 v R1 k1 dx q1 => lift_go hl.mono R1 q1 fun l ρ2 O2 H2 l' R2 k2 el q2 => lift_go hh.mono R2 q2 fun h ρ3 O3 H3 h' R3 k3 eh q3 => by
      cases el
      cases eh
      exact ⟨Zof g O3, x, dx_s ((k2.trans k3).dat _ _ dx), cutSq_mono (fun r p => res_fin R3 fun O' H' w R' k' dw => p O' H' w R' (((k1.trans k2).trans k3).trans k') dw) q3⟩⟩
def dSlO (i : Nat) (sl sh : Wp (Option Int)) : Wp PyData := fun ρ Q => match ρ[i]? with
  | some (.own _) => sl ρ fun l ρ2 => sh ρ2 fun h ρ3 => match ρ3[i]? with
    | some (.own xs) => Q (.list (cutD xs l h)) ρ3
    | _ => False
  | _ => False
theorem de_slo {i : Nat} (ha : PE X a (tVar i)) (hl : DO X lo sl) (hh : DO X hi sh) : DE X (.Subscript a (.Slice lo hi none p2) pos) (dSlO i sl sh) := by
  refine ⟨fun ρ P Q k q => ?_, (pe_slice sl_any ha hl.run hh.run).weaken fun σ H Q ⟨g, O, ρ, R, q⟩ => ?_⟩
  · unfold dSlO at q ⊢
    split at q
    · refine hl.mono ρ _ _ (fun l ρ2 p => hh.mono ρ2 _ _ (fun h ρ3 p => ?_) p) q
      split at p
      · exact k _ _ p
      · exact p.elim
    · exact q.elim
  · unfold dSlO at q
    split at q
    · rename_i e
      obtain ⟨p0, _, h0, _⟩ := R.own e
      refine ⟨.ref p0, h0, lift_go hl.mono R q fun l ρ2 O2 H2 l' R2 k2 el q2 => lift_go hh.mono R2 q2 fun h ρ3 O3 H3 h' R3 k3 eh q3 => ?_⟩
      cases el
      cases eh
      dsimp only at q3
      split at q3
      · rename_i xs e
        obtain ⟨p, vs, h1, h2, h3⟩ := R3.own e
        rw [h0] at h1
        cases h1
        exact ⟨Zof g O3, .list xs, ⟨p0, vs, rfl, h2, h3⟩, (show cutSq (.list xs) l h _ from res_fin R3 fun O' H' w R' k' dw => q3 O' H' w R' ((k2.trans k3).trans k') dw)⟩
      · exact q3.elim
    · exact q.elim
/-! ### built-ins of one argument -/
abbrev UD := PyData → (PyData → Prop) → Prop
structure C1 (X : Cx) (f : Value) (ud : UD) : Prop where
  mono : ∀ x P Q, (∀ r, P r → Q r) → ud x P → ud x Q
  run : CallR X f (fun vs H Q => ∃ Z v x, vs = [v] ∧ DxS X.K Z H v x ∧ ud x (Res X.K Z H Q))
def d1 (ud : UD) (ta : Wp PyData) : Wp PyData := fun ρ Q => ta ρ fun x ρ1 => ud x fun r => Q r ρ1
theorem c1_go {f : Value} {ud : UD} (hc : C1 X f ud) (ha : DR X a ta) : ∀ σ H Q, lift X.K (PD X.K) (d1 ud ta) σ H Q →
    tCB (fun vs H Q => ∃ Z v x, vs = [v] ∧ DxS X.K Z H v x ∧ ud x (Res X.K Z H Q)) (tCons (lift X.K (PR X.K) ta) tNil) σ H Q := fun σ H Q ⟨g, O, ρ, R, q⟩ =>
  lift_go ha.mono R q fun x ρ1 O1 H1 v R1 k1 dx q1 => ⟨Zof g O1, v, x, rfl, dx, hc.mono _ _ _ (fun r p => res_fin R1 fun O' H' w R' k' dw => p O' H' w R' (k1.trans k') dw) q1⟩
theorem mono_d1 {ud : UD} (m : ∀ x P Q, (∀ r, P r → Q r) → ud x P → ud x Q) (h : Mono ta) : Mono (d1 ud ta) := fun ρ P Q k q => h ρ _ _ (fun x ρ1 p => m _ _ _ (fun r p => k _ _ p) p) q
theorem de_c1 {id : String} {x : Str} {p : Pos} {ud : UD} (hc : C1 X (.builtin id) ud) (hg : Gl X x) (hm : X.mg x = none) (hv : bootBuiltins x = some (.builtin id)) (ha : DR X a ta)
    (hs : starEach (a :: []) X.env = (false, eval a X.env) :: starEach [] X.env := by rfl) (hn : x ≠ "__name__" := by decide) (hdb : (x == ("__debug__" : Str)) = false := by decide)
    (hpl : (backTo pos (starEach [] X.env)).any (·.1) = false := by rfl) : DE X (.Call (.Name x p) [a] [] pos) (d1 ud ta) :=
  ⟨mono_d1 hc.mono ha.mono, (pe_callB hc.run hg hm hv (pa_cons ha.run pa_nil hs) hn hdb hs hpl).weaken (c1_go hc ha)⟩
theorem de_cT {id : String} {x : Str} {p : Pos} {ud : UD} (hc : C1 X (.type id) ud) (hg : Gl X x) (hm : X.mg x = none) (hv : bootBuiltins x = some (.type id)) (ha : DR X a ta)
    (hs : starEach (a :: []) X.env = (false, eval a X.env) :: starEach [] X.env := by rfl) (hn : x ≠ "__name__" := by decide) (hdb : (x == ("__debug__" : Str)) = false := by decide)
    (hpl : (backTo pos (starEach [] X.env)).any (·.1) = false := by rfl) : DE X (.Call (.Name x p) [a] [] pos) (d1 ud ta) :=
  ⟨mono_d1 hc.mono ha.mono, (pe_callTy hc.run hg hm hv (pa_cons ha.run pa_nil hs) hn hdb hs hpl).weaken (c1_go hc ha)⟩
def lenD : UD := fun x Q => match x with
  | .tuple xs => Q (.int xs.length)
  | .list xs => Q (.int xs.length)
  | .str z => z.length ≤ sizeLine ∧ Q (.int z.length)
  | _ => False
theorem c_len : C1 X (.builtin "len") lenD := by
  refine ⟨fun x P Q k q => ?_, fun pins s σ H vs us Q I r ⟨Z, v, x, e, dx, q⟩ => ?_⟩
  · unfold lenD at q ⊢
    split at q <;> first | exact k _ q | exact ⟨q.1, k _ q.2⟩ | exact q.elim
  · subst e
    unfold lenD at q
    split at q
    · obtain ⟨a, ws, rfl, h1, h2⟩ := dx_tup dx
      exact call_len_seq pins s σ H _ us Q I r ⟨a, ws, rfl, .inr h1, by rw [dxAll_len h2]; exact q _ H (Same.refl _) (.int _)⟩
    · obtain ⟨a, ws, rfl, h1, h2⟩ := dx
      exact call_len_seq pins s σ H _ us Q I r ⟨a, ws, rfl, .inl (SqL.of h1), by rw [dxAll_len h2]; exact q _ H (Same.refl _) (.int _)⟩
    · cases dx_str dx
      exact call_len_str pins s σ H _ us Q I r ⟨_, rfl, q.1, q.2 _ H (Same.refl _) (.int _)⟩
    · exact q.elim
def absD : UD := fun x Q => match x with
  | .int i => Q (.int i.natAbs)
  | _ => False
theorem c_abs : C1 X (.builtin "abs") absD := by
  refine ⟨fun x P Q k q => ?_, fun pins s σ H vs us Q I r ⟨Z, v, x, e, dx, q⟩ => ?_⟩
  · unfold absD at q ⊢
    split at q <;> first | exact k _ q | exact q.elim
  · subst e
    unfold absD at q
    split at q
    · cases dx_int dx
      exact call_abs pins s σ H _ us Q I r ⟨_, rfl, by rw [absI]; exact q _ H (Same.refl _) (.int _)⟩
    · exact q.elim
def toIntD : UD := fun x Q => match x with
  | .int i => Q (.int i)
  | .bool b => Q (.int (if b then 1 else 0))
  | _ => False
theorem c_int : C1 X (.type "int") toIntD := by
  refine ⟨fun x P Q k q => ?_, fun pins s σ H vs us Q I r ⟨Z, v, x, e, dx, q⟩ => ?_⟩
  · unfold toIntD at q ⊢
    split at q <;> first | exact k _ q | exact q.elim
  · subst e
    unfold toIntD at q
    split at q
    · cases dx_int dx
      exact call_int1 pins s σ H _ us Q I r (.inl ⟨_, rfl, q _ H (Same.refl _) (.int _)⟩)
    · cases dx_bool dx
      exact call_int1 pins s σ H _ us Q I r (.inr ⟨_, rfl, q _ H (Same.refl _) (.int _)⟩)
    · exact q.elim
def toStrD : UD := fun x Q => match x with
  | .int i => i.natAbs.log2 < 1920 ∧ Q (.str (Str.ofString (toString i)))
  | _ => False
theorem c_str : C1 X (.type "str") toStrD := by
  refine ⟨fun x P Q k q => ?_, fun pins s σ H vs us Q I r ⟨Z, v, x, e, dx, q⟩ => ?_⟩
  · unfold toStrD at q ⊢
    split at q <;> first | exact ⟨q.1, k _ q.2⟩ | exact q.elim
  · subst e
    unfold toStrD at q
    split at q
    · cases dx_int dx
      exact call_str_int pins s σ H _ us Q I r ⟨_, rfl, q.1, q.2 _ H (Same.refl _) (.str _)⟩
    · exact q.elim
/-- what repr shows -/
def showD (d : PyData) : Prop := d.showable = true ∧ d.shown.length ≤ sizeLine ∧ d.depth ≤ 60
def reprD : UD := fun x Q => showD x ∧ Q (.str x.shown)
theorem c_repr (hG : X.A.guards = some []) (hu : X.A.units + 64 < cLine) : C1 X (.builtin "repr") reprD := by
  refine ⟨fun x P Q k q => ⟨q.1, k _ q.2⟩, fun pins s σ H vs us Q I r ⟨Z, v, x, e, dx, q⟩ => ?_⟩
  subst e
  exact call_reprX hG hu pins s σ H _ us Q I r ⟨v, x, _, rfl, dxs_any dx, q.1.1, q.1.2.1, q.1.2.2, q.2 _ H (Same.refl _) (.str _)⟩
def tupleD : UD := fun x Q => match x with
  | .tuple xs => Q (.tuple xs)
  | .list xs => Q (.tuple xs)
  | _ => False
theorem c_tuple : C1 X (.type "tuple") tupleD := by
  refine ⟨fun x P Q k q => ?_, fun pins s σ H vs us Q I r ⟨Z, v, x, e, dx, q⟩ => ?_⟩
  · unfold tupleD at q ⊢
    split at q <;> first | exact k _ q | exact q.elim
  · subst e
    unfold tupleD at q
    split at q
    · obtain ⟨a, ws, rfl, h1, h2⟩ := dx_tup dx
      exact call_tuple_of pins s σ H _ us Q I r ⟨a, ws, rfl, .inr ⟨h1, q _ H (Same.refl _) (.tup h1 (dxAll_monoL (fun _ z => .inl z) h2))⟩⟩
    · obtain ⟨a, ws, rfl, h1, h2⟩ := dx
      exact call_tuple_of pins s σ H _ us Q I r ⟨a, ws, rfl, .inl ⟨SqL.of h1, fun l hl => q _ _ (same_new hl) (.tup (SqT.of upd_same) (dxAll_monoL (fun _ z => .inl z) (dxAll_same (same_new hl) h2)))⟩⟩
    · exact q.elim
def asBools : List PyData → Option (List Bool)
  | [] => some []
  | .bool b :: r => (asBools r).map (b :: ·)
  | _ :: _ => none
theorem asBools_map {xs : List PyData} {bs : List Bool} (h : asBools xs = some bs) : xs = bs.map PyData.bool := by
  induction xs generalizing bs with
  | nil => cases h; rfl
  | cons x xs ih =>
    cases x with
    | bool b =>
      simp only [asBools] at h
      cases e : asBools xs with
      | none => rw [e] at h; cases h
      | some cs =>
        rw [e] at h
        cases h
        rw [ih e]
        rfl
    | _ => cases h
theorem dx_bools {K : PySem.W.Frag} {Z : Addr → Prop} {H : Hp} : ∀ {vs : List V} {bs : List Bool}, DxAll K Z H vs (bs.map PyData.bool) → vs = bs.map V.bl
  | _, [], .nil => rfl
  | _, b :: bs, .cons h r => by
    cases dx_bool h
    rw [dx_bools r]
    rfl
def foldB (f : List Bool → Bool) : UD := fun x Q => match x with
  | .list xs => match asBools xs with | some bs => Q (.bool (f bs)) | none => False
  | _ => False
theorem foldB_mono {f : List Bool → Bool} : ∀ x P Q, (∀ r, P r → Q r) → foldB f x P → foldB f x Q := fun x P Q k q => by
  unfold foldB at q ⊢
  split at q
  · split at q
    · exact k _ q
    · exact q
  · exact q
theorem c_all (hc : X.calm = true) : C1 X (.builtin "all") (foldB fun bs => bs.all id) := by
  refine ⟨foldB_mono, fun pins s σ H vs us Q I r ⟨Z, v, x, e, dx, q⟩ => ?_⟩
  subst e
  unfold foldB at q
  split at q
  · obtain ⟨a, ws, rfl, h1, h2⟩ := dx
    split at q
    · rename_i bs eb
      rw [asBools_map eb] at h2
      have := dx_bools h2
      subst this
      exact cr_all hc pins s σ H _ us Q I r ⟨a, bs, rfl, SqL.of h1, q _ H (Same.refl _) (.bl _)⟩
    · exact q.elim
  · exact q.elim
theorem c_any (hc : X.calm = true) : C1 X (.builtin "any") (foldB fun bs => bs.any id) := by
  refine ⟨foldB_mono, fun pins s σ H vs us Q I r ⟨Z, v, x, e, dx, q⟩ => ?_⟩
  subst e
  unfold foldB at q
  split at q
  · obtain ⟨a, ws, rfl, h1, h2⟩ := dx
    split at q
    · rename_i bs eb
      rw [asBools_map eb] at h2
      have := dx_bools h2
      subst this
      exact cr_any hc pins s σ H _ us Q I r ⟨a, bs, rfl, SqL.of h1, q _ H (Same.refl _) (.bl _)⟩
    · exact q.elim
  · exact q.elim
/-- list(..): a new list -/
def dList (ta : Wp PyData) : Wp (List PyData) := fun ρ Q => ta ρ fun x ρ1 => match x with
  | .list xs => Q xs ρ1
  | .tuple xs => Q xs ρ1
  | _ => False
theorem df_list {x : Str} {p : Pos} (hg : Gl X x) (hm : X.mg x = none) (hv : bootBuiltins x = some (.type "list")) (ha : DR X a ta)
    (hs : starEach (a :: []) X.env = (false, eval a X.env) :: starEach [] X.env := by rfl) (hn : x ≠ "__name__" := by decide) (hdb : (x == ("__debug__" : Str)) = false := by decide)
    (hpl : (backTo pos (starEach [] X.env)).any (·.1) = false := by rfl) : DF X (.Call (.Name x p) [a] [] pos) (dList ta) := by
  refine ⟨fun ρ P Q k q => ha.mono ρ _ _ (fun x ρ1 p => ?_) q, (pe_callTy call_list_of hg hm hv (pa_cons ha.run pa_nil hs) hn hdb hs hpl).weaken fun σ H Q ⟨g, O, ρ, R, q⟩ => lift_go ha.mono R q fun x ρ1 O1 H1 v R1 k1 dx q1 => ?_⟩
  · split at p <;> first | exact k _ _ p | exact p.elim
  · have go : ∀ (l : Addr) (ws : List V) (xs : List PyData), H1 l = none → DxAll X.K (Zof g O1) H1 ws xs → (∀ O' H' b, Rep X.K g O' ρ1 σ H' → Kp1 X.K g O ρ σ H O' ρ1 H' → PF X.K g O O' ρ1 σ H' b xs → Q b H') → Q (.ref l) (upd H1 l (.lst ws)) := fun l ws xs hl h2 q => by
      obtain ⟨R2, n, k2⟩ := R1.fresh1 hl (.lst ws)
      exact q (l :: O1) _ _ R2 (k1.trans k2) ⟨l, ws, O1, rfl, rfl, fun m => R1.live l m hl, fun m => R1.live l (k1.sub l m) hl, n, upd_same, k2.dat.all h2⟩
    split at q1
    · obtain ⟨a, ws, rfl, h1, h2⟩ := dx
      exact ⟨a, ws, rfl, .inl (SqL.of h1), fun l hl => go l ws _ hl h2 q1⟩
    · obtain ⟨a, ws, rfl, h1, h2⟩ := dx_tup dx
      exact ⟨a, ws, rfl, .inr h1, fun l hl => go l ws _ hl h2 q1⟩
    · exact q1.elim
/-! ### isinstance -/
def dIsi (k : PyData → Bool) (ta : Wp PyData) : Wp PyData := fun ρ Q => ta ρ fun x ρ1 => Q (.bool (k x)) ρ1
theorem de_isi {T : Str} {tn : String} {x : Str} {p pt : Pos} {k : PyData → Bool} (hk : ∀ d, PySem.W.kitOne X.K (.type (tyN d)) (.type tn) = some (k d)) (hg : Gl X x) (hm : X.mg x = none) (hv : bootBuiltins x = some (.builtin "isinstance"))
    (ha : DE X a ta) (hT : PE X (.Name T pt) (tC (.ty tn)))
    (hs1 : starEach (a :: [.Name T pt]) X.env = (false, eval a X.env) :: starEach [.Name T pt] X.env := by rfl)
    (hs2 : starEach (.Name T pt :: []) X.env = (false, eval (.Name T pt) X.env) :: starEach [] X.env := by rfl) (hn : x ≠ "__name__" := by decide) (hdb : (x == ("__debug__" : Str)) = false := by decide)
    (hpl : (backTo pos (starEach [.Name T pt] X.env)).any (·.1) = false := by rfl) : DE X (.Call (.Name x p) [a, .Name T pt] [] pos) (dIsi k ta) :=
  ⟨fun ρ P Q kk q => ha.mono ρ _ _ (fun x ρ1 p => kk _ _ p) q, (pe_callB call_isi hg hm hv (pa_cons ha.run (pa_cons hT pa_nil hs2) hs1) hn hdb hs1 hpl).weaken fun σ H Q ⟨g, O, ρ, R, q⟩ => lift_go ha.mono R q fun x ρ1 O1 H1 v R1 k1 dx q1 =>
    ⟨_, _, _, _, k x, rfl, .ty tn, dx_ty dx, hk x, q1 O1 H1 _ R1 k1 (.bl _)⟩⟩
end
end Ev

set_option exponentiation.threshold 256
/-! the layer of data, 4: calls of own defs, statements, loops, comprehensions, what a def promises -/
namespace Ev
open PySem PySem.Spec PyProof.Rows L2
/-- what is told of a def: of such arguments some such datum comes -/
abbrev RelD := List SV → (PyData → Prop) → Prop
def Sof (R : RelD) : List SV → (PyData → Prop) → Prop := fun ss Q => ∃ P, R ss P ∧ ∀ d, P d → Q d
section
variable [Lo]
def spD (K : PySem.W.Frag) (R : RelD) : Sp := fun vs H Q _ => ∃ (g : Gh) (ss : List SV), g.H0 = H ∧ ArgsOk K g.lo (Zof g []) H ss vs ∧ LoomOk g [] H ∧
  Sof R ss fun d => ∀ v H', Gr g.lo H H' → Dx K (fun a => g.Z0 a ∨ H a = none) H' v d → Q v H'
theorem argsOk_len {K : PySem.W.Frag} {lo : Option (Addr × Addr)} {Z : Addr → Prop} {H : Hp} : ∀ {ss : List SV} {vs : List V}, ArgsOk K lo Z H ss vs → vs.length = ss.length
  | _, _, .nil => rfl
  | _, _, .cons _ r => congrArg (· + 1) (argsOk_len r)
theorem argsOk_mono {K : PySem.W.Frag} {lo : Option (Addr × Addr)} {Z Z' : Addr → Prop} {H : Hp} (z : ∀ a, Z a → Z' a) : ∀ {ss : List SV} {vs : List V}, ArgsOk K lo Z H ss vs → ArgsOk K lo Z' H ss vs
  | _, _, .nil => .nil
  | _, _, .cons (s := s) h r => .cons (by
      cases s with
      | d x => exact dx_monoL z h
      | lm => exact h
      | un => exact h
      | own xs => exact h) (argsOk_mono z r)
/-! ### the call of a def -/
theorem call_go {K : PySem.W.Frag} {g : Gh} {O : List Addr} {ρ : En} {σ : L2.St} {H : Hp} {R : RelD} {ss : List SV} {vs : List V} {Q : VK} {E : XK} (rp : Rep K g O ρ σ H) (ha : ArgsOk K g.lo (Zof g O) H ss vs)
    (q : Sof R ss fun d => ∀ O' H' v, Rep K g O' ρ σ H' → Kp1 K g O ρ σ H O' ρ H' → Dx K (Zof g O') H' v d → Q v H') : spD K R vs H Q E := by
  refine ⟨⟨g.lo, H, Zof g O⟩, ss, rfl, argsOk_mono (fun a z => ⟨.inl z, by simp⟩) ha, fun L F e => ?_, ?_⟩
  · obtain ⟨a, b, c⟩ := rp.loom L F e
    obtain ⟨x, y⟩ := a.ex
    exact ⟨a, fun z => z.1.elim b x, fun z => z.1.elim c y⟩
  · obtain ⟨P, h1, h2⟩ := q
    refine ⟨P, h1, fun d hd v H' gr dx => ?_⟩
    obtain ⟨a, b, c⟩ := rp.res gr dx
    exact h2 d hd O H' v a (rp.kp1g gr) c
variable {X : Cx}
section
variable {k : Nat} {f : Addr} {fd : FuncData} {ps : List Str} {R : RelD} {x : Str} {p pos : Pos} {e : Expr} {es : List Expr} {ts : Wp (List SV)} {E : XK}
def dCall (R : RelD) (ts : Wp (List SV)) : Wp PyData := fun ρ Q => ts ρ fun ss ρ1 => Sof R ss fun d => Q d ρ1
theorem mono_call (h : Mono ts) : Mono (dCall R ts) := fun ρ P Q k q => h ρ _ _ (fun ss ρ1 ⟨P, a, b⟩ => ⟨P, a, fun d hd => k _ _ (b d hd)⟩) q
theorem de_call (F : FnOk X.prog X.w X.K X.mg X.base CX0 k f fd ps (spD X.K R)) (hr : Room k X.A) (hg : Gl X x) (hm : X.mg x = some (.ref f)) (hk : PySem.W.keepIn X.K (.ref f) = true) (hb : Binds X.K fd ps []) (hx : Passes CX0 X E)
    (ha : DG X (e :: es) ts) (hdb : (x == ("__debug__" : Str)) = false := by decide) (he : starEach (e :: es) X.env = (false, eval e X.env) :: starEach es X.env := by rfl) (hpl : (backTo pos (starEach es X.env)).any (·.1) = false := by rfl) :
    DE X (.Call (.Name x p) (e :: es) [] pos) (dCall R ts) :=
  ⟨mono_call ha.mono, (pe_call F hr hg hm hk hb .nil hx ha.run hdb he hpl).weaken fun σ H Q ⟨g, O, ρ, rp, q⟩ => lift_go ha.mono rp q fun ss ρ1 O1 H1 vs R1 k1 hs q1 => by
    rw [List.append_nil]
    obtain ⟨P, a, b⟩ := q1
    exact call_go R1 hs ⟨P, a, fun d hd O' H' v R' k' dx => b d hd O' H' v R' (k1.trans k') dx⟩⟩
theorem de_call0 (F : FnOk X.prog X.w X.K X.mg X.base CX0 k f fd ps (spD X.K R)) (hr : Room k X.A) (hg : Gl X x) (hm : X.mg x = some (.ref f)) (hk : PySem.W.keepIn X.K (.ref f) = true) (hb : Binds X.K fd ps []) (hx : Passes CX0 X E)
    (hdb : (x == ("__debug__" : Str)) = false := by decide) : DE X (.Call (.Name x p) [] [] pos) (dCall R gNilD) :=
  ⟨mono_call (dg_nil (X := X)).mono, (pe_call0 F hr hg hm hk hb .nil hx hdb).weaken fun σ H Q ⟨g, O, ρ, rp, q⟩ => by
    show spD X.K R ([] ++ []) H Q E
    exact call_go rp .nil q⟩
theorem de_callG (F : FnG X.prog X.w X.K X.mg X.base CX0 k f fd ps (spD X.K R)) (hG : X.A.guards = some []) (hr : Room k X.A) (hg : Gl X x) (hm : X.mg x = some (.ref f)) (hk : PySem.W.keepIn X.K (.ref f) = true) (hb : Binds X.K fd ps []) (hx : Passes CX0 X E)
    (ha : DG X (e :: es) ts) (hdb : (x == ("__debug__" : Str)) = false := by decide) (he : starEach (e :: es) X.env = (false, eval e X.env) :: starEach es X.env := by rfl) (hpl : (backTo pos (starEach es X.env)).any (·.1) = false := by rfl) :
    DE X (.Call (.Name x p) (e :: es) [] pos) (dCall R ts) :=
  ⟨mono_call ha.mono, (pe_callG F hG hr hg hm hk hb hx ha.run hdb he hpl).weaken fun σ H Q ⟨g, O, ρ, rp, q⟩ => lift_go ha.mono rp q fun ss ρ1 O1 H1 vs R1 k1 hs q1 => by
    obtain ⟨P, a, b⟩ := q1
    exact call_go R1 hs ⟨P, a, fun d hd O' H' v R' k' dx => b d hd O' H' v R' (k1.trans k') dx⟩⟩
/-! keywords alone -/
structure DK (X : Cx) (kws : List Keyword) (t : Wp (List SV)) : Prop where
  mono : Mono t
  run : PK X kws (lift X.K (PAr X.K) t)
theorem _root_.L2.PK.weaken {kws : List Keyword} {t t' : TA} (h : PK X kws t) (w : ∀ σ H Q, t' σ H Q → t σ H Q) : PK X kws t' := ⟨fun pos pins s σ H Q I q => h.run pos pins s σ H Q I (w σ H Q q)⟩
variable {kws : List Keyword} {ta : Wp PyData}
theorem dk_nil : DK X [] gNilD := ⟨fun ρ P Q k q => k _ _ q, pk_nil.weaken fun σ H Q ⟨g, O, ρ, R, q⟩ => q O H [] R Kp1.refl .nil⟩
theorem dk_cons {nm : Option Str} {kpos : Pos} (ha : DE X e ta) (hr : DK X kws ts) : DK X (⟨nm, e, kpos⟩ :: kws) (gConsD ta ts) :=
  ⟨fun ρ P Q k q => ha.mono ρ _ _ (fun x ρ1 p => hr.mono ρ1 _ _ (fun xs ρ2 p2 => k _ _ p2) p) q, (pk_cons ha.run hr.run).weaken fun σ H Q ⟨g, O, ρ, R, q⟩ => lift_go ha.mono R q fun x ρ1 O1 H1 v R1 k1 dx q1 =>
    lift_go hr.mono R1 q1 fun xs ρ2 O2 H2 vs R2 k2 dxs q2 => q2 O2 H2 (v :: vs) R2 (k1.trans k2) (.cons (k2.dat _ _ dx) dxs)⟩
def putS (pm : List Nat) (ss : List SV) : List SV := pm.map fun i => ss.getD i .un
theorem argsOk_at {K : PySem.W.Frag} {lo : Option (Addr × Addr)} {Z : Addr → Prop} {H : Hp} : ∀ {ss : List SV} {vs : List V} {i : Nat}, ArgsOk K lo Z H ss vs → i < ss.length → ArgOk K lo Z H (ss.getD i .un) (vs.getD i .non)
  | _, _, 0, .cons h _, _ => h
  | _, _, i + 1, .cons _ r, l => argsOk_at (i := i) r (Nat.lt_of_succ_lt_succ l)
theorem argsOk_put {K : PySem.W.Frag} {lo : Option (Addr × Addr)} {Z : Addr → Prop} {H : Hp} {ss : List SV} {vs : List V} (h : ArgsOk K lo Z H ss vs) : ∀ (pm : List Nat), (∀ i ∈ pm, i < ss.length) → ArgsOk K lo Z H (putS pm ss) (putV pm vs)
  | [], _ => .nil
  | i :: pm, l => .cons (argsOk_at h (l i (List.mem_cons_self ..))) (argsOk_put h pm fun j hj => l j (List.mem_cons_of_mem _ hj))
def dCallK (R : RelD) (pm : List Nat) (n : Nat) (ts : Wp (List SV)) : Wp PyData := fun ρ Q => ts ρ fun ss ρ1 => ss.length = n ∧ Sof R (putS pm ss) fun d => Q d ρ1
theorem de_callK {ks : List Str} {pm : List Nat} (F : FnOk X.prog X.w X.K X.mg X.base CX0 k f fd ps (spD X.K R)) (hr : Room k X.A) (hg : Gl X x) (hm : X.mg x = some (.ref f))
    (hk : PySem.W.keepIn X.K (.ref f) = true) (hb : KB0 X.K fd ps ks pm) (hx : Passes CX0 X E) (hkw : DK X kws ts) (hpm : ∀ i ∈ pm, i < ks.length := by decide)
    (hall : (backToKw pos (keywordEach kws X.env)).all (·.1.isSome) = true := by rfl)
    (hks : (backToKw pos (keywordEach kws X.env)).filterMap (·.1) = ks := by rfl) (hdb : (x == ("__debug__" : Str)) = false := by decide)
    (hpl : ((backTo pos (starEach [] X.env)).any (·.1) || (backToKw pos (keywordEach kws X.env)).any (·.1.isNone)) = false := by rfl) :
    DE X (.Call (.Name x p) [] kws pos) (dCallK R pm ks.length ts) :=
  ⟨fun ρ P Q k q => hkw.mono ρ _ _ (fun ss ρ1 ⟨l, P, a, b⟩ => ⟨l, P, a, fun d hd => k _ _ (b d hd)⟩) q,
    (pe_callK0 F hr hg hm hk hb hx hkw.run hall hks hdb hpl).weaken fun σ H Q ⟨g, O, ρ, rp, q⟩ => lift_go hkw.mono rp q fun ss ρ1 O1 H1 vs R1 k1 hs q1 => by
      obtain ⟨l, P, a, b⟩ := q1
      refine ⟨(argsOk_len hs).trans l, ?_⟩
      exact call_go R1 (argsOk_put hs pm fun i hi => by rw [l]; exact hpm i hi) ⟨P, a, fun d hd O' H' v R' k' dx => b d hd O' H' v R' (k1.trans k') dx⟩⟩
end
/-! ### statements -/
structure DEnds where
  nx : En → Prop
  rt : PyData → Prop
  bk : En → Prop := fun _ => False
  ct : En → Prop := fun _ => False
structure DEnds.le (D D' : DEnds) : Prop where
  nx : ∀ ρ, D.nx ρ → D'.nx ρ
  rt : ∀ d, D.rt d → D'.rt d
  bk : ∀ ρ, D.bk ρ → D'.bk ρ
  ct : ∀ ρ, D.ct ρ → D'.ct ρ
abbrev DTs := DEnds → En → Prop
def MonoS (t : DTs) : Prop := ∀ (D D' : DEnds) (ρ : En), D.le D' → t D ρ → t D' ρ
/-- the ends, as the heap bears them, seen from O, H -/
def ends (K : PySem.W.Frag) (g : Gh) (D : Ends) (O : List Addr) (H : Hp) : DEnds where
  nx := fun ρ' => ∀ O' σ' H', Rep K g O' ρ' σ' H' → Kps K g O H O' H' → D.nx σ' H'
  rt := fun d => ∀ O' ρ' σ' H' v, Rep K g O' ρ' σ' H' → Dx K (Zof g O') H' v d → D.rt v H'
  bk := fun ρ' => ∀ O' σ' H', Rep K g O' ρ' σ' H' → Kps K g O H O' H' → D.bk σ' H'
  ct := fun ρ' => ∀ O' σ' H', Rep K g O' ρ' σ' H' → Kps K g O H O' H' → D.ct σ' H'
def liftS (K : PySem.W.Frag) (t : DTs) : TS := fun D σ H => ∃ g O ρ, Rep K g O ρ σ H ∧ t (ends K g D O H) ρ
theorem ends_later {K : PySem.W.Frag} {g : Gh} {D : Ends} {O O1 : List Addr} {H H1 : Hp} (k : Kps K g O H O1 H1) : (ends K g D O H).le (ends K g D O1 H1) :=
  ⟨fun ρ q O' σ' H' R k' => q O' σ' H' R (k.trans k'), fun d q => q, fun ρ q O' σ' H' R k' => q O' σ' H' R (k.trans k'), fun ρ q O' σ' H' R k' => q O' σ' H' R (k.trans k')⟩
structure DS (X : Cx) (st : Stmt) (t : DTs) : Prop where
  mono : MonoS t
  run : PS X st (liftS X.K t)
structure DSs (X : Cx) (st : List Stmt) (t : DTs) : Prop where
  mono : MonoS t
  run : PSs X st (liftS X.K t)
theorem _root_.L2.PS.weaken {st : Stmt} {t t' : TS} (h : PS X st t) (w : ∀ D σ H, t' D σ H → t D σ H) : PS X st t' := ⟨fun pins s σ H D I q => h.run pins s σ H D I (w D σ H q)⟩
theorem _root_.L2.PSs.weaken {st : List Stmt} {t t' : TS} (h : PSs X st t) (w : ∀ D σ H, t' D σ H → t D σ H) : PSs X st t' := ⟨fun pins s σ H D I q => h.run pins s σ H D I (w D σ H q)⟩
section
variable {st : Stmt} {rest : List Stmt} {t u : DTs} {e c : Expr} {te : Wp PyData} {tc : Wp Bool} {pos : Pos}
def dNext : DTs := fun D ρ => D.nx ρ
def dSeq (t u : DTs) : DTs := fun D ρ => t { D with nx := u D } ρ
theorem dss_nil : DSs X [] dNext := ⟨fun D D' ρ l q => l.nx _ q, pss_nil.weaken fun D σ H ⟨g, O, ρ, R, q⟩ => q O σ H R Kps.refl⟩
theorem dss_one (h : DS X st t) : DSs X [st] t := ⟨h.mono, pss_one h.run⟩
theorem dss_cons (h1 : DS X st t) (h2 : DSs X rest u) : DSs X (st :: rest) (dSeq t u) :=
  ⟨fun D D' ρ l q => h1.mono { D with nx := u D } { D' with nx := u D' } ρ ⟨fun ρ' p => h2.mono _ _ _ l p, l.rt, l.bk, l.ct⟩ q, (pss_cons h1.run h2.run).weaken fun D σ H ⟨g, O, ρ, R, q⟩ =>
    ⟨g, O, ρ, R, h1.mono { ends X.K g D O H with nx := u (ends X.K g D O H) } _ ρ ⟨fun ρ' p O' σ' H' R' k => ⟨g, O', ρ', R', h2.mono _ _ _ (ends_later k) p⟩, fun d p => p, fun ρ p => p, fun ρ p => p⟩ q⟩⟩
/-- a list of one's own is given up -/
def dFrz (i : Nat) (t : DTs) : DTs := fun D ρ => match ρ[i]? with
  | some (.own xs) => t D (ρ.set i (.d (.list xs)))
  | _ => False
theorem dss_frz {sts : List Stmt} (i : Nat) (h : DSs X sts t) : DSs X sts (dFrz i t) := by
  refine ⟨fun D D' ρ l q => ?_, h.run.weaken fun D σ H ⟨g, O, ρ, R, q⟩ => ?_⟩
  · unfold dFrz at q ⊢
    split at q
    · exact h.mono _ _ _ l q
    · exact q.elim
  · unfold dFrz at q
    split at q
    · obtain ⟨O', R', k⟩ := R.freeze (by assumption)
      exact ⟨g, O', _, R', h.mono _ _ _ (ends_later k) q⟩
    · exact q.elim
theorem ds_pass : DS X (.Pass pos) dNext := ⟨fun D D' ρ l q => l.nx _ q, ps_pass.weaken fun D σ H ⟨g, O, ρ, R, q⟩ => q O σ H R Kps.refl⟩
def dBrk : DTs := fun D ρ => D.bk ρ
def dCnt : DTs := fun D ρ => D.ct ρ
theorem ds_break : DS X (.Break pos) dBrk := ⟨fun D D' ρ l q => l.bk _ q, ps_break.weaken fun D σ H ⟨g, O, ρ, R, q⟩ => q O σ H R Kps.refl⟩
theorem ds_cont : DS X (.Continue pos) dCnt := ⟨fun D D' ρ l q => l.ct _ q, ps_continue.weaken fun D σ H ⟨g, O, ρ, R, q⟩ => q O σ H R Kps.refl⟩
def dDrop (te : Wp PyData) : DTs := fun D ρ => te ρ fun _ ρ1 => D.nx ρ1
theorem ds_expr (he : DE X e te) (hs : swapsWith e none pos.line X.env = pure false := by rfl) : DS X (.Expr e pos) (dDrop te) :=
  ⟨fun D D' ρ l q => he.mono ρ _ _ (fun _ _ p => l.nx _ p) q, (ps_expr he.run hs).weaken fun D σ H ⟨g, O, ρ, R, q⟩ => lift_go he.mono R q fun d ρ1 O1 H1 v R1 k1 dx q1 => q1 O1 σ H1 R1 k1.dat⟩
def dRet (te : Wp PyData) : DTs := fun D ρ => te ρ fun d _ => D.rt d
theorem ds_ret (he : DE X e te) : DS X (.Return (some e) pos) (dRet te) :=
  ⟨fun D D' ρ l q => he.mono ρ _ _ (fun _ _ p => l.rt _ p) q, (ps_ret he.run).weaken fun D σ H ⟨g, O, ρ, R, q⟩ => lift_go he.mono R q fun d ρ1 O1 H1 v R1 k1 dx q1 => q1 O1 ρ1 σ H1 v R1 dx⟩
def dRetN : DTs := fun D _ => D.rt .none
theorem ds_retN : DS X (.Return none pos) dRetN := ⟨fun D D' ρ l q => l.rt _ q, ps_retN.weaken fun D σ H ⟨g, O, ρ, R, q⟩ => q O ρ σ H _ R .non⟩
def dIfS (c : Wp Bool) (t u : DTs) : DTs := fun D ρ => c ρ fun b ρ1 => if b = true then t D ρ1 else u D ρ1
theorem ds_if {a b : List Stmt} (hc : DT X c tc) (ha : DSs X a t) (hb : DSs X b u) : DS X (.If c a b pos) (dIfS tc t u) := by
  refine ⟨fun D D' ρ l q => hc.mono ρ _ _ (fun b ρ1 p => ?_) q, (ps_if hc.run ha.run hb.run).weaken fun D σ H ⟨g, O, ρ, R, q⟩ => lift_go hc.mono R q fun k ρ1 O1 H1 b R1 k1 e q1 => ?_⟩
  · cases b with
    | true => exact ha.mono _ _ _ l p
    | false => exact hb.mono _ _ _ l p
  · subst e
    cases b with
    | true =>
      rw [if_pos rfl] at q1 ⊢
      exact ⟨g, O1, ρ1, R1, ha.mono _ _ _ (ends_later k1.dat) q1⟩
    | false =>
      rw [if_neg Bool.false_ne_true] at q1 ⊢
      exact ⟨g, O1, ρ1, R1, hb.mono _ _ _ (ends_later k1.dat) q1⟩
def dNever : DTs := fun _ _ => False
theorem ds_never : DS X st dNever := ⟨fun D D' ρ l q => q, ps_never.weaken fun D σ H ⟨g, O, ρ, R, q⟩ => q⟩
theorem dss_never {sts : List Stmt} : DSs X sts dNever := ⟨fun D D' ρ l q => q, pss_never.weaken fun D σ H ⟨g, O, ρ, R, q⟩ => q⟩
/-! names are set -/
/-- what a name may hold -/
def PX (K : PySem.W.Frag) : Bear SV V := fun g Oi O ρ σ H v s => match s with
  | .d x => Dx K (Zof g O) H v x
  | .own xs => ∃ p vs, v = .ref p ∧ p ∈ O ∧ p ∉ Oi ∧ Ev.New g ρ σ p ∧ H p = some (.lst vs) ∧ DxAll K (Zof g O) H vs xs
  | .lm => ∃ L F, g.lo = some (L, F) ∧ v = .ref L
  | .un => False
structure DX (X : Cx) (e : Expr) (t : Wp SV) : Prop where
  mono : Mono t
  run : PE X e (lift X.K (PX X.K) t)
def xD (t : Wp PyData) : Wp SV := fun ρ Q => t ρ fun d ρ' => Q (.d d) ρ'
def xF (t : Wp (List PyData)) : Wp SV := fun ρ Q => t ρ fun xs ρ' => Q (.own xs) ρ'
theorem DE.x (h : DE X e te) : DX X e (xD te) := ⟨fun ρ P Q k q => h.mono ρ _ _ (fun d ρ' p => k _ _ p) q, h.run.weaken fun σ H Q ⟨g, O, ρ, R, q⟩ => lift_go h.mono R q fun d ρ1 O1 H1 v R1 k1 dx p => p O1 H1 v R1 k1 dx⟩
theorem DF.x {tf : Wp (List PyData)} (h : DF X e tf) : DX X e (xF tf) := ⟨fun ρ P Q k q => h.mono ρ _ _ (fun d ρ' p => k _ _ p) q, h.run.weaken fun σ H Q ⟨g, O, ρ, R, q⟩ => lift_go h.mono R q fun d ρ1 O1 H1 v R1 k1 hp p => p O1 H1 v R1 k1 (by
  obtain ⟨a, vs, O2, e1, e2, n1, n2, n3, h1, h2⟩ := hp
  exact ⟨a, vs, e1, by rw [e2]; exact List.mem_cons_self .., n2, n3, h1, h2⟩)⟩
theorem Rep.setX {K : PySem.W.Frag} {g : Gh} {Oi O : List Addr} {ρ : En} {σ : L2.St} {H : Hp} (R : Rep K g O ρ σ H) {i : Nat} {v : V} {s : SV} (h : PX K g Oi O ρ σ H v s) : Rep K g O (ρ.set i s) (σ.set i (some v)) H := by
  cases s with
  | d x => exact R.set h
  | own xs =>
    obtain ⟨p, vs, rfl, m, _, n, e, dx⟩ := h
    exact R.setOwn m n e dx
  | lm =>
    obtain ⟨L, F, e, rfl⟩ := h
    exact R.setLm e
  | un => exact h.elim
def dSet (i : Nat) (t : Wp SV) : DTs := fun D ρ => t ρ fun s ρ1 => D.nx (ρ1.set i s)
theorem ds_set {i : Nat} {x : Str} {tx : Wp SV} {pos' : Pos} (hN : X.N.Nodup) (hi : X.N[i]? = some x) (hx : Loc X.env.scope x) (he : DX X e tx) (hs : swapsWith e (some (.Name x pos')) pos.line X.env = pure false := by rfl)
    (hf : X.fn x = true ∨ X.env.scope.names.lookup x = some .local := by first | exact .inl rfl | exact .inr rfl | assumption) : DS X (.Assign [.Name x pos'] e pos) (dSet i tx) :=
  ⟨fun D D' ρ l q => he.mono ρ _ _ (fun _ _ p => l.nx _ p) q, (ps_set hN hi hx he.run hs hf).weaken fun D σ H ⟨g, O, ρ, R, q⟩ => lift_go he.mono R q fun s ρ1 O1 H1 v R1 k1 hp q1 => q1 O1 _ H1 (R1.setX hp) k1.dat⟩
/-- two at once -/
theorem PX.kp {K : PySem.W.Frag} {g : Gh} {Oi O O1 : List Addr} {ρ ρ1 : En} {σ : L2.St} {H H1 : Hp} {v : V} {s : SV} (h : PX K g Oi O ρ σ H v s) (k : Kp1 K g O ρ σ H O1 ρ1 H1) : PX K g Oi O1 ρ1 σ H1 v s := by
  cases s with
  | d x => exact k.dat _ _ h
  | own xs =>
    obtain ⟨p, vs, e, m, m2, n, e1, dx⟩ := h
    obtain ⟨n1, e2⟩ := k.pnd p vs m n e1
    exact ⟨p, vs, e, k.sub _ m, m2, n1, e2, k.dat.all dx⟩
  | lm => exact h
  | un => exact h
/-- set behind another one was set -/
theorem PX.behind {K : PySem.W.Frag} {g : Gh} {Oi O1 O : List Addr} {ρ : En} {σ : L2.St} {H : Hp} {v w : V} {s r : SV} {i : Nat} (h : PX K g O1 O ρ σ H w r) (h1 : PX K g Oi O ρ σ H v s) (m1 : ∀ p xs, s = .own xs → v = .ref p → p ∈ O1) (hi : i < σ.length) :
    PX K g O1 O (ρ.set i s) (σ.set i (some v)) H w r := by
  cases r with
  | d x => exact h
  | own xs =>
    obtain ⟨p, vs, e, m, m2, n, e1, dx⟩ := h
    refine ⟨p, vs, e, m, m2, ⟨n.h0, fun j ys ej => ?_, n.nl⟩, e1, dx⟩
    rw [List.getElem?_set] at ej
    rw [atv_set hi]
    by_cases ij : i = j
    · rw [if_pos ij] at ej ⊢
      split at ej
      · have es : s = .own ys := Option.some.inj ej
        intro z
        exact m2 (m1 p ys es (Option.some.inj z))
      · cases ej
    · rw [if_neg ij] at ej ⊢
      exact n.sl j ys ej
  | lm => exact h
  | un => exact h
def dPar (i j : Nat) (t u : Wp SV) : DTs := fun D ρ => t ρ fun s ρ1 => u ρ1 fun r ρ2 => D.nx ((ρ2.set i s).set j r)
theorem px_mem {K : PySem.W.Frag} {g : Gh} {Oi O : List Addr} {ρ : En} {σ : L2.St} {H : Hp} {v : V} {s : SV} (h : PX K g Oi O ρ σ H v s) : ∀ p xs, s = .own xs → v = .ref p → p ∈ O := by
  intro p xs es ev
  subst es
  obtain ⟨q, vs, e, m, _⟩ := h
  rw [ev] at e
  cases e
  exact m
theorem ds_par {i j : Nat} {x y : Str} {a b : Expr} {ta tb : Wp SV} {px py pt : Pos} {kt k2 pt2} (hc : X.calm = true) (hN : X.N.Nodup) (hi : X.N[i]? = some x) (hj : X.N[j]? = some y) (hij : i ≠ j)
    (hx : X.env.scope.names.lookup x = some .local) (hy : X.env.scope.names.lookup y = some .local) (ha : DX X a ta) (hb : DX X b tb)
    (hw : swappedStores [.Tuple [.Name x px, .Name y py] kt pt] (.Tuple [a, b] k2 pt2) X.env = pure (some [x, y]))
    (hs1 : starEach (a :: [b]) X.env = (false, eval a X.env) :: starEach [b] X.env := by rfl) (hs2 : starEach (b :: []) X.env = (false, eval b X.env) :: starEach [] X.env := by rfl)
    (hl : X.N.length = X.N.length := by rfl)
    (hs : swapsWithSole [.Tuple [.Name x px, .Name y py] kt pt] (.Tuple [a, b] k2 pt2) pos.line X.env = pure false := by rfl) :
    DS X (.Assign [.Tuple [.Name x px, .Name y py] kt pt] (.Tuple [a, b] k2 pt2) pos) (dPar i j ta tb) := by
  refine ⟨fun D D' ρ l q => ha.mono ρ _ _ (fun s ρ1 p => hb.mono ρ1 _ _ (fun r ρ2 p => l.nx _ p) p) q, ?_⟩
  have base := ps_par hc hN hi hj hij hx hy (pa_cons ha.run (pa_cons hb.run pa_nil hs2) hs1) hw hs
  refine ⟨fun pins s σ H D I h => base.run pins s σ H D I ?_⟩
  obtain ⟨g, O, ρ, R, q⟩ := h
  refine lift_go ha.mono R q fun s ρ1 O1 H1 v R1 k1 hp q1 => lift_go hb.mono R1 q1 fun r ρ2 O2 H2 w R2 kk2 hp2 q2 => ⟨v, w, rfl, ?_⟩
  have hi' : i < σ.length := by
    rw [I.len]
    exact (List.getElem?_eq_some_iff.mp hi).1
  have h1 := hp.kp kk2
  exact q2 O2 _ H2 ((R2.setX h1).setX (hp2.behind h1 (px_mem hp) hi')) (k1.trans kk2).dat
end
end
end Ev

set_option exponentiation.threshold 256
/-! the layer of data, 5: lists of one's own, loops, comprehensions, promises -/
namespace Ev
open PySem PySem.Spec PyProof.Rows L2
section
variable [Lo] {X : Cx}
section
variable {st : Stmt} {rest : List Stmt} {t u : DTs} {e c : Expr} {te ti : Wp PyData} {tc : Wp Bool} {pos : Pos} {i j l : Nat}
def dPar3 (i j l : Nat) (t u w : Wp SV) : DTs := fun D ρ => t ρ fun s ρ1 => u ρ1 fun r ρ2 => w ρ2 fun q ρ3 => D.nx (((ρ3.set i s).set j r).set l q)
theorem ds_par3 {x y z : Str} {a b c : Expr} {ta tb td : Wp SV} {px py pz pt : Pos} {kt k2 pt2} (hc : X.calm = true) (hN : X.N.Nodup) (hi : X.N[i]? = some x) (hj : X.N[j]? = some y) (hl : X.N[l]? = some z) (hij : i ≠ j) (hil : i ≠ l) (hjl : j ≠ l)
    (hx : X.env.scope.names.lookup x = some .local) (hy : X.env.scope.names.lookup y = some .local) (hz : X.env.scope.names.lookup z = some .local) (ha : DX X a ta) (hb : DX X b tb) (hd : DX X c td)
    (hw : swappedStores [.Tuple [.Name x px, .Name y py, .Name z pz] kt pt] (.Tuple [a, b, c] k2 pt2) X.env = pure (some [x, y, z]))
    (hs1 : starEach (a :: [b, c]) X.env = (false, eval a X.env) :: starEach [b, c] X.env := by rfl) (hs2 : starEach (b :: [c]) X.env = (false, eval b X.env) :: starEach [c] X.env := by rfl) (hs3 : starEach (c :: []) X.env = (false, eval c X.env) :: starEach [] X.env := by rfl)
    (hs : swapsWithSole [.Tuple [.Name x px, .Name y py, .Name z pz] kt pt] (.Tuple [a, b, c] k2 pt2) pos.line X.env = pure false := by rfl) :
    DS X (.Assign [.Tuple [.Name x px, .Name y py, .Name z pz] kt pt] (.Tuple [a, b, c] k2 pt2) pos) (dPar3 i j l ta tb td) := by
  refine ⟨fun D D' ρ l q => ha.mono ρ _ _ (fun s ρ1 p => hb.mono ρ1 _ _ (fun r ρ2 p => hd.mono ρ2 _ _ (fun _ _ p => l.nx _ p) p) p) q, ?_⟩
  have base := ps_par3 hc hN hi hj hl hij hil hjl hx hy hz (pa_cons ha.run (pa_cons hb.run (pa_cons hd.run pa_nil hs3) hs2) hs1) hw hs
  refine ⟨fun pins s σ H D I h => base.run pins s σ H D I ?_⟩
  obtain ⟨g, O, ρ, R, q⟩ := h
  refine lift_go ha.mono R q fun s ρ1 O1 H1 v R1 k1 hp q1 => lift_go hb.mono R1 q1 fun r ρ2 O2 H2 w R2 kk2 hp2 q2 => lift_go hd.mono R2 q2 fun m ρ3 O3 H3 y R3 kk3 hp3 q3 => ⟨v, w, y, rfl, ?_⟩
  have hi' : i < σ.length := by
    rw [I.len]
    exact (List.getElem?_eq_some_iff.mp hi).1
  have hj' : j < σ.length := by
    rw [I.len]
    exact (List.getElem?_eq_some_iff.mp hj).1
  have h1 := hp.kp (kk2.trans kk3)
  have h2 := hp2.kp kk3
  have m1 := px_mem hp
  have m2 := px_mem hp2
  have A := R3.setX (i := i) h1
  have B := A.setX (i := j) (h2.behind h1 m1 hi')
  have C := (hp3.behind h1 (fun p xs a b => kk2.sub _ (m1 p xs a b)) hi').behind (h2.behind h1 m1 hi') m2 (by rw [List.length_set]; exact hj')
  exact q3 O3 _ H3 (B.setX (i := l) C) ((k1.trans kk2).trans kk3).dat
/-! name op= e -/
def dAug (i : Nat) (od : OD) (te : Wp PyData) : DTs := fun D ρ => match ρ[i]? with
  | some (.d x) => te ρ fun y ρ1 => od x y fun r => D.nx (ρ1.set i (.d r))
  | _ => False
structure IpD (X : Cx) (op : Operator) (od : OD) : Prop where
  mono : ∀ x y P Q, (∀ r, P r → Q r) → od x y P → od x y Q
  run : PIp X op (fun v u H Q => ∃ Z x y, DxS X.K Z H v x ∧ DxS X.K Z H u y ∧ od x y (Res X.K Z H Q))
theorem ds_aug {x : Str} {op : Operator} {od : OD} {pos' : Pos} (ho : IpD X op od) (hN : X.N.Nodup) (hi : X.N[i]? = some x) (hx : Loc X.env.scope x) (he : DE X e te) (hf : X.fn x = true ∨ X.env.scope.names.lookup x = some .local := by first | exact .inl rfl | exact .inr rfl | assumption) :
    DS X (.AugAssign (.Name x pos') op e pos) (dAug i od te) := by
  refine ⟨fun D D' ρ l q => ?_, (ps_aug hN hi hx he.run ho.run hf).weaken fun D σ H ⟨g, O, ρ, R, q⟩ => ?_⟩
  · unfold dAug at q ⊢
    split at q
    · exact he.mono ρ _ _ (fun y ρ1 p => ho.mono _ _ _ _ (fun r p => l.nx _ p) p) q
    · exact q.elim
  · unfold dAug at q
    split at q
    · rename_i x e
      obtain ⟨v, e1, dx⟩ := R.var e
      exact ⟨v, e1, lift_go he.mono R q fun y ρ1 O1 H1 u R1 k1 dy q1 => ⟨Zof g O1, x, y, dx_s (k1.dat _ _ dx), dx_s dy, ho.mono _ _ _ _ (fun r p => res_fin R1 fun O' H' w R' k' dw => p O' _ H' (R'.set dw) (k1.trans k').dat) q1⟩⟩
    · exact q.elim
theorem i_add : IpD X .Add (intF fun i j => .int (i + j)) := by
  refine ⟨fun x y P Q k q => ?_, fun pins s σ H v u V U Q I rv ru ⟨Z, x, y, dx, dy, q⟩ => ?_⟩
  · unfold intF at q ⊢
    split at q <;> first | exact k _ q | exact q.elim
  · unfold intF at q
    split at q
    · cases dx_int dx
      cases dx_int dy
      exact ip_add pins s σ H _ _ V U Q I rv ru ⟨_, _, rfl, rfl, q _ H (Same.refl _) (.int _)⟩
    · exact q.elim
/-! ### lists of one's own -/
theorem Rep.write1 {K : PySem.W.Frag} {g : Gh} {O : List Addr} {ρ : En} {σ : L2.St} {H : Hp} (R : Rep K g O ρ σ H) {xs ys : List PyData} {p : Addr} {vs ws : List V} (e : ρ[i]? = some (.own xs)) (ea : atv σ i = some (.ref p)) (e1 : H p = some (.lst vs)) (h : DxAll K (Zof g O) H ws ys) :
    Rep K g O (ρ.set i (.own ys)) σ (upd H p (.lst ws)) ∧ Kp1 K g O ρ σ H O (ρ.set i (.own ys)) (upd H p (.lst ws)) := by
  obtain ⟨a, b⟩ := R.write e ea e1 h
  refine ⟨a, fun _ m => m, b, fun q us m n eq => ⟨⟨n.h0, fun j zs ej => ?_, n.nl⟩, ?_⟩⟩
  · rw [List.getElem?_set] at ej
    by_cases ij : i = j
    · subst ij
      exact n.sl i xs e
    · rw [if_neg ij] at ej
      exact n.sl j zs ej
  · rw [upd_ne (fun w => n.sl i xs e (by rw [ea, w]))]
    exact eq
theorem atv_of {σ : L2.St} {v : V} (h : σ[i]? = some (some v)) : atv σ i = some v := by
  unfold atv
  rw [h]
  rfl
variable {o : Expr} {apos cpos : Pos} {es : List Expr}
/-- xs.append(e) -/
def dApp (i : Nat) (te : Wp PyData) : Wp PyData := fun ρ Q => match ρ[i]? with
  | some (.own _) => te ρ fun d ρ1 => match ρ1[i]? with
    | some (.own xs) => xs.length < sizeLine ∧ Q .none (ρ1.set i (.own (xs ++ [d])))
    | _ => False
  | _ => False
theorem dApp_mono (h : Mono te) : Mono (dApp i te) := fun ρ P Q k q => by
  unfold dApp at q ⊢
  split at q
  · refine h ρ _ _ (fun d ρ1 p => ?_) q
    split at p
    · exact ⟨p.1, k _ _ p.2⟩
    · exact p.elim
  · exact q.elim
theorem de_append (ho : PE X o (tVar i)) (he : DE X e te)
    (hs1 : starEach (e :: []) X.env = (false, eval e X.env) :: starEach [] X.env := by rfl)
    (hbase : attributeBase o "append" X.env (eval o X.env) = eval o X.env := by rfl)
    (hfew : ((backTo cpos (starEach (e :: []) X.env)).all (fun x => !x.1) && (backToKw cpos (keywordEach [] X.env)).all (fun x => x.1.isSome)
      && decide ((e :: ([] : List Expr)).length + ([] : List Keyword).length + (if ([] : List Keyword).isEmpty then 0 else 1) < 30)) = true := by rfl)
    (hline : (apos.endLine == cpos.line) = true := by rfl) (hplain : (backTo cpos (starEach [] X.env)).any (·.1) = false := by rfl) :
    DE X (.Call (.Attribute o "append" apos) [e] [] cpos) (dApp i te) := by
  refine ⟨dApp_mono he.mono, (pe_bm PySem.F.plainAttrs_list PySem.F.slot_list_append PySem.F.type_list_append mt_append ho (pa_cons he.run pa_nil hs1) hbase hfew hline hs1 hplain).weaken fun σ H Q ⟨g, O, ρ, R, q⟩ => ?_⟩
  unfold dApp at q
  split at q
  · rename_i e0
    obtain ⟨p0, vs0, h0, h00, _⟩ := R.own e0
    refine ⟨.ref p0, h0, .inl ⟨rfl, _, SqL.of h00⟩, lift_go he.mono R q fun d ρ1 O1 H1 v R1 k1 dx q1 => ?_⟩
    dsimp only at q1
    split at q1
    · rename_i xs e1
      obtain ⟨p, vs, g1, g2, g3⟩ := R1.own e1
      rw [h0] at g1
      cases g1
      obtain ⟨R2, k2⟩ := R1.write1 e1 (atv_of h0) g2 (dxAll_app g3 (.cons dx .nil))
      exact ⟨p0, vs, v, rfl, rfl, g2, by rw [dxAll_len g3]; exact q1.1, q1.2 O1 _ _ R2 (k1.trans k2) .non⟩
    · exact q1.elim
  · exact q.elim
/-- xs.extend(a list) -/
def dExt (i : Nat) (te : Wp PyData) : Wp PyData := fun ρ Q => match ρ[i]? with
  | some (.own _) => te ρ fun d ρ1 => match d, ρ1[i]? with
    | .list ys, some (.own xs) => xs.length + ys.length ≤ sizeLine ∧ Q .none (ρ1.set i (.own (xs ++ ys)))
    | _, _ => False
  | _ => False
theorem de_extend (ho : PE X o (tVar i)) (he : DR X e te)
    (hs1 : starEach (e :: []) X.env = (false, eval e X.env) :: starEach [] X.env := by rfl)
    (hbase : attributeBase o "extend" X.env (eval o X.env) = eval o X.env := by rfl)
    (hfew : ((backTo cpos (starEach (e :: []) X.env)).all (fun x => !x.1) && (backToKw cpos (keywordEach [] X.env)).all (fun x => x.1.isSome)
      && decide ((e :: ([] : List Expr)).length + ([] : List Keyword).length + (if ([] : List Keyword).isEmpty then 0 else 1) < 30)) = true := by rfl)
    (hline : (apos.endLine == cpos.line) = true := by rfl) (hplain : (backTo cpos (starEach [] X.env)).any (·.1) = false := by rfl) :
    DE X (.Call (.Attribute o "extend" apos) [e] [] cpos) (dExt i te) := by
  refine ⟨fun ρ P Q k q => ?_, (pe_bm PySem.F.plainAttrs_list PySem.F.slot_list_extend PySem.F.type_list_extend mt_extend ho (pa_cons he.run pa_nil hs1) hbase hfew hline hs1 hplain).weaken fun σ H Q ⟨g, O, ρ, R, q⟩ => ?_⟩
  · unfold dExt at q ⊢
    split at q
    · refine he.mono ρ _ _ (fun d ρ1 p => ?_) q
      split at p
      · exact ⟨p.1, k _ _ p.2⟩
      · exact p.elim
    · exact q.elim
  unfold dExt at q
  split at q
  · rename_i e0
    obtain ⟨p0, vs0, h0, h00, _⟩ := R.own e0
    refine ⟨.ref p0, h0, .inl ⟨rfl, _, SqL.of h00⟩, lift_go he.mono R q fun d ρ1 O1 H1 v R1 k1 dx q1 => ?_⟩
    dsimp only at q1
    split at q1
    · rename_i ys xs e1
      obtain ⟨p, vs, g1, g2, g3⟩ := R1.own e1
      rw [h0] at g1
      cases g1
      obtain ⟨b, zs, rfl, b1, b2⟩ := dx
      obtain ⟨R2, k2⟩ := R1.write1 e1 (atv_of h0) g2 (dxAll_app g3 b2)
      exact ⟨p0, b, vs, zs, rfl, rfl, g2, b1, by rw [dxAll_len g3, dxAll_len b2]; exact q1.1, q1.2 O1 _ _ R2 (k1.trans k2) .non⟩
    · exact q1.elim
  · exact q.elim
/-- xs.pop() -/
def dPop (i : Nat) : Wp PyData := fun ρ Q => match ρ[i]? with
  | some (.own xs) => match xs[xs.length - 1]? with
    | some y => Q y (ρ.set i (.own xs.dropLast))
    | none => False
  | _ => False
theorem dxAll_dropLast {K : PySem.W.Frag} {Z : Addr → Prop} {H : Hp} {vs : List V} {ds : List PyData} (h : DxAll K Z H vs ds) : DxAll K Z H vs.dropLast ds.dropLast := by
  rw [List.dropLast_eq_take, List.dropLast_eq_take, dxAll_len h]
  exact dxAll_take _ h
theorem de_pop (ho : PE X o (tVar i)) (hbase : attributeBase o "pop" X.env (eval o X.env) = eval o X.env := by rfl) (hline : (apos.endLine == cpos.line) = true := by rfl) :
    DE X (.Call (.Attribute o "pop" apos) [] [] cpos) (dPop i) := by
  refine ⟨fun ρ P Q k q => ?_, (pe_bm0 PySem.F.plainAttrs_list PySem.F.slot_list_pop PySem.F.type_list_pop mt_pop ho hbase hline).weaken fun σ H Q ⟨g, O, ρ, R, q⟩ => ?_⟩
  · unfold dPop at q ⊢
    split at q
    · split at q
      · exact k _ _ q
      · exact q
    · exact q
  · unfold dPop at q
    split at q
    · rename_i xs e0
      obtain ⟨p0, vs, h0, h00, h3⟩ := R.own e0
      split at q
      · rename_i y ey
        obtain ⟨R2, k2⟩ := R.write1 e0 (atv_of h0) h00 (dxAll_dropLast h3)
        obtain ⟨w, ew, dw⟩ := dxAll_at h3 ey
        exact ⟨.ref p0, h0, .inl ⟨rfl, _, SqL.of h00⟩, p0, vs, w, rfl, rfl, h00, by rw [dxAll_len h3]; exact ew, q O _ _ R2 k2 (k2.dat _ _ dw)⟩
      · exact q.elim
    · exact q.elim
/-- xs.pop(k) -/
def dPopAt (i : Nat) (te : Wp PyData) : Wp PyData := fun ρ Q => match ρ[i]? with
  | some (.own _) => te ρ fun d ρ1 => match d, ρ1[i]? with
    | .int k, some (.own xs) => 0 ≤ k ∧ k < 2 ^ 62 ∧ match xs[k.toNat]? with
      | some y => Q y (ρ1.set i (.own (xs.eraseIdx k.toNat)))
      | none => False
    | _, _ => False
  | _ => False
theorem dxAll_erase {K : PySem.W.Frag} {Z : Addr → Prop} {H : Hp} : ∀ {vs : List V} {ds : List PyData} (n : Nat), DxAll K Z H vs ds → DxAll K Z H (vs.eraseIdx n) (ds.eraseIdx n)
  | _, _, _, .nil => .nil
  | _, _, 0, .cons h r => r
  | _, _, n + 1, .cons h r => .cons h (dxAll_erase n r)
theorem de_popAt (ho : PE X o (tVar i)) (he : DE X e te)
    (hs1 : starEach (e :: []) X.env = (false, eval e X.env) :: starEach [] X.env := by rfl)
    (hbase : attributeBase o "pop" X.env (eval o X.env) = eval o X.env := by rfl)
    (hfew : ((backTo cpos (starEach (e :: []) X.env)).all (fun x => !x.1) && (backToKw cpos (keywordEach [] X.env)).all (fun x => x.1.isSome)
      && decide ((e :: ([] : List Expr)).length + ([] : List Keyword).length + (if ([] : List Keyword).isEmpty then 0 else 1) < 30)) = true := by rfl)
    (hline : (apos.endLine == cpos.line) = true := by rfl) (hplain : (backTo cpos (starEach [] X.env)).any (·.1) = false := by rfl) :
    DE X (.Call (.Attribute o "pop" apos) [e] [] cpos) (dPopAt i te) := by
  refine ⟨fun ρ P Q k q => ?_, (pe_bm PySem.F.plainAttrs_list PySem.F.slot_list_pop PySem.F.type_list_pop mt_popAt ho (pa_cons he.run pa_nil hs1) hbase hfew hline hs1 hplain).weaken fun σ H Q ⟨g, O, ρ, R, q⟩ => ?_⟩
  · unfold dPopAt at q ⊢
    split at q
    · refine he.mono ρ _ _ (fun d ρ1 p => ?_) q
      split at p
      · refine ⟨p.1, p.2.1, ?_⟩
        have p2 := p.2.2
        split at p2
        · exact k _ _ p2
        · exact p2
      · exact p.elim
    · exact q.elim
  unfold dPopAt at q
  split at q
  · rename_i e0
    obtain ⟨p0, vs0, h0, h00, _⟩ := R.own e0
    refine ⟨.ref p0, h0, .inl ⟨rfl, _, SqL.of h00⟩, lift_go he.mono R q fun d ρ1 O1 H1 v R1 k1 dx q1 => ?_⟩
    dsimp only at q1
    split at q1
    · rename_i n xs e1
      obtain ⟨p, vs, g1, g2, g3⟩ := R1.own e1
      rw [h0] at g1
      cases g1
      cases dx_int dx
      obtain ⟨n0, n1, q2⟩ := q1
      split at q2
      · rename_i y ey
        obtain ⟨R2, k2⟩ := R1.write1 e1 (atv_of h0) g2 (dxAll_erase n.toNat g3)
        obtain ⟨w, ew, dw⟩ := dxAll_at g3 ey
        have hl : n.toNat < vs.length := (List.getElem?_eq_some_iff.mp ew).1
        refine ⟨p0, vs, n, n.toNat, w, rfl, rfl, g2, by omega, by omega, ?_, ew, q2 O1 _ _ R2 (k1.trans k2) (k2.dat _ _ dw)⟩
        exact (ixN_seq (n := vs.length) (i := n) (j := n.toNat) (by unfold ixN; rw [if_pos n0, if_pos (by omega)])).1
      · exact q2.elim
    · exact q1.elim
  · exact q.elim
/-- xs[k] = e -/
def dSetI (i : Nat) (te ti : Wp PyData) : DTs := fun D ρ => te ρ fun d ρ1 => match ρ1[i]? with
  | some (.own _) => ti ρ1 fun k ρ2 => match k, ρ2[i]? with
    | .int n, some (.own xs) => match ixN xs.length n with
      | some m => D.nx (ρ2.set i (.own (xs.set m d)))
      | none => False
    | _, _ => False
  | _ => False
theorem dxAll_set {K : PySem.W.Frag} {Z : Addr → Prop} {H : Hp} {v : V} {d : PyData} (hd : Dx K Z H v d) : ∀ {vs : List V} {ds : List PyData} (n : Nat), DxAll K Z H vs ds → DxAll K Z H (vs.set n v) (ds.set n d)
  | _, _, _, .nil => .nil
  | _, _, 0, .cons h r => .cons hd r
  | _, _, n + 1, .cons h r => .cons h (dxAll_set hd n r)
theorem ds_setI {k : Expr} {p : Pos} (ho : PE X o (tVar i)) (he : DE X e te) (hk : DE X k ti)
    (ha : ∀ v, assign (.Subscript o k p) X.env v = (do
      let ov ← holding [v] (eval o X.env)
      let iv ← holding [v, ov] (eval k X.env)
      standAt p
      holding [v, ov, iv] (setItem ov iv v)
      release [v, ov, iv] []) := by intro _; rfl)
    (hs : swapsWithSole [.Subscript o k p] e pos.line X.env = pure false := by rfl) (hw : swappedStores [.Subscript o k p] e X.env = pure none := by rfl)
    (h1 : (assignEach [.Subscript o k p] X.env).map (·.2) = [assign (.Subscript o k p) X.env] := by rfl) : DS X (.Assign [.Subscript o k p] e pos) (dSetI i te ti) := by
  refine ⟨fun D D' ρ l q => he.mono ρ _ _ (fun d ρ1 p => ?_) q, (ps_asg he.run (pg_sub ho hk.run set_list ha) hs hw h1).weaken fun D σ H ⟨g, O, ρ, R, q⟩ => lift_go he.mono R q fun d ρ1 O1 H1 v R1 k1 dx q1 => ?_⟩
  · split at p
    · refine hk.mono ρ1 _ _ (fun n ρ2 p => ?_) p
      split at p
      · split at p
        · exact l.nx _ p
        · exact p
      · exact p.elim
    · exact p.elim
  · split at q1
    · rename_i e0
      obtain ⟨p0, vs0, h0, h00, _⟩ := R1.own e0
      refine ⟨.ref p0, h0, lift_go hk.mono R1 q1 fun n ρ2 O2 H2 u R2 k2 dn q2 => ?_⟩
      split at q2
      · rename_i n xs e1
        obtain ⟨p, vs, g1, g2, g3⟩ := R2.own e1
        rw [h0] at g1
        cases g1
        cases dx_int dn
        split at q2
        · rename_i m em
          obtain ⟨R3, k3⟩ := R2.write1 e1 (atv_of h0) g2 (dxAll_set (k2.dat _ _ dx) m g3)
          exact ⟨p0, vs, n, m, rfl, rfl, g2, by rw [dxAll_len g3]; exact em, q2 O2 _ _ R3 ((k1.trans k2).trans k3).dat⟩
        · exact q2.elim
      · exact q2.elim
    · exact q1.elim
/-! ### targets -/
abbrev Wg := PyData → En → (En → Prop) → Prop
abbrev Wgs := List PyData → En → (En → Prop) → Prop
def liftG (K : PySem.W.Frag) (is : List Nat) (t : Wg) : TG := fun v σ H Q => ∃ g O ρ d, Rep K g O ρ σ H ∧ Dx K (Zof g O) H v d ∧ t d ρ fun ρ' => ∀ σ', Rep K g O ρ' σ' H → σ'.length = σ.length → (∀ j, j ∉ is → σ'[j]? = σ[j]?) → Q σ' H
def liftGs (K : PySem.W.Frag) (is : List Nat) (t : Wgs) : TGs := fun vs σ H Q => ∃ g O ρ ds, Rep K g O ρ σ H ∧ DxAll K (Zof g O) H vs ds ∧ t ds ρ fun ρ' => ∀ σ', Rep K g O ρ' σ' H → σ'.length = σ.length → (∀ j, j ∉ is → σ'[j]? = σ[j]?) → Q σ' H
def wipeD (ρ : En) : List Nat → En
  | [] => ρ
  | v :: vs => (wipeD ρ vs).set v .un
/-- ρ' is ρ but for the names at is, which hold data -/
structure OnlyAt (is : List Nat) (ρ ρ' : En) : Prop where
  len : ρ'.length = ρ.length
  off : ∀ j, j ∉ is → ρ'[j]? = ρ[j]?
  no : ∀ j xs, j ∈ is → ρ'[j]? ≠ some (.own xs)
structure DGt (X : Cx) (tg : Expr) (is : List Nat) (t : Wg) : Prop where
  mono : ∀ d ρ P Q, (∀ ρ', P ρ' → Q ρ') → t d ρ P → t d ρ Q
  only : ∀ d ρ P, t d ρ P → t d ρ fun ρ' => P ρ' ∧ OnlyAt is ρ ρ'
  run : PG X tg (liftG X.K is t)
structure DGts (X : Cx) (tgs : List Expr) (is : List Nat) (t : Wgs) : Prop where
  mono : ∀ d ρ P Q, (∀ ρ', P ρ' → Q ρ') → t d ρ P → t d ρ Q
  only : ∀ d ρ P, t d ρ P → t d ρ fun ρ' => P ρ' ∧ OnlyAt is ρ ρ'
  run : PGs X tgs (liftGs X.K is t)
theorem _root_.L2.PG.weaken {tg : Expr} {t t' : TG} (h : PG X tg t) (w : ∀ v σ H Q, t' v σ H Q → t v σ H Q) : PG X tg t' := ⟨fun pins s σ H v u Q I r q => h.run pins s σ H v u Q I r (w v σ H Q q)⟩
theorem _root_.L2.PGs.weaken {tg : List Expr} {t t' : TGs} (h : PGs X tg t) (w : ∀ v σ H Q, t' v σ H Q → t v σ H Q) : PGs X tg t' := ⟨fun pins s σ H v u Q I r q => h.run pins s σ H v u Q I r (w v σ H Q q)⟩
def wName (i : Nat) : Wg := fun d ρ Q => Q (ρ.set i (.d d))
def wNil : Wgs := fun ds ρ Q => match ds with | [] => Q ρ | _ => False
def wCons (t : Wg) (u : Wgs) : Wgs := fun ds ρ Q => match ds with | d :: r => t d ρ fun ρ' => u r ρ' Q | _ => False
def wTup (n : Nat) (t : Wgs) : Wg := fun d ρ Q => match d with | .tuple ds => ds.length = n ∧ t ds ρ Q | _ => False
theorem dg_name {x : Str} (hN : X.N.Nodup) (hi : X.N[i]? = some x) (hx : Loc X.env.scope x) (hf : X.fn x = true ∨ X.env.scope.names.lookup x = some .local := by first | exact .inl rfl | exact .inr rfl | assumption) : DGt X (.Name x pos) [i] (wName i) :=
  ⟨fun d ρ P Q k q => k _ q, fun d ρ P q => ⟨q, List.length_set .., fun j hj => List.getElem?_set_ne (fun e => hj (by rw [e]; exact List.mem_singleton.mpr rfl)), fun j xs hj => by
      have e := List.mem_singleton.mp hj
      subst e
      rw [List.getElem?_set, if_pos rfl]
      split <;> intro z <;> cases z⟩, (pg_name hN hi hx hf).weaken fun v σ H Q ⟨g, O, ρ, d, R, dx, q⟩ => q _ (R.set dx) (List.length_set ..) fun j hj => by
    rw [List.getElem?_set_ne]
    intro e
    exact hj (by rw [e]; exact List.mem_singleton.mpr rfl)⟩
theorem dgs_nil : DGts X [] [] wNil := ⟨fun d ρ P Q k q => by
  unfold wNil at q ⊢
  split at q
  · exact k _ q
  · exact q, fun d ρ P q => by
  unfold wNil at q ⊢
  split at q
  · exact ⟨q, rfl, fun _ _ => rfl, fun j xs hj => nomatch hj⟩
  · exact q, pgs_nil.weaken fun vs σ H Q ⟨g, O, ρ, ds, R, dx, q⟩ => by
  unfold wNil at q
  split at q
  · cases dx
    exact ⟨rfl, q σ R rfl fun _ _ => rfl⟩
  · exact q.elim⟩
theorem dgs_cons {tg : Expr} {tgs : List Expr} {is js : List Nat} {t : Wg} {u : Wgs} (h1 : DGt X tg is t) (h2 : DGts X tgs js u)
    (hs : (assignEach (tg :: tgs) X.env).map (·.2) = assign tg X.env :: (assignEach tgs X.env).map (·.2) := by rfl) : DGts X (tg :: tgs) (is ++ js) (wCons t u) := ⟨fun d ρ P Q k q => by
  unfold wCons at q ⊢
  split at q
  · exact h1.mono _ _ _ _ (fun ρ' p => h2.mono _ _ _ _ k p) q
  · exact q, fun d ρ P q => by
  unfold wCons at q ⊢
  split at q
  · refine h1.mono _ _ _ _ (fun ρ' p => h2.mono _ _ _ _ (fun ρ2 p2 => ⟨p2.1, p2.2.len.trans p.2.len, fun j hj => (p2.2.off j fun m => hj (List.mem_append_right _ m)).trans (p.2.off j fun m => hj (List.mem_append_left _ m)), fun j xs hj => ?_⟩) (h2.only _ _ _ p.1)) (h1.only _ _ _ q)
    by_cases m : j ∈ js
    · exact p2.2.no j xs m
    · rw [p2.2.off j m]
      exact p.2.no j xs ((List.mem_append.mp hj).resolve_right m)
  · exact q, (pgs_cons h1.run h2.run hs).weaken fun vs σ H Q ⟨g, O, ρ, ds, R, dx, q⟩ => by
  unfold wCons at q
  split at q
  · cases dx with
    | cons hd hr =>
      exact ⟨_, _, rfl, g, O, ρ, _, R, hd, h1.mono _ _ _ _ (fun ρ' p σ' R' l' k' => ⟨g, O, ρ', _, R', hr, h2.mono _ _ _ _ (fun ρ2 p2 σ2 R2 l2 k2 => p2 σ2 R2 (l2.trans l') fun j hj => (k2 j fun m => hj (List.mem_append_right _ m)).trans (k' j fun m => hj (List.mem_append_left _ m))) p⟩) q⟩
  · exact q.elim⟩
theorem dg_tup {es : List Expr} {k : Nat} {t : Wgs} {n : Nat} {is : List Nat} (hc : X.calm = true) (h : DGts X es is t)
    (hn : (assignEach es X.env).length = n := by rfl) (hst : (assignEach es X.env).findIdx? (·.1) = none := by rfl) : DGt X (.Tuple es k pos) is (wTup n t) := ⟨fun d ρ P Q k q => by
  unfold wTup at q ⊢
  split at q
  · exact ⟨q.1, h.mono _ _ _ _ k q.2⟩
  · exact q, fun d ρ P q => by
  unfold wTup at q ⊢
  split at q
  · exact ⟨q.1, h.only _ _ _ q.2⟩
  · exact q, (pg_tup hc h.run hn hst).weaken fun v σ H Q ⟨g, O, ρ, d, R, dx, q⟩ => by
  unfold wTup at q
  split at q
  · obtain ⟨a, vs, rfl, h1, h2⟩ := dx_tup dx
    exact ⟨a, vs, rfl, h1, by rw [dxAll_len h2]; exact q.1, g, O, ρ, _, R, h2, q.2⟩
  · exact q.elim⟩
/-- target = e -/
def dAsg (te : Wp PyData) (t : Wg) : DTs := fun D ρ => te ρ fun d ρ1 => t d ρ1 D.nx
theorem ds_asg {tg : Expr} {is : List Nat} {t : Wg} (he : DE X e te) (hg : DGt X tg is t) (hs : swapsWithSole [tg] e pos.line X.env = pure false := by rfl) (hw : swappedStores [tg] e X.env = pure none := by rfl)
    (h1 : (assignEach [tg] X.env).map (·.2) = [assign tg X.env] := by rfl) : DS X (.Assign [tg] e pos) (dAsg te t) :=
  ⟨fun D D' ρ l q => he.mono ρ _ _ (fun d ρ1 p => hg.mono _ _ _ _ l.nx p) q, (ps_asg he.run hg.run hs hw h1).weaken fun D σ H ⟨g, O, ρ, R, q⟩ => lift_go he.mono R q fun d ρ1 O1 H1 v R1 k1 dx q1 =>
    ⟨g, O1, ρ1, d, R1, dx, hg.mono _ _ _ _ (fun ρ' p σ' R' l' k' => p O1 σ' H1 R' k1.dat) q1⟩⟩
end
end
end Ev

set_option exponentiation.threshold 256
/-! the layer of data, 6: what is walked, for, while, comprehensions, promises -/
namespace Ev
open PySem PySem.Spec PyProof.Rows L2
section
variable [Lo] {X : Cx}
/-! ### what is walked -/
structure WalkD (K : PySem.W.Frag) (g : Gh) (J : It) (xs : List PyData) (G : List Addr → Hp → Prop) : Prop where
  keep : ∀ O H O' H', Kps K g O H O' H' → G O H → G O' H'
  goes : ∀ O H i, G O H → i < xs.length → J.go i H
  stops : ∀ O H, G O H → J.stop xs.length H
  yields : ∀ O H i x H', G O H → i < xs.length → J.yld i H x H' → Same H H' ∧ ∃ d, xs[i]? = some d ∧ Dx K (fun a => Zof g O a ∨ H a = none) H' x d
def PJt (K : PySem.W.Frag) : Bear (List PyData) It := fun g _ O _ _ H J xs => ∃ G, G O H ∧ WalkD K g J xs G
structure DI (X : Cx) (tg iter : Expr) (t : Wp (List PyData)) : Prop where
  mono : Mono t
  run : PI X tg iter (lift X.K (PJt X.K) t)
theorem _root_.L2.PI.weaken {tg e : Expr} {t t' : TI} (h : PI X tg e t) (w : ∀ σ H Q, t' σ H Q → t σ H Q) : PI X tg e t' := ⟨fun pins s σ H Q I q => h.run pins s σ H Q I (w σ H Q q)⟩
variable {tg e a b : Expr} {te ta tb : Wp PyData} {pos p : Pos}
theorem walk_tupD {K : PySem.W.Frag} {g : Gh} {l : Addr} {vs : List V} {xs : List PyData} {O : List Addr} {H : Hp} (h : SqT K H l vs) (hd : DxAll K (Zof g O) H vs xs) :
    ∃ G : List Addr → Hp → Prop, G O H ∧ WalkD K g (Itt K l) xs G := by
  refine ⟨fun O' H' => ∃ ws, SqT K H' l ws ∧ DxAll K (Zof g O') H' ws xs, ⟨vs, h, hd⟩, fun O1 H1 O2 H2 k ⟨ws, a, b⟩ => ?_, fun O1 H1 i ⟨ws, a, b⟩ hi => ?_, fun O1 H1 ⟨ws, a, b⟩ => ⟨ws, a, by rw [dxAll_len b]; exact Nat.le_refl _⟩, fun O1 H1 i x H2 ⟨ws, a, b⟩ hi y => ?_⟩
  · obtain ⟨a', ws', e, h1, h2⟩ := dx_tup (k _ _ (.tup a b))
    cases e
    exact ⟨ws', h1, h2⟩
  · exact ⟨ws, ws[i]'(by rw [dxAll_len b]; exact hi), a, List.getElem?_eq_getElem _⟩
  · obtain ⟨rfl, y⟩ := y
    obtain ⟨d, e1, e2⟩ := dxAll_get b (y ws a)
    exact ⟨Same.refl _, d, e1, dx_monoL (fun _ z => .inl z) e2⟩
theorem walk_lstD {K : PySem.W.Frag} {g : Gh} {l : Addr} {vs : List V} {xs : List PyData} {O : List Addr} {H : Hp} (h : H l = some (.lst vs)) (z : Zof g O l) (hd : DxAll K (Zof g O) H vs xs) :
    ∃ G : List Addr → Hp → Prop, G O H ∧ WalkD K g (Itl K l) xs G := by
  refine ⟨fun O' H' => Dx K (Zof g O') H' (.ref l) (.list xs), .lst h z hd, fun O1 H1 O2 H2 k q => k _ _ q, fun O1 H1 i q hi => ?_, fun O1 H1 q => ?_, fun O1 H1 i x H2 q hi y => ?_⟩
  · obtain ⟨_, ws, e, a, _, b⟩ := dx_lst q
    cases e
    exact ⟨ws, ws[i]'(by rw [dxAll_len b]; exact hi), SqL.of a, List.getElem?_eq_getElem _⟩
  · obtain ⟨_, ws, e, a, _, b⟩ := dx_lst q
    cases e
    exact ⟨ws, SqL.of a, by rw [dxAll_len b]; exact Nat.le_refl _⟩
  · obtain ⟨_, ws, e, a, _, b⟩ := dx_lst q
    cases e
    obtain ⟨rfl, y⟩ := y
    obtain ⟨d, e1, e2⟩ := dxAll_get b (y ws (SqL.of a))
    exact ⟨Same.refl _, d, e1, dx_monoL (fun _ z => .inl z) e2⟩
def wTupI (te : Wp PyData) : Wp (List PyData) := fun ρ Q => te ρ fun d ρ1 => match d with | .tuple xs => Q xs ρ1 | _ => False
def wLstI (te : Wp PyData) : Wp (List PyData) := fun ρ Q => te ρ fun d ρ1 => match d with | .list xs => Q xs ρ1 | _ => False
theorem mono_tupI (h : Mono te) : Mono (wTupI te) := fun ρ P Q k q => h ρ _ _ (fun d ρ1 p => by
  split at p
  · exact k _ _ p
  · exact p) q
theorem mono_lstI (h : Mono te) : Mono (wLstI te) := fun ρ P Q k q => h ρ _ _ (fun d ρ1 p => by
  split at p
  · exact k _ _ p
  · exact p) q
theorem di_tup (h : DE X e te) : DI X tg e (wTupI te) :=
  ⟨mono_tupI h.mono, (pi_tup h.run).weaken fun σ H R ⟨g, O, ρ, rp, q⟩ => lift_go h.mono rp q fun d ρ1 O1 H1 v R1 k1 dx q1 => by
    split at q1
    · obtain ⟨l, vs, rfl, h1, h2⟩ := dx_tup dx
      exact ⟨l, rfl, ⟨vs, h1⟩, q1 O1 H1 _ R1 k1 (walk_tupD h1 h2)⟩
    · exact q1.elim⟩
theorem di_lst (h : DE X e te) : DI X tg e (wLstI te) :=
  ⟨mono_lstI h.mono, (pi_list h.run).weaken fun σ H R ⟨g, O, ρ, rp, q⟩ => lift_go h.mono rp q fun d ρ1 O1 H1 v R1 k1 dx q1 => by
    split at q1
    · obtain ⟨l, vs, rfl, h1, z, h2⟩ := dx_lst dx
      exact ⟨l, rfl, ⟨vs, SqL.of h1⟩, q1 O1 H1 _ R1 k1 (walk_lstD h1 z h2)⟩
    · exact q1.elim⟩
def rngD (lo : Int) (n : Nat) : List PyData := (List.range n).map fun (i : Nat) => .int (lo + (i : Int))
theorem rngD_len (lo : Int) (n : Nat) : (rngD lo n).length = n := by simp [rngD]
theorem rngD_at {lo : Int} {n i : Nat} (h : i < n) : (rngD lo n)[i]? = some (.int (lo + (i : Int))) := by
  unfold rngD
  rw [List.getElem?_map, List.getElem?_range h]
  rfl
theorem walk_rngD {K : PySem.W.Frag} {g : Gh} {lo : Int} {n : Nat} {O : List Addr} {H : Hp} : ∃ G : List Addr → Hp → Prop, G O H ∧ WalkD K g (Itr lo n) (rngD lo n) G := by
  refine ⟨fun _ _ => True, trivial, fun _ _ _ _ _ _ => trivial, fun O1 H1 i _ hi => by rw [rngD_len] at hi; exact hi, fun _ _ _ => by rw [rngD_len]; exact Nat.le_refl _, fun O1 H1 i x H2 _ hi y => ?_⟩
  rw [rngD_len] at hi
  obtain ⟨rfl, rfl⟩ := y
  exact ⟨Same.refl _, _, rngD_at hi, .int _⟩
/-- range(n) -/
def wRng1 (te : Wp PyData) : Wp (List PyData) := fun ρ Q => te ρ fun d ρ1 => match d with | .int j => -(2 ^ 62) ≤ j ∧ j < 2 ^ 62 ∧ Q (rngD 0 j.toNat) ρ1 | _ => False
def wRng2 (ta tb : Wp PyData) : Wp (List PyData) := fun ρ Q => ta ρ fun d ρ1 => tb ρ1 fun d' ρ2 => match d, d' with | .int i, .int j => (-(2 ^ 62) ≤ i ∧ i < 2 ^ 62 ∧ -(2 ^ 62) ≤ j ∧ j < 2 ^ 62) ∧ Q (rngD i (j - i).toNat) ρ2 | _, _ => False
theorem di_rng1 (hg : Gl X "range") (hm : X.mg "range" = none) (ha : DE X a ta) (hs : starEach [a] X.env = [(false, eval a X.env)] := by rfl) : DI X tg (.Call (.Name "range" p) [a] [] pos) (wRng1 ta) :=
  ⟨fun ρ P Q k q => ha.mono ρ _ _ (fun d ρ1 p => by
      split at p
      · exact ⟨p.1, p.2.1, k _ _ p.2.2⟩
      · exact p) q, (pi_range1 hg hm (pa_cons ha.run pa_nil hs) hs).weaken fun σ H R ⟨g, O, ρ, rp, q⟩ => lift_go ha.mono rp q fun d ρ1 O1 H1 v R1 k1 dx q1 => by
    split at q1
    · cases dx_int dx
      exact ⟨_, rfl, q1.1, q1.2.1, q1.2.2 O1 H1 _ R1 k1 walk_rngD⟩
    · exact q1.elim⟩
theorem di_rng2 (hg : Gl X "range") (hm : X.mg "range" = none) (ha : DE X a ta) (hb : DE X b tb) (hs : starEach [a, b] X.env = [(false, eval a X.env), (false, eval b X.env)] := by rfl) (hs1 : starEach (a :: [b]) X.env = (false, eval a X.env) :: starEach [b] X.env := by rfl)
    (hs2 : starEach [b] X.env = [(false, eval b X.env)] := by rfl) : DI X tg (.Call (.Name "range" p) [a, b] [] pos) (wRng2 ta tb) :=
  ⟨fun ρ P Q k q => ha.mono ρ _ _ (fun d ρ1 p => hb.mono ρ1 _ _ (fun d' ρ2 p => by
      split at p
      · exact ⟨p.1, k _ _ p.2⟩
      · exact p) p) q, (pi_range2 hg hm (pa_cons ha.run (pa_cons hb.run pa_nil hs2) hs1) hs hs2).weaken fun σ H R ⟨g, O, ρ, rp, q⟩ => lift_go ha.mono rp q fun d ρ1 O1 H1 v R1 k1 dx q1 => lift_go hb.mono R1 q1 fun d' ρ2 O2 H2 w R2 k2 dy q2 => by
    split at q2
    · cases dx_int dx
      cases dx_int dy
      exact ⟨_, _, rfl, q2.1, q2.2 O2 H2 _ R2 (k1.trans k2) walk_rngD⟩
    · exact q2.elim⟩
/-- pairs of place and item -/
def enumD (xs : List PyData) : List PyData := xs.mapIdx fun (i : Nat) d => .tuple [.int (i : Int), d]
theorem enumD_len (xs : List PyData) : (enumD xs).length = xs.length := by simp [enumD]
theorem enumD_at {xs : List PyData} {i : Nat} {d : PyData} (h : xs[i]? = some d) : (enumD xs)[i]? = some (.tuple [.int (i : Int), d]) := by
  unfold enumD
  rw [List.getElem?_mapIdx, h]
  rfl
theorem yield_pair {K : PySem.W.Frag} {g : Gh} {O : List Addr} {H H2 : Hp} {t : Addr} {x : V} {i : Nat} {d : PyData} (ht : H t = none) (eH : H2 = upd H t (.tup [.int (i : Nat), x])) (hd : Dx K (Zof g O) H x d) :
    Same H H2 ∧ Dx K (fun a => Zof g O a ∨ H a = none) H2 (.ref t) (.tuple [.int (i : Int), d]) := by
  subst eH
  have sm : Same H (upd H t (.tup [.int (i : Nat), x])) := same_new ht
  exact ⟨sm, .tup (SqT.of upd_same) (.cons (.int _) (.cons (dx_monoL (fun _ z => .inl z) (dx_same sm hd)) .nil))⟩
theorem walk_enTD {K : PySem.W.Frag} {g : Gh} {l : Addr} {vs : List V} {xs : List PyData} {O : List Addr} {H : Hp} (h : SqT K H l vs) (hd : DxAll K (Zof g O) H vs xs) :
    ∃ G : List Addr → Hp → Prop, G O H ∧ WalkD K g (IteT K l) (enumD xs) G := by
  refine ⟨fun O' H' => ∃ ws, SqT K H' l ws ∧ DxAll K (Zof g O') H' ws xs, ⟨vs, h, hd⟩, fun O1 H1 O2 H2 k ⟨ws, a, b⟩ => ?_, fun O1 H1 i ⟨ws, a, b⟩ hi => ?_, fun O1 H1 ⟨ws, a, b⟩ => ⟨ws, a, by rw [enumD_len, dxAll_len b]; exact Nat.le_refl _⟩, fun O1 H1 i x H2 ⟨ws, a, b⟩ hi y => ?_⟩
  · obtain ⟨a', ws', e, h1, h2⟩ := dx_tup (k _ _ (.tup a b))
    cases e
    exact ⟨ws', h1, h2⟩
  · rw [enumD_len] at hi
    exact ⟨ws, ws[i]'(by rw [dxAll_len b]; exact hi), a, List.getElem?_eq_getElem _⟩
  · obtain ⟨t, w, rfl, ht, eH, y⟩ := y
    obtain ⟨d, e1, e2⟩ := dxAll_get b (y ws a)
    obtain ⟨s1, s2⟩ := yield_pair ht eH e2
    exact ⟨s1, _, enumD_at e1, s2⟩
theorem walk_enLD {K : PySem.W.Frag} {g : Gh} {l : Addr} {vs : List V} {xs : List PyData} {O : List Addr} {H : Hp} (h : H l = some (.lst vs)) (z : Zof g O l) (hd : DxAll K (Zof g O) H vs xs) :
    ∃ G : List Addr → Hp → Prop, G O H ∧ WalkD K g (Ite K l) (enumD xs) G := by
  refine ⟨fun O' H' => Dx K (Zof g O') H' (.ref l) (.list xs), .lst h z hd, fun O1 H1 O2 H2 k q => k _ _ q, fun O1 H1 i q hi => ?_, fun O1 H1 q => ?_, fun O1 H1 i x H2 q hi y => ?_⟩
  · obtain ⟨_, ws, e, a, _, b⟩ := dx_lst q
    cases e
    rw [enumD_len, ← dxAll_len b] at hi
    exact walk_enum.goes i H1 hi (SqL.of a)
  · obtain ⟨_, ws, e, a, _, b⟩ := dx_lst q
    cases e
    rw [enumD_len, ← dxAll_len b]
    exact walk_enum.stops H1 (SqL.of a)
  · obtain ⟨_, ws, e, a, _, b⟩ := dx_lst q
    cases e
    rw [enumD_len, ← dxAll_len b] at hi
    obtain ⟨t, x1, w, rfl, ht, eH, h1, h2⟩ := walk_enum.yields i H1 x H2 hi (SqL.of a) y
    cases h1
    obtain ⟨d, e1, e2⟩ := dxAll_get b h2
    obtain ⟨s1, s2⟩ := yield_pair ht eH e2
    exact ⟨s1, _, enumD_at e1, s2⟩
def wEnT (te : Wp PyData) : Wp (List PyData) := fun ρ Q => te ρ fun d ρ1 => match d with | .tuple xs => Q (enumD xs) ρ1 | _ => False
def wEnL (te : Wp PyData) : Wp (List PyData) := fun ρ Q => te ρ fun d ρ1 => match d with | .list xs => Q (enumD xs) ρ1 | _ => False
theorem di_enT {elts : List Expr} {kk : Nat} {tpos : Pos} (hg : Gl X "enumerate") (hm : X.mg "enumerate" = none) (ha : DE X a ta) (hs : starEach [a] X.env = [(false, eval a X.env)] := by rfl) :
    DI X (.Tuple elts kk tpos) (.Call (.Name "enumerate" p) [a] [] pos) (wEnT ta) :=
  ⟨fun ρ P Q k q => ha.mono ρ _ _ (fun d ρ1 p => by
      split at p
      · exact k _ _ p
      · exact p) q, (pi_enumT hg hm (pa_cons ha.run pa_nil hs) hs).weaken fun σ H R ⟨g, O, ρ, rp, q⟩ => lift_go ha.mono rp q fun d ρ1 O1 H1 v R1 k1 dx q1 => by
    split at q1
    · obtain ⟨l, vs, rfl, h1, h2⟩ := dx_tup dx
      exact ⟨l, vs, rfl, h1, q1 O1 H1 _ R1 k1 (walk_enTD h1 h2)⟩
    · exact q1.elim⟩
theorem di_enL {elts : List Expr} {kk : Nat} {tpos : Pos} (hg : Gl X "enumerate") (hm : X.mg "enumerate" = none) (ha : DE X a ta) (hs : starEach [a] X.env = [(false, eval a X.env)] := by rfl) :
    DI X (.Tuple elts kk tpos) (.Call (.Name "enumerate" p) [a] [] pos) (wEnL ta) :=
  ⟨fun ρ P Q k q => ha.mono ρ _ _ (fun d ρ1 p => by
      split at p
      · exact k _ _ p
      · exact p) q, (pi_enum hg hm (pa_cons ha.run pa_nil hs) hs).weaken fun σ H R ⟨g, O, ρ, rp, q⟩ => lift_go ha.mono rp q fun d ρ1 O1 H1 v R1 k1 dx q1 => by
    split at q1
    · obtain ⟨l, vs, rfl, h1, z, h2⟩ := dx_lst dx
      exact ⟨l, vs, rfl, SqL.of h1, q1 O1 H1 _ R1 k1 (walk_enLD h1 z h2)⟩
    · exact q1.elim⟩
/-! ### for -/
def forD (gt : Wg) (b : DTs) : List PyData → DTs
  | [], D, ρ => D.nx ρ
  | x :: xs, D, ρ => gt x ρ fun ρ1 => b ⟨forD gt b xs D, D.rt, D.nx, forD gt b xs D⟩ ρ1
theorem forD_mono {gt : Wg} {b : DTs} (m : ∀ d ρ P Q, (∀ ρ', P ρ' → Q ρ') → gt d ρ P → gt d ρ Q) (mb : MonoS b) : ∀ xs, MonoS (forD gt b xs)
  | [], D, D', ρ, l, q => l.nx _ q
  | x :: xs, D, D', ρ, l, q => m _ _ _ _ (fun ρ1 p => mb ⟨forD gt b xs D, D.rt, D.nx, forD gt b xs D⟩ _ _ ⟨fun ρ' => forD_mono m mb xs D D' ρ' l, l.rt, l.nx, fun ρ' => forD_mono m mb xs D D' ρ' l⟩ p) q
def dFor (t : Wp (List PyData)) (gt : Wg) (b : DTs) : DTs := fun D ρ => t ρ fun xs ρ1 => forD gt b xs D ρ1
theorem ds_for {iter : Expr} {body : List Stmt} {t : Wp (List PyData)} {is : List Nat} {gt : Wg} {tb : DTs} (hp : PassesOwn (model X.prog X.w) X.A X.env X.xe) (hc : X.calm = true) (hi : DI X tg iter t) (hg : DGt X tg is gt) (hb : DSs X body tb)
    (hs : ∀ x, foldedSetIterable iter X.env x = pure x := by intro _; rfl) : DS X (.For tg iter body [] pos) (dFor t gt tb) := by
  refine ⟨fun D D' ρ l q => hi.mono ρ _ _ (fun xs ρ1 p => forD_mono hg.mono hb.mono xs D D' ρ1 l p) q, (ps_for hp hc hi.run hg.run hb.run hs).weaken fun D σ H ⟨g, O, ρ, R, q⟩ => lift_go hi.mono R q fun xs ρ1 O1 H1 J R1 k1 hJ q1 => ?_⟩
  obtain ⟨G, hG, w⟩ := hJ
  refine ⟨fun i m σ' H' => m = xs.length - i ∧ i ≤ xs.length ∧ ∃ O2 ρ2, Rep X.K g O2 ρ2 σ' H' ∧ Kps X.K g O H O2 H' ∧ G O2 H' ∧ forD gt tb (xs.drop i) (ends X.K g D O H) ρ2, ⟨xs.length, by simp, Nat.zero_le _, O1, ρ1, R1, k1.dat, hG, q1⟩, ?_⟩
  rintro i m σ2 H2 ⟨rfl, hi2, O2, ρ2, R2, k2, hG2, q2⟩
  by_cases hlt : i < xs.length
  · refine .inr ⟨w.goes O2 H2 i hG2 hlt, fun σ' H' => ∃ O3 ρ3, Rep X.K g O3 ρ3 σ' H' ∧ Kps X.K g O H O3 H' ∧ G O3 H' ∧ forD gt tb (xs.drop (i + 1)) (ends X.K g D O H) ρ3, ?_, ?_⟩
    · rintro σ' H' ⟨O3, ρ3, R3, k3, hG3, q3⟩
      exact ⟨xs.length - (i + 1), by omega, rfl, hlt, O3, ρ3, R3, k3, hG3, q3⟩
    · intro x H3 y
      obtain ⟨sm, d, ed, dx⟩ := w.yields O2 H2 i x H3 hG2 hlt y
      obtain ⟨R3, k3, dx3⟩ := R2.res (Gr.of_same sm) dx
      have e : xs.drop i = d :: xs.drop (i + 1) := by
        rw [List.drop_eq_getElem_cons hlt]
        congr 1
        rw [List.getElem?_eq_getElem hlt] at ed
        exact Option.some.inj ed
      rw [e] at q2
      have kk := k2.trans k3
      refine ⟨g, O2, ρ2, d, R3, dx3, hg.mono _ _ _ _ (fun ρ' pq σ' R' l' _ => ⟨g, O2, ρ', R', hb.mono _ _ _ ?_ pq⟩) q2⟩
      have gg := w.keep _ _ _ _ k3 hG2
      exact ⟨fun ρ4 p4 O4 σ4 H4 R4 k4 => ⟨O4, ρ4, R4, kk.trans k4, w.keep _ _ _ _ k4 gg, p4⟩, fun d q => q, fun ρ4 p4 O4 σ4 H4 R4 k4 => p4 O4 σ4 H4 R4 (kk.trans k4), fun ρ4 p4 O4 σ4 H4 R4 k4 => ⟨O4, ρ4, R4, kk.trans k4, w.keep _ _ _ _ k4 gg, p4⟩⟩
  · have e : i = xs.length := by omega
    subst e
    rw [List.drop_length] at q2
    exact .inl ⟨w.stops O2 H2 hG2, q2 O2 σ2 H2 R2 k2⟩
/-! ### while -/
def dWhile (c : Wp Bool) (b : DTs) : DTs := fun D ρ => ∃ W : Nat → En → Prop, (∃ m, W m ρ) ∧ ∀ m ρ, W m ρ → c ρ fun k ρ1 => if k = true then b ⟨fun ρ2 => ∃ m', m' < m ∧ W m' ρ2, D.rt, D.nx, fun ρ2 => ∃ m', m' < m ∧ W m' ρ2⟩ ρ1 else D.nx ρ1
theorem ds_while {c : Expr} {body : List Stmt} {tc : Wp Bool} {tb : DTs} (hp : PassesOwn (model X.prog X.w) X.A X.env X.xe) (hc : DT X c tc) (hb : DSs X body tb) : DS X (.While c body [] pos) (dWhile tc tb) := by
  refine ⟨fun D D' ρ l ⟨W, w0, turn⟩ => ⟨W, w0, fun m ρ w => hc.mono ρ _ _ (fun k ρ1 p => ?_) (turn m ρ w)⟩, (ps_while hp hc.run hb.run).weaken fun D σ H ⟨g, O, ρ, R, W, ⟨m0, w0⟩, turn⟩ => ?_⟩
  · cases k with
    | true => exact hb.mono ⟨fun ρ2 => ∃ m', m' < m ∧ W m' ρ2, D.rt, D.nx, fun ρ2 => ∃ m', m' < m ∧ W m' ρ2⟩ _ _ ⟨fun ρ' p => p, l.rt, l.nx, fun ρ' p => p⟩ p
    | false => exact l.nx _ p
  · refine ⟨fun m σ' H' => ∃ O' ρ', Rep X.K g O' ρ' σ' H' ∧ Kps X.K g O H O' H' ∧ W m ρ', ⟨m0, O, ρ, R, Kps.refl, w0⟩, fun m σ' H' ⟨O1, ρ1, R1, k1, w1⟩ => lift_go hc.mono R1 (turn m ρ1 w1) fun k ρ2 O2 H2 b R2 k2 e q2 => ?_⟩
    subst e
    cases b with
    | true =>
      rw [if_pos rfl] at q2 ⊢
      refine ⟨fun σ3 H3 => ∃ m', m' < m ∧ ∃ O' ρ', Rep X.K g O' ρ' σ3 H3 ∧ Kps X.K g O H O' H3 ∧ W m' ρ', fun σ3 H3 ⟨m', hm, z⟩ => ⟨m', hm, z⟩, g, O2, ρ2, R2, hb.mono _ _ _ ?_ q2⟩
      have kk := k1.trans k2.dat
      exact ⟨fun ρ3 ⟨m', hm, w3⟩ O3 σ3 H3 R3 k3 => ⟨m', hm, O3, ρ3, R3, kk.trans k3, w3⟩, fun d q => q, fun ρ3 p O3 σ3 H3 R3 k3 => p O3 σ3 H3 R3 (kk.trans k3), fun ρ3 ⟨m', hm, w3⟩ O3 σ3 H3 R3 k3 => ⟨m', hm, O3, ρ3, R3, kk.trans k3, w3⟩⟩
    | false =>
      rw [if_neg Bool.false_ne_true] at q2 ⊢
      exact q2 O2 σ' H2 R2 (k1.trans k2.dat)
end
end Ev

set_option exponentiation.threshold 256
/-! the layer of data, 7: comprehensions, promises -/
namespace Ev
open PySem PySem.Spec PyProof.Rows L2
section
variable [Lo] {X : Cx}
section
variable {K : PySem.W.Frag} {g : Gh} {O : List Addr} {ρ ρ' : En} {σ σ' : L2.St} {H : Hp}
theorem wipeD_len : ∀ (ρ : En) (vs : List Nat), (wipeD ρ vs).length = ρ.length
  | ρ, [] => rfl
  | ρ, v :: vs => by unfold wipeD; rw [List.length_set, wipeD_len ρ vs]
theorem wipeD_off {j : Nat} : ∀ {vs : List Nat}, j ∉ vs → (wipeD ρ vs)[j]? = ρ[j]?
  | [], _ => rfl
  | v :: vs, h => by
    unfold wipeD
    rw [List.getElem?_set_ne (fun e => h (by rw [e]; exact List.mem_cons_self ..)), wipeD_off fun m => h (List.mem_cons_of_mem _ m)]
theorem wipeD_on {j : Nat} : ∀ {vs : List Nat}, j ∈ vs → j < ρ.length → (wipeD ρ vs)[j]? = some .un
  | v :: vs, h, l => by
    unfold wipeD
    by_cases e : v = j
    · subst e
      rw [List.getElem?_set_self (by rw [wipeD_len]; exact l)]
    · rw [List.getElem?_set_ne e]
      exact wipeD_on ((List.mem_cons.mp h).resolve_left fun z => e z.symm) l
theorem wipe_off {j : Nat} : ∀ {vs : List Nat}, j ∉ vs → (wipe σ vs)[j]? = σ[j]?
  | [], _ => rfl
  | v :: vs, h => by
    unfold wipe
    rw [List.getElem?_set_ne (fun e => h (by rw [e]; exact List.mem_cons_self ..)), wipe_off fun m => h (List.mem_cons_of_mem _ m)]
theorem wipe_on {j : Nat} : ∀ {vs : List Nat}, j ∈ vs → j < σ.length → (wipe σ vs)[j]? = some none
  | v :: vs, h, l => by
    unfold wipe
    by_cases e : v = j
    · subst e
      rw [List.getElem?_set_self (by rw [wipe_length]; exact l)]
    · rw [List.getElem?_set_ne e]
      exact wipe_on ((List.mem_cons.mp h).resolve_left fun z => e z.symm) l
theorem wipe_eq {vs : List Nat} (l : σ'.length = σ.length) (h : ∀ j, j ∉ vs → σ'[j]? = σ[j]?) : wipe σ' vs = wipe σ vs := by
  refine List.ext_getElem? fun j => ?_
  by_cases m : j ∈ vs
  · by_cases b : j < σ.length
    · rw [wipe_on m b, wipe_on m (by rw [l]; exact b)]
    · rw [List.getElem?_eq_none (by rw [wipe_length]; omega), List.getElem?_eq_none (by rw [wipe_length]; omega)]
  · rw [wipe_off m, wipe_off m, h j m]
theorem wipe_idem {vs : List Nat} : wipe (wipe σ vs) vs = wipe σ vs := wipe_eq (wipe_length ..) fun j m => wipe_off m
/-- what is forgotten may be anything -/
theorem Rep.un (R : Rep K g O ρ σ H) {vs : List Nat} (l : σ'.length = σ.length) (h : ∀ j, j ∉ vs → σ'[j]? = σ[j]?) (lr : ρ'.length = ρ.length) (h1 : ∀ j, j ∉ vs → ρ'[j]? = ρ[j]?) (h2 : ∀ j s, j ∈ vs → ρ'[j]? = some s → s = .un) : Rep K g O ρ' σ' H := by
  have ow : ∀ j xs, ρ'[j]? = some (.own xs) → j ∉ vs ∧ ρ[j]? = some (.own xs) := fun j xs e => by
    by_cases m : j ∈ vs
    · cases h2 j _ m e
    · exact ⟨m, (h1 j m).symm.trans e⟩
  have at' : ∀ j, j ∉ vs → atv σ' j = atv σ j := fun j m => by
    unfold atv
    rw [h j m]
  refine ⟨lr.trans (R.len.trans l.symm), fun j s e => ?_, fun i j xs ys p e1 e2 a1 a2 => ?_, R.live, R.base, R.loom⟩
  · by_cases m : j ∈ vs
    · rw [h2 j s m e]
      exact trivial
    · rw [at' j m]
      exact R.at_ j s ((h1 j m).symm.trans e)
  · obtain ⟨m1, q1⟩ := ow i xs e1
    obtain ⟨m2, q2⟩ := ow j ys e2
    rw [at' i m1] at a1
    rw [at' j m2] at a2
    exact R.uniq i j xs ys p q1 q2 a1 a2
theorem wipeD_un {vs : List Nat} : ∀ j s, j ∈ vs → (wipeD ρ vs)[j]? = some s → s = .un := fun j s m e => by
  have l : j < ρ.length := by
    rw [← wipeD_len ρ vs]
    exact (List.getElem?_eq_some_iff.mp e).1
  rw [wipeD_on m l] at e
  exact (Option.some.inj e).symm
/-- a pending list is changed -/
theorem Rep.writeP (R : Rep K g O ρ σ H) {p : Addr} {vs ws : List V} (m : p ∈ O) (n : Ev.New g ρ σ p) (e1 : H p = some (.lst vs)) : Rep K g O ρ σ (upd H p (.lst ws)) ∧ Kps K g O H O (upd H p (.lst ws)) := by
  have tupK : ∀ a (zs : List V), SqT K H a zs → SqT K (upd H p (.lst ws)) a zs := fun a zs q => by
    rcases q with (q | ⟨o, q⟩) | q
    · exact .inl (.inl (by rw [upd_ne (ne_of q e1 (by intro z; cases z))]; exact q))
    · exact .inl (.inr ⟨o, by rw [upd_ne (ne_of q e1 (by intro z; cases z))]; exact q⟩)
    · exact .inr q
  have zK : ∀ a o, Zof g O a → H a = some o → (upd H p (.lst ws)) a = some o := fun a o z q => by
    rw [upd_ne (fun (w : a = p) => z.2 (by rw [w]; exact m))]
    exact q
  have up : ∀ {v d}, Dx K (Zof g O) H v d → Dx K (Zof g O) (upd H p (.lst ws)) v d := fun h => dx_keep tupK zK h
  have ups : ∀ {v d}, DxAll K (Zof g O) H v d → DxAll K (Zof g O) (upd H p (.lst ws)) v d := fun h => dxAll_keep tupK zK h
  have gr : Gr g.lo g.H0 (upd H p (.lst ws)) := by
    have b := R.base
    have h6 := n.nl
    revert b h6
    cases g.lo with
    | none =>
      intro b h6 a o q
      rw [upd_ne (ne_of_none q n.h0)]
      exact b a o q
    | some q =>
      intro b h6
      refine ⟨fun a o n1 n2 q => ?_, fun hl => ?_⟩
      · rw [upd_ne (ne_of_none q n.h0)]
        exact b.1 a o n1 n2 q
      · obtain ⟨fs, s, t, l1, l2, l3⟩ := b.2 hl
        exact ⟨fs, s, t, by rw [upd_ne (h6 _ _ rfl).1.symm]; exact l1, by rw [upd_ne (h6 _ _ rfl).2.symm]; exact l2, l3⟩
  refine ⟨⟨R.len, fun j s ej => ?_, R.uniq, fun q hq z => ?_, gr, fun L F el => ?_⟩, fun _ _ => up⟩
  · have q := R.at_ j s ej
    cases s with
    | un => exact trivial
    | d x =>
      obtain ⟨w, b1, b2⟩ := q
      exact ⟨w, b1, up b2⟩
    | own zs =>
      obtain ⟨r, us, b1, b2, b3, b4, b5, b6⟩ := q
      have nr : r ≠ p := fun w => n.sl j zs ej (w ▸ b1)
      exact ⟨r, us, b1, b2, b3, by rw [upd_ne nr]; exact b4, ups b5, b6⟩
    | lm => exact q
  · by_cases hq2 : q = p
    · subst hq2
      rw [upd_same] at z
      cases z
    · rw [upd_ne hq2] at z
      exact R.live q hq z
  · obtain ⟨a, b, c⟩ := R.loom L F el
    obtain ⟨x, y⟩ := n.nl L F el
    obtain ⟨fs, s, t, l1, l2, l3⟩ := a
    exact ⟨⟨fs, s, t, by rw [upd_ne x.symm]; exact l1, by rw [upd_ne y.symm]; exact l2, l3⟩, b, c⟩
end
/-! ### comprehensions -/
structure DTt (X : Cx) (ifs : List Expr) (t : Wp Bool) : Prop where
  mono : Mono t
  run : PTs X ifs (lift X.K PB t)
theorem _root_.L2.PTs.weaken {ifs : List Expr} {t t' : TT} (h : PTs X ifs t) (w : ∀ σ H Q, t' σ H Q → t σ H Q) : PTs X ifs t' := ⟨fun pins s σ H Q I q => h.run pins s σ H Q I (w σ H Q q)⟩
def dYes : Wp Bool := fun ρ Q => Q true ρ
theorem dts_nil : DTt X [] dYes := ⟨fun ρ P Q k q => k _ _ q, pts_nil.weaken fun σ H Q ⟨g, O, ρ, R, q⟩ => q O H true R Kp1.refl rfl⟩
theorem dts_one {c : Expr} {t : Wp Bool} (h : DT X c t) : DTt X [c] t := ⟨h.mono, pts_one h.run⟩
/-- item by item: acc holds what is made so far -/
def lcD (gt : Wg) (tt : Wp Bool) (te : Wp PyData) (ρw : En) : List PyData → List PyData → (List PyData → Prop) → Prop
  | [], acc, Q => Q acc
  | x :: xs, acc, Q => gt x ρw fun ρ2 => tt ρ2 fun b ρ3 => ρ3 = ρ2 ∧
    if b = true then te ρ2 fun d ρ4 => ρ4 = ρ2 ∧ acc.length < sizeLine ∧ lcD gt tt te ρw xs (acc ++ [d]) Q else lcD gt tt te ρw xs acc Q
def dLc (t : Wp (List PyData)) (is : List Nat) (gt : Wg) (tt : Wp Bool) (te : Wp PyData) : Wp (List PyData) := fun ρ Q => t ρ fun xs ρ1 => lcD gt tt te (wipeD ρ1 is) xs [] fun acc => Q acc (wipeD ρ1 is)
theorem lcD_mono {gt : Wg} {tt : Wp Bool} {te : Wp PyData} {ρw : En} (mg : ∀ d ρ P Q, (∀ ρ', P ρ' → Q ρ') → gt d ρ P → gt d ρ Q) (mt : Mono tt) (me : Mono te) : ∀ (xs acc : List PyData) (P Q : List PyData → Prop), (∀ a, P a → Q a) → lcD gt tt te ρw xs acc P → lcD gt tt te ρw xs acc Q
  | [], acc, P, Q, k, q => k _ q
  | x :: xs, acc, P, Q, k, q => mg _ _ _ _ (fun ρ2 p => mt _ _ _ (fun b ρ3 p => ⟨p.1, by
      have p2 := p.2
      cases b with
      | true =>
        rw [if_pos rfl] at p2 ⊢
        exact me _ _ _ (fun d ρ4 p => ⟨p.1, p.2.1, lcD_mono mg mt me xs _ P Q k p.2.2⟩) p2
      | false =>
        rw [if_neg Bool.false_ne_true] at p2 ⊢
        exact lcD_mono mg mt me xs _ P Q k p2⟩) p) q
theorem lc_go {t : Wp (List PyData)} {is : List Nat} {gt : Wg} {tt : Wp Bool} {te : Wp PyData} {K : PySem.W.Frag} {σ : L2.St} {H : Hp} {Q : VK} {g : Gh} {O : List Addr} {ρ : En}
    (mg : ∀ d ρ P Q, (∀ ρ', P ρ' → Q ρ') → gt d ρ P → gt d ρ Q) (og : ∀ d ρ P, gt d ρ P → gt d ρ fun ρ' => P ρ' ∧ OnlyAt is ρ ρ') (mt : Mono tt) (me : Mono te) (mi : Mono t)
    (R : Rep K g O ρ σ H) (q : dLc t is gt tt te ρ fun acc ρ' => ∀ O' H' b, Rep K g O' ρ' σ H' → Kp1 K g O ρ σ H O' ρ' H' → PF K g O O' ρ' σ H' b acc → Q b H') :
    tLc (lift K (PJt K) t) (liftG K is gt) (lift K PB tt) (lift K (PD K) te) is σ H Q := by
  refine lift_go mi R q fun xs ρ1 O1 H1 J R1 k1 hJ q1 D hD => ?_
  obtain ⟨G, hG, w⟩ := hJ
  obtain ⟨R2, nD, k2⟩ := R1.fresh1 hD (.lst [])
  have fO1 : D ∉ O1 := fun m => R1.live D m hD
  have fO : D ∉ O := fun m => fO1 (k1.sub _ m)
  have sub1 : ∀ (j : Nat) (xs' : List PyData), (wipeD ρ1 is)[j]? = some (SV.own xs') → ρ1[j]? = some (SV.own xs') := fun j xs' e => by
    by_cases m : j ∈ is
    · cases wipeD_un j _ m e
    · rw [wipeD_off m] at e
      exact e
  have newW : ∀ p, Ev.New g ρ1 σ p → Ev.New g (wipeD ρ1 is) σ p := fun p n => ⟨n.h0, fun j ys e => n.sl j ys (sub1 j ys e), n.nl⟩
  have Rw : Rep K g (D :: O1) (wipeD ρ1 is) σ (upd H1 D (.lst [])) := R2.un rfl (fun _ _ => rfl) (wipeD_len ..) (fun j m => wipeD_off m) wipeD_un
  have kw : Kp1 K g O ρ σ H (D :: O1) (wipeD ρ1 is) (upd H1 D (.lst [])) := ⟨(k1.trans k2).sub, (k1.trans k2).dat, fun p vs m n e => by
    obtain ⟨a, b⟩ := (k1.trans k2).pnd p vs m n e
    exact ⟨newW p a, b⟩⟩
  refine ⟨fun i m H' => m = xs.length - i ∧ i ≤ xs.length ∧ ∃ O2 acc ws, Rep K g (D :: O2) (wipeD ρ1 is) σ H' ∧ Ev.New g (wipeD ρ1 is) σ D ∧ D ∉ O2 ∧ H' D = some (.lst ws) ∧ DxAll K (Zof g (D :: O2)) H' ws acc ∧
    Kp1 K g O ρ σ H (D :: O2) (wipeD ρ1 is) H' ∧ G (D :: O2) H' ∧
    lcD gt tt te (wipeD ρ1 is) (xs.drop i) acc fun acc => ∀ O' H' b, Rep K g O' (wipeD ρ1 is) σ H' → Kp1 K g O ρ σ H O' (wipeD ρ1 is) H' → PF K g O O' (wipeD ρ1 is) σ H' b acc → Q b H',
    ⟨xs.length, by simp, Nat.zero_le _, O1, [], [], Rw, newW D nD, fO1, upd_same, .nil, kw, w.keep _ _ _ _ k2.dat hG, q1⟩, ?_⟩
  rintro i m H2 ⟨rfl, hi2, O2, acc, ws, R2, n2, f2, e2, d2, k2', hG2, q2⟩
  by_cases hlt : i < xs.length
  · refine .inr ⟨w.goes _ H2 i hG2 hlt, fun H' => ∃ O3 acc ws, Rep K g (D :: O3) (wipeD ρ1 is) σ H' ∧ Ev.New g (wipeD ρ1 is) σ D ∧ D ∉ O3 ∧ H' D = some (.lst ws) ∧ DxAll K (Zof g (D :: O3)) H' ws acc ∧
      Kp1 K g O ρ σ H (D :: O3) (wipeD ρ1 is) H' ∧ G (D :: O3) H' ∧
      lcD gt tt te (wipeD ρ1 is) (xs.drop (i + 1)) acc fun acc => ∀ O' H' b, Rep K g O' (wipeD ρ1 is) σ H' → Kp1 K g O ρ σ H O' (wipeD ρ1 is) H' → PF K g O O' (wipeD ρ1 is) σ H' b acc → Q b H', ?_, ?_⟩
    · rintro H' ⟨O3, acc3, ws3, z⟩
      exact ⟨xs.length - (i + 1), by omega, rfl, hlt, O3, acc3, ws3, z⟩
    · intro x H3 y
      obtain ⟨sm, d, ed, dx⟩ := w.yields _ H2 i x H3 hG2 hlt y
      obtain ⟨R3, k3, dx3⟩ := R2.res (Gr.of_same sm) dx
      have k3' := R2.kp1 sm
      have e : xs.drop i = d :: xs.drop (i + 1) := by
        rw [List.drop_eq_getElem_cons hlt]
        congr 1
        rw [List.getElem?_eq_getElem hlt] at ed
        exact Option.some.inj ed
      rw [e] at q2
      have RB : Rep K g (D :: O2) (wipeD ρ1 is) (wipe σ is) H3 := R3.un (wipe_length ..) (fun j m => wipe_off m) rfl (fun _ _ => rfl) wipeD_un
      refine ⟨g, D :: O2, wipeD ρ1 is, d, RB, dx3, mg _ _ _ _ (fun ρ2 pq σ2 R4 l4 off4 => ?_) (og _ _ _ q2)⟩
      obtain ⟨pq, on⟩ := pq
      have hw : wipe σ2 is = wipe σ is := (wipe_eq l4 off4).trans wipe_idem
      refine ⟨hw, lift_go mt R4 pq fun b ρ3 O5 H5 b' R5 k5 eb pq2 => ?_⟩
      subst eb
      obtain ⟨rfl, pq2⟩ := pq2
      -- what is back behind a turn
      have s2 : ∀ j, j ∉ is → σ2[j]? = σ[j]? := fun j m => (off4 j m).trans (wipe_off m)
      have newB : ∀ p, Ev.New g (wipeD ρ1 is) σ p → Ev.New g ρ3 σ2 p := fun p n => ⟨n.h0, fun j ys ej => by
        by_cases m : j ∈ is
        · exact absurd ej (on.no j ys m)
        · unfold atv
          rw [s2 j m]
          rw [on.off j m] at ej
          exact n.sl j ys ej, n.nl⟩
      have newA : ∀ p, Ev.New g ρ3 σ2 p → Ev.New g (wipeD ρ1 is) σ p := fun p n => ⟨n.h0, fun j ys ej => by
        by_cases m : j ∈ is
        · cases wipeD_un j _ m ej
        · have := n.sl j ys ((on.off j m).trans ej)
          unfold atv at this
          rw [s2 j m] at this
          exact this, n.nl⟩
      have back : ∀ {O6 : List Addr} {H6 : Hp}, Rep K g O6 ρ3 σ2 H6 → Kp1 K g (D :: O2) ρ3 σ2 H3 O6 ρ3 H6 → Rep K g O6 (wipeD ρ1 is) σ H6 ∧ Kp1 K g (D :: O2) (wipeD ρ1 is) σ H3 O6 (wipeD ρ1 is) H6 := fun {O6 H6} R6 k6 =>
        ⟨R6.un (vs := is) (by rw [← wipe_length σ is]; exact l4.symm) (fun j m => (s2 j m).symm) on.len.symm (fun j m => (on.off j m).symm) wipeD_un, k6.sub, k6.dat, fun p vs m n ep => by
          obtain ⟨a, b⟩ := k6.pnd p vs m (newB p n) ep
          exact ⟨newA p a, b⟩⟩
      have norm : ∀ {O6 : List Addr} {H6 : Hp} {ys : List V} {as : List PyData}, D ∈ O6 → Rep K g O6 (wipeD ρ1 is) σ H6 → Kp1 K g O ρ σ H O6 (wipeD ρ1 is) H6 → Ev.New g (wipeD ρ1 is) σ D → H6 D = some (.lst ys) → DxAll K (Zof g O6) H6 ys as → G O6 H6 →
          ∃ O7, Rep K g (D :: O7) (wipeD ρ1 is) σ H6 ∧ D ∉ O7 ∧ Kp1 K g O ρ σ H (D :: O7) (wipeD ρ1 is) H6 ∧ DxAll K (Zof g (D :: O7)) H6 ys as ∧ G (D :: O7) H6 := fun {O6 H6 ys as} mD R6 k6 n6 e6 d6 G6 => by
        have zeq : ∀ a, Zof g O6 a ↔ Zof g (D :: O6.filter (· ≠ D)) a := fun a => by
          unfold Zof
          have : a ∈ O6 ↔ a ∈ D :: O6.filter (· ≠ D) := by
            rw [List.mem_cons, List.mem_filter]
            by_cases h : a = D
            · subst h
              simp [mD]
            · simp [h]
          rw [this]
        have zf : Zof g O6 = Zof g (D :: O6.filter (· ≠ D)) := funext fun a => propext (zeq a)
        have mem : ∀ a, a ∈ O6 → a ∈ D :: O6.filter (· ≠ D) := fun a h => by
          by_cases h2 : a = D
          · subst h2; exact List.mem_cons_self ..
          · exact List.mem_cons_of_mem _ (List.mem_filter.mpr ⟨h, by simpa using h2⟩)
        have mem' : ∀ a, a ∈ D :: O6.filter (· ≠ D) → a ∈ O6 := fun a h => by
          rcases List.mem_cons.mp h with rfl | h
          · exact mD
          · exact (List.mem_filter.mp h).1
        refine ⟨O6.filter (· ≠ D), ⟨R6.len, fun j s ej => ?_, R6.uniq, fun q hq => R6.live q (mem' q hq), R6.base, ?_⟩, fun m => by simpa using (List.mem_filter.mp m).2, ⟨fun q hq => mem q (k6.sub q hq), ?_, k6.pnd⟩, by rw [← zf]; exact d6, ?_⟩
        · have q := R6.at_ j s ej
          cases s with
          | un => exact trivial
          | d x =>
            obtain ⟨w, b1, b2⟩ := q
            exact ⟨w, b1, by rw [← zf]; exact b2⟩
          | own zs =>
            obtain ⟨r, us, b1, b2, b3, b4, b5, b6⟩ := q
            exact ⟨r, us, b1, mem r b2, b3, b4, by rw [← zf]; exact b5, b6⟩
          | lm => exact q
        · have lo := R6.loom
          unfold LoomOk at lo ⊢
          rw [← zf]
          exact lo
        · have da := k6.dat
          unfold Kps at da ⊢
          rw [← zf]
          exact da
        · refine w.keep _ _ _ _ ?_ G6
          unfold Kps
          rw [← zf]
          exact fun _ _ h => h
      cases b' with
      | true =>
        rw [if_pos rfl] at pq2 ⊢
        refine lift_go me R5 pq2 fun v ρ4 O6 H6 u R6 k6 du pq3 => ?_
        obtain ⟨rfl, hz, pq3⟩ := pq3
        have k56 := k5.trans k6
        obtain ⟨R6', k6'⟩ := back R6 k56
        have mD : D ∈ O6 := k56.sub _ (List.mem_cons_self ..)
        obtain ⟨n6, e6⟩ := k6'.pnd D ws (List.mem_cons_self ..) n2 (sm _ _ e2)
        have dw : DxAll K (Zof g O6) H6 ws acc := k6'.dat.all (k3'.dat.all d2)
        refine ⟨ws, e6, by rw [dxAll_len dw]; exact hz, ?_⟩
        obtain ⟨R7, k7⟩ := R6'.writeP (ws := ws ++ [u]) mD n6 e6
        have k7' : Kp1 K g O6 (wipeD ρ1 is) σ H6 O6 (wipeD ρ1 is) (upd H6 D (.lst (ws ++ [u]))) → True := fun _ => trivial
        have kk : Kp1 K g O ρ σ H O6 (wipeD ρ1 is) (upd H6 D (.lst (ws ++ [u]))) := by
          have k0 := (k2'.trans k3').trans k6'
          refine ⟨k0.sub, k0.dat.trans k7, fun p vs m n ep => ?_⟩
          obtain ⟨a, b⟩ := k0.pnd p vs m n ep
          exact ⟨a, by rw [upd_ne (fun (z : p = D) => fO (z ▸ m))]; exact b⟩
        have GG : G O6 (upd H6 D (.lst (ws ++ [u]))) := w.keep _ _ _ _ k7 (w.keep _ _ _ _ (k3'.trans k6').dat hG2)
        obtain ⟨O7, r1, r2, r3, r4, r5⟩ := norm mD R7 kk n6 upd_same (k7.all (dxAll_app dw (.cons du .nil))) GG
        exact ⟨O7, acc ++ [v], ws ++ [u], r1, n6, r2, upd_same, r4, r3, r5, pq3⟩
      | false =>
        rw [if_neg Bool.false_ne_true] at pq2 ⊢
        obtain ⟨R6', k6'⟩ := back R5 k5
        have mD : D ∈ O5 := k5.sub _ (List.mem_cons_self ..)
        obtain ⟨n6, e6⟩ := k6'.pnd D ws (List.mem_cons_self ..) n2 (sm _ _ e2)
        have dw : DxAll K (Zof g O5) H5 ws acc := k6'.dat.all (k3'.dat.all d2)
        have GG : G O5 H5 := w.keep _ _ _ _ (k3'.trans k6').dat hG2
        obtain ⟨O7, r1, r2, r3, r4, r5⟩ := norm mD R6' ((k2'.trans k3').trans k6') n6 e6 dw GG
        exact ⟨O7, acc, ws, r1, n6, r2, e6, r4, r3, r5, pq2⟩
  · have e : i = xs.length := by omega
    subst e
    rw [List.drop_length] at q2
    exact .inl ⟨w.stops _ H2 hG2, q2 _ H2 _ R2 k2' ⟨D, ws, O2, rfl, rfl, f2, fO, n2, e2, d2⟩⟩
variable {elt tg iter : Expr} {ifs : List Expr} {scope : Scope} {own : List (Str × Nat)} {pos : Pos} {t : Wp (List PyData)} {is : List Nat} {gt : Wg} {tt : Wp Bool} {te : Wp PyData}
theorem mono_lc (mg : ∀ d ρ P Q, (∀ ρ', P ρ' → Q ρ') → gt d ρ P → gt d ρ Q) (mt : Mono tt) (me : Mono te) (mi : Mono t) : Mono (dLc t is gt tt te) := fun ρ P Q k q => mi ρ _ _ (fun xs ρ1 p => lcD_mono mg mt me xs [] _ _ (fun a pa => k _ _ pa) p) q
/-- what is the same for each block -/
abbrev blkX (X : Cx) (scope : Scope) (s : Shared) (H : Hp) (C : Addr) (cl : List (Str × Addr)) (fp : List Addr) : Cx := X.blk s H scope (compEnvC scope cl C X.env) fp
theorem df_lc (hc : X.calm = true) (hN : X.N.Nodup) (hi : DI X tg iter t) (ok : BlkOk X.N X.env.scope scope own)
    (hg : ∀ (s : Shared) (H : Hp) (C : Addr) (cl : List (Str × Addr)) (fp : List Addr), DGt (blkX X scope s H C cl fp) tg (own.map (·.2)) gt)
    (ht : ∀ (s : Shared) (H : Hp) (C : Addr) (cl : List (Str × Addr)) (fp : List Addr), DTt (blkX X scope s H C cl fp) ifs tt)
    (he : ∀ (s : Shared) (H : Hp) (C : Addr) (cl : List (Str × Addr)) (fp : List Addr), DE (blkX X scope s H C cl fp) elt te) (hs : ∀ x, foldedSetIterable iter X.env x = pure x := by intro _; rfl) :
    DF X (.ListComp elt [⟨tg, iter, ifs, 0⟩] scope pos) (dLc t (own.map (·.2)) gt tt te) := by
  have g1 := hg X.s_0 X.H_0 0 [] []
  have t1 := ht X.s_0 X.H_0 0 [] []
  have e1 := he X.s_0 X.H_0 0 [] []
  exact ⟨mono_lc g1.mono t1.mono e1.mono hi.mono, (pe_lc hc hN hi.run ok (fun s H C cl fp => (hg s H C cl fp).run) (fun s H C cl fp => (ht s H C cl fp).run) (fun s H C cl fp => (he s H C cl fp).run) hs).weaken fun σ H Q ⟨g, O, ρ, R, q⟩ =>
    lc_go g1.mono g1.only t1.mono e1.mono hi.mono R q⟩
/-- name = [..] on one line, the name a local -/
theorem ds_setLc {i : Nat} {y : Str} {py spos : Pos} (hc : X.calm = true) (hN : X.N.Nodup) (hy : X.N[i]? = some y) (hyl : X.env.scope.names.lookup y = some .local)
    (hsw : swapsWith (.ListComp elt [⟨tg, iter, ifs, 0⟩] scope pos) (some (.Name y py)) spos.line X.env = pure true) (hi : DI X tg iter t) (ok : BlkOk X.N X.env.scope scope own)
    (hg : ∀ (s : Shared) (H : Hp) (C : Addr) (cl : List (Str × Addr)) (fp : List Addr), DGt (blkX X scope s H C cl fp) tg (own.map (·.2)) gt)
    (ht : ∀ (s : Shared) (H : Hp) (C : Addr) (cl : List (Str × Addr)) (fp : List Addr), DTt (blkX X scope s H C cl fp) ifs tt)
    (he : ∀ (s : Shared) (H : Hp) (C : Addr) (cl : List (Str × Addr)) (fp : List Addr), DE (blkX X scope s H C cl fp) elt te) (hs : ∀ x, foldedSetIterable iter X.env x = pure x := by intro _; rfl) :
    DS X (.Assign [.Name y py] (.ListComp elt [⟨tg, iter, ifs, 0⟩] scope pos) spos) (dSet i (xF (dLc t (own.map (·.2)) gt tt te))) := by
  have g1 := hg X.s_0 X.H_0 0 [] []
  have t1 := ht X.s_0 X.H_0 0 [] []
  have e1 := he X.s_0 X.H_0 0 [] []
  refine ⟨fun D D' ρ l q => mono_lc g1.mono t1.mono e1.mono hi.mono ρ _ _ (fun _ _ p => l.nx _ p) q, (ps_setLc (g := liftG X.K (own.map (·.2)) gt) (tt := lift X.K PB tt) (te := lift X.K (PD X.K) te) hc hN hy hyl hsw hi.run ok (fun s H C cl fp => (hg s H C cl fp).run) (fun s H C cl fp => (ht s H C cl fp).run) (fun s H C cl fp => (he s H C cl fp).run) hs).weaken fun D σ H ⟨g, O, ρ, R, q⟩ => ?_⟩
  refine lc_go (Q := fun x H1 => gName i x σ H1 D.nx) g1.mono g1.only t1.mono e1.mono hi.mono R (mono_lc g1.mono t1.mono e1.mono hi.mono ρ _ _ (fun acc ρ' p O' H' b R' k' hp => ?_) q)
  obtain ⟨a, vs, O2, e1, e2, n1, n2, n3, h1, h2⟩ := hp
  exact p O' _ H' (R'.setX (Oi := O) (s := .own acc) ⟨a, vs, e1, by rw [e2]; exact List.mem_cons_self .., n2, n3, h1, h2⟩) k'.dat
/-- .. and it is data -/
theorem ds_setLcD {i : Nat} {y : Str} {py spos : Pos} (hc : X.calm = true) (hN : X.N.Nodup) (hy : X.N[i]? = some y) (hyl : X.env.scope.names.lookup y = some .local)
    (hsw : swapsWith (.ListComp elt [⟨tg, iter, ifs, 0⟩] scope pos) (some (.Name y py)) spos.line X.env = pure true) (hi : DI X tg iter t) (ok : BlkOk X.N X.env.scope scope own)
    (hg : ∀ (s : Shared) (H : Hp) (C : Addr) (cl : List (Str × Addr)) (fp : List Addr), DGt (blkX X scope s H C cl fp) tg (own.map (·.2)) gt)
    (ht : ∀ (s : Shared) (H : Hp) (C : Addr) (cl : List (Str × Addr)) (fp : List Addr), DTt (blkX X scope s H C cl fp) ifs tt)
    (he : ∀ (s : Shared) (H : Hp) (C : Addr) (cl : List (Str × Addr)) (fp : List Addr), DE (blkX X scope s H C cl fp) elt te) (hs : ∀ x, foldedSetIterable iter X.env x = pure x := by intro _; rfl) :
    DS X (.Assign [.Name y py] (.ListComp elt [⟨tg, iter, ifs, 0⟩] scope pos) spos) (dSet i (xD (dLs (dLc t (own.map (·.2)) gt tt te)))) := by
  have g1 := hg X.s_0 X.H_0 0 [] []
  have t1 := ht X.s_0 X.H_0 0 [] []
  have e1 := he X.s_0 X.H_0 0 [] []
  refine ⟨fun D D' ρ l q => mono_lc g1.mono t1.mono e1.mono hi.mono ρ _ _ (fun _ _ p => l.nx _ p) q, (ps_setLc (g := liftG X.K (own.map (·.2)) gt) (tt := lift X.K PB tt) (te := lift X.K (PD X.K) te) hc hN hy hyl hsw hi.run ok (fun s H C cl fp => (hg s H C cl fp).run) (fun s H C cl fp => (ht s H C cl fp).run) (fun s H C cl fp => (he s H C cl fp).run) hs).weaken fun D σ H ⟨g, O, ρ, R, q⟩ => ?_⟩
  refine lc_go (Q := fun x H1 => gName i x σ H1 D.nx) g1.mono g1.only t1.mono e1.mono hi.mono R (mono_lc g1.mono t1.mono e1.mono hi.mono ρ _ _ (fun acc ρ' p O' H' b R' k' hp => ?_) q)
  obtain ⟨a, vs, O2, e1, e2, n1, n2, n3, h1, h2⟩ := hp
  subst e1 e2
  exact p O2 _ H' ((R'.drop n3).set (d := .list acc) (.lst h1 ⟨.inr n3.h0, n1⟩ (dxAll_monoL (fun _ => zof_drop) h2))) (k'.drop n2).dat
/-! ### what a def promises -/
theorem argsOk_get {K : PySem.W.Frag} {lo : Option (Addr × Addr)} {Z : Addr → Prop} {H : Hp} : ∀ {ss : List SV} {vs : List V} {i : Nat} {s : SV}, ArgsOk K lo Z H ss vs → ss[i]? = some s → ∃ v, vs[i]? = some v ∧ ArgOk K lo Z H s v
  | _, _, 0, _, .cons h _, e => by
    cases (Option.some.inj e)
    exact ⟨_, rfl, h⟩
  | _, _, i + 1, _, .cons _ r, e => argsOk_get (i := i) r (by simpa using e)
def uns (N : List Str) (n : Nat) : En := List.replicate (N.length - n) .un
theorem rep_start {K : PySem.W.Frag} {g : Gh} {H : Hp} {ss : List SV} {vs : List V} {N : List Str} (h0 : g.H0 = H) (ha : ArgsOk K g.lo (Zof g []) H ss vs) (hl : LoomOk g [] H) : Rep K g [] (ss ++ uns N ss.length) (L2.start N vs) H := by
  have ln := argsOk_len ha
  have get : ∀ (i : Nat) (s : SV), (ss ++ uns N ss.length)[i]? = some s → s = .un ∨ ∃ v, atv (L2.start N vs) i = some v ∧ ArgOk K g.lo (Zof g []) H s v := fun i s e => by
    by_cases hi : i < ss.length
    · rw [List.getElem?_append_left hi] at e
      obtain ⟨v, e1, e2⟩ := argsOk_get ha e
      refine .inr ⟨v, ?_, e2⟩
      unfold atv L2.start
      rw [List.getElem?_append_left (by rw [List.length_map, ln]; exact hi), List.getElem?_map, e1]
      rfl
    · rw [List.getElem?_append_right (Nat.le_of_not_lt hi)] at e
      unfold uns at e
      rw [List.getElem?_replicate] at e
      split at e
      · exact .inl (Option.some.inj e).symm
      · cases e
  have noOwn : ∀ (i : Nat) (xs : List PyData), (ss ++ uns N ss.length)[i]? ≠ some (.own xs) := fun i xs e => by
    rcases get i _ e with z | ⟨v, _, z⟩
    · cases z
    · exact z
  refine ⟨?_, fun i s e => ?_, fun i j xs ys p e1 _ _ _ => absurd e1 (noOwn i xs), (fun p hp => nomatch hp), by rw [h0]; exact Gr.refl _, hl⟩
  · unfold uns L2.start
    rw [List.length_append, List.length_append, List.length_replicate, List.length_replicate, List.length_map, ln]
  · rcases get i s e with rfl | ⟨v, e1, e2⟩
    · exact trivial
    · rw [e1]
      cases s with
      | d x => exact ⟨v, rfl, e2⟩
      | lm =>
        obtain ⟨L, F, a, b⟩ := e2
        exact ⟨L, F, a, by rw [b]⟩
      | un => exact e2.elim
      | own xs => exact e2.elim
section
variable {P : Program} {w : World} {K : PySem.W.Frag} {mg : Str → Option Value} {base : Heap}
/-- from the reading of a def's body to its promise -/
theorem body_go {R : RelD} {t : DTs} {N : List Str} {vs : List V} {H : Hp} {Q : VK} {E : XK} (mt : MonoS t) (h : spD K R vs H Q E) (hb : ∀ ss P, R ss P → t ⟨fun _ => P .none, P, fun _ => False, fun _ => False⟩ (ss ++ uns N ss.length)) :
    liftS K t { nx := fun _ H' => Q .non H', rt := Q } (L2.start N vs) H := by
  obtain ⟨g, ss, h0, ha, hl, Pp, hR, hq⟩ := h
  have R0 := rep_start (N := N) h0 ha hl
  refine ⟨g, [], _, R0, mt _ _ _ ?_ (hb ss Pp hR)⟩
  have fin : ∀ {O' : List Addr} {ρ' : En} {σ' : L2.St} {H' : Hp} {v : V} {d : PyData}, Rep K g O' ρ' σ' H' → Dx K (Zof g O') H' v d → Pp d → Q v H' := fun R' dx pd => by
    refine hq _ pd _ _ ?_ (dx_monoL (fun a z => ?_) dx)
    · have := R'.base
      rw [h0] at this
      exact this
    · rw [← h0]
      exact z.1
  exact ⟨fun ρ' p O' σ' H' R' k' => fin R' .non p, fun d p O' ρ' σ' H' v R' dx => fin R' dx p, fun ρ' p => p.elim, fun ρ' p => p.elim⟩
theorem okD {x qual : Str} {st : Stmt} {f : Addr} {fd : FuncData} {N ps : List Str} {k : Nat} {R : RelD} (F : Fun K x qual st f fd) (S : FnScope N ps (defScope st)) (len : ∀ ss P, R ss P → ss.length = ps.length)
    (hbody : ∀ (cdv : Value) (A : Around) (outer : List Env) (s : Shared) (H : Hp) (E : XK), Room k (A.deeper (envOfC qual (defScope st) s.heap.objs.size f cdv)) →
      ∃ t, DSs (cxOf CX0 P w K mg base N qual (defScope st) f cdv A outer s H E).nox (defBody st) t ∧ ∀ ss P, R ss P → t ⟨fun _ => P .none, P, fun _ => False, fun _ => False⟩ (ss ++ uns N ss.length)) : FnOk P w K mg base CX0 (k + 1) f fd ps (spD K R) := by
  refine F.ok S (fun vs H Q E h => ?_) (fun cdv A outer s H vs Q E hr h => ?_)
  · obtain ⟨g, ss, h0, ha, hl, Pp, hR, hq⟩ := h
    rw [argsOk_len ha]
    exact len ss Pp hR
  · obtain ⟨t, ht, hb⟩ := hbody cdv A outer s H E hr
    exact ⟨_, ht.run, body_go ht.mono h hb⟩
theorem okDG {x qual : Str} {st : Stmt} {f : Addr} {fd : FuncData} {N ps : List Str} {k : Nat} {R : RelD} (F : Fun K x qual st f fd) (S : FnScope N ps (defScope st)) (len : ∀ ss P, R ss P → ss.length = ps.length)
    (hbody : ∀ (cdv : Value) (A : Around) (outer : List Env) (s : Shared) (H : Hp) (E : XK), A.guards = some [] → Room k (A.deeper (envOfC qual (defScope st) s.heap.objs.size f cdv)) →
      ∃ t, DSs (cxOf CX0 P w K mg base N qual (defScope st) f cdv A outer s H E).nox (defBody st) t ∧ ∀ ss P, R ss P → t ⟨fun _ => P .none, P, fun _ => False, fun _ => False⟩ (ss ++ uns N ss.length)) : FnG P w K mg base CX0 (k + 1) f fd ps (spD K R) := by
  refine okG F S (fun vs H Q E h => ?_) (fun cdv A outer s H vs Q E hA hr h => ?_)
  · obtain ⟨g, ss, h0, ha, hl, Pp, hR, hq⟩ := h
    rw [argsOk_len ha]
    exact len ss Pp hR
  · obtain ⟨t, ht, hb⟩ := hbody cdv A outer s H E hA hr
    exact ⟨_, ht.run, body_go ht.mono h hb⟩
end
end
end Ev

set_option exponentiation.threshold 256
/-! the layer of data, 8: more built-ins; the loom -/
namespace Ev
open PySem PySem.Spec PyProof.Rows L2
section
variable [Lo] {X : Cx} {a b : Expr} {ta tb : Wp PyData} {pos p : Pos}
/-- a constant of the module -/
theorem pe_constD {x : Str} {v : V} (hg : Gl X x) (h : ∃ u, X.mg x = some u ∧ RelV v u) (hd : (x == ("__debug__" : Str)) = false := by decide) : PE X (.Name x pos) (tC v) := by
  obtain ⟨u, e, r⟩ := h
  exact pe_glob hg e r hd
/-- gcd of two ints -/
def dGcd (ta tb : Wp PyData) : Wp PyData := fun ρ Q => ta ρ fun x ρ1 => tb ρ1 fun y ρ2 => match x, y with
  | .int i, .int j => Q (.int ((Nat.gcd i.natAbs j.natAbs : Nat) : Int)) ρ2
  | _, _ => False
theorem de_gcd {x : Str} (hg : Gl X x) (hm : X.mg x = some (.builtin "math.gcd")) (ha : DE X a ta) (hb : DE X b tb)
    (hs1 : starEach (a :: [b]) X.env = (false, eval a X.env) :: starEach [b] X.env := by rfl) (hs2 : starEach (b :: []) X.env = (false, eval b X.env) :: starEach [] X.env := by rfl)
    (hdb : (x == ("__debug__" : Str)) = false := by decide) (hpl : (backTo pos (starEach [b] X.env)).any (·.1) = false := by rfl) : DE X (.Call (.Name x p) [a, b] [] pos) (dGcd ta tb) := by
  refine ⟨fun ρ P Q k q => ha.mono ρ _ _ (fun x ρ1 q1 => hb.mono ρ1 _ _ (fun y ρ2 q2 => ?_) q1) q, (pe_callBfun cr_gcd hg hm (pa_cons ha.run (pa_cons hb.run pa_nil hs2) hs1) hdb hs1 hpl).weaken fun σ H Q ⟨g, O, ρ, R, q⟩ =>
    lift_go ha.mono R q fun x ρ1 O1 H1 v R1 k1 dx q1 => lift_go hb.mono R1 q1 fun y ρ2 O2 H2 u R2 k2 dy q2 => ?_⟩
  · split at q2
    · exact k _ _ q2
    · exact q2
  · split at q2
    · cases dx_int dx
      cases dx_int dy
      exact ⟨_, _, rfl, q2 O2 H2 _ R2 (k1.trans k2) (.int _)⟩
    · exact q2.elim
/-- -a -/
def dNeg (ta : Wp PyData) : Wp PyData := fun ρ Q => ta ρ fun x ρ1 => match x with
  | .int i => Q (.int (-i)) ρ1
  | _ => False
theorem de_neg (ha : DE X a ta) : DE X (.UnaryOp .USub a pos) (dNeg ta) := by
  refine ⟨fun ρ P Q k q => ha.mono ρ _ _ (fun x ρ1 q1 => ?_) q, (pe_un un_neg ha.run).weaken fun σ H Q ⟨g, O, ρ, R, q⟩ => lift_go ha.mono R q fun x ρ1 O1 H1 v R1 k1 dx q1 => ?_⟩
  · split at q1
    · exact k _ _ q1
    · exact q1
  · split at q1
    · cases dx_int dx
      exact ⟨_, rfl, q1 O1 H1 _ R1 k1 (.int _)⟩
    · exact q1.elim
/-- {} -/
theorem de_dict0 : DE X (.Dict [] [] pos) (dC (.dict [])) :=
  ⟨fun ρ P Q k q => k _ _ q, pe_dnewK.weaken fun σ H Q ⟨g, O, ρ, R, q⟩ => fun d hd => by
    have sm : Same H (upd H d (.dK [])) := same_new hd
    obtain ⟨a, b, c⟩ := R.res (d := .dict []) (v := .ref d) (Gr.of_same sm) (.dct upd_same (.inr hd) .nil)
    exact q O _ _ a (R.kp1 sm) c⟩
/-- not of a test, as a value: the same as of a bool -/
def dNotT (t : Wp Bool) : Wp PyData := fun ρ Q => t ρ fun b ρ1 => Q (.bool (!b)) ρ1
/-! ### promises of one answer -/
def fn1 (f : PyData → PyData) : RelD := fun ss P => ∃ d, ss = [.d d] ∧ P = fun r => r = f d
def fn2 (f : PyData → PyData → PyData) : RelD := fun ss P => ∃ d e, ss = [.d d, .d e] ∧ P = fun r => r = f d e
def fn1p (pre : PyData → Prop) (f : PyData → PyData) : RelD := fun ss P => ∃ d, ss = [.d d] ∧ pre d ∧ P = fun r => r = f d
def fn2p (pre : PyData → PyData → Prop) (f : PyData → PyData → PyData) : RelD := fun ss P => ∃ d e, ss = [.d d, .d e] ∧ pre d e ∧ P = fun r => r = f d e
theorem sof_fn1 {f : PyData → PyData} {d : PyData} {Q : PyData → Prop} : Sof (fn1 f) [.d d] Q = Q (f d) := by
  refine propext ⟨fun ⟨P, ⟨e, h1, h2⟩, h⟩ => ?_, fun h => ⟨_, ⟨d, rfl, rfl⟩, fun r e => e ▸ h⟩⟩
  cases h1
  subst h2
  exact h _ rfl
theorem sof_fn2 {f : PyData → PyData → PyData} {d e : PyData} {Q : PyData → Prop} : Sof (fn2 f) [.d d, .d e] Q = Q (f d e) := by
  refine propext ⟨fun ⟨P, ⟨_, _, h1, h2⟩, h⟩ => ?_, fun h => ⟨_, ⟨d, e, rfl, rfl⟩, fun r e => e ▸ h⟩⟩
  cases h1
  subst h2
  exact h _ rfl
theorem sof_fn1p {pre : PyData → Prop} {f : PyData → PyData} {d : PyData} {Q : PyData → Prop} : Sof (fn1p pre f) [.d d] Q = (pre d ∧ Q (f d)) := by
  refine propext ⟨fun ⟨P, ⟨e, h1, h3, h2⟩, h⟩ => ?_, fun h => ⟨_, ⟨d, rfl, h.1, rfl⟩, fun r e => e ▸ h.2⟩⟩
  cases h1
  subst h2
  exact ⟨h3, h _ rfl⟩
theorem sof_fn2p {pre : PyData → PyData → Prop} {f : PyData → PyData → PyData} {d e : PyData} {Q : PyData → Prop} : Sof (fn2p pre f) [.d d, .d e] Q = (pre d e ∧ Q (f d e)) := by
  refine propext ⟨fun ⟨P, ⟨_, _, h1, h3, h2⟩, h⟩ => ?_, fun h => ⟨_, ⟨d, e, rfl, h.1, rfl⟩, fun r e => e ▸ h.2⟩⟩
  cases h1
  subst h2
  exact ⟨h3, h _ rfl⟩
/-! ### the loom, as promises that were made by hand -/
/-- a draw below many -/
def drawR : RelD := fun ss P => ∃ many : Int, ss = [.lm, .d (.int many)] ∧ many < 1073741824 ∧ P = fun d => ∃ k : Int, d = .int k ∧ 0 ≤ k ∧ (k < many ∨ k = 0)
def sp_drawH : Sp := fun vs H Q _ => ∃ (L F : Addr) (many : Int), vs = [.ref L, .int many] ∧ LmD H L F ∧ many < 1073741824 ∧
  ∀ (H' : Hp) (k : Int), Kp L F H H' → LmD H' L F → 0 ≤ k → (k < many ∨ k = 0) → Q (.int k) H'
theorem draw_of {P : Program} {w : World} {K : PySem.W.Frag} {mg : Str → Option Value} {base : Heap} {k : Nat} {f : Addr} {fd : FuncData} {ps : List Str} (F : FnOk P w K mg base CX0 k f fd ps sp_drawH) : FnOk P w K mg base CX0 k f fd ps (spD K drawR) :=
  F.imp fun vs H Q E ⟨g, ss, h0, ha, hl, Pp, ⟨many, es, hm, eP⟩, hq⟩ => by
    subst es eP
    cases ha with
    | cons h1 r1 =>
      cases r1 with
      | cons h2 r2 =>
        cases r2
        obtain ⟨L, F, el, rfl⟩ := h1
        cases dx_int h2
        refine ⟨L, F, many, rfl, (hl L F el).1, hm, fun H' k kp lm k0 k1 => hq _ ⟨k, rfl, k0, k1⟩ _ H' ?_ (.int k)⟩
        rw [el]
        exact ⟨kp, fun _ => lm⟩
/-- the loom's making -/
def sp_loomH (K : PySem.W.Frag) : Sp := fun vs H Q _ => ∃ (a : Addr) (ns : List Int), vs = [.ref a] ∧ SqL K H a (ns.map V.int) ∧ ns.length ≤ 63 ∧
  ∀ (H' : Hp) (L F : Addr), Same H H' → LmD H' L F → H L = none → H F = none → Q (.ref L) H'
/-- behind the loom's making: what the rest of the law is read in -/
theorem rep_loom {K : PySem.W.Frag} {H H' : Hp} {L F : Addr} {ρ : En} {σ : L2.St} (sm : Same H H') (lm : LmD H' L F) (hL : H L = none) (hF : H F = none) (len : ρ.length = σ.length)
    (hs : ∀ (i : Nat) (s : SV), ρ[i]? = some s → s = .un ∨ (s = .lm ∧ atv σ i = some (.ref L))) : Rep K ⟨some (L, F), H, fun _ => True⟩ [L, F] ρ σ H' := by
  refine ⟨len, fun i s e => ?_, fun i j xs ys p e1 _ _ _ => ?_, fun p hp => ?_, ⟨kp_same sm, fun _ => lm⟩, fun L' F' e => ?_⟩
  · rcases hs i s e with rfl | ⟨rfl, h⟩
    · exact trivial
    · exact ⟨L, F, rfl, h⟩
  · rcases hs i _ e1 with z | ⟨z, _⟩ <;> cases z
  · obtain ⟨x, y⟩ := lm.ex
    simp only [List.mem_cons, List.not_mem_nil, or_false] at hp
    rcases hp with rfl | rfl
    · exact x
    · exact y
  · cases e
    exact ⟨lm, fun z => z.2 (List.mem_cons_self ..), fun z => z.2 (List.mem_cons_of_mem _ (List.mem_cons_self ..))⟩
end
/-- a law's body behind the making of its loom -/
theorem okLaw [Lo] {X : Cx} {st1 : Stmt} {rest : List Stmt} {u : TS} {D : Ends} {σ : L2.St} {H : Hp} {ρ : En} (h1 : PS X st1 u)
    (hb : ∃ t, DSs X rest t ∧ t ⟨fun _ => False, fun d => d = .bool true, fun _ => False, fun _ => False⟩ ρ) (hD : ∀ H', D.rt (.bl true) H')
    (hu : ∀ (N : L2.St → Hp → Prop), (∀ σ' H' g O, Rep X.K g O ρ σ' H' → N σ' H') → u { D with nx := N } σ H) : ∃ t', PSs X (st1 :: rest) t' ∧ t' D σ H := by
  obtain ⟨t, ht, hq⟩ := hb
  refine ⟨_, pss_cons h1 ht.run, hu _ fun σ' H' g O R => ⟨g, O, ρ, R, ht.mono _ _ _ ?_ hq⟩⟩
  refine ⟨fun ρ p => p.elim, fun d p => ?_, fun ρ p => p.elim, fun ρ p => p.elim⟩
  subst p
  intro O' ρ' σ' H' v R' dx
  cases dx_bool dx
  exact hD _
end Ev

set_option exponentiation.threshold 256
/-! the layer of data, 9: rules for reckoning -/
namespace Ev
open PySem PySem.Spec PyProof.Rows L2
theorem eqv_int (i j : Int) : PyData.eqv (.int i) (.int j) = decide (i = j) := by
  simp only [PyData.eqv, Bool.beq_eq_decide_eq]
theorem eqv_str (x y : Str) : PyData.eqv (.str x) (.str y) = decide (x = y) := by
  simp only [PyData.eqv, Bool.beq_eq_decide_eq]
theorem plain_int (i : Int) : plainD (.int i) = true := by
  simp only [plainD, PyData.hasDict, SeqAt.shaped, PyData.canLay0, PyData.depth]
  rfl
theorem plain_none : plainD .none = true := by
  simp only [plainD, PyData.hasDict, SeqAt.shaped, PyData.canLay0, PyData.depth]
  decide
theorem plain_bool (b : Bool) : plainD (.bool b) = true := by
  simp only [plainD, PyData.hasDict, SeqAt.shaped, PyData.canLay0, PyData.depth]
  rfl
/-! the operators at data of known kinds -/
section
variable {Q : PyData → Prop} {i j : Int} {a b : Str} {xs ys : List PyData} {x y z u : PyData}
theorem addD_int : addD (.int i) (.int j) Q = Q (.int (i + j)) := rfl
theorem addD_str : addD (.str a) (.str b) Q = (a.length + b.length ≤ sizeLine ∧ Q (.str (a ++ b))) := rfl
theorem addD_tup : addD (.tuple xs) (.tuple ys) Q = (xs.length + ys.length ≤ sizeLine ∧ Q (.tuple (xs ++ ys))) := rfl
theorem addD_list : addD (.list xs) (.list ys) Q = (xs.length + ys.length ≤ sizeLine ∧ Q (.list (xs ++ ys))) := rfl
theorem intF_int {f : Int → Int → PyData} : intF f (.int i) (.int j) Q = Q (f i j) := rfl
theorem intD_int {C : Int → Int → Prop} {f : Int → Int → PyData} : intD C f (.int i) (.int j) Q = (C i j ∧ Q (f i j)) := rfl
theorem eqD_int : eqD (.int i) (.int j) Q = Q (.bool (decide (i = j))) := rfl
theorem eqD_str : eqD (.str a) (.str b) Q = Q (.bool (decide (a = b))) := rfl
theorem neD_int : neD (.int i) (.int j) Q = Q (.bool (!decide (i = j))) := rfl
theorem neD_str : neD (.str a) (.str b) Q = Q (.bool (!decide (a = b))) := rfl
theorem eqD_of (hx : plainD x = true) (hy : plainD y = true) (q : Q (.bool (PyData.eqv x y))) : eqD x y Q := by
  unfold eqD
  split
  · rw [eqv_int] at q; exact q
  · rw [eqv_str] at q; exact q
  · exact ⟨hx, hy, q⟩
theorem neD_of (hx : plainD x = true) (hy : plainD y = true) (q : Q (.bool (!PyData.eqv x y))) : neD x y Q := by
  unfold neD
  split
  · rw [eqv_int] at q; exact q
  · rw [eqv_str] at q; exact q
  · exact ⟨hx, hy, q⟩
theorem inD_list {n : Bool} : inD n x (.list ys) Q = (flatD x = true ∧ ys.all flatD = true ∧ Q (.bool (if n then !inDb x ys else inDb x ys))) := rfl
theorem inD_tup {n : Bool} : inD n x (.tuple ys) Q = (flatD x = true ∧ ys.all flatD = true ∧ Q (.bool (if n then !inDb x ys else inDb x ys))) := rfl
theorem isND_none {n : Bool} : isND n x .none Q = Q (.bool (if n then !isNone x else isNone x)) := rfl
theorem ixD_tup : ixD (.tuple xs) (.int i) Q = match atI xs i with | some d => Q d | none => False := rfl
theorem ixD_list : ixD (.list xs) (.int i) Q = match atI xs i with | some d => Q d | none => False := rfl
theorem ixD_t0 : ixD (.tuple (x :: xs)) (.int 0) Q = Q x := by rw [ixD_tup, show atI (x :: xs) 0 = some x from atI_nat (j := 0) rfl]
theorem ixD_t1 : ixD (.tuple (x :: y :: xs)) (.int 1) Q = Q y := by rw [ixD_tup, show atI (x :: y :: xs) 1 = some y from atI_nat (j := 1) rfl]
theorem ixD_t2 : ixD (.tuple (x :: y :: z :: xs)) (.int 2) Q = Q z := by rw [ixD_tup, show atI (x :: y :: z :: xs) 2 = some z from atI_nat (j := 2) rfl]
theorem ixD_t3 : ixD (.tuple (x :: y :: z :: u :: xs)) (.int 3) Q = Q u := by rw [ixD_tup, show atI (x :: y :: z :: u :: xs) 3 = some u from atI_nat (j := 3) rfl]
theorem ixD_l0 : ixD (.list (x :: xs)) (.int 0) Q = Q x := by rw [ixD_list, show atI (x :: xs) 0 = some x from atI_nat (j := 0) rfl]
theorem ixD_of {d : PyData} (e : atI xs i = some d) : ixD (.tuple xs) (.int i) Q = Q d := by rw [ixD_tup, e]
theorem ixD_ofL {d : PyData} (e : atI xs i = some d) : ixD (.list xs) (.int i) Q = Q d := by rw [ixD_list, e]
theorem lenD_tup : lenD (.tuple xs) Q = Q (.int xs.length) := rfl
theorem lenD_list : lenD (.list xs) Q = Q (.int xs.length) := rfl
theorem lenD_str : lenD (.str a) Q = (a.length ≤ sizeLine ∧ Q (.int a.length)) := rfl
theorem absD_int : absD (.int i) Q = Q (.int i.natAbs) := rfl
theorem toIntD_int : toIntD (.int i) Q = Q (.int i) := rfl
theorem toIntD_bool {b : Bool} : toIntD (.bool b) Q = Q (.int (if b then 1 else 0)) := rfl
theorem toStrD_int : toStrD (.int i) Q = (i.natAbs.log2 < 1920 ∧ Q (.str (Str.ofString (toString i)))) := rfl
theorem tupleD_list : tupleD (.list xs) Q = Q (.tuple xs) := rfl
theorem tupleD_tup : tupleD (.tuple xs) Q = Q (.tuple xs) := rfl
theorem cutSq_tup {lo hi : Option Int} : cutSq (.tuple xs) lo hi Q = Q (.tuple (cutD xs lo hi)) := rfl
theorem cutSq_list {lo hi : Option Int} : cutSq (.list xs) lo hi Q = Q (.list (cutD xs lo hi)) := rfl
theorem cutSq_str {lo hi : Option Int} : cutSq (.str a) lo hi Q = (a.length ≤ sizeLine ∧ Q (.str (cutS a lo hi))) := rfl
theorem isInt_none  : isInt (.none) = false := rfl
theorem isInt_bool {b : Bool} : isInt (.bool b) = true := rfl
theorem isInt_int {i : Int} : isInt (.int i) = true := rfl
theorem isInt_str {x : Str} : isInt (.str x) = false := rfl
theorem isInt_list {xs : List PyData} : isInt (.list xs) = false := rfl
theorem isInt_tup {xs : List PyData} : isInt (.tuple xs) = false := rfl
theorem isInt_dict {kv : List (PyData × PyData)} : isInt (.dict kv) = false := rfl
theorem isBool_none  : isBool (.none) = false := rfl
theorem isBool_bool {b : Bool} : isBool (.bool b) = true := rfl
theorem isBool_int {i : Int} : isBool (.int i) = false := rfl
theorem isBool_str {x : Str} : isBool (.str x) = false := rfl
theorem isBool_list {xs : List PyData} : isBool (.list xs) = false := rfl
theorem isBool_tup {xs : List PyData} : isBool (.tuple xs) = false := rfl
theorem isBool_dict {kv : List (PyData × PyData)} : isBool (.dict kv) = false := rfl
theorem isStr_none  : isStr (.none) = false := rfl
theorem isStr_bool {b : Bool} : isStr (.bool b) = false := rfl
theorem isStr_int {i : Int} : isStr (.int i) = false := rfl
theorem isStr_str {x : Str} : isStr (.str x) = true := rfl
theorem isStr_list {xs : List PyData} : isStr (.list xs) = false := rfl
theorem isStr_tup {xs : List PyData} : isStr (.tuple xs) = false := rfl
theorem isStr_dict {kv : List (PyData × PyData)} : isStr (.dict kv) = false := rfl
theorem isTup_none  : isTup (.none) = false := rfl
theorem isTup_bool {b : Bool} : isTup (.bool b) = false := rfl
theorem isTup_int {i : Int} : isTup (.int i) = false := rfl
theorem isTup_str {x : Str} : isTup (.str x) = false := rfl
theorem isTup_list {xs : List PyData} : isTup (.list xs) = false := rfl
theorem isTup_tup {xs : List PyData} : isTup (.tuple xs) = true := rfl
theorem isTup_dict {kv : List (PyData × PyData)} : isTup (.dict kv) = false := rfl
theorem isLst_none  : isLst (.none) = false := rfl
theorem isLst_bool {b : Bool} : isLst (.bool b) = false := rfl
theorem isLst_int {i : Int} : isLst (.int i) = false := rfl
theorem isLst_str {x : Str} : isLst (.str x) = false := rfl
theorem isLst_list {xs : List PyData} : isLst (.list xs) = true := rfl
theorem isLst_tup {xs : List PyData} : isLst (.tuple xs) = false := rfl
theorem isLst_dict {kv : List (PyData × PyData)} : isLst (.dict kv) = false := rfl
theorem all_flat_nil : ([] : List PyData).all flatD = true := rfl
end
def isWhole (d : PyData) : Bool := isInt d && !isBool d
theorem whole_of {d : PyData} (h : isWhole d = true) : ∃ i, d = .int i := by
  cases d with
  | int i => exact ⟨i, rfl⟩
  | _ => cases h
/-! loops -/
theorem forD_ind {gt : Wg} {b : DTs} {D : DEnds} (I : List PyData → En → Prop) (hd : ∀ ρ, I [] ρ → D.nx ρ)
    (hs : ∀ x xs ρ (N : En → Prop), I (x :: xs) ρ → (∀ ρ', I xs ρ' → N ρ') → gt x ρ fun ρ1 => b ⟨N, D.rt, D.nx, N⟩ ρ1) : ∀ xs ρ, I xs ρ → forD gt b xs D ρ
  | [], ρ, h => hd ρ h
  | x :: xs, ρ, h => hs x xs ρ _ h fun ρ' h' => forD_ind I hd hs xs ρ' h'
def enumF (k : Nat) : List PyData → List PyData
  | [] => []
  | x :: r => .tuple [.int (k : Int), x] :: enumF (k + 1) r
theorem enumF_eq : ∀ (xs : List PyData) (k : Nat), (xs.mapIdx fun (i : Nat) d => PyData.tuple [.int ((i + k : Nat) : Int), d]) = enumF k xs
  | [], _ => rfl
  | x :: xs, k => by
    rw [List.mapIdx_cons, enumF, ← enumF_eq xs (k + 1), Nat.zero_add]
    congr 1
    refine congrArg (fun f => List.mapIdx f xs) (funext fun i => funext fun d => ?_)
    rw [Nat.add_right_comm, Nat.add_assoc]
theorem enumD_eq (xs : List PyData) : enumD xs = enumF 0 xs := enumF_eq xs 0
theorem for_enum {gt : Wg} {b : DTs} {D : DEnds} (I : Nat → List PyData → En → Prop) (hd : ∀ k ρ, I k [] ρ → D.nx ρ)
    (hs : ∀ (k : Nat) x xs ρ (N : En → Prop), I k (x :: xs) ρ → (∀ ρ', I (k + 1) xs ρ' → N ρ') → gt (.tuple [.int (k : Int), x]) ρ fun ρ1 => b ⟨N, D.rt, D.nx, N⟩ ρ1) (xs : List PyData) (ρ : En) (h : I 0 xs ρ) : forD gt b (enumD xs) D ρ := by
  rw [enumD_eq]
  suffices go : ∀ (xs : List PyData) (k : Nat) (ρ : En), I k xs ρ → forD gt b (enumF k xs) D ρ from go xs 0 ρ h
  intro xs
  induction xs with
  | nil => intro k ρ h; exact hd k ρ h
  | cons x xs ih => intro k ρ h; exact hs k x xs ρ _ h fun ρ' h' => ih (k + 1) ρ' h'
theorem lcD_ind {gt : Wg} {tt : Wp Bool} {te : Wp PyData} {ρw : En} {Q : List PyData → Prop} (I : List PyData → List PyData → Prop) (hd : ∀ acc, I [] acc → Q acc)
    (hs : ∀ x xs acc (N : List PyData → Prop), I (x :: xs) acc → (∀ acc', I xs acc' → N acc') → gt x ρw fun ρ2 => tt ρ2 fun b ρ3 => ρ3 = ρ2 ∧ if b = true then te ρ2 fun d ρ4 => ρ4 = ρ2 ∧ acc.length < sizeLine ∧ N (acc ++ [d]) else N acc) :
    ∀ xs acc, I xs acc → lcD gt tt te ρw xs acc Q
  | [], acc, h => hd acc h
  | x :: xs, acc, h => hs x xs acc _ h fun acc' h' => lcD_ind I hd hs xs acc' h'
/-- a promise of what is never asked -/
theorem okF [Lo] {P : Program} {w : World} {K : PySem.W.Frag} {mg : Str → Option Value} {base : Heap} {k : Nat} {f : Addr} {fd : FuncData} {ps : List Str} : FnOk P w K mg base CX0 k f fd ps (spD K fun _ _ => False) :=
  ⟨fun vs H Q E ⟨g, ss, h0, ha, hl, Pp, h, _⟩ => h.elim, fun A outer s H args us vs Q E hr he hb hv ⟨g, ss, h0, ha, hl, Pp, h, _⟩ => h.elim⟩
theorem sl_small {n : Nat} (h : n ≤ 1000) : n ≤ sizeLine := by
  rw [sizeLine_eq]
  omega
theorem sl_small' {n : Nat} (h : n < 1000) : n < sizeLine := by
  rw [sizeLine_eq]
  omega
/-- what is shown is not too great -/
theorem Dt.showD {n k : Nat} {d : PyData} (h : Dt n k d) (hn : n ≤ 8000) (hk : k ≤ 60) : showD d := h.show hn hk
theorem atI_zero {α : Type} {x : α} {xs : List α} : atI (x :: xs) 0 = some x := atI_nat (j := 0) rfl
theorem atI_one {α : Type} {x y : α} {xs : List α} : atI (x :: y :: xs) 1 = some y := atI_nat (j := 1) rfl
theorem atI_two {α : Type} {x y z : α} {xs : List α} : atI (x :: y :: z :: xs) 2 = some z := atI_nat (j := 2) rfl
theorem atI_three {α : Type} {x y z u : α} {xs : List α} : atI (x :: y :: z :: u :: xs) 3 = some u := atI_nat (j := 3) rfl
theorem atI_ex {α : Type} {xs : List α} {i : Int} (h0 : 0 ≤ i) (h1 : i < xs.length) : ∃ x, atI xs i = some x ∧ x ∈ xs := by
  have e : i = ((i.toNat : Nat) : Int) := by omega
  have l : i.toNat < xs.length := by omega
  rw [e]
  exact ⟨xs[i.toNat], atI_nat (List.getElem?_eq_getElem l), List.getElem_mem l⟩
/-! fractions -/
def fracD : PyData → Bool
  | .tuple [.int a, .int b] => decide (1 ≤ b) && decide (Nat.gcd a.natAbs b.natAbs = 1)
  | _ => false
/-! rows of bounded data -/
structure DL (c n k : Nat) (xs : List PyData) : Prop where
  len : xs.length ≤ c
  all : ∀ x ∈ xs, Dt n k x
theorem DL.le {c n k c' n' k' : Nat} {xs : List PyData} (h : DL c n k xs) (hc : c ≤ c') (hn : n ≤ n') (hk : k ≤ k') : DL c' n' k' xs := ⟨Nat.le_trans h.len hc, fun x hx => (h.all x hx).le hn hk⟩
theorem DL.nil {c n k : Nat} : DL c n k [] := ⟨Nat.zero_le _, fun x hx => nomatch hx⟩
theorem DL.cons {c n k : Nat} {x : PyData} {xs : List PyData} (h : Dt n k x) (r : DL c n k xs) : DL (c + 1) n k (x :: xs) := ⟨by have := r.len; rw [List.length_cons]; omega, fun y hy => by
  rcases List.mem_cons.mp hy with rfl | hy
  · exact h
  · exact r.all y hy⟩
theorem DL.app {c c' n k : Nat} {xs ys : List PyData} (h : DL c n k xs) (r : DL c' n k ys) : DL (c + c') n k (xs ++ ys) := ⟨by have := h.len; have := r.len; rw [List.length_append]; omega, fun y hy => by
  rcases List.mem_append.mp hy with hy | hy
  · exact h.all y hy
  · exact r.all y hy⟩
theorem cutD_mem {xs : List PyData} {lo hi : Option Int} {x : PyData} (h : x ∈ cutD xs lo hi) : x ∈ xs := by
  unfold cutD at h
  exact List.mem_of_mem_drop (List.mem_of_mem_take h)
theorem cutD_len (xs : List PyData) (lo hi : Option Int) : (cutD xs lo hi).length ≤ xs.length := by
  unfold cutD
  rw [List.length_take, List.length_drop]
  omega
theorem DL.cut {c n k : Nat} {xs : List PyData} (h : DL c n k xs) (lo hi : Option Int) : DL c n k (cutD xs lo hi) := ⟨Nat.le_trans (cutD_len _ _ _) h.len, fun x hx => h.all x (cutD_mem hx)⟩
theorem DL.dts {c n k : Nat} {xs : List PyData} (h : DL c n k xs) : Dts (c * n) k xs := (dts_all h.all).le (Nat.mul_le_mul_right _ h.len) (Nat.le_refl _)
theorem DL.tup {c n k : Nat} {xs : List PyData} (h : DL c n k xs) : Dt (c * n + 1) (k + 1) (.tuple xs) := Dts.tuple h.dts
theorem DL.list {c n k : Nat} {xs : List PyData} (h : DL c n k xs) : Dt (c * n + 1) (k + 1) (.list xs) := Dts.list h.dts
theorem rngD_mem {lo : Int} {n : Nat} {x : PyData} (h : x ∈ rngD lo n) : ∃ i : Int, x = .int i ∧ lo ≤ i ∧ i < lo + n := by
  unfold rngD at h
  obtain ⟨a, ha, rfl⟩ := List.mem_map.mp h
  have := List.mem_range.mp ha
  exact ⟨_, rfl, by omega, by omega⟩
theorem Dt.pair {n m k l : Nat} {a b : PyData} (h : Dt n k a) (h' : Dt m l b) : Dt (n + m + 1) (max k l + 1) (.tuple [a, b]) := (Dts.tuple (Dts.cons h (Dts.cons h' Dts.nil))).le (by omega) (by omega)
theorem Dt.lpair {n m k l : Nat} {a b : PyData} (h : Dt n k a) (h' : Dt m l b) : Dt (n + m + 1) (max k l + 1) (.list [a, b]) := (Dts.list (Dts.cons h (Dts.cons h' Dts.nil))).le (by omega) (by omega)
end Ev

set_option exponentiation.threshold 256
namespace Ev
open PySem PySem.Spec PyProof.Rows L2
def topS (i : Nat) : Stmt := PySem.Challenge.pw_everystart_k51_what_measures_are.main.body.getD i (.Pass ⟨0, 0, 0, 0⟩)
abbrev s_is_integer : Stmt := topS 2
theorem sc_is_integer : FnScope ["value"] ["value"] (defScope s_is_integer) := ⟨rfl, rfl, rfl, by decide +kernel, rfl, by decide +kernel, by decide +kernel⟩
abbrev s_is_fraction : Stmt := topS 4
theorem sc_is_fraction : FnScope ["value", "a", "b"] ["value"] (defScope s_is_fraction) := ⟨rfl, rfl, rfl, by decide +kernel, rfl, by decide +kernel, by decide +kernel⟩
abbrev s_measure_error : Stmt := topS 6
theorem sc_measure_error : FnScope ["loop", "value", "place", "weight"] ["loop", "value"] (defScope s_measure_error) := ⟨rfl, rfl, rfl, by decide +kernel, rfl, by decide +kernel, by decide +kernel⟩
abbrev s_jar : Stmt := topS 8
theorem sc_jar : FnScope ["script", "cell", "cells", "stirred"] ["script"] (defScope s_jar) := ⟨rfl, rfl, rfl, by decide +kernel, rfl, by decide +kernel, by decide +kernel⟩
abbrev s_draw : Stmt := topS 9
theorem sc_draw : FnScope ["jar", "many", "great", "one", "two"] ["jar", "many"] (defScope s_draw) := ⟨rfl, rfl, rfl, by decide +kernel, rfl, by decide +kernel, by decide +kernel⟩
abbrev s_pick : Stmt := topS 10
theorem sc_pick : FnScope ["jar", "items"] ["jar", "items"] (defScope s_pick) := ⟨rfl, rfl, rfl, by decide +kernel, rfl, by decide +kernel, by decide +kernel⟩
abbrev s_gcd : Stmt := topS 11
theorem sc_gcd : FnScope ["a", "b"] ["a", "b"] (defScope s_gcd) := ⟨rfl, rfl, rfl, by decide +kernel, rfl, by decide +kernel, by decide +kernel⟩
abbrev s_share : Stmt := topS 12
theorem sc_share : FnScope ["jar"] ["jar"] (defScope s_share) := ⟨rfl, rfl, rfl, by decide +kernel, rfl, by decide +kernel, by decide +kernel⟩
abbrev s_die : Stmt := topS 13
theorem sc_die : FnScope ["jar", "low", "a", "b"] ["jar"] (defScope s_die) := ⟨rfl, rfl, rfl, by decide +kernel, rfl, by decide +kernel, by decide +kernel⟩
abbrev s_test : Stmt := topS 14
theorem sc_test : FnScope ["jar", "k", "most"] ["jar", "k", "most"] (defScope s_test) := ⟨rfl, rfl, rfl, by decide +kernel, rfl, by decide +kernel, by decide +kernel⟩
abbrev s_step : Stmt := topS 15
theorem sc_step : FnScope ["jar", "k", "depth", "words", "word", "c", "head"] ["jar", "k", "depth", "words"] (defScope s_step) := ⟨rfl, rfl, rfl, by decide +kernel, rfl, by decide +kernel, by decide +kernel⟩
abbrev s_some_steps : Stmt := topS 16
theorem sc_some_steps : FnScope ["jar", "k", "depth", "words", "most", "turn"] ["jar", "k", "depth", "words", "most"] (defScope s_some_steps) := ⟨rfl, rfl, rfl, by decide +kernel, rfl, by decide +kernel, by decide +kernel⟩
abbrev s_loop : Stmt := topS 17
theorem sc_loop : FnScope ["jar", "k", "words", "many", "names", "steps", "turn"] ["jar", "k", "words", "many"] (defScope s_loop) := ⟨rfl, rfl, rfl, by decide +kernel, rfl, by decide +kernel, by decide +kernel⟩
abbrev s_l_is_fraction : Stmt := topS 18
theorem sc_l_is_fraction : FnScope ["thing", "a", "b"] ["thing"] (defScope s_l_is_fraction) := ⟨rfl, rfl, rfl, by decide +kernel, rfl, by decide +kernel, by decide +kernel⟩
abbrev s_size : Stmt := topS 19
theorem sc_size : FnScope ["steps", "found", "step"] ["steps"] (defScope s_size) := ⟨rfl, rfl, rfl, by decide +kernel, rfl, by decide +kernel, by decide +kernel⟩
abbrev s_weights : Stmt := topS 20
theorem sc_weights : FnScope ["jar", "k", "place"] ["jar", "k"] (defScope s_weights) := ⟨rfl, rfl, rfl, by decide +kernel, rfl, by decide +kernel, by decide +kernel⟩
abbrev s_due : Stmt := topS 21
theorem sc_due : FnScope ["loop", "value", "place", "weight"] ["loop", "value"] (defScope s_due) := ⟨rfl, rfl, rfl, by decide +kernel, rfl, by decide +kernel, by decide +kernel⟩
abbrev s_law : Stmt := topS 22
theorem sc_law : FnScope ["script", "jar", "turn", "loop", "k", "weights", "spot", "odd", "fresh", "again", "some", "nth", "value", "same", "due", "told"] ["script"] (defScope s_law) := ⟨rfl, rfl, rfl, by decide +kernel, rfl, by decide +kernel, by decide +kernel⟩
structure Txt (K : PySem.W.Frag) (mg : Str → Option Value) (A : Nat → Addr) (D : Nat → FuncData) : Prop where
  z_int : mg "int" = none
  z_len : mg "len" = none
  z_abs : mg "abs" = none
  z_repr : mg "repr" = none
  range : mg "range" = none
  z_isinstance : mg "isinstance" = none
  z_list : mg "list" = none
  z_tuple : mg "tuple" = none
  enumerate : mg "enumerate" = none
  z_bool : mg "bool" = none
  z_gcd : mg "gcd" = some (.builtin "math.gcd")
  F_is_integer : Fun K "is_integer" "is_integer" s_is_integer (A 0) (D 0)
  g_is_integer : mg "is_integer" = some (.ref (A 0))
  F_is_fraction : Fun K "is_fraction" "is_fraction" s_is_fraction (A 1) (D 1)
  g_is_fraction : mg "is_fraction" = some (.ref (A 1))
  F_measure_error : Fun K "measure_error" "measure_error" s_measure_error (A 2) (D 2)
  g_measure_error : mg "measure_error" = some (.ref (A 2))
  F_jar : Fun K "_law_jar" "_law_jar" s_jar (A 3) (D 3)
  g_jar : mg "_law_jar" = some (.ref (A 3))
  F_draw : Fun K "_law_draw" "_law_draw" s_draw (A 4) (D 4)
  g_draw : mg "_law_draw" = some (.ref (A 4))
  F_pick : Fun K "_law_pick" "_law_pick" s_pick (A 5) (D 5)
  g_pick : mg "_law_pick" = some (.ref (A 5))
  F_gcd : Fun K "_law_gcd" "_law_gcd" s_gcd (A 6) (D 6)
  g_gcd : mg "_law_gcd" = some (.ref (A 6))
  F_share : Fun K "_law_share" "_law_share" s_share (A 7) (D 7)
  g_share : mg "_law_share" = some (.ref (A 7))
  F_die : Fun K "_law_die" "_law_die" s_die (A 8) (D 8)
  g_die : mg "_law_die" = some (.ref (A 8))
  F_test : Fun K "_law_test" "_law_test" s_test (A 9) (D 9)
  g_test : mg "_law_test" = some (.ref (A 9))
  F_step : Fun K "_law_step" "_law_step" s_step (A 10) (D 10)
  g_step : mg "_law_step" = some (.ref (A 10))
  F_some_steps : Fun K "_law_some_steps" "_law_some_steps" s_some_steps (A 11) (D 11)
  g_some_steps : mg "_law_some_steps" = some (.ref (A 11))
  F_loop : Fun K "_law_loop" "_law_loop" s_loop (A 12) (D 12)
  g_loop : mg "_law_loop" = some (.ref (A 12))
  F_l_is_fraction : Fun K "_law_is_fraction" "_law_is_fraction" s_l_is_fraction (A 13) (D 13)
  g_l_is_fraction : mg "_law_is_fraction" = some (.ref (A 13))
  F_size : Fun K "_law_size" "_law_size" s_size (A 14) (D 14)
  g_size : mg "_law_size" = some (.ref (A 14))
  F_weights : Fun K "_law_weights" "_law_weights" s_weights (A 15) (D 15)
  g_weights : mg "_law_weights" = some (.ref (A 15))
  F_due : Fun K "_law_due" "_law_due" s_due (A 16) (D 16)
  g_due : mg "_law_due" = some (.ref (A 16))
  F_law : Fun K "law" "law" s_law (A 17) (D 17)
  g_law : mg "law" = some (.ref (A 17))
section
variable {P : Program} {w : World} {K : PySem.W.Frag} {mg : Str → Option Value} {base : Heap} {A : Nat → Addr} {D : Nat → FuncData}
theorem Txt.k_is_integer (T : Txt K mg A D) : PySem.W.keepIn K (.ref (A 0)) = true := T.F_is_integer.kp
theorem Txt.b_is_integer (T : Txt K mg A D) : Binds K (D 0) ["value"] [] := T.F_is_integer.binds fun _ _ _ _ _ _ us hl => match us, hl with | [_], _ => rfl
theorem Txt.k_is_fraction (T : Txt K mg A D) : PySem.W.keepIn K (.ref (A 1)) = true := T.F_is_fraction.kp
theorem Txt.b_is_fraction (T : Txt K mg A D) : Binds K (D 1) ["value"] [] := T.F_is_fraction.binds fun _ _ _ _ _ _ us hl => match us, hl with | [_], _ => rfl
theorem Txt.k_measure_error (T : Txt K mg A D) : PySem.W.keepIn K (.ref (A 2)) = true := T.F_measure_error.kp
theorem Txt.b_measure_error (T : Txt K mg A D) : Binds K (D 2) ["loop", "value"] [] := T.F_measure_error.binds fun _ _ _ _ _ _ us hl => match us, hl with | [_, _], _ => rfl
theorem Txt.k_jar (T : Txt K mg A D) : PySem.W.keepIn K (.ref (A 3)) = true := T.F_jar.kp
theorem Txt.b_jar (T : Txt K mg A D) : Binds K (D 3) ["script"] [] := T.F_jar.binds fun _ _ _ _ _ _ us hl => match us, hl with | [_], _ => rfl
theorem Txt.k_draw (T : Txt K mg A D) : PySem.W.keepIn K (.ref (A 4)) = true := T.F_draw.kp
theorem Txt.b_draw (T : Txt K mg A D) : Binds K (D 4) ["jar", "many"] [] := T.F_draw.binds fun _ _ _ _ _ _ us hl => match us, hl with | [_, _], _ => rfl
theorem Txt.k_pick (T : Txt K mg A D) : PySem.W.keepIn K (.ref (A 5)) = true := T.F_pick.kp
theorem Txt.b_pick (T : Txt K mg A D) : Binds K (D 5) ["jar", "items"] [] := T.F_pick.binds fun _ _ _ _ _ _ us hl => match us, hl with | [_, _], _ => rfl
theorem Txt.k_gcd (T : Txt K mg A D) : PySem.W.keepIn K (.ref (A 6)) = true := T.F_gcd.kp
theorem Txt.b_gcd (T : Txt K mg A D) : Binds K (D 6) ["a", "b"] [] := T.F_gcd.binds fun _ _ _ _ _ _ us hl => match us, hl with | [_, _], _ => rfl
theorem Txt.k_share (T : Txt K mg A D) : PySem.W.keepIn K (.ref (A 7)) = true := T.F_share.kp
theorem Txt.b_share (T : Txt K mg A D) : Binds K (D 7) ["jar"] [] := T.F_share.binds fun _ _ _ _ _ _ us hl => match us, hl with | [_], _ => rfl
theorem Txt.k_die (T : Txt K mg A D) : PySem.W.keepIn K (.ref (A 8)) = true := T.F_die.kp
theorem Txt.b_die (T : Txt K mg A D) : Binds K (D 8) ["jar"] [] := T.F_die.binds fun _ _ _ _ _ _ us hl => match us, hl with | [_], _ => rfl
theorem Txt.k_test (T : Txt K mg A D) : PySem.W.keepIn K (.ref (A 9)) = true := T.F_test.kp
theorem Txt.b_test (T : Txt K mg A D) : Binds K (D 9) ["jar", "k", "most"] [] := T.F_test.binds fun _ _ _ _ _ _ us hl => match us, hl with | [_, _, _], _ => rfl
theorem Txt.k_step (T : Txt K mg A D) : PySem.W.keepIn K (.ref (A 10)) = true := T.F_step.kp
theorem Txt.b_step (T : Txt K mg A D) : Binds K (D 10) ["jar", "k", "depth", "words"] [] := T.F_step.binds fun _ _ _ _ _ _ us hl => match us, hl with | [_, _, _, _], _ => rfl
theorem Txt.k_some_steps (T : Txt K mg A D) : PySem.W.keepIn K (.ref (A 11)) = true := T.F_some_steps.kp
theorem Txt.b_some_steps (T : Txt K mg A D) : Binds K (D 11) ["jar", "k", "depth", "words", "most"] [] := T.F_some_steps.binds fun _ _ _ _ _ _ us hl => match us, hl with | [_, _, _, _, _], _ => rfl
theorem Txt.k_loop (T : Txt K mg A D) : PySem.W.keepIn K (.ref (A 12)) = true := T.F_loop.kp
theorem Txt.b_loop (T : Txt K mg A D) : Binds K (D 12) ["jar", "k", "words", "many"] [] := T.F_loop.binds fun _ _ _ _ _ _ us hl => match us, hl with | [_, _, _, _], _ => rfl
theorem Txt.k_l_is_fraction (T : Txt K mg A D) : PySem.W.keepIn K (.ref (A 13)) = true := T.F_l_is_fraction.kp
theorem Txt.b_l_is_fraction (T : Txt K mg A D) : Binds K (D 13) ["thing"] [] := T.F_l_is_fraction.binds fun _ _ _ _ _ _ us hl => match us, hl with | [_], _ => rfl
theorem Txt.k_size (T : Txt K mg A D) : PySem.W.keepIn K (.ref (A 14)) = true := T.F_size.kp
theorem Txt.b_size (T : Txt K mg A D) : Binds K (D 14) ["steps"] [] := T.F_size.binds fun _ _ _ _ _ _ us hl => match us, hl with | [_], _ => rfl
theorem Txt.k_weights (T : Txt K mg A D) : PySem.W.keepIn K (.ref (A 15)) = true := T.F_weights.kp
theorem Txt.b_weights (T : Txt K mg A D) : Binds K (D 15) ["jar", "k"] [] := T.F_weights.binds fun _ _ _ _ _ _ us hl => match us, hl with | [_, _], _ => rfl
theorem Txt.k_due (T : Txt K mg A D) : PySem.W.keepIn K (.ref (A 16)) = true := T.F_due.kp
theorem Txt.b_due (T : Txt K mg A D) : Binds K (D 16) ["loop", "value"] [] := T.F_due.binds fun _ _ _ _ _ _ us hl => match us, hl with | [_, _], _ => rfl
theorem Txt.k_law (T : Txt K mg A D) : PySem.W.keepIn K (.ref (A 17)) = true := T.F_law.kp
theorem Txt.b_law (T : Txt K mg A D) : Binds K (D 17) ["script"] [] := T.F_law.binds fun _ _ _ _ _ _ us hl => match us, hl with | [_], _ => rfl

end
@[reducible] instance : Lo := ⟨"far", "stirred", "turn"⟩
end Ev

set_option exponentiation.threshold 3000
namespace Ev
open PySem PySem.Spec PyProof.Rows L2
theorem ldD_len {F : Addr} {s t : Int} : (ldD F s t).length < sizeLine := by
  show 3 < sizeLine
  decide
section
variable {P : Program} {w : World} {K : PySem.W.Frag} {mg : Str → Option Value} {base : Heap} {A : Nat → Addr} {D : Nat → FuncData}
theorem Txt.okh_draw (T : Txt K mg A D) : FnOk P w K mg base CX0 1 (A 4) (D 4) ["jar", "many"] sp_drawH := by
  refine T.F_draw.ok sc_draw (fun vs H Q E h => ?_) (fun cdv Ar outer s H vs Q E hr h => ?_)
  · obtain ⟨L, F, many, rfl, _⟩ := h
    rfl
  · obtain ⟨L, F, many, rfl, ⟨fs, s0, t0, hL, hF, hlen⟩, hmany, q⟩ := h
    have hu := hu_of hr
    refine ⟨_, (pss_cons (ps_if (pt_cmpR op_lt (pv 1) pe_int (nomark _)) (pss_one (ps_ret pe_int)) pss_nil)
    (pss_cons (ps_if (pt_cmpR (op_neD hr.units) (pe_dget hu (pv 0) pe_str (fun _ _ => rfl)) (pe_lst pa_nil) (nomark _)) (pss_cons (ps_set (i := 2) sc_draw.nd rfl (Or.inl rfl) (pe_bm0 PySem.F.plainAttrs_list PySem.F.slot_list_pop PySem.F.type_list_pop mt_pop (pe_dget hu (pv 0) pe_str (fun _ _ => rfl))))
    (pss_cons (ps_if (pt_cmpR op_ge (pv 2) (pv 1) (nomark _)) (pss_one (ps_expr (pe_bm PySem.F.plainAttrs_list PySem.F.slot_list_append PySem.F.type_list_append mt_append (pe_dget hu (pv 0) pe_str (fun _ _ => rfl)) (pa_cons (pe_op op_fdivN (pv 2) (pv 1)) pa_nil)))) pss_nil)
    (pss_one (ps_ret (pe_op op_mod (pe_callTy call_int1 (by rfl) T.z_int (by decide +kernel) (pa_cons (pv 2) pa_nil)) (pv 1)))))) pss_nil)
    (pss_cons (ps_dput hu (pv 0) pe_str (pe_op op_add (pe_dget hu (pv 0) pe_str (fun _ _ => rfl)) pe_int) rfl)
    (pss_cons (ps_set (i := 3) sc_draw.nd rfl (Or.inl rfl) (pe_op op_mod (pe_callTy call_int1 (by rfl) T.z_int (by decide +kernel) (pa_cons (pe_op op_add (pe_dget hu (pv 0) pe_str (fun _ _ => rfl)) (pe_op op_mul (pe_dget hu (pv 0) pe_str (fun _ _ => rfl)) pe_int)) pa_nil)) pe_int))
    (pss_cons (ps_set (i := 4) sc_draw.nd rfl (Or.inl rfl) (pe_op op_mod (pe_callTy call_int1 (by rfl) T.z_int (by decide +kernel) (pa_cons (pe_op op_add (pe_op op_add (pe_op op_mul (pv 3) (pv 3)) (pe_op op_mul (pe_dget hu (pv 0) pe_str (fun _ _ => rfl)) pe_int)) pe_int) pa_nil)) pe_int))
    (pss_one (ps_ret (pe_op op_mod (pe_op op_fdivN (pe_op op_mod (pe_callTy call_int1 (by rfl) T.z_int (by decide +kernel) (pa_cons (pe_op op_add (pe_op op_mul (pv 4) (pv 4)) (pv 3)) pa_nil)) pe_int) pe_int) (pv 1))))))))), ?_⟩
    refine ⟨_, rfl, _, _, rfl, rfl, _, rfl, ite2 (fun e => ?_) (fun e => ?_)⟩
    · exact q H 0 (Kp.refl H) ⟨fs, s0, t0, hL, hF, hlen⟩ (Int.le_refl 0) (.inr rfl)
    · have h2 : 2 ≤ many := Int.not_lt.mp fun z => e (decide_eq_true z)
      refine ⟨_, rfl, L, _, rfl, DGet.k (k := Sum.inr "far") hL, ⟨Nat.zero_le _, fun p hp => ?_⟩⟩
      have hFp : (upd H p (.lst [])) F = some (.lst (fs.map V.int)) := by
        rw [upd_ne (ne_of_none hF hp)]
        exact hF
      refine ⟨_, _, .lst (.inl (.inl hFp)) (dpAll_ints fs), .lst (xs := []) (.inl (.inl upd_same)) .nil, shaped_ints fs, by decide, _, rfl, ite2 (fun e1 => ?_) (fun e1 => ?_)⟩
      · rw [eqv_ints_nil] at e1
        rcases snoc_cases fs with rfl | ⟨gs, c, rfl⟩
        · exact absurd e1 (by decide)
        · have hL1 : (upd H p (.lst [])) L = some (.dK (ldD F s0 t0)) := by
            rw [upd_ne (ne_of_none hL hp)]
            exact hL
          have nLF : L ≠ F := ne_of hL hF (by intro z; cases z)
          have last : ((gs ++ [c]).map V.int)[((gs ++ [c]).map V.int).length - 1]? = some (.int c) := by simp
          have drop : ((gs ++ [c]).map V.int).dropLast = gs.map V.int := by simp
          have hg : gs.length ≤ 62 := by
            rw [List.length_append, List.length_singleton] at hlen
            omega
          have km : 0 ≤ c % many ∧ c % many < many := ⟨Int.emod_nonneg _ (by omega), Int.emod_lt_of_pos _ (by omega)⟩
          refine ⟨_, rfl, L, _, rfl, DGet.k (k := Sum.inr "far") hL1, .inl ⟨rfl, _, SqL.of hFp⟩, F, _, _, rfl, rfl, hFp, last, ?_⟩
          rw [drop]
          refine ⟨_, rfl, _, rfl, _, _, rfl, rfl, _, rfl, ite2 (fun e2 => ?_) (fun e2 => ?_)⟩
          · have hL2 : (upd (upd H p (.lst [])) F (.lst (gs.map V.int))) L = some (.dK (ldD F s0 t0)) := by
              rw [upd_ne nLF]
              exact hL1
            refine ⟨_, rfl, L, _, rfl, DGet.k (k := Sum.inr "far") hL2, .inl ⟨rfl, _, SqL.of upd_same⟩, _, rfl, _, rfl, _, _, rfl, rfl, ⟨by omega, by omega⟩, F, _, _, rfl, rfl, upd_same, small1000 (by rw [List.length_map]; omega), ?_⟩
            refine ⟨_, rfl, .inl ⟨_, rfl, _, rfl, _, _, rfl, rfl, by show 0 < many; omega, ?_⟩⟩
            refine q _ _ ?_ ?_ km.1 (.inl km.2)
            · exact ((Kp.new hp).trans Kp.updF).trans Kp.updF
            · exact ⟨gs ++ [c.fdiv many], s0, t0, by rw [upd_ne nLF]; exact hL2, by rw [upd_same, List.map_append]; rfl, by rw [List.length_append, List.length_singleton]; omega⟩
          · refine ⟨_, rfl, .inl ⟨_, rfl, _, rfl, _, _, rfl, rfl, by show 0 < many; omega, ?_⟩⟩
            refine q _ _ ?_ ?_ km.1 (.inl km.2)
            · exact (Kp.new hp).trans Kp.updF
            · exact ⟨gs, s0, t0, by rw [upd_ne nLF]; exact hL1, upd_same, by omega⟩
      · have hL1 : (upd H p (.lst [])) L = some (.dK (ldD F s0 t0)) := by
          rw [upd_ne (ne_of_none hL hp)]
          exact hL
        have nLF : L ≠ F := ne_of hL hF (by intro z; cases z)
        refine ⟨_, rfl, L, _, rfl, DGet.k (k := Sum.inr "turn") hL1, _, _, rfl, rfl, _, rfl, L, _, rfl, DPut.k (k := Sum.inr "turn") hL1 ldD_len, ?_⟩
        have hL2 : (upd (upd H p (.lst [])) L (.dK (ldD F s0 (t0 + 1)))) L = some (.dK (ldD F s0 (t0 + 1))) := upd_same
        show (_ : L2.TS) _ _ (upd (upd H p (.lst [])) L (.dK (ldD F s0 (t0 + 1))))
        refine ⟨_, rfl, L, _, rfl, DGet.k (k := Sum.inr "stirred") hL2, _, rfl, L, _, rfl, DGet.k (k := Sum.inr "turn") hL2, _, _, rfl, rfl, .inr (by decide), _, _, rfl, rfl, .inl ⟨_, rfl, _, _, rfl, rfl, by show (0 : Int) < 4294967291; decide, ?_⟩⟩
        have b1 : 0 ≤ (s0 + (t0 + 1) * 2654435761) % 4294967291 ∧ (s0 + (t0 + 1) * 2654435761) % 4294967291 < 4294967291 := ⟨Int.emod_nonneg _ (by decide), Int.emod_lt_of_pos _ (by decide)⟩
        revert b1
        generalize (s0 + (t0 + 1) * 2654435761) % 4294967291 = u1
        intro b1
        refine ⟨_, rfl, _, rfl, _, _, rfl, rfl, .inl ⟨by omega, by omega⟩, _, rfl, L, _, rfl, DGet.k (k := Sum.inr "turn") hL2, _, _, rfl, rfl, .inr (by decide), _, _, rfl, rfl, _, _, rfl, rfl, .inl ⟨_, rfl, _, _, rfl, rfl, by show (0 : Int) < 4294967279; decide, ?_⟩⟩
        have b2 : 0 ≤ (u1 * u1 + (t0 + 1) * 362437 + 5) % 4294967279 ∧ (u1 * u1 + (t0 + 1) * 362437 + 5) % 4294967279 < 4294967279 := ⟨Int.emod_nonneg _ (by decide), Int.emod_lt_of_pos _ (by decide)⟩
        revert b2
        generalize (u1 * u1 + (t0 + 1) * 362437 + 5) % 4294967279 = u2
        intro b2
        refine ⟨_, rfl, _, rfl, _, _, rfl, rfl, .inl ⟨by omega, by omega⟩, _, rfl, _, _, rfl, rfl, .inl ⟨_, rfl, _, _, rfl, rfl, by show (0 : Int) < 4294967231; decide, ?_⟩⟩
        generalize (u2 * u2 + u1) % 4294967231 = u3
        refine ⟨_, _, rfl, rfl, ⟨by decide, by decide⟩, _, rfl, _, _, rfl, rfl, by show 0 < many; omega, ?_⟩
        refine q _ _ ((Kp.new hp).trans Kp.updL) ?_ (Int.emod_nonneg _ (by omega)) (.inl (Int.emod_lt_of_pos _ (by omega)))
        exact ⟨fs, s0, t0 + 1, hL2, by rw [upd_ne nLF.symm]; exact hFp, hlen⟩
theorem Txt.ok_draw (T : Txt K mg A D) : FnOk P w K mg base CX0 1 (A 4) (D 4) ["jar", "many"] (spD K drawR) := draw_of T.okh_draw
/-! ### the loom's making -/
theorem Txt.ok_jar (T : Txt K mg A D) : FnOk P w K mg base CX0 1 (A 3) (D 3) ["script"] (sp_loomH K) := by
  refine T.F_jar.ok sc_jar (fun vs H Q E h => ?_) (fun cdv Ar outer s H vs Q E hr h => ?_)
  · obtain ⟨a, ns, rfl, _⟩ := h
    rfl
  · obtain ⟨a, ns, rfl, hS, hlen, q⟩ := h
    have hu := hu_of hr
    refine ⟨_, (pss_cons (ps_par (i := 2) (j := 3) rfl sc_jar.nd rfl rfl (by decide) rfl rfl (pa_cons (pe_lc (own := [("cell", 1)]) (g := gName 1) (tt := tYes) rfl sc_jar.nd (pi_list (pe_slice sl_list (pv 0) po_none (po_some pe_int))) (blkOk_by (N := ["script", "cell", "cells", "stirred"]) (sc := defScope s_jar) (by decide +kernel)) (fun _ _ _ _ _ => pg_name (i := 1) sc_jar.nd rfl (Or.inl rfl)) (fun _ _ _ _ _ => pts_nil) (fun _ _ _ _ _ => (pe_op op_add (pe_op op_mul pe_int (pe_callB call_abs (by rfl) T.z_abs (by decide +kernel) (pa_cons (pv 1) pa_nil))) (pe_callTy call_int1 (by rfl) T.z_int (by decide +kernel) (pa_cons (pe_cmpR op_lt (pv 1) pe_int (nomark _)) pa_nil))))) (pa_cons (pe_op op_add pe_int (pe_callB call_len_seq (by rfl) T.z_len (by decide +kernel) (pa_cons (pv 0) pa_nil))) pa_nil)) (by rfl))
    (pss_cons (ps_for PassesOwn.never rfl (pi_list (pv 2)) (pg_name (i := 1) sc_jar.nd rfl (Or.inl rfl)) (pss_one (ps_set (i := 3) sc_jar.nd rfl (Or.inl rfl) (pe_op op_mod (pe_callTy call_int1 (by rfl) T.z_int (by decide +kernel) (pa_cons (pe_op op_add (pe_op op_add (pe_op op_mul (pv 3) pe_int) (pv 1)) pe_int) pa_nil)) pe_int))))
    (pss_one (ps_ret (pe_disp (pps_cons pe_str (pe_lc (own := [("cell", 1)]) (g := gName 1) (tt := _) rfl sc_jar.nd (pi_list (pv 2)) (blkOk_by (N := ["script", "cell", "cells", "stirred"]) (sc := defScope s_jar) (by decide +kernel)) (fun _ _ _ _ _ => pg_name (i := 1) sc_jar.nd rfl (Or.inl rfl)) (fun _ _ _ _ _ => (pts_one (pt_cmpR op_ge (pv 1) (pe_op op_pow pe_int pe_int) (nomark _)))) (fun _ _ _ _ _ => (pv 1))) (pps_cons pe_str (pv 3) (pps_cons pe_str pe_int pps_nil))) (by rfl) (by rfl) (fun z => by cases z) (by decide)))))), ?_⟩
    refine ⟨_, rfl, _, rfl, a, _, rfl, hS, fun p hp => ?_⟩
    obtain ⟨ms, em, hm⟩ := cut_ints ns none (some 63)
    rw [em]
    have sp : Same H (upd H p (.lst (ms.map V.int))) := same_new hp
    refine ⟨p, rfl, ⟨_, SqL.of upd_same⟩, fun D1 hD1 => ?_⟩
    have hDp : H D1 = none := sp.free hD1
    refine lc_list (K := K) (a := p) (xs := ms.map V.int) (fun i H' => Same (upd H p (.lst (ms.map V.int))) H' ∧ ∃ acc : List Int, H' D1 = some (.lst (acc.map V.int)) ∧ acc.length = i)
      ⟨same_new hD1, [], upd_same, rfl⟩ (fun i H' _ z => z.1.seq (SqL.of upd_same)) ?_ ?_
    · intro i x H' hx hP
      obtain ⟨m, hm1, rfl⟩ := int_at hx
      obtain ⟨s1, acc, hA, la⟩ := hP
      have hi : i < ms.length := (List.getElem?_eq_some_iff.mp hm1).1
      refine ⟨rfl, yes_of ?_⟩
      refine ⟨_, rfl, _, rfl, _, _, rfl, rfl, .inl ⟨by decide, by decide⟩, _, rfl, _, _, rfl, rfl, .inr ⟨_, rfl, _, _, rfl, rfl, _, hA, small1000 (by rw [List.length_map]; omega), same_put s1 hD1, acc ++ [2 * (if m < 0 then -m else m) + (if decide (m < 0) = true then 1 else 0)], ?_, ?_⟩⟩
      · rw [upd_same, List.map_append]
        rfl
      · rw [List.length_append, List.length_singleton, la]
    · intro H1 hP
      obtain ⟨s1, acc, hA, la⟩ := hP
      have sH : Same H H1 := sp.trans s1
      have sS := sH.seq hS
      refine ⟨_, rfl, a, _, rfl, .inl sS, _, _, rfl, rfl, _, _, rfl, ?_⟩
      -- the loop
      refine ⟨.ref D1, rfl, D1, rfl, ⟨_, SqL.of hA⟩, for_list (K := K) (a := D1) (xs := acc.map V.int) (fun i σ H' => H' = H1 ∧ ∃ (y : Option V) (z : Int), σ = [some (.ref a), y, some (.ref D1), some (.int z)])
        ⟨rfl, none, _, rfl⟩ (fun i σ H' _ z => by rw [z.1]; exact SqL.of hA) ?_ ?_⟩
      · rintro i x σ H' hx ⟨rfl, y, z, rfl⟩
        obtain ⟨m, hm1, rfl⟩ := int_at hx
        exact ⟨_, rfl, _, _, rfl, rfl, .inr ⟨by decide, by decide⟩, _, rfl, _, _, rfl, rfl, _, _, rfl, rfl, .inl ⟨_, rfl, _, _, rfl, rfl, by show (0 : Int) < 4294967291; decide, rfl, _, _, rfl⟩⟩
      · rintro σ H' ⟨rfl, y, z, rfl⟩
        -- the dict
        intro L hL
        have sL : Same H' (upd H' L (.dK [])) := same_new hL
        have hLH : H L = none := sH.free hL
        refine ⟨_, rfl, D1, rfl, ⟨_, (sL.seq (SqL.of hA))⟩, fun F hF => ?_⟩
        have hF' : H' F = none := sL.free hF
        refine lc_list (K := K) (a := D1) (xs := acc.map V.int) (fun i H2 => Same (upd H' L (.dK [])) H2 ∧ ∃ gs : List Int, H2 F = some (.lst (gs.map V.int)) ∧ gs.length ≤ i)
          ⟨same_new hF, [], upd_same, Nat.le_refl _⟩ (fun i H2 _ z => z.1.seq (sL.seq (SqL.of hA))) ?_ ?_
        · intro i x H2 hx hP
          obtain ⟨m, hm1, rfl⟩ := int_at hx
          obtain ⟨s2, gs, hG, lg⟩ := hP
          have hi : i < acc.length := (List.getElem?_eq_some_iff.mp hm1).1
          rw [List.length_map] at la
          refine ⟨rfl, _, rfl, _, _, rfl, rfl, ⟨by decide, by decide, by decide⟩, _, _, rfl, rfl, _, rfl, ite2 (fun e => ?_) (fun e => ?_)⟩
          · exact ⟨_, rfl, _, hG, small1000 (by rw [List.length_map]; omega), same_put s2 hF, gs ++ [m], by rw [upd_same, List.map_append]; rfl, by rw [List.length_append, List.length_singleton]; omega⟩
          · exact ⟨s2, gs, hG, by omega⟩
        · intro H2 hP
          obtain ⟨s2, gs, hG, lg⟩ := hP
          rw [List.length_map] at la lg
          have hL2 : H2 L = some (.dK []) := s2 _ _ upd_same
          refine ⟨_, rfl, hL2, ldD F z 0, rfl, (by show 3 ≤ 15; decide), ?_⟩
          have nFL : F ≠ L := fun e => by
            rw [e, hL2] at hG
            cases hG
          refine q _ L F ?_ ⟨gs, z, 0, upd_same, by rw [upd_ne nFL]; exact hG, by omega⟩ hLH (sH.free hF')
          intro b o e
          have e1 := sH _ _ e
          rw [upd_ne (ne_of_none e1 hL)]
          exact s2 _ _ (sL _ _ e1)
end
end Ev

set_option exponentiation.threshold 256
namespace Ev
open PySem PySem.Spec PyProof.Rows L2
theorem natgcd_one (i j : Int) : (((i.natAbs.gcd j.natAbs : Nat) : Int) = 1) ↔ Nat.gcd i.natAbs j.natAbs = 1 := by omega
theorem frac_no_a {a b : PyData} (h : isWhole a = false) : fracD (.tuple [a, b]) = false := by
  cases a <;> first | rfl | cases h
theorem frac_no_b {a b : PyData} (h : isWhole b = false) : fracD (.tuple [a, b]) = false := by
  cases a <;> cases b <;> first | rfl | cases h
theorem frac_len {ds : List PyData} (h : ds.length ≠ 2) : fracD (.tuple ds) = false := by
  match ds, h with
  | [], _ => rfl
  | [a], _ => cases a <;> rfl
  | [a, b], h => exact absurd rfl h
  | a :: b :: c :: r, _ => cases a <;> cases b <;> rfl
theorem frac_tup {d : PyData} (h : isTup d = false) : fracD d = false := by
  cases d <;> first | rfl | cases h
theorem tup_ex {d : PyData} (h : ¬ (!isTup d) = true) : ∃ ds, d = .tuple ds := by
  cases d with
  | tuple ds => exact ⟨ds, rfl⟩
  | _ => exact absurd rfl h
theorem two_ex {ds : List PyData} (h : ds.length = 2) : ∃ a b, ds = [a, b] := by
  match ds, h with
  | [a, b], _ => exact ⟨a, b, rfl⟩
theorem notT {b : Bool} (h : (!b) = true) : b = false := by
  cases b
  · rfl
  · cases h
section
variable {P : Program} {w : World} {K : PySem.W.Frag} {mg : Str → Option Value} {base : Heap} {A : Nat → Addr} {D : Nat → FuncData}
abbrev intR : RelD := fn1 fun d => .bool (isWhole d)
theorem Txt.ok_is_integer (T : Txt K mg A D) : FnOk P w K mg base CX0 1 (A 0) (D 0) ["value"] (spD K intR) := by
  refine okD T.F_is_integer sc_is_integer (by rintro ss P ⟨d, rfl, _⟩; rfl) (fun cdv Ar outer s H E hr => ⟨_, (dss_one (ds_ret (de_and (de_isi (tn := "int") kit_int (by rfl) T.z_isinstance (by decide +kernel) (de_v (pv 0)) (pe_bltn (v := .ty "int") (by rfl) T.z_int (by decide +kernel) rfl)) (de_one (de_not (de_isi (tn := "bool") kit_bool (by rfl) T.z_isinstance (by decide +kernel) (de_v (pv 0)) (pe_bltn (v := .ty "bool") (by rfl) T.z_bool (by decide +kernel) rfl))))))), ?_⟩)
  rintro ss P ⟨d, rfl, rfl⟩
  simp only [dSeq, dIfS, dRet, dRetN, dSet, dPar, dPar3, dAsg, dFor, dDrop, dNext, dBrk, dCnt, dAug, dApp, dExt, dPop, dPopAt, dSetI, dFrz, xD, xF, dC, dV, dO, dOp, dOpO, dB, dCh, dAnd, dOr, dNot, dAndV, dOrV, dNotV, dNotT, dIf, dNil, dCons, gNilD, gConsD, gLm, dTup, dLst, dLs, dSl, dSlO, dNo, dSo, d1, dIsi, dList, dCall, dCallK, putS, dGcd, dNeg, dLc, dYes, wTupI, wLstI, wRng1, wRng2, wEnT, wEnL, wName, wNil, wCons, wTup, subD, mulD, divD, modD, powD, ltD, leD, gtD, geD, reprD, wipeD, uns, List.cons_append, List.nil_append, List.length_cons, List.length_nil, List.replicate, List.getElem?_cons_zero, List.getElem?_cons_succ, List.set_cons_zero, List.set_cons_succ, List.map_cons, List.map_nil, List.getD_cons_zero, List.getD_cons_succ, ↓reduceIte, Bool.not_true, Bool.not_false, Bool.false_eq_true, sof_fn1, sof_fn2, sof_fn1p, sof_fn2p, eqv_int, eqv_str, plain_int, plain_bool, plain_none, true_and, and_true, sizeLine_eq, Nat.reduceAdd, Nat.reduceLeDiff, Nat.zero_add, addD_int, addD_str, addD_tup, addD_list, intF_int, intD_int, eqD_int, eqD_str, neD_int, neD_str, inD_list, inD_tup, isND_none, ixD_t0, ixD_t1, ixD_t2, ixD_t3, ixD_l0, lenD_tup, lenD_list, lenD_str, absD_int, toIntD_int, toIntD_bool, toStrD_int, tupleD_list, tupleD_tup, cutSq_tup, cutSq_list, cutSq_str, isInt_none, isInt_bool, isInt_int, isInt_str, isInt_list, isInt_tup, isInt_dict, isBool_none, isBool_bool, isBool_int, isBool_str, isBool_list, isBool_tup, isBool_dict, isStr_none, isStr_bool, isStr_int, isStr_str, isStr_list, isStr_tup, isStr_dict, isTup_none, isTup_bool, isTup_int, isTup_str, isTup_list, isTup_tup, isTup_dict, isLst_none, isLst_bool, isLst_int, isLst_str, isLst_list, isLst_tup, isLst_dict]
  unfold isWhole
  cases isInt d <;> rfl
abbrev fracR : RelD := fn1 fun d => .bool (fracD d)
theorem Txt.ok_is_fraction (T : Txt K mg A D) : FnOk P w K mg base CX0 2 (A 1) (D 1) ["value"] (spD K fracR) := by
  refine okD T.F_is_fraction sc_is_fraction (by rintro ss P ⟨d, rfl, _⟩; rfl) (fun cdv Ar outer s H E hr => ⟨_, (dss_cons (ds_if (DW.pt (dw_or (dt_not (dt_val (de_isi (tn := "tuple") kit_tup (by rfl) T.z_isinstance (by decide +kernel) (de_v (pv 0)) (pe_bltn (v := .ty "tuple") (by rfl) T.z_tuple (by decide +kernel) rfl)))) (dw_or1 (dt_cmp (o_ne hr.units) (de_c1 c_len (by rfl) T.z_len (by decide +kernel) (DE.r (de_v (pv 0)))) (DE.r de_int) (nomark _))))) (dss_one (ds_ret de_bl)) dss_nil)
    (dss_cons (ds_asg (de_v (pv 0)) (dg_tup (n := 2) rfl (dgs_cons (dg_name (i := 1) sc_is_fraction.nd rfl (Or.inl rfl)) (dgs_cons (dg_name (i := 2) sc_is_fraction.nd rfl (Or.inl rfl)) dgs_nil))))
    (dss_one (ds_ret (de_and (de_call T.ok_is_integer hr (by rfl) T.g_is_integer T.k_is_integer T.b_is_integer pass0 (dg_cons (de_v (pv 1)) dg_nil)) (de_and (de_call T.ok_is_integer hr (by rfl) T.g_is_integer T.k_is_integer T.b_is_integer pass0 (dg_cons (de_v (pv 2)) dg_nil)) (de_and (de_cmp o_ge (de_v (pv 2)) (DE.r de_int) (nomark _)) (de_one (de_cmp (o_eq hr.units) (de_gcd (by rfl) T.z_gcd (de_v (pv 1)) (de_v (pv 2))) (DE.r de_int) (nomark _)))))))))), ?_⟩)
  rintro ss P ⟨d, rfl, rfl⟩
  simp only [dSeq, dIfS, dRet, dRetN, dSet, dPar, dPar3, dAsg, dFor, dDrop, dNext, dBrk, dCnt, dAug, dApp, dExt, dPop, dPopAt, dSetI, dFrz, xD, xF, dC, dV, dO, dOp, dOpO, dB, dCh, dAnd, dOr, dNot, dAndV, dOrV, dNotV, dNotT, dIf, dNil, dCons, gNilD, gConsD, gLm, dTup, dLst, dLs, dSl, dSlO, dNo, dSo, d1, dIsi, dList, dCall, dCallK, putS, dGcd, dNeg, dLc, dYes, wTupI, wLstI, wRng1, wRng2, wEnT, wEnL, wName, wNil, wCons, wTup, subD, mulD, divD, modD, powD, ltD, leD, gtD, geD, reprD, wipeD, uns, List.cons_append, List.nil_append, List.length_cons, List.length_nil, List.replicate, List.getElem?_cons_zero, List.getElem?_cons_succ, List.set_cons_zero, List.set_cons_succ, List.map_cons, List.map_nil, List.getD_cons_zero, List.getD_cons_succ, ↓reduceIte, Bool.not_true, Bool.not_false, Bool.false_eq_true, sof_fn1, sof_fn2, sof_fn1p, sof_fn2p, eqv_int, eqv_str, plain_int, plain_bool, plain_none, true_and, and_true, sizeLine_eq, Nat.reduceAdd, Nat.reduceLeDiff, Nat.zero_add, addD_int, addD_str, addD_tup, addD_list, intF_int, intD_int, eqD_int, eqD_str, neD_int, neD_str, inD_list, inD_tup, isND_none, ixD_t0, ixD_t1, ixD_t2, ixD_t3, ixD_l0, lenD_tup, lenD_list, lenD_str, absD_int, toIntD_int, toIntD_bool, toStrD_int, tupleD_list, tupleD_tup, cutSq_tup, cutSq_list, cutSq_str, isInt_none, isInt_bool, isInt_int, isInt_str, isInt_list, isInt_tup, isInt_dict, isBool_none, isBool_bool, isBool_int, isBool_str, isBool_list, isBool_tup, isBool_dict, isStr_none, isStr_bool, isStr_int, isStr_str, isStr_list, isStr_tup, isStr_dict, isTup_none, isTup_bool, isTup_int, isTup_str, isTup_list, isTup_tup, isTup_dict, isLst_none, isLst_bool, isLst_int, isLst_str, isLst_list, isLst_tup, isLst_dict]
  split
  · rw [frac_tup (notT (by assumption))]
  · obtain ⟨ds, rfl⟩ := tup_ex (by assumption)
    simp only [dSeq, dIfS, dRet, dRetN, dSet, dPar, dPar3, dAsg, dFor, dDrop, dNext, dBrk, dCnt, dAug, dApp, dExt, dPop, dPopAt, dSetI, dFrz, xD, xF, dC, dV, dO, dOp, dOpO, dB, dCh, dAnd, dOr, dNot, dAndV, dOrV, dNotV, dNotT, dIf, dNil, dCons, gNilD, gConsD, gLm, dTup, dLst, dLs, dSl, dSlO, dNo, dSo, d1, dIsi, dList, dCall, dCallK, putS, dGcd, dNeg, dLc, dYes, wTupI, wLstI, wRng1, wRng2, wEnT, wEnL, wName, wNil, wCons, wTup, subD, mulD, divD, modD, powD, ltD, leD, gtD, geD, reprD, wipeD, uns, List.cons_append, List.nil_append, List.length_cons, List.length_nil, List.replicate, List.getElem?_cons_zero, List.getElem?_cons_succ, List.set_cons_zero, List.set_cons_succ, List.map_cons, List.map_nil, List.getD_cons_zero, List.getD_cons_succ, ↓reduceIte, Bool.not_true, Bool.not_false, Bool.false_eq_true, sof_fn1, sof_fn2, sof_fn1p, sof_fn2p, eqv_int, eqv_str, plain_int, plain_bool, plain_none, true_and, and_true, sizeLine_eq, Nat.reduceAdd, Nat.reduceLeDiff, Nat.zero_add, addD_int, addD_str, addD_tup, addD_list, intF_int, intD_int, eqD_int, eqD_str, neD_int, neD_str, inD_list, inD_tup, isND_none, ixD_t0, ixD_t1, ixD_t2, ixD_t3, ixD_l0, lenD_tup, lenD_list, lenD_str, absD_int, toIntD_int, toIntD_bool, toStrD_int, tupleD_list, tupleD_tup, cutSq_tup, cutSq_list, cutSq_str, isInt_none, isInt_bool, isInt_int, isInt_str, isInt_list, isInt_tup, isInt_dict, isBool_none, isBool_bool, isBool_int, isBool_str, isBool_list, isBool_tup, isBool_dict, isStr_none, isStr_bool, isStr_int, isStr_str, isStr_list, isStr_tup, isStr_dict, isTup_none, isTup_bool, isTup_int, isTup_str, isTup_list, isTup_tup, isTup_dict, isLst_none, isLst_bool, isLst_int, isLst_str, isLst_list, isLst_tup, isLst_dict]
    split
    · rw [frac_len (fun z => by simp_all)]
    · have l : ds.length = 2 := by
        rename_i h
        simp only [Bool.not_eq_true', decide_eq_false_iff_not, Decidable.not_not] at h
        omega
      obtain ⟨a, b, rfl⟩ := two_ex l
      refine ⟨rfl, ?_⟩
      dsimp only
      split
      · obtain ⟨i, rfl⟩ := whole_of (by assumption)
        split
        · obtain ⟨j, rfl⟩ := whole_of (by assumption)
          simp only [dSeq, dIfS, dRet, dRetN, dSet, dPar, dPar3, dAsg, dFor, dDrop, dNext, dBrk, dCnt, dAug, dApp, dExt, dPop, dPopAt, dSetI, dFrz, xD, xF, dC, dV, dO, dOp, dOpO, dB, dCh, dAnd, dOr, dNot, dAndV, dOrV, dNotV, dNotT, dIf, dNil, dCons, gNilD, gConsD, gLm, dTup, dLst, dLs, dSl, dSlO, dNo, dSo, d1, dIsi, dList, dCall, dCallK, putS, dGcd, dNeg, dLc, dYes, wTupI, wLstI, wRng1, wRng2, wEnT, wEnL, wName, wNil, wCons, wTup, subD, mulD, divD, modD, powD, ltD, leD, gtD, geD, reprD, wipeD, uns, List.cons_append, List.nil_append, List.length_cons, List.length_nil, List.replicate, List.getElem?_cons_zero, List.getElem?_cons_succ, List.set_cons_zero, List.set_cons_succ, List.map_cons, List.map_nil, List.getD_cons_zero, List.getD_cons_succ, ↓reduceIte, Bool.not_true, Bool.not_false, Bool.false_eq_true, sof_fn1, sof_fn2, sof_fn1p, sof_fn2p, eqv_int, eqv_str, plain_int, plain_bool, plain_none, true_and, and_true, sizeLine_eq, Nat.reduceAdd, Nat.reduceLeDiff, Nat.zero_add, addD_int, addD_str, addD_tup, addD_list, intF_int, intD_int, eqD_int, eqD_str, neD_int, neD_str, inD_list, inD_tup, isND_none, ixD_t0, ixD_t1, ixD_t2, ixD_t3, ixD_l0, lenD_tup, lenD_list, lenD_str, absD_int, toIntD_int, toIntD_bool, toStrD_int, tupleD_list, tupleD_tup, cutSq_tup, cutSq_list, cutSq_str, isInt_none, isInt_bool, isInt_int, isInt_str, isInt_list, isInt_tup, isInt_dict, isBool_none, isBool_bool, isBool_int, isBool_str, isBool_list, isBool_tup, isBool_dict, isStr_none, isStr_bool, isStr_int, isStr_str, isStr_list, isStr_tup, isStr_dict, isTup_none, isTup_bool, isTup_int, isTup_str, isTup_list, isTup_tup, isTup_dict, isLst_none, isLst_bool, isLst_int, isLst_str, isLst_list, isLst_tup, isLst_dict]
          split
          · simp_all [fracD, natgcd_one]
          · rename_i hj
            have : ¬ (1 ≤ j) := by simpa using hj
            simp [fracD, this]
        · rw [frac_no_b (by simpa using ‹¬ isWhole b = true›)]
      · rw [frac_no_a (by simpa using ‹¬ isWhole a = true›)]
/-! ### what is wrong with a measure -/
def badW (d : PyData) : Bool := !fracD d || (match d with | .tuple (.int a :: _) => decide (a < 0) | _ => false)
def firstW (k : Nat) : List PyData → PyData
  | [] => .none
  | x :: r => if badW x = true then .tuple [.str "weight", .int (k : Int)] else firstW (k + 1) r
def dueD (n : Nat) (d : PyData) : PyData := match d with
  | .tuple ds => if ds.length = n then firstW 0 ds else .str "form"
  | _ => .str "form"
/-- a loop of so many names -/
def LoopN (n : Nat) (l : PyData) : Prop := ∃ xs r, l = .tuple (.tuple xs :: r) ∧ xs.length = n
def dueR : RelD := fun ss P => ∃ l d n, ss = [.d l, .d d] ∧ LoopN n l ∧ P = fun r => r = dueD n d
theorem fracD_ex {d : PyData} (h : fracD d = true) : ∃ a b, d = .tuple [.int a, .int b] := by
  match d, h with
  | .tuple [.int a, .int b], _ => exact ⟨a, b, rfl⟩
theorem Txt.ok_measure_error (T : Txt K mg A D) : FnOk P w K mg base CX0 3 (A 2) (D 2) ["loop", "value"] (spD K dueR) := by
  refine okD T.F_measure_error sc_measure_error (by rintro ss P ⟨l, d, n, rfl, _⟩; rfl) (fun cdv Ar outer s H E hr => ⟨_, (dss_cons (ds_if (DW.pt (dw_or (dt_not (dt_val (de_isi (tn := "tuple") kit_tup (by rfl) T.z_isinstance (by decide +kernel) (de_v (pv 1)) (pe_bltn (v := .ty "tuple") (by rfl) T.z_tuple (by decide +kernel) rfl)))) (dw_or1 (dt_cmp (o_ne hr.units) (de_c1 c_len (by rfl) T.z_len (by decide +kernel) (DE.r (de_v (pv 1)))) (DE.r (de_c1 c_len (by rfl) T.z_len (by decide +kernel) (DE.r (de_ix (de_v (pv 0)) de_int (fun _ _ => rfl))))) (nomark _))))) (dss_one (ds_ret de_str)) dss_nil)
    (dss_cons (ds_for PassesOwn.never rfl (di_enT (by rfl) T.enumerate (de_v (pv 1))) (dg_tup (n := 2) rfl (dgs_cons (dg_name (i := 2) sc_measure_error.nd rfl (Or.inl rfl)) (dgs_cons (dg_name (i := 3) sc_measure_error.nd rfl (Or.inl rfl)) dgs_nil))) (dss_one (ds_if (DW.pt (dw_or (dt_not (dt_val (de_call T.ok_is_fraction hr (by rfl) T.g_is_fraction T.k_is_fraction T.b_is_fraction pass0 (dg_cons (de_v (pv 3)) dg_nil)))) (dw_or1 (dt_cmp o_lt (de_ix (de_v (pv 3)) de_int (fun _ _ => rfl)) (DE.r de_int) (nomark _))))) (dss_one (ds_ret (de_tup (da_cons de_str (da_cons (de_v (pv 2)) da_nil))))) dss_nil)))
    (dss_one (ds_ret de_non)))), ?_⟩)
  rintro ss P ⟨l, d, n, rfl, ⟨xs, r, rfl, rfl⟩, rfl⟩
  simp only [dSeq, dIfS, dRet, dRetN, dSet, dPar, dPar3, dAsg, dFor, dDrop, dNext, dBrk, dCnt, dAug, dApp, dExt, dPop, dPopAt, dSetI, dFrz, xD, xF, dC, dV, dO, dOp, dOpO, dB, dCh, dAnd, dOr, dNot, dAndV, dOrV, dNotV, dNotT, dIf, dNil, dCons, gNilD, gConsD, gLm, dTup, dLst, dLs, dSl, dSlO, dNo, dSo, d1, dIsi, dList, dCall, dCallK, putS, dGcd, dNeg, dLc, dYes, wTupI, wLstI, wRng1, wRng2, wEnT, wEnL, wName, wNil, wCons, wTup, subD, mulD, divD, modD, powD, ltD, leD, gtD, geD, reprD, wipeD, uns, List.cons_append, List.nil_append, List.length_cons, List.length_nil, List.replicate, List.getElem?_cons_zero, List.getElem?_cons_succ, List.set_cons_zero, List.set_cons_succ, List.map_cons, List.map_nil, List.getD_cons_zero, List.getD_cons_succ, ↓reduceIte, Bool.not_true, Bool.not_false, Bool.false_eq_true, sof_fn1, sof_fn2, sof_fn1p, sof_fn2p, eqv_int, eqv_str, plain_int, plain_bool, plain_none, true_and, and_true, sizeLine_eq, Nat.reduceAdd, Nat.reduceLeDiff, Nat.zero_add, addD_int, addD_str, addD_tup, addD_list, intF_int, intD_int, eqD_int, eqD_str, neD_int, neD_str, inD_list, inD_tup, isND_none, ixD_t0, ixD_t1, ixD_t2, ixD_t3, ixD_l0, lenD_tup, lenD_list, lenD_str, absD_int, toIntD_int, toIntD_bool, toStrD_int, tupleD_list, tupleD_tup, cutSq_tup, cutSq_list, cutSq_str, isInt_none, isInt_bool, isInt_int, isInt_str, isInt_list, isInt_tup, isInt_dict, isBool_none, isBool_bool, isBool_int, isBool_str, isBool_list, isBool_tup, isBool_dict, isStr_none, isStr_bool, isStr_int, isStr_str, isStr_list, isStr_tup, isStr_dict, isTup_none, isTup_bool, isTup_int, isTup_str, isTup_list, isTup_tup, isTup_dict, isLst_none, isLst_bool, isLst_int, isLst_str, isLst_list, isLst_tup, isLst_dict]
  split
  · cases d with
    | tuple ds => rename_i h; cases h
    | _ => rfl
  · obtain ⟨ds, rfl⟩ := tup_ex (by assumption)
    simp only [dSeq, dIfS, dRet, dRetN, dSet, dPar, dPar3, dAsg, dFor, dDrop, dNext, dBrk, dCnt, dAug, dApp, dExt, dPop, dPopAt, dSetI, dFrz, xD, xF, dC, dV, dO, dOp, dOpO, dB, dCh, dAnd, dOr, dNot, dAndV, dOrV, dNotV, dNotT, dIf, dNil, dCons, gNilD, gConsD, gLm, dTup, dLst, dLs, dSl, dSlO, dNo, dSo, d1, dIsi, dList, dCall, dCallK, putS, dGcd, dNeg, dLc, dYes, wTupI, wLstI, wRng1, wRng2, wEnT, wEnL, wName, wNil, wCons, wTup, subD, mulD, divD, modD, powD, ltD, leD, gtD, geD, reprD, wipeD, uns, List.cons_append, List.nil_append, List.length_cons, List.length_nil, List.replicate, List.getElem?_cons_zero, List.getElem?_cons_succ, List.set_cons_zero, List.set_cons_succ, List.map_cons, List.map_nil, List.getD_cons_zero, List.getD_cons_succ, ↓reduceIte, Bool.not_true, Bool.not_false, Bool.false_eq_true, sof_fn1, sof_fn2, sof_fn1p, sof_fn2p, eqv_int, eqv_str, plain_int, plain_bool, plain_none, true_and, and_true, sizeLine_eq, Nat.reduceAdd, Nat.reduceLeDiff, Nat.zero_add, addD_int, addD_str, addD_tup, addD_list, intF_int, intD_int, eqD_int, eqD_str, neD_int, neD_str, inD_list, inD_tup, isND_none, ixD_t0, ixD_t1, ixD_t2, ixD_t3, ixD_l0, lenD_tup, lenD_list, lenD_str, absD_int, toIntD_int, toIntD_bool, toStrD_int, tupleD_list, tupleD_tup, cutSq_tup, cutSq_list, cutSq_str, isInt_none, isInt_bool, isInt_int, isInt_str, isInt_list, isInt_tup, isInt_dict, isBool_none, isBool_bool, isBool_int, isBool_str, isBool_list, isBool_tup, isBool_dict, isStr_none, isStr_bool, isStr_int, isStr_str, isStr_list, isStr_tup, isStr_dict, isTup_none, isTup_bool, isTup_int, isTup_str, isTup_list, isTup_tup, isTup_dict, isLst_none, isLst_bool, isLst_int, isLst_str, isLst_list, isLst_tup, isLst_dict]
    split
    · have l : ¬ ds.length = xs.length := fun z => by simp_all
      show _ = if ds.length = xs.length then _ else _
      rw [if_neg l]
    · have l : ds.length = xs.length := by
        rename_i h
        simp only [Bool.not_eq_true', decide_eq_false_iff_not, Decidable.not_not] at h
        omega
      have e : dueD xs.length (.tuple ds) = firstW 0 ds := if_pos l
      rw [e]
      refine for_enum (fun k ys ρ => firstW 0 ds = firstW k ys ∧ ∃ a b, ρ = [.d (.tuple (.tuple xs :: r)), .d (.tuple ds), a, b]) ?_ ?_ ds _ ⟨rfl, _, _, rfl⟩
      · rintro k ρ ⟨h, _⟩
        exact h.symm
      · rintro k x ys ρ N ⟨h, a, b, rfl⟩ hN
        simp only [dSeq, dIfS, dRet, dRetN, dSet, dPar, dPar3, dAsg, dFor, dDrop, dNext, dBrk, dCnt, dAug, dApp, dExt, dPop, dPopAt, dSetI, dFrz, xD, xF, dC, dV, dO, dOp, dOpO, dB, dCh, dAnd, dOr, dNot, dAndV, dOrV, dNotV, dNotT, dIf, dNil, dCons, gNilD, gConsD, gLm, dTup, dLst, dLs, dSl, dSlO, dNo, dSo, d1, dIsi, dList, dCall, dCallK, putS, dGcd, dNeg, dLc, dYes, wTupI, wLstI, wRng1, wRng2, wEnT, wEnL, wName, wNil, wCons, wTup, subD, mulD, divD, modD, powD, ltD, leD, gtD, geD, reprD, wipeD, uns, List.cons_append, List.nil_append, List.length_cons, List.length_nil, List.replicate, List.getElem?_cons_zero, List.getElem?_cons_succ, List.set_cons_zero, List.set_cons_succ, List.map_cons, List.map_nil, List.getD_cons_zero, List.getD_cons_succ, ↓reduceIte, Bool.not_true, Bool.not_false, Bool.false_eq_true, sof_fn1, sof_fn2, sof_fn1p, sof_fn2p, eqv_int, eqv_str, plain_int, plain_bool, plain_none, true_and, and_true, sizeLine_eq, Nat.reduceAdd, Nat.reduceLeDiff, Nat.zero_add, addD_int, addD_str, addD_tup, addD_list, intF_int, intD_int, eqD_int, eqD_str, neD_int, neD_str, inD_list, inD_tup, isND_none, ixD_t0, ixD_t1, ixD_t2, ixD_t3, ixD_l0, lenD_tup, lenD_list, lenD_str, absD_int, toIntD_int, toIntD_bool, toStrD_int, tupleD_list, tupleD_tup, cutSq_tup, cutSq_list, cutSq_str, isInt_none, isInt_bool, isInt_int, isInt_str, isInt_list, isInt_tup, isInt_dict, isBool_none, isBool_bool, isBool_int, isBool_str, isBool_list, isBool_tup, isBool_dict, isStr_none, isStr_bool, isStr_int, isStr_str, isStr_list, isStr_tup, isStr_dict, isTup_none, isTup_bool, isTup_int, isTup_str, isTup_list, isTup_tup, isTup_dict, isLst_none, isLst_bool, isLst_int, isLst_str, isLst_list, isLst_tup, isLst_dict]
        have hb : ∀ c : Bool, badW x = c → firstW k (x :: ys) = if c = true then .tuple [.str "weight", .int (k : Int)] else firstW (k + 1) ys := fun c hc => by rw [← hc]; rfl
        split
        · rename_i hf
          rw [h, hb true (by unfold badW; rw [hf]; rfl)]
          rfl
        · rename_i hf
          have hf' : fracD x = true := by simpa using hf
          obtain ⟨p, q, rfl⟩ := fracD_ex hf'
          simp only [dSeq, dIfS, dRet, dRetN, dSet, dPar, dPar3, dAsg, dFor, dDrop, dNext, dBrk, dCnt, dAug, dApp, dExt, dPop, dPopAt, dSetI, dFrz, xD, xF, dC, dV, dO, dOp, dOpO, dB, dCh, dAnd, dOr, dNot, dAndV, dOrV, dNotV, dNotT, dIf, dNil, dCons, gNilD, gConsD, gLm, dTup, dLst, dLs, dSl, dSlO, dNo, dSo, d1, dIsi, dList, dCall, dCallK, putS, dGcd, dNeg, dLc, dYes, wTupI, wLstI, wRng1, wRng2, wEnT, wEnL, wName, wNil, wCons, wTup, subD, mulD, divD, modD, powD, ltD, leD, gtD, geD, reprD, wipeD, uns, List.cons_append, List.nil_append, List.length_cons, List.length_nil, List.replicate, List.getElem?_cons_zero, List.getElem?_cons_succ, List.set_cons_zero, List.set_cons_succ, List.map_cons, List.map_nil, List.getD_cons_zero, List.getD_cons_succ, ↓reduceIte, Bool.not_true, Bool.not_false, Bool.false_eq_true, sof_fn1, sof_fn2, sof_fn1p, sof_fn2p, eqv_int, eqv_str, plain_int, plain_bool, plain_none, true_and, and_true, sizeLine_eq, Nat.reduceAdd, Nat.reduceLeDiff, Nat.zero_add, addD_int, addD_str, addD_tup, addD_list, intF_int, intD_int, eqD_int, eqD_str, neD_int, neD_str, inD_list, inD_tup, isND_none, ixD_t0, ixD_t1, ixD_t2, ixD_t3, ixD_l0, lenD_tup, lenD_list, lenD_str, absD_int, toIntD_int, toIntD_bool, toStrD_int, tupleD_list, tupleD_tup, cutSq_tup, cutSq_list, cutSq_str, isInt_none, isInt_bool, isInt_int, isInt_str, isInt_list, isInt_tup, isInt_dict, isBool_none, isBool_bool, isBool_int, isBool_str, isBool_list, isBool_tup, isBool_dict, isStr_none, isStr_bool, isStr_int, isStr_str, isStr_list, isStr_tup, isStr_dict, isTup_none, isTup_bool, isTup_int, isTup_str, isTup_list, isTup_tup, isTup_dict, isLst_none, isLst_bool, isLst_int, isLst_str, isLst_list, isLst_tup, isLst_dict]
          have hv : badW (.tuple [.int p, .int q]) = decide (p < 0) := by
            unfold badW
            rw [hf']
            rfl
          split
          · rename_i hp
            rw [h, hb true (by rw [hv]; exact hp)]
            rfl
          · rename_i hp
            refine hN _ ⟨?_, _, _, rfl⟩
            rw [h, hb false (by rw [hv]; simpa using hp)]
            rfl
/-! ### the law's own -/
def gcdR : RelD := fun ss P => ∃ a b : Nat, ss = [.d (.int a), .d (.int b)] ∧ P = fun r => r = .int ((Nat.gcd a b : Nat) : Int)
theorem Txt.ok_gcd (T : Txt K mg A D) : FnOk P w K mg base CX0 1 (A 6) (D 6) ["a", "b"] (spD K gcdR) := by
  refine okD T.F_gcd sc_gcd (by rintro ss P ⟨a, b, rfl, _⟩; rfl) (fun cdv Ar outer s H E hr => ⟨_, (dss_cons (ds_while PassesOwn.never (dt_cmp (o_ne hr.units) (de_v (pv 1)) (DE.r de_int) (nomark _)) (dss_one (ds_par (i := 0) (j := 1) rfl sc_gcd.nd rfl rfl (by decide) rfl rfl (DE.x (de_v (pv 1))) (DE.x (de_op o_mod (de_cT c_int (by rfl) T.z_int (by decide +kernel) (DE.r (de_v (pv 0)))) (DE.r (de_v (pv 1))))) (by rfl))))
    (dss_one (ds_ret (de_v (pv 0))))), ?_⟩)
  rintro ss P ⟨a, b, rfl, rfl⟩
  simp only [dSeq, dIfS, dRet, dRetN, dSet, dPar, dPar3, dAsg, dFor, dDrop, dNext, dBrk, dCnt, dAug, dApp, dExt, dPop, dPopAt, dSetI, dFrz, xD, xF, dC, dV, dO, dOp, dOpO, dB, dCh, dAnd, dOr, dNot, dAndV, dOrV, dNotV, dNotT, dIf, dNil, dCons, gNilD, gConsD, gLm, dTup, dLst, dLs, dSl, dSlO, dNo, dSo, d1, dIsi, dList, dCall, dCallK, putS, dGcd, dNeg, dLc, dYes, wTupI, wLstI, wRng1, wRng2, wEnT, wEnL, wName, wNil, wCons, wTup, subD, mulD, divD, modD, powD, ltD, leD, gtD, geD, reprD, wipeD, uns, List.cons_append, List.nil_append, List.length_cons, List.length_nil, List.replicate, List.getElem?_cons_zero, List.getElem?_cons_succ, List.set_cons_zero, List.set_cons_succ, List.map_cons, List.map_nil, List.getD_cons_zero, List.getD_cons_succ, ↓reduceIte, Bool.not_true, Bool.not_false, Bool.false_eq_true, sof_fn1, sof_fn2, sof_fn1p, sof_fn2p, eqv_int, eqv_str, plain_int, plain_bool, plain_none, true_and, and_true, sizeLine_eq, Nat.reduceAdd, Nat.reduceLeDiff, Nat.zero_add, addD_int, addD_str, addD_tup, addD_list, intF_int, intD_int, eqD_int, eqD_str, neD_int, neD_str, inD_list, inD_tup, isND_none, ixD_t0, ixD_t1, ixD_t2, ixD_t3, ixD_l0, lenD_tup, lenD_list, lenD_str, absD_int, toIntD_int, toIntD_bool, toStrD_int, tupleD_list, tupleD_tup, cutSq_tup, cutSq_list, cutSq_str, isInt_none, isInt_bool, isInt_int, isInt_str, isInt_list, isInt_tup, isInt_dict, isBool_none, isBool_bool, isBool_int, isBool_str, isBool_list, isBool_tup, isBool_dict, isStr_none, isStr_bool, isStr_int, isStr_str, isStr_list, isStr_tup, isStr_dict, isTup_none, isTup_bool, isTup_int, isTup_str, isTup_list, isTup_tup, isTup_dict, isLst_none, isLst_bool, isLst_int, isLst_str, isLst_list, isLst_tup, isLst_dict]
  unfold dWhile
  refine ⟨fun m ρ => ∃ x y : Nat, ρ = [.d (.int x), .d (.int y)] ∧ m = y ∧ Nat.gcd x y = Nat.gcd a b, ⟨_, a, b, rfl, rfl, rfl⟩, ?_⟩
  rintro m ρ ⟨x, y, rfl, rfl, hg⟩
  simp only [dSeq, dIfS, dRet, dRetN, dSet, dPar, dPar3, dAsg, dFor, dDrop, dNext, dBrk, dCnt, dAug, dApp, dExt, dPop, dPopAt, dSetI, dFrz, xD, xF, dC, dV, dO, dOp, dOpO, dB, dCh, dAnd, dOr, dNot, dAndV, dOrV, dNotV, dNotT, dIf, dNil, dCons, gNilD, gConsD, gLm, dTup, dLst, dLs, dSl, dSlO, dNo, dSo, d1, dIsi, dList, dCall, dCallK, putS, dGcd, dNeg, dLc, dYes, wTupI, wLstI, wRng1, wRng2, wEnT, wEnL, wName, wNil, wCons, wTup, subD, mulD, divD, modD, powD, ltD, leD, gtD, geD, reprD, wipeD, uns, List.cons_append, List.nil_append, List.length_cons, List.length_nil, List.replicate, List.getElem?_cons_zero, List.getElem?_cons_succ, List.set_cons_zero, List.set_cons_succ, List.map_cons, List.map_nil, List.getD_cons_zero, List.getD_cons_succ, ↓reduceIte, Bool.not_true, Bool.not_false, Bool.false_eq_true, sof_fn1, sof_fn2, sof_fn1p, sof_fn2p, eqv_int, eqv_str, plain_int, plain_bool, plain_none, true_and, and_true, sizeLine_eq, Nat.reduceAdd, Nat.reduceLeDiff, Nat.zero_add, addD_int, addD_str, addD_tup, addD_list, intF_int, intD_int, eqD_int, eqD_str, neD_int, neD_str, inD_list, inD_tup, isND_none, ixD_t0, ixD_t1, ixD_t2, ixD_t3, ixD_l0, lenD_tup, lenD_list, lenD_str, absD_int, toIntD_int, toIntD_bool, toStrD_int, tupleD_list, tupleD_tup, cutSq_tup, cutSq_list, cutSq_str, isInt_none, isInt_bool, isInt_int, isInt_str, isInt_list, isInt_tup, isInt_dict, isBool_none, isBool_bool, isBool_int, isBool_str, isBool_list, isBool_tup, isBool_dict, isStr_none, isStr_bool, isStr_int, isStr_str, isStr_list, isStr_tup, isStr_dict, isTup_none, isTup_bool, isTup_int, isTup_str, isTup_list, isTup_tup, isTup_dict, isLst_none, isLst_bool, isLst_int, isLst_str, isLst_list, isLst_tup, isLst_dict]
  split
  · rename_i h
    have hy : (m : Int) ≠ 0 := by simpa using h
    have z : (x : Int).fmod (m : Int) = ((x % m : Nat) : Int) := by
      rw [Int.fmod_eq_emod_of_nonneg _ (by omega)]
      rfl
    refine ⟨hy, x % m, Nat.mod_lt _ (by omega), m, x % m, by rw [z], rfl, ?_⟩
    rw [← hg, Nat.gcd_comm x m, Nat.gcd_rec m x, Nat.gcd_comm]
  · rename_i h
    have hy : m = 0 := by
      have : (m : Int) = 0 := by simpa using h
      omega
    subst hy
    rw [Nat.gcd_zero_right] at hg
    rw [hg]
theorem Txt.ok_l_is_fraction (T : Txt K mg A D) : FnOk P w K mg base CX0 2 (A 13) (D 13) ["thing"] (spD K fracR) := by
  refine okD T.F_l_is_fraction sc_l_is_fraction (by rintro ss P ⟨d, rfl, _⟩; rfl) (fun cdv Ar outer s H E hr => ⟨_, (dss_cons (ds_if (DW.pt (dw_or (dt_not (dt_val (de_isi (tn := "tuple") kit_tup (by rfl) T.z_isinstance (by decide +kernel) (de_v (pv 0)) (pe_bltn (v := .ty "tuple") (by rfl) T.z_tuple (by decide +kernel) rfl)))) (dw_or1 (dt_cmp (o_ne hr.units) (de_c1 c_len (by rfl) T.z_len (by decide +kernel) (DE.r (de_v (pv 0)))) (DE.r de_int) (nomark _))))) (dss_one (ds_ret de_bl)) dss_nil)
    (dss_cons (ds_asg (de_v (pv 0)) (dg_tup (n := 2) rfl (dgs_cons (dg_name (i := 1) sc_l_is_fraction.nd rfl (Or.inl rfl)) (dgs_cons (dg_name (i := 2) sc_l_is_fraction.nd rfl (Or.inl rfl)) dgs_nil))))
    (dss_cons (ds_if (DW.pt (dw_or (dt_not (dt_val (de_isi (tn := "int") kit_int (by rfl) T.z_isinstance (by decide +kernel) (de_v (pv 1)) (pe_bltn (v := .ty "int") (by rfl) T.z_int (by decide +kernel) rfl)))) (dw_or (dt_val (de_isi (tn := "bool") kit_bool (by rfl) T.z_isinstance (by decide +kernel) (de_v (pv 1)) (pe_bltn (v := .ty "bool") (by rfl) T.z_bool (by decide +kernel) rfl))) (dw_or (dt_not (dt_val (de_isi (tn := "int") kit_int (by rfl) T.z_isinstance (by decide +kernel) (de_v (pv 2)) (pe_bltn (v := .ty "int") (by rfl) T.z_int (by decide +kernel) rfl)))) (dw_or (dt_val (de_isi (tn := "bool") kit_bool (by rfl) T.z_isinstance (by decide +kernel) (de_v (pv 2)) (pe_bltn (v := .ty "bool") (by rfl) T.z_bool (by decide +kernel) rfl))) (dw_or1 (dt_cmp o_lt (de_v (pv 2)) (DE.r de_int) (nomark _)))))))) (dss_one (ds_ret de_bl)) dss_nil)
    (dss_one (ds_ret (de_cmp (o_eq hr.units) (de_call T.ok_gcd hr (by rfl) T.g_gcd T.k_gcd T.b_gcd pass0 (dg_cons (de_c1 c_abs (by rfl) T.z_abs (by decide +kernel) (DE.r (de_v (pv 1)))) (dg_cons (de_v (pv 2)) dg_nil))) (DE.r de_int) (nomark _))))))), ?_⟩)
  rintro ss P ⟨d, rfl, rfl⟩
  simp only [dSeq, dIfS, dRet, dRetN, dSet, dPar, dPar3, dAsg, dFor, dDrop, dNext, dBrk, dCnt, dAug, dApp, dExt, dPop, dPopAt, dSetI, dFrz, xD, xF, dC, dV, dO, dOp, dOpO, dB, dCh, dAnd, dOr, dNot, dAndV, dOrV, dNotV, dNotT, dIf, dNil, dCons, gNilD, gConsD, gLm, dTup, dLst, dLs, dSl, dSlO, dNo, dSo, d1, dIsi, dList, dCall, dCallK, putS, dGcd, dNeg, dLc, dYes, wTupI, wLstI, wRng1, wRng2, wEnT, wEnL, wName, wNil, wCons, wTup, subD, mulD, divD, modD, powD, ltD, leD, gtD, geD, reprD, wipeD, uns, List.cons_append, List.nil_append, List.length_cons, List.length_nil, List.replicate, List.getElem?_cons_zero, List.getElem?_cons_succ, List.set_cons_zero, List.set_cons_succ, List.map_cons, List.map_nil, List.getD_cons_zero, List.getD_cons_succ, ↓reduceIte, Bool.not_true, Bool.not_false, Bool.false_eq_true, sof_fn1, sof_fn2, sof_fn1p, sof_fn2p, eqv_int, eqv_str, plain_int, plain_bool, plain_none, true_and, and_true, sizeLine_eq, Nat.reduceAdd, Nat.reduceLeDiff, Nat.zero_add, addD_int, addD_str, addD_tup, addD_list, intF_int, intD_int, eqD_int, eqD_str, neD_int, neD_str, inD_list, inD_tup, isND_none, ixD_t0, ixD_t1, ixD_t2, ixD_t3, ixD_l0, lenD_tup, lenD_list, lenD_str, absD_int, toIntD_int, toIntD_bool, toStrD_int, tupleD_list, tupleD_tup, cutSq_tup, cutSq_list, cutSq_str, isInt_none, isInt_bool, isInt_int, isInt_str, isInt_list, isInt_tup, isInt_dict, isBool_none, isBool_bool, isBool_int, isBool_str, isBool_list, isBool_tup, isBool_dict, isStr_none, isStr_bool, isStr_int, isStr_str, isStr_list, isStr_tup, isStr_dict, isTup_none, isTup_bool, isTup_int, isTup_str, isTup_list, isTup_tup, isTup_dict, isLst_none, isLst_bool, isLst_int, isLst_str, isLst_list, isLst_tup, isLst_dict]
  split
  · rw [frac_tup (notT (by assumption))]
  · obtain ⟨ds, rfl⟩ := tup_ex (by assumption)
    simp only [dSeq, dIfS, dRet, dRetN, dSet, dPar, dPar3, dAsg, dFor, dDrop, dNext, dBrk, dCnt, dAug, dApp, dExt, dPop, dPopAt, dSetI, dFrz, xD, xF, dC, dV, dO, dOp, dOpO, dB, dCh, dAnd, dOr, dNot, dAndV, dOrV, dNotV, dNotT, dIf, dNil, dCons, gNilD, gConsD, gLm, dTup, dLst, dLs, dSl, dSlO, dNo, dSo, d1, dIsi, dList, dCall, dCallK, putS, dGcd, dNeg, dLc, dYes, wTupI, wLstI, wRng1, wRng2, wEnT, wEnL, wName, wNil, wCons, wTup, subD, mulD, divD, modD, powD, ltD, leD, gtD, geD, reprD, wipeD, uns, List.cons_append, List.nil_append, List.length_cons, List.length_nil, List.replicate, List.getElem?_cons_zero, List.getElem?_cons_succ, List.set_cons_zero, List.set_cons_succ, List.map_cons, List.map_nil, List.getD_cons_zero, List.getD_cons_succ, ↓reduceIte, Bool.not_true, Bool.not_false, Bool.false_eq_true, sof_fn1, sof_fn2, sof_fn1p, sof_fn2p, eqv_int, eqv_str, plain_int, plain_bool, plain_none, true_and, and_true, sizeLine_eq, Nat.reduceAdd, Nat.reduceLeDiff, Nat.zero_add, addD_int, addD_str, addD_tup, addD_list, intF_int, intD_int, eqD_int, eqD_str, neD_int, neD_str, inD_list, inD_tup, isND_none, ixD_t0, ixD_t1, ixD_t2, ixD_t3, ixD_l0, lenD_tup, lenD_list, lenD_str, absD_int, toIntD_int, toIntD_bool, toStrD_int, tupleD_list, tupleD_tup, cutSq_tup, cutSq_list, cutSq_str, isInt_none, isInt_bool, isInt_int, isInt_str, isInt_list, isInt_tup, isInt_dict, isBool_none, isBool_bool, isBool_int, isBool_str, isBool_list, isBool_tup, isBool_dict, isStr_none, isStr_bool, isStr_int, isStr_str, isStr_list, isStr_tup, isStr_dict, isTup_none, isTup_bool, isTup_int, isTup_str, isTup_list, isTup_tup, isTup_dict, isLst_none, isLst_bool, isLst_int, isLst_str, isLst_list, isLst_tup, isLst_dict]
    split
    · rw [frac_len (fun z => by simp_all)]
    · have l : ds.length = 2 := by
        rename_i h
        simp only [Bool.not_eq_true', decide_eq_false_iff_not, Decidable.not_not] at h
        omega
      obtain ⟨a, b, rfl⟩ := two_ex l
      refine ⟨rfl, ?_⟩
      dsimp only
      have wa : isWhole a = (isInt a && !isBool a) := rfl
      have wb : isWhole b = (isInt b && !isBool b) := rfl
      by_cases ha : isWhole a = true
      · obtain ⟨i, rfl⟩ := whole_of ha
        by_cases hb : isWhole b = true
        · obtain ⟨j, rfl⟩ := whole_of hb
          simp only [dSeq, dIfS, dRet, dRetN, dSet, dPar, dPar3, dAsg, dFor, dDrop, dNext, dBrk, dCnt, dAug, dApp, dExt, dPop, dPopAt, dSetI, dFrz, xD, xF, dC, dV, dO, dOp, dOpO, dB, dCh, dAnd, dOr, dNot, dAndV, dOrV, dNotV, dNotT, dIf, dNil, dCons, gNilD, gConsD, gLm, dTup, dLst, dLs, dSl, dSlO, dNo, dSo, d1, dIsi, dList, dCall, dCallK, putS, dGcd, dNeg, dLc, dYes, wTupI, wLstI, wRng1, wRng2, wEnT, wEnL, wName, wNil, wCons, wTup, subD, mulD, divD, modD, powD, ltD, leD, gtD, geD, reprD, wipeD, uns, List.cons_append, List.nil_append, List.length_cons, List.length_nil, List.replicate, List.getElem?_cons_zero, List.getElem?_cons_succ, List.set_cons_zero, List.set_cons_succ, List.map_cons, List.map_nil, List.getD_cons_zero, List.getD_cons_succ, ↓reduceIte, Bool.not_true, Bool.not_false, Bool.false_eq_true, sof_fn1, sof_fn2, sof_fn1p, sof_fn2p, eqv_int, eqv_str, plain_int, plain_bool, plain_none, true_and, and_true, sizeLine_eq, Nat.reduceAdd, Nat.reduceLeDiff, Nat.zero_add, addD_int, addD_str, addD_tup, addD_list, intF_int, intD_int, eqD_int, eqD_str, neD_int, neD_str, inD_list, inD_tup, isND_none, ixD_t0, ixD_t1, ixD_t2, ixD_t3, ixD_l0, lenD_tup, lenD_list, lenD_str, absD_int, toIntD_int, toIntD_bool, toStrD_int, tupleD_list, tupleD_tup, cutSq_tup, cutSq_list, cutSq_str, isInt_none, isInt_bool, isInt_int, isInt_str, isInt_list, isInt_tup, isInt_dict, isBool_none, isBool_bool, isBool_int, isBool_str, isBool_list, isBool_tup, isBool_dict, isStr_none, isStr_bool, isStr_int, isStr_str, isStr_list, isStr_tup, isStr_dict, isTup_none, isTup_bool, isTup_int, isTup_str, isTup_list, isTup_tup, isTup_dict, isLst_none, isLst_bool, isLst_int, isLst_str, isLst_list, isLst_tup, isLst_dict]
          split
          · rename_i hj
            have : ¬ (1 ≤ j) := by
              have : j < 1 := by simpa using hj
              omega
            simp [fracD, this]
          · rename_i hj
            have j1 : 1 ≤ j := by
              have : ¬ j < 1 := by simpa using hj
              omega
            refine ⟨_, ⟨i.natAbs, j.natAbs, by rw [show ((j.natAbs : Nat) : Int) = j by omega], rfl⟩, ?_⟩
            rintro _ rfl
            simp only [dSeq, dIfS, dRet, dRetN, dSet, dPar, dPar3, dAsg, dFor, dDrop, dNext, dBrk, dCnt, dAug, dApp, dExt, dPop, dPopAt, dSetI, dFrz, xD, xF, dC, dV, dO, dOp, dOpO, dB, dCh, dAnd, dOr, dNot, dAndV, dOrV, dNotV, dNotT, dIf, dNil, dCons, gNilD, gConsD, gLm, dTup, dLst, dLs, dSl, dSlO, dNo, dSo, d1, dIsi, dList, dCall, dCallK, putS, dGcd, dNeg, dLc, dYes, wTupI, wLstI, wRng1, wRng2, wEnT, wEnL, wName, wNil, wCons, wTup, subD, mulD, divD, modD, powD, ltD, leD, gtD, geD, reprD, wipeD, uns, List.cons_append, List.nil_append, List.length_cons, List.length_nil, List.replicate, List.getElem?_cons_zero, List.getElem?_cons_succ, List.set_cons_zero, List.set_cons_succ, List.map_cons, List.map_nil, List.getD_cons_zero, List.getD_cons_succ, ↓reduceIte, Bool.not_true, Bool.not_false, Bool.false_eq_true, sof_fn1, sof_fn2, sof_fn1p, sof_fn2p, eqv_int, eqv_str, plain_int, plain_bool, plain_none, true_and, and_true, sizeLine_eq, Nat.reduceAdd, Nat.reduceLeDiff, Nat.zero_add, addD_int, addD_str, addD_tup, addD_list, intF_int, intD_int, eqD_int, eqD_str, neD_int, neD_str, inD_list, inD_tup, isND_none, ixD_t0, ixD_t1, ixD_t2, ixD_t3, ixD_l0, lenD_tup, lenD_list, lenD_str, absD_int, toIntD_int, toIntD_bool, toStrD_int, tupleD_list, tupleD_tup, cutSq_tup, cutSq_list, cutSq_str, isInt_none, isInt_bool, isInt_int, isInt_str, isInt_list, isInt_tup, isInt_dict, isBool_none, isBool_bool, isBool_int, isBool_str, isBool_list, isBool_tup, isBool_dict, isStr_none, isStr_bool, isStr_int, isStr_str, isStr_list, isStr_tup, isStr_dict, isTup_none, isTup_bool, isTup_int, isTup_str, isTup_list, isTup_tup, isTup_dict, isLst_none, isLst_bool, isLst_int, isLst_str, isLst_list, isLst_tup, isLst_dict]
            simp only [fracD, j1, decide_true, Bool.true_and]
            simp only [PyData.bool.injEq, decide_eq_decide]
            omega
        · have hb' : isWhole b = false := by simpa using hb
          rw [frac_no_b hb']
          simp only [dSeq, dIfS, dRet, dRetN, dSet, dPar, dPar3, dAsg, dFor, dDrop, dNext, dBrk, dCnt, dAug, dApp, dExt, dPop, dPopAt, dSetI, dFrz, xD, xF, dC, dV, dO, dOp, dOpO, dB, dCh, dAnd, dOr, dNot, dAndV, dOrV, dNotV, dNotT, dIf, dNil, dCons, gNilD, gConsD, gLm, dTup, dLst, dLs, dSl, dSlO, dNo, dSo, d1, dIsi, dList, dCall, dCallK, putS, dGcd, dNeg, dLc, dYes, wTupI, wLstI, wRng1, wRng2, wEnT, wEnL, wName, wNil, wCons, wTup, subD, mulD, divD, modD, powD, ltD, leD, gtD, geD, reprD, wipeD, uns, List.cons_append, List.nil_append, List.length_cons, List.length_nil, List.replicate, List.getElem?_cons_zero, List.getElem?_cons_succ, List.set_cons_zero, List.set_cons_succ, List.map_cons, List.map_nil, List.getD_cons_zero, List.getD_cons_succ, ↓reduceIte, Bool.not_true, Bool.not_false, Bool.false_eq_true, sof_fn1, sof_fn2, sof_fn1p, sof_fn2p, eqv_int, eqv_str, plain_int, plain_bool, plain_none, true_and, and_true, sizeLine_eq, Nat.reduceAdd, Nat.reduceLeDiff, Nat.zero_add, addD_int, addD_str, addD_tup, addD_list, intF_int, intD_int, eqD_int, eqD_str, neD_int, neD_str, inD_list, inD_tup, isND_none, ixD_t0, ixD_t1, ixD_t2, ixD_t3, ixD_l0, lenD_tup, lenD_list, lenD_str, absD_int, toIntD_int, toIntD_bool, toStrD_int, tupleD_list, tupleD_tup, cutSq_tup, cutSq_list, cutSq_str, isInt_none, isInt_bool, isInt_int, isInt_str, isInt_list, isInt_tup, isInt_dict, isBool_none, isBool_bool, isBool_int, isBool_str, isBool_list, isBool_tup, isBool_dict, isStr_none, isStr_bool, isStr_int, isStr_str, isStr_list, isStr_tup, isStr_dict, isTup_none, isTup_bool, isTup_int, isTup_str, isTup_list, isTup_tup, isTup_dict, isLst_none, isLst_bool, isLst_int, isLst_str, isLst_list, isLst_tup, isLst_dict]
          rw [wb] at hb'
          cases h1 : isInt b
          · simp
          · rw [h1] at hb'
            simp at hb'
            simp [hb']
      · have ha' : isWhole a = false := by simpa using ha
        rw [frac_no_a ha']
        rw [wa] at ha'
        cases h1 : isInt a
        · simp
        · rw [h1] at ha'
          simp at ha'
          simp [ha']
theorem Txt.ok_due (T : Txt K mg A D) : FnOk P w K mg base CX0 3 (A 16) (D 16) ["loop", "value"] (spD K dueR) := by
  refine okD T.F_due sc_due (by rintro ss P ⟨l, d, n, rfl, _⟩; rfl) (fun cdv Ar outer s H E hr => ⟨_, (dss_cons (ds_if (DW.pt (dw_or (dt_not (dt_val (de_isi (tn := "tuple") kit_tup (by rfl) T.z_isinstance (by decide +kernel) (de_v (pv 1)) (pe_bltn (v := .ty "tuple") (by rfl) T.z_tuple (by decide +kernel) rfl)))) (dw_or1 (dt_cmp (o_ne hr.units) (de_c1 c_len (by rfl) T.z_len (by decide +kernel) (DE.r (de_v (pv 1)))) (DE.r (de_c1 c_len (by rfl) T.z_len (by decide +kernel) (DE.r (de_ix (de_v (pv 0)) de_int (fun _ _ => rfl))))) (nomark _))))) (dss_one (ds_ret de_str)) dss_nil)
    (dss_cons (ds_for PassesOwn.never rfl (di_enT (by rfl) T.enumerate (de_v (pv 1))) (dg_tup (n := 2) rfl (dgs_cons (dg_name (i := 2) sc_due.nd rfl (Or.inl rfl)) (dgs_cons (dg_name (i := 3) sc_due.nd rfl (Or.inl rfl)) dgs_nil))) (dss_one (ds_if (DW.pt (dw_or (dt_not (dt_val (de_call T.ok_l_is_fraction hr (by rfl) T.g_l_is_fraction T.k_l_is_fraction T.b_l_is_fraction pass0 (dg_cons (de_v (pv 3)) dg_nil)))) (dw_or1 (dt_cmp o_lt (de_ix (de_v (pv 3)) de_int (fun _ _ => rfl)) (DE.r de_int) (nomark _))))) (dss_one (ds_ret (de_tup (da_cons de_str (da_cons (de_v (pv 2)) da_nil))))) dss_nil)))
    (dss_one (ds_ret de_non)))), ?_⟩)
  rintro ss P ⟨l, d, n, rfl, ⟨xs, r, rfl, rfl⟩, rfl⟩
  simp only [dSeq, dIfS, dRet, dRetN, dSet, dPar, dPar3, dAsg, dFor, dDrop, dNext, dBrk, dCnt, dAug, dApp, dExt, dPop, dPopAt, dSetI, dFrz, xD, xF, dC, dV, dO, dOp, dOpO, dB, dCh, dAnd, dOr, dNot, dAndV, dOrV, dNotV, dNotT, dIf, dNil, dCons, gNilD, gConsD, gLm, dTup, dLst, dLs, dSl, dSlO, dNo, dSo, d1, dIsi, dList, dCall, dCallK, putS, dGcd, dNeg, dLc, dYes, wTupI, wLstI, wRng1, wRng2, wEnT, wEnL, wName, wNil, wCons, wTup, subD, mulD, divD, modD, powD, ltD, leD, gtD, geD, reprD, wipeD, uns, List.cons_append, List.nil_append, List.length_cons, List.length_nil, List.replicate, List.getElem?_cons_zero, List.getElem?_cons_succ, List.set_cons_zero, List.set_cons_succ, List.map_cons, List.map_nil, List.getD_cons_zero, List.getD_cons_succ, ↓reduceIte, Bool.not_true, Bool.not_false, Bool.false_eq_true, sof_fn1, sof_fn2, sof_fn1p, sof_fn2p, eqv_int, eqv_str, plain_int, plain_bool, plain_none, true_and, and_true, sizeLine_eq, Nat.reduceAdd, Nat.reduceLeDiff, Nat.zero_add, addD_int, addD_str, addD_tup, addD_list, intF_int, intD_int, eqD_int, eqD_str, neD_int, neD_str, inD_list, inD_tup, isND_none, ixD_t0, ixD_t1, ixD_t2, ixD_t3, ixD_l0, lenD_tup, lenD_list, lenD_str, absD_int, toIntD_int, toIntD_bool, toStrD_int, tupleD_list, tupleD_tup, cutSq_tup, cutSq_list, cutSq_str, isInt_none, isInt_bool, isInt_int, isInt_str, isInt_list, isInt_tup, isInt_dict, isBool_none, isBool_bool, isBool_int, isBool_str, isBool_list, isBool_tup, isBool_dict, isStr_none, isStr_bool, isStr_int, isStr_str, isStr_list, isStr_tup, isStr_dict, isTup_none, isTup_bool, isTup_int, isTup_str, isTup_list, isTup_tup, isTup_dict, isLst_none, isLst_bool, isLst_int, isLst_str, isLst_list, isLst_tup, isLst_dict]
  split
  · cases d with
    | tuple ds => rename_i h; cases h
    | _ => rfl
  · obtain ⟨ds, rfl⟩ := tup_ex (by assumption)
    simp only [dSeq, dIfS, dRet, dRetN, dSet, dPar, dPar3, dAsg, dFor, dDrop, dNext, dBrk, dCnt, dAug, dApp, dExt, dPop, dPopAt, dSetI, dFrz, xD, xF, dC, dV, dO, dOp, dOpO, dB, dCh, dAnd, dOr, dNot, dAndV, dOrV, dNotV, dNotT, dIf, dNil, dCons, gNilD, gConsD, gLm, dTup, dLst, dLs, dSl, dSlO, dNo, dSo, d1, dIsi, dList, dCall, dCallK, putS, dGcd, dNeg, dLc, dYes, wTupI, wLstI, wRng1, wRng2, wEnT, wEnL, wName, wNil, wCons, wTup, subD, mulD, divD, modD, powD, ltD, leD, gtD, geD, reprD, wipeD, uns, List.cons_append, List.nil_append, List.length_cons, List.length_nil, List.replicate, List.getElem?_cons_zero, List.getElem?_cons_succ, List.set_cons_zero, List.set_cons_succ, List.map_cons, List.map_nil, List.getD_cons_zero, List.getD_cons_succ, ↓reduceIte, Bool.not_true, Bool.not_false, Bool.false_eq_true, sof_fn1, sof_fn2, sof_fn1p, sof_fn2p, eqv_int, eqv_str, plain_int, plain_bool, plain_none, true_and, and_true, sizeLine_eq, Nat.reduceAdd, Nat.reduceLeDiff, Nat.zero_add, addD_int, addD_str, addD_tup, addD_list, intF_int, intD_int, eqD_int, eqD_str, neD_int, neD_str, inD_list, inD_tup, isND_none, ixD_t0, ixD_t1, ixD_t2, ixD_t3, ixD_l0, lenD_tup, lenD_list, lenD_str, absD_int, toIntD_int, toIntD_bool, toStrD_int, tupleD_list, tupleD_tup, cutSq_tup, cutSq_list, cutSq_str, isInt_none, isInt_bool, isInt_int, isInt_str, isInt_list, isInt_tup, isInt_dict, isBool_none, isBool_bool, isBool_int, isBool_str, isBool_list, isBool_tup, isBool_dict, isStr_none, isStr_bool, isStr_int, isStr_str, isStr_list, isStr_tup, isStr_dict, isTup_none, isTup_bool, isTup_int, isTup_str, isTup_list, isTup_tup, isTup_dict, isLst_none, isLst_bool, isLst_int, isLst_str, isLst_list, isLst_tup, isLst_dict]
    split
    · have l : ¬ ds.length = xs.length := fun z => by simp_all
      show _ = if ds.length = xs.length then _ else _
      rw [if_neg l]
    · have l : ds.length = xs.length := by
        rename_i h
        simp only [Bool.not_eq_true', decide_eq_false_iff_not, Decidable.not_not] at h
        omega
      have e : dueD xs.length (.tuple ds) = firstW 0 ds := if_pos l
      rw [e]
      refine for_enum (fun k ys ρ => firstW 0 ds = firstW k ys ∧ ∃ a b, ρ = [.d (.tuple (.tuple xs :: r)), .d (.tuple ds), a, b]) ?_ ?_ ds _ ⟨rfl, _, _, rfl⟩
      · rintro k ρ ⟨h, _⟩
        exact h.symm
      · rintro k x ys ρ N ⟨h, a, b, rfl⟩ hN
        simp only [dSeq, dIfS, dRet, dRetN, dSet, dPar, dPar3, dAsg, dFor, dDrop, dNext, dBrk, dCnt, dAug, dApp, dExt, dPop, dPopAt, dSetI, dFrz, xD, xF, dC, dV, dO, dOp, dOpO, dB, dCh, dAnd, dOr, dNot, dAndV, dOrV, dNotV, dNotT, dIf, dNil, dCons, gNilD, gConsD, gLm, dTup, dLst, dLs, dSl, dSlO, dNo, dSo, d1, dIsi, dList, dCall, dCallK, putS, dGcd, dNeg, dLc, dYes, wTupI, wLstI, wRng1, wRng2, wEnT, wEnL, wName, wNil, wCons, wTup, subD, mulD, divD, modD, powD, ltD, leD, gtD, geD, reprD, wipeD, uns, List.cons_append, List.nil_append, List.length_cons, List.length_nil, List.replicate, List.getElem?_cons_zero, List.getElem?_cons_succ, List.set_cons_zero, List.set_cons_succ, List.map_cons, List.map_nil, List.getD_cons_zero, List.getD_cons_succ, ↓reduceIte, Bool.not_true, Bool.not_false, Bool.false_eq_true, sof_fn1, sof_fn2, sof_fn1p, sof_fn2p, eqv_int, eqv_str, plain_int, plain_bool, plain_none, true_and, and_true, sizeLine_eq, Nat.reduceAdd, Nat.reduceLeDiff, Nat.zero_add, addD_int, addD_str, addD_tup, addD_list, intF_int, intD_int, eqD_int, eqD_str, neD_int, neD_str, inD_list, inD_tup, isND_none, ixD_t0, ixD_t1, ixD_t2, ixD_t3, ixD_l0, lenD_tup, lenD_list, lenD_str, absD_int, toIntD_int, toIntD_bool, toStrD_int, tupleD_list, tupleD_tup, cutSq_tup, cutSq_list, cutSq_str, isInt_none, isInt_bool, isInt_int, isInt_str, isInt_list, isInt_tup, isInt_dict, isBool_none, isBool_bool, isBool_int, isBool_str, isBool_list, isBool_tup, isBool_dict, isStr_none, isStr_bool, isStr_int, isStr_str, isStr_list, isStr_tup, isStr_dict, isTup_none, isTup_bool, isTup_int, isTup_str, isTup_list, isTup_tup, isTup_dict, isLst_none, isLst_bool, isLst_int, isLst_str, isLst_list, isLst_tup, isLst_dict]
        have hb : ∀ c : Bool, badW x = c → firstW k (x :: ys) = if c = true then .tuple [.str "weight", .int (k : Int)] else firstW (k + 1) ys := fun c hc => by rw [← hc]; rfl
        split
        · rename_i hf
          rw [h, hb true (by unfold badW; rw [hf]; rfl)]
          rfl
        · rename_i hf
          have hf' : fracD x = true := by simpa using hf
          obtain ⟨p, q, rfl⟩ := fracD_ex hf'
          simp only [dSeq, dIfS, dRet, dRetN, dSet, dPar, dPar3, dAsg, dFor, dDrop, dNext, dBrk, dCnt, dAug, dApp, dExt, dPop, dPopAt, dSetI, dFrz, xD, xF, dC, dV, dO, dOp, dOpO, dB, dCh, dAnd, dOr, dNot, dAndV, dOrV, dNotV, dNotT, dIf, dNil, dCons, gNilD, gConsD, gLm, dTup, dLst, dLs, dSl, dSlO, dNo, dSo, d1, dIsi, dList, dCall, dCallK, putS, dGcd, dNeg, dLc, dYes, wTupI, wLstI, wRng1, wRng2, wEnT, wEnL, wName, wNil, wCons, wTup, subD, mulD, divD, modD, powD, ltD, leD, gtD, geD, reprD, wipeD, uns, List.cons_append, List.nil_append, List.length_cons, List.length_nil, List.replicate, List.getElem?_cons_zero, List.getElem?_cons_succ, List.set_cons_zero, List.set_cons_succ, List.map_cons, List.map_nil, List.getD_cons_zero, List.getD_cons_succ, ↓reduceIte, Bool.not_true, Bool.not_false, Bool.false_eq_true, sof_fn1, sof_fn2, sof_fn1p, sof_fn2p, eqv_int, eqv_str, plain_int, plain_bool, plain_none, true_and, and_true, sizeLine_eq, Nat.reduceAdd, Nat.reduceLeDiff, Nat.zero_add, addD_int, addD_str, addD_tup, addD_list, intF_int, intD_int, eqD_int, eqD_str, neD_int, neD_str, inD_list, inD_tup, isND_none, ixD_t0, ixD_t1, ixD_t2, ixD_t3, ixD_l0, lenD_tup, lenD_list, lenD_str, absD_int, toIntD_int, toIntD_bool, toStrD_int, tupleD_list, tupleD_tup, cutSq_tup, cutSq_list, cutSq_str, isInt_none, isInt_bool, isInt_int, isInt_str, isInt_list, isInt_tup, isInt_dict, isBool_none, isBool_bool, isBool_int, isBool_str, isBool_list, isBool_tup, isBool_dict, isStr_none, isStr_bool, isStr_int, isStr_str, isStr_list, isStr_tup, isStr_dict, isTup_none, isTup_bool, isTup_int, isTup_str, isTup_list, isTup_tup, isTup_dict, isLst_none, isLst_bool, isLst_int, isLst_str, isLst_list, isLst_tup, isLst_dict]
          have hv : badW (.tuple [.int p, .int q]) = decide (p < 0) := by
            unfold badW
            rw [hf']
            rfl
          split
          · rename_i hp
            rw [h, hb true (by rw [hv]; exact hp)]
            rfl
          · rename_i hp
            refine hN _ ⟨?_, _, _, rfl⟩
            rw [h, hb false (by rw [hv]; simpa using hp)]
            rfl
end
end Ev

set_option exponentiation.threshold 256
namespace Ev
open PySem PySem.Spec PyProof.Rows L2
def pickR : RelD := fun ss P => ∃ xs, ss = [.lm, .d (.list xs)] ∧ xs ≠ [] ∧ xs.length < 1073741824 ∧ P = fun d => d ∈ xs
def isIf (w : Str) : Bool := inDb (.str w) [.str "if", .str "either"]
def StepOk : Nat → PyData → Prop
  | 0, d => ∃ w rest, d = .tuple (.str w :: rest) ∧ isIf w = false ∧ Dt 60 5 d
  | n + 1, d => (∃ w rest, d = .tuple (.str w :: rest) ∧ isIf w = false ∧ Dt 60 5 d) ∨ ∃ w t ys ns, d = .tuple [.str w, t, .tuple ys, .tuple ns] ∧ isIf w = true ∧ (∀ y ∈ ys, StepOk n y) ∧ (∀ y ∈ ns, StepOk n y) ∧ Dt 250 8 d
theorem StepOk.dt {n : Nat} {d : PyData} (h : StepOk n d) : Dt 250 8 d := by
  cases n with
  | zero =>
    obtain ⟨_, _, _, _, h⟩ := h
    exact h.le (by decide) (by decide)
  | succ n =>
    rcases h with ⟨_, _, _, _, h⟩ | ⟨_, _, _, _, _, _, _, _, h⟩
    · exact h.le (by decide) (by decide)
    · exact h
theorem StepOk.dt0 {d : PyData} (h : StepOk 0 d) : Dt 60 5 d := by
  obtain ⟨_, _, _, _, h⟩ := h
  exact h
def shareR : RelD := fun ss P => ss = [.lm] ∧ P = fun d => ∃ a b : Int, d = .tuple [.int a, .int b] ∧ 0 < a ∧ a < b ∧ b ≤ 5
def dieR : RelD := fun ss P => ss = [.lm] ∧ P = fun d => Dt 30 4 d
def testR : RelD := fun ss P => ∃ k m : Int, ss = [.lm, .d (.int k), .d (.int m)] ∧ 1 ≤ k ∧ k ≤ 3 ∧ 1 ≤ m ∧ m ≤ 4 ∧ P = fun d => Dt 12 1 d
def wordsD : List PyData := [.str "less", .str "add", .str "throw", .str "if"]
def stepR (n : Nat) : RelD := fun ss P => ∃ k : Int, ss = [.lm, .d (.int k), .d (.int (n : Nat)), .d (.list wordsD)] ∧ 1 ≤ k ∧ k ≤ 3 ∧ P = StepOk n
def someR (n : Nat) : RelD := fun ss P => ∃ k m : Int, ss = [.lm, .d (.int k), .d (.int (n : Nat)), .d (.list wordsD), .d (.int m)] ∧ 1 ≤ k ∧ k ≤ 3 ∧ 1 ≤ m ∧ m ≤ 2 ∧
  P = fun d => ∃ xs, d = .tuple xs ∧ xs.length ≤ m ∧ ∀ x ∈ xs, StepOk n x
theorem dtW {x : Str} (h : (decide (x.length ≤ 5) && x.cps.toList.all fun c => decide (c < 1114112)) = true) : Dt 6 0 (.str x) := by
  rw [Bool.and_eq_true, decide_eq_true_eq] at h
  refine (dt_str fun c hc => ?_).le (by omega) (by decide)
  have := List.all_eq_true.mp h.2 c hc
  simpa using this
section
variable {P : Program} {w : World} {K : PySem.W.Frag} {mg : Str → Option Value} {base : Heap} {A : Nat → Addr} {D : Nat → FuncData}
theorem Txt.ok_pick (T : Txt K mg A D) : FnOk P w K mg base CX0 2 (A 5) (D 5) ["jar", "items"] (spD K pickR) := by
  refine okD T.F_pick sc_pick (by rintro ss P ⟨xs, rfl, _⟩; rfl) (fun cdv Ar outer s H E hr => ⟨_, (dss_one (ds_ret (de_ix (de_v (pv 1)) (de_call T.ok_draw hr (by rfl) T.g_draw T.k_draw T.b_draw pass0 (dg_lm (pv 0) (dg_cons (de_c1 c_len (by rfl) T.z_len (by decide +kernel) (DE.r (de_v (pv 1)))) dg_nil))) (fun _ _ => rfl)))), ?_⟩)
  rintro ss P ⟨xs, rfl, ne, hl, rfl⟩
  simp only [dSeq, dIfS, dRet, dRetN, dSet, dPar, dPar3, dAsg, dFor, dDrop, dNext, dBrk, dCnt, dAug, dApp, dExt, dPop, dPopAt, dSetI, dFrz, xD, xF, dC, dV, dO, dOp, dOpO, dB, dCh, dAnd, dOr, dNot, dAndV, dOrV, dNotV, dNotT, dIf, dNil, dCons, gNilD, gConsD, gLm, dTup, dLst, dLs, dSl, dSlO, dNo, dSo, d1, dIsi, dList, dCall, dCallK, putS, dGcd, dNeg, dLc, dYes, wTupI, wLstI, wRng1, wRng2, wEnT, wEnL, wName, wNil, wCons, wTup, subD, mulD, divD, modD, powD, ltD, leD, gtD, geD, reprD, wipeD, uns, List.cons_append, List.nil_append, List.length_cons, List.length_nil, List.replicate, List.getElem?_cons_zero, List.getElem?_cons_succ, List.set_cons_zero, List.set_cons_succ, List.map_cons, List.map_nil, List.getD_cons_zero, List.getD_cons_succ, ↓reduceIte, Bool.not_true, Bool.not_false, Bool.false_eq_true, sof_fn1, sof_fn2, sof_fn1p, sof_fn2p, eqv_int, eqv_str, plain_int, plain_bool, plain_none, true_and, and_true, sizeLine_eq, Nat.reduceAdd, Nat.reduceLeDiff, Nat.zero_add, addD_int, addD_str, addD_tup, addD_list, intF_int, intD_int, eqD_int, eqD_str, neD_int, neD_str, inD_list, inD_tup, isND_none, ixD_t0, ixD_t1, ixD_t2, ixD_t3, ixD_l0, lenD_tup, lenD_list, lenD_str, absD_int, toIntD_int, toIntD_bool, toStrD_int, tupleD_list, tupleD_tup, cutSq_tup, cutSq_list, cutSq_str, isInt_none, isInt_bool, isInt_int, isInt_str, isInt_list, isInt_tup, isInt_dict, isBool_none, isBool_bool, isBool_int, isBool_str, isBool_list, isBool_tup, isBool_dict, isStr_none, isStr_bool, isStr_int, isStr_str, isStr_list, isStr_tup, isStr_dict, isTup_none, isTup_bool, isTup_int, isTup_str, isTup_list, isTup_tup, isTup_dict, isLst_none, isLst_bool, isLst_int, isLst_str, isLst_list, isLst_tup, isLst_dict]
  refine ⟨_, ⟨_, rfl, by omega, rfl⟩, ?_⟩
  rintro _ ⟨k, rfl, k0, k1⟩
  have : xs.length ≠ 0 := fun z => ne (List.length_eq_zero_iff.mp z)
  obtain ⟨x, e, m⟩ := atI_ex (xs := xs) k0 (by omega)
  rw [ixD_ofL e]
  exact m
theorem Txt.ok_share (T : Txt K mg A D) : FnOk P w K mg base CX0 3 (A 7) (D 7) ["jar"] (spD K shareR) := by
  refine okD T.F_share sc_share (by rintro ss P ⟨rfl, _⟩; rfl) (fun cdv Ar outer s H E hr => ⟨_, (dss_one (ds_ret (de_call T.ok_pick hr (by rfl) T.g_pick T.k_pick T.b_pick pass0 (dg_lm (pv 0) (dg_cons (DF.de (df_lst (da_cons (de_tup (da_cons de_int (da_cons de_int da_nil))) (da_cons (de_tup (da_cons de_int (da_cons de_int da_nil))) (da_cons (de_tup (da_cons de_int (da_cons de_int da_nil))) (da_cons (de_tup (da_cons de_int (da_cons de_int da_nil))) (da_cons (de_tup (da_cons de_int (da_cons de_int da_nil))) (da_cons (de_tup (da_cons de_int (da_cons de_int da_nil))) da_nil)))))))) dg_nil))))), ?_⟩)
  rintro ss P ⟨rfl, rfl⟩
  simp only [dSeq, dIfS, dRet, dRetN, dSet, dPar, dPar3, dAsg, dFor, dDrop, dNext, dBrk, dCnt, dAug, dApp, dExt, dPop, dPopAt, dSetI, dFrz, xD, xF, dC, dV, dO, dOp, dOpO, dB, dCh, dAnd, dOr, dNot, dAndV, dOrV, dNotV, dNotT, dIf, dNil, dCons, gNilD, gConsD, gLm, dTup, dLst, dLs, dSl, dSlO, dNo, dSo, d1, dIsi, dList, dCall, dCallK, putS, dGcd, dNeg, dLc, dYes, wTupI, wLstI, wRng1, wRng2, wEnT, wEnL, wName, wNil, wCons, wTup, subD, mulD, divD, modD, powD, ltD, leD, gtD, geD, reprD, wipeD, uns, List.cons_append, List.nil_append, List.length_cons, List.length_nil, List.replicate, List.getElem?_cons_zero, List.getElem?_cons_succ, List.set_cons_zero, List.set_cons_succ, List.map_cons, List.map_nil, List.getD_cons_zero, List.getD_cons_succ, ↓reduceIte, Bool.not_true, Bool.not_false, Bool.false_eq_true, sof_fn1, sof_fn2, sof_fn1p, sof_fn2p, eqv_int, eqv_str, plain_int, plain_bool, plain_none, true_and, and_true, sizeLine_eq, Nat.reduceAdd, Nat.reduceLeDiff, Nat.zero_add, addD_int, addD_str, addD_tup, addD_list, intF_int, intD_int, eqD_int, eqD_str, neD_int, neD_str, inD_list, inD_tup, isND_none, ixD_t0, ixD_t1, ixD_t2, ixD_t3, ixD_l0, lenD_tup, lenD_list, lenD_str, absD_int, toIntD_int, toIntD_bool, toStrD_int, tupleD_list, tupleD_tup, cutSq_tup, cutSq_list, cutSq_str, isInt_none, isInt_bool, isInt_int, isInt_str, isInt_list, isInt_tup, isInt_dict, isBool_none, isBool_bool, isBool_int, isBool_str, isBool_list, isBool_tup, isBool_dict, isStr_none, isStr_bool, isStr_int, isStr_str, isStr_list, isStr_tup, isStr_dict, isTup_none, isTup_bool, isTup_int, isTup_str, isTup_list, isTup_tup, isTup_dict, isLst_none, isLst_bool, isLst_int, isLst_str, isLst_list, isLst_tup, isLst_dict]
  refine ⟨_, ⟨_, rfl, by simp, by decide, rfl⟩, ?_⟩
  intro d hd
  simp only [List.mem_cons, List.not_mem_nil, or_false] at hd
  rcases hd with rfl | rfl | rfl | rfl | rfl | rfl <;> exact ⟨_, _, rfl, by decide, by decide, by decide⟩
theorem Txt.ok_die (T : Txt K mg A D) : FnOk P w K mg base CX0 4 (A 8) (D 8) ["jar"] (spD K dieR) := by
  refine okD T.F_die sc_die (by rintro ss P ⟨rfl, _⟩; rfl) (fun cdv Ar outer s H E hr => ⟨_, (dss_cons (ds_set (i := 1) sc_die.nd rfl (Or.inl rfl) (DE.x (de_call T.ok_pick (hr.mono (by decide)) (by rfl) T.g_pick T.k_pick T.b_pick pass0 (dg_lm (pv 0) (dg_cons (DF.de (df_lst (da_cons de_int (da_cons de_int (da_cons de_int da_nil))))) dg_nil)))))
    (dss_cons (ds_if (dt_cmp (o_eq hr.units) (de_call T.ok_draw (hr.mono (by decide)) (by rfl) T.g_draw T.k_draw T.b_draw pass0 (dg_lm (pv 0) (dg_cons de_int dg_nil))) (DE.r de_int) (nomark _)) (dss_one (ds_ret (de_tup (da_cons de_str (da_cons (de_tup (da_cons (de_tup (da_cons (de_op o_add (de_v (pv 1)) (DE.r de_int)) (da_cons (de_tup (da_cons de_int (da_cons de_int da_nil))) da_nil))) da_nil)) da_nil))))) dss_nil)
    (dss_cons (ds_asg (de_call T.ok_share hr (by rfl) T.g_share T.k_share T.b_share pass0 (dg_lm (pv 0) dg_nil)) (dg_tup (n := 2) rfl (dgs_cons (dg_name (i := 2) sc_die.nd rfl (Or.inl rfl)) (dgs_cons (dg_name (i := 3) sc_die.nd rfl (Or.inl rfl)) dgs_nil))))
    (dss_one (ds_ret (de_tup (da_cons de_str (da_cons (de_tup (da_cons (de_tup (da_cons (de_v (pv 1)) (da_cons (de_tup (da_cons (de_v (pv 2)) (da_cons (de_v (pv 3)) da_nil))) da_nil))) (da_cons (de_tup (da_cons (de_op o_add (de_op o_add (de_v (pv 1)) (DE.r de_int)) (DE.r (de_call T.ok_draw (hr.mono (by decide)) (by rfl) T.g_draw T.k_draw T.b_draw pass0 (dg_lm (pv 0) (dg_cons de_int dg_nil))))) (da_cons (de_tup (da_cons (de_op o_sub (de_v (pv 3)) (DE.r (de_v (pv 2)))) (da_cons (de_v (pv 3)) da_nil))) da_nil))) da_nil))) da_nil)))))))), ?_⟩)
  rintro ss P ⟨rfl, rfl⟩
  simp only [dSeq, dIfS, dRet, dRetN, dSet, dPar, dPar3, dAsg, dFor, dDrop, dNext, dBrk, dCnt, dAug, dApp, dExt, dPop, dPopAt, dSetI, dFrz, xD, xF, dC, dV, dO, dOp, dOpO, dB, dCh, dAnd, dOr, dNot, dAndV, dOrV, dNotV, dNotT, dIf, dNil, dCons, gNilD, gConsD, gLm, dTup, dLst, dLs, dSl, dSlO, dNo, dSo, d1, dIsi, dList, dCall, dCallK, putS, dGcd, dNeg, dLc, dYes, wTupI, wLstI, wRng1, wRng2, wEnT, wEnL, wName, wNil, wCons, wTup, subD, mulD, divD, modD, powD, ltD, leD, gtD, geD, reprD, wipeD, uns, List.cons_append, List.nil_append, List.length_cons, List.length_nil, List.replicate, List.getElem?_cons_zero, List.getElem?_cons_succ, List.set_cons_zero, List.set_cons_succ, List.map_cons, List.map_nil, List.getD_cons_zero, List.getD_cons_succ, ↓reduceIte, Bool.not_true, Bool.not_false, Bool.false_eq_true, sof_fn1, sof_fn2, sof_fn1p, sof_fn2p, eqv_int, eqv_str, plain_int, plain_bool, plain_none, true_and, and_true, sizeLine_eq, Nat.reduceAdd, Nat.reduceLeDiff, Nat.zero_add, addD_int, addD_str, addD_tup, addD_list, intF_int, intD_int, eqD_int, eqD_str, neD_int, neD_str, inD_list, inD_tup, isND_none, ixD_t0, ixD_t1, ixD_t2, ixD_t3, ixD_l0, lenD_tup, lenD_list, lenD_str, absD_int, toIntD_int, toIntD_bool, toStrD_int, tupleD_list, tupleD_tup, cutSq_tup, cutSq_list, cutSq_str, isInt_none, isInt_bool, isInt_int, isInt_str, isInt_list, isInt_tup, isInt_dict, isBool_none, isBool_bool, isBool_int, isBool_str, isBool_list, isBool_tup, isBool_dict, isStr_none, isStr_bool, isStr_int, isStr_str, isStr_list, isStr_tup, isStr_dict, isTup_none, isTup_bool, isTup_int, isTup_str, isTup_list, isTup_tup, isTup_dict, isLst_none, isLst_bool, isLst_int, isLst_str, isLst_list, isLst_tup, isLst_dict]
  refine ⟨_, ⟨_, rfl, by simp, by decide, rfl⟩, ?_⟩
  intro d hd
  obtain ⟨lo, rfl, l0, l1⟩ : ∃ lo : Int, d = .int lo ∧ 0 ≤ lo ∧ lo ≤ 1 := by
    simp only [List.mem_cons, List.not_mem_nil, or_false] at hd
    rcases hd with rfl | rfl | rfl <;> exact ⟨_, rfl, by decide, by decide⟩
  clear hd
  simp only [dSeq, dIfS, dRet, dRetN, dSet, dPar, dPar3, dAsg, dFor, dDrop, dNext, dBrk, dCnt, dAug, dApp, dExt, dPop, dPopAt, dSetI, dFrz, xD, xF, dC, dV, dO, dOp, dOpO, dB, dCh, dAnd, dOr, dNot, dAndV, dOrV, dNotV, dNotT, dIf, dNil, dCons, gNilD, gConsD, gLm, dTup, dLst, dLs, dSl, dSlO, dNo, dSo, d1, dIsi, dList, dCall, dCallK, putS, dGcd, dNeg, dLc, dYes, wTupI, wLstI, wRng1, wRng2, wEnT, wEnL, wName, wNil, wCons, wTup, subD, mulD, divD, modD, powD, ltD, leD, gtD, geD, reprD, wipeD, uns, List.cons_append, List.nil_append, List.length_cons, List.length_nil, List.replicate, List.getElem?_cons_zero, List.getElem?_cons_succ, List.set_cons_zero, List.set_cons_succ, List.map_cons, List.map_nil, List.getD_cons_zero, List.getD_cons_succ, ↓reduceIte, Bool.not_true, Bool.not_false, Bool.false_eq_true, sof_fn1, sof_fn2, sof_fn1p, sof_fn2p, eqv_int, eqv_str, plain_int, plain_bool, plain_none, true_and, and_true, sizeLine_eq, Nat.reduceAdd, Nat.reduceLeDiff, Nat.zero_add, addD_int, addD_str, addD_tup, addD_list, intF_int, intD_int, eqD_int, eqD_str, neD_int, neD_str, inD_list, inD_tup, isND_none, ixD_t0, ixD_t1, ixD_t2, ixD_t3, ixD_l0, lenD_tup, lenD_list, lenD_str, absD_int, toIntD_int, toIntD_bool, toStrD_int, tupleD_list, tupleD_tup, cutSq_tup, cutSq_list, cutSq_str, isInt_none, isInt_bool, isInt_int, isInt_str, isInt_list, isInt_tup, isInt_dict, isBool_none, isBool_bool, isBool_int, isBool_str, isBool_list, isBool_tup, isBool_dict, isStr_none, isStr_bool, isStr_int, isStr_str, isStr_list, isStr_tup, isStr_dict, isTup_none, isTup_bool, isTup_int, isTup_str, isTup_list, isTup_tup, isTup_dict, isLst_none, isLst_bool, isLst_int, isLst_str, isLst_list, isLst_tup, isLst_dict]
  refine ⟨_, ⟨_, rfl, by decide, rfl⟩, ?_⟩
  rintro _ ⟨k, rfl, _, _⟩
  simp only [dSeq, dIfS, dRet, dRetN, dSet, dPar, dPar3, dAsg, dFor, dDrop, dNext, dBrk, dCnt, dAug, dApp, dExt, dPop, dPopAt, dSetI, dFrz, xD, xF, dC, dV, dO, dOp, dOpO, dB, dCh, dAnd, dOr, dNot, dAndV, dOrV, dNotV, dNotT, dIf, dNil, dCons, gNilD, gConsD, gLm, dTup, dLst, dLs, dSl, dSlO, dNo, dSo, d1, dIsi, dList, dCall, dCallK, putS, dGcd, dNeg, dLc, dYes, wTupI, wLstI, wRng1, wRng2, wEnT, wEnL, wName, wNil, wCons, wTup, subD, mulD, divD, modD, powD, ltD, leD, gtD, geD, reprD, wipeD, uns, List.cons_append, List.nil_append, List.length_cons, List.length_nil, List.replicate, List.getElem?_cons_zero, List.getElem?_cons_succ, List.set_cons_zero, List.set_cons_succ, List.map_cons, List.map_nil, List.getD_cons_zero, List.getD_cons_succ, ↓reduceIte, Bool.not_true, Bool.not_false, Bool.false_eq_true, sof_fn1, sof_fn2, sof_fn1p, sof_fn2p, eqv_int, eqv_str, plain_int, plain_bool, plain_none, true_and, and_true, sizeLine_eq, Nat.reduceAdd, Nat.reduceLeDiff, Nat.zero_add, addD_int, addD_str, addD_tup, addD_list, intF_int, intD_int, eqD_int, eqD_str, neD_int, neD_str, inD_list, inD_tup, isND_none, ixD_t0, ixD_t1, ixD_t2, ixD_t3, ixD_l0, lenD_tup, lenD_list, lenD_str, absD_int, toIntD_int, toIntD_bool, toStrD_int, tupleD_list, tupleD_tup, cutSq_tup, cutSq_list, cutSq_str, isInt_none, isInt_bool, isInt_int, isInt_str, isInt_list, isInt_tup, isInt_dict, isBool_none, isBool_bool, isBool_int, isBool_str, isBool_list, isBool_tup, isBool_dict, isStr_none, isStr_bool, isStr_int, isStr_str, isStr_list, isStr_tup, isStr_dict, isTup_none, isTup_bool, isTup_int, isTup_str, isTup_list, isTup_tup, isTup_dict, isLst_none, isLst_bool, isLst_int, isLst_str, isLst_list, isLst_tup, isLst_dict]
  split
  · exact (Dts.tuple (Dts.cons (dtW (by decide +kernel)) (Dts.cons (Dts.tuple (Dts.cons (Dts.tuple (Dts.cons (dt_small (by omega)) (Dts.cons (Dts.tuple (Dts.cons (dt_small (by decide)) (Dts.cons (dt_small (by decide)) Dts.nil))) Dts.nil))) Dts.nil)) Dts.nil))).le (by decide) (by decide)
  · refine ⟨_, ⟨rfl, rfl⟩, ?_⟩
    rintro _ ⟨a, b, rfl, a0, ab, b5⟩
    simp only [dSeq, dIfS, dRet, dRetN, dSet, dPar, dPar3, dAsg, dFor, dDrop, dNext, dBrk, dCnt, dAug, dApp, dExt, dPop, dPopAt, dSetI, dFrz, xD, xF, dC, dV, dO, dOp, dOpO, dB, dCh, dAnd, dOr, dNot, dAndV, dOrV, dNotV, dNotT, dIf, dNil, dCons, gNilD, gConsD, gLm, dTup, dLst, dLs, dSl, dSlO, dNo, dSo, d1, dIsi, dList, dCall, dCallK, putS, dGcd, dNeg, dLc, dYes, wTupI, wLstI, wRng1, wRng2, wEnT, wEnL, wName, wNil, wCons, wTup, subD, mulD, divD, modD, powD, ltD, leD, gtD, geD, reprD, wipeD, uns, List.cons_append, List.nil_append, List.length_cons, List.length_nil, List.replicate, List.getElem?_cons_zero, List.getElem?_cons_succ, List.set_cons_zero, List.set_cons_succ, List.map_cons, List.map_nil, List.getD_cons_zero, List.getD_cons_succ, ↓reduceIte, Bool.not_true, Bool.not_false, Bool.false_eq_true, sof_fn1, sof_fn2, sof_fn1p, sof_fn2p, eqv_int, eqv_str, plain_int, plain_bool, plain_none, true_and, and_true, sizeLine_eq, Nat.reduceAdd, Nat.reduceLeDiff, Nat.zero_add, addD_int, addD_str, addD_tup, addD_list, intF_int, intD_int, eqD_int, eqD_str, neD_int, neD_str, inD_list, inD_tup, isND_none, ixD_t0, ixD_t1, ixD_t2, ixD_t3, ixD_l0, lenD_tup, lenD_list, lenD_str, absD_int, toIntD_int, toIntD_bool, toStrD_int, tupleD_list, tupleD_tup, cutSq_tup, cutSq_list, cutSq_str, isInt_none, isInt_bool, isInt_int, isInt_str, isInt_list, isInt_tup, isInt_dict, isBool_none, isBool_bool, isBool_int, isBool_str, isBool_list, isBool_tup, isBool_dict, isStr_none, isStr_bool, isStr_int, isStr_str, isStr_list, isStr_tup, isStr_dict, isTup_none, isTup_bool, isTup_int, isTup_str, isTup_list, isTup_tup, isTup_dict, isLst_none, isLst_bool, isLst_int, isLst_str, isLst_list, isLst_tup, isLst_dict]
    refine ⟨_, ⟨_, rfl, by decide, rfl⟩, ?_⟩
    rintro _ ⟨j, rfl, j0, j1⟩
    simp only [dSeq, dIfS, dRet, dRetN, dSet, dPar, dPar3, dAsg, dFor, dDrop, dNext, dBrk, dCnt, dAug, dApp, dExt, dPop, dPopAt, dSetI, dFrz, xD, xF, dC, dV, dO, dOp, dOpO, dB, dCh, dAnd, dOr, dNot, dAndV, dOrV, dNotV, dNotT, dIf, dNil, dCons, gNilD, gConsD, gLm, dTup, dLst, dLs, dSl, dSlO, dNo, dSo, d1, dIsi, dList, dCall, dCallK, putS, dGcd, dNeg, dLc, dYes, wTupI, wLstI, wRng1, wRng2, wEnT, wEnL, wName, wNil, wCons, wTup, subD, mulD, divD, modD, powD, ltD, leD, gtD, geD, reprD, wipeD, uns, List.cons_append, List.nil_append, List.length_cons, List.length_nil, List.replicate, List.getElem?_cons_zero, List.getElem?_cons_succ, List.set_cons_zero, List.set_cons_succ, List.map_cons, List.map_nil, List.getD_cons_zero, List.getD_cons_succ, ↓reduceIte, Bool.not_true, Bool.not_false, Bool.false_eq_true, sof_fn1, sof_fn2, sof_fn1p, sof_fn2p, eqv_int, eqv_str, plain_int, plain_bool, plain_none, true_and, and_true, sizeLine_eq, Nat.reduceAdd, Nat.reduceLeDiff, Nat.zero_add, addD_int, addD_str, addD_tup, addD_list, intF_int, intD_int, eqD_int, eqD_str, neD_int, neD_str, inD_list, inD_tup, isND_none, ixD_t0, ixD_t1, ixD_t2, ixD_t3, ixD_l0, lenD_tup, lenD_list, lenD_str, absD_int, toIntD_int, toIntD_bool, toStrD_int, tupleD_list, tupleD_tup, cutSq_tup, cutSq_list, cutSq_str, isInt_none, isInt_bool, isInt_int, isInt_str, isInt_list, isInt_tup, isInt_dict, isBool_none, isBool_bool, isBool_int, isBool_str, isBool_list, isBool_tup, isBool_dict, isStr_none, isStr_bool, isStr_int, isStr_str, isStr_list, isStr_tup, isStr_dict, isTup_none, isTup_bool, isTup_int, isTup_str, isTup_list, isTup_tup, isTup_dict, isLst_none, isLst_bool, isLst_int, isLst_str, isLst_list, isLst_tup, isLst_dict]
    have two : ∀ x y : Int, x.natAbs < 1000000 → y.natAbs < 1000000 → Dt 3 1 (.tuple [.int x, .int y]) := fun x y hx hy => (Dts.tuple (Dts.cons (dt_small hx) (Dts.cons (dt_small hy) Dts.nil))).le (by decide) (by decide)
    exact (Dts.tuple (Dts.cons (dtW (by decide +kernel)) (Dts.cons (Dts.tuple (Dts.cons (Dts.tuple (Dts.cons (dt_small (by omega)) (Dts.cons (two _ _ (by omega) (by omega)) Dts.nil))) (Dts.cons (Dts.tuple (Dts.cons (dt_small (by omega)) (Dts.cons (two _ _ (by omega) (by omega)) Dts.nil))) Dts.nil))) Dts.nil))).le (by decide) (by decide)
theorem Txt.ok_test (T : Txt K mg A D) : FnOk P w K mg base CX0 3 (A 9) (D 9) ["jar", "k", "most"] (spD K testR) := by
  refine okD T.F_test sc_test (by rintro ss P ⟨k, m, rfl, _⟩; rfl) (fun cdv Ar outer s H E hr => ⟨_, (dss_one (ds_ret (de_tup (da_cons (de_call T.ok_draw (hr.mono (by decide)) (by rfl) T.g_draw T.k_draw T.b_draw pass0 (dg_lm (pv 0) (dg_cons (de_v (pv 1)) dg_nil))) (da_cons (de_call T.ok_pick hr (by rfl) T.g_pick T.k_pick T.b_pick pass0 (dg_lm (pv 0) (dg_cons (DF.de (df_lst (da_cons de_str (da_cons de_str da_nil)))) dg_nil))) (da_cons (de_op o_add de_int (DE.r (de_call T.ok_draw (hr.mono (by decide)) (by rfl) T.g_draw T.k_draw T.b_draw pass0 (dg_lm (pv 0) (dg_cons (de_v (pv 2)) dg_nil))))) da_nil)))))), ?_⟩)
  rintro ss P ⟨k, m, rfl, k1, k3, m1, m4, rfl⟩
  simp only [dSeq, dIfS, dRet, dRetN, dSet, dPar, dPar3, dAsg, dFor, dDrop, dNext, dBrk, dCnt, dAug, dApp, dExt, dPop, dPopAt, dSetI, dFrz, xD, xF, dC, dV, dO, dOp, dOpO, dB, dCh, dAnd, dOr, dNot, dAndV, dOrV, dNotV, dNotT, dIf, dNil, dCons, gNilD, gConsD, gLm, dTup, dLst, dLs, dSl, dSlO, dNo, dSo, d1, dIsi, dList, dCall, dCallK, putS, dGcd, dNeg, dLc, dYes, wTupI, wLstI, wRng1, wRng2, wEnT, wEnL, wName, wNil, wCons, wTup, subD, mulD, divD, modD, powD, ltD, leD, gtD, geD, reprD, wipeD, uns, List.cons_append, List.nil_append, List.length_cons, List.length_nil, List.replicate, List.getElem?_cons_zero, List.getElem?_cons_succ, List.set_cons_zero, List.set_cons_succ, List.map_cons, List.map_nil, List.getD_cons_zero, List.getD_cons_succ, ↓reduceIte, Bool.not_true, Bool.not_false, Bool.false_eq_true, sof_fn1, sof_fn2, sof_fn1p, sof_fn2p, eqv_int, eqv_str, plain_int, plain_bool, plain_none, true_and, and_true, sizeLine_eq, Nat.reduceAdd, Nat.reduceLeDiff, Nat.zero_add, addD_int, addD_str, addD_tup, addD_list, intF_int, intD_int, eqD_int, eqD_str, neD_int, neD_str, inD_list, inD_tup, isND_none, ixD_t0, ixD_t1, ixD_t2, ixD_t3, ixD_l0, lenD_tup, lenD_list, lenD_str, absD_int, toIntD_int, toIntD_bool, toStrD_int, tupleD_list, tupleD_tup, cutSq_tup, cutSq_list, cutSq_str, isInt_none, isInt_bool, isInt_int, isInt_str, isInt_list, isInt_tup, isInt_dict, isBool_none, isBool_bool, isBool_int, isBool_str, isBool_list, isBool_tup, isBool_dict, isStr_none, isStr_bool, isStr_int, isStr_str, isStr_list, isStr_tup, isStr_dict, isTup_none, isTup_bool, isTup_int, isTup_str, isTup_list, isTup_tup, isTup_dict, isLst_none, isLst_bool, isLst_int, isLst_str, isLst_list, isLst_tup, isLst_dict]
  refine ⟨_, ⟨_, rfl, by omega, rfl⟩, ?_⟩
  rintro _ ⟨c, rfl, c0, c1⟩
  refine ⟨_, ⟨_, rfl, by simp, by decide, rfl⟩, ?_⟩
  intro d hd
  refine ⟨_, ⟨_, rfl, by omega, rfl⟩, ?_⟩
  rintro _ ⟨n, rfl, n0, n1⟩
  have hd' : Dt 6 0 d := by
    simp only [List.mem_cons, List.not_mem_nil, or_false] at hd
    rcases hd with rfl | rfl <;> exact dtW (by decide +kernel)
  simp only [dSeq, dIfS, dRet, dRetN, dSet, dPar, dPar3, dAsg, dFor, dDrop, dNext, dBrk, dCnt, dAug, dApp, dExt, dPop, dPopAt, dSetI, dFrz, xD, xF, dC, dV, dO, dOp, dOpO, dB, dCh, dAnd, dOr, dNot, dAndV, dOrV, dNotV, dNotT, dIf, dNil, dCons, gNilD, gConsD, gLm, dTup, dLst, dLs, dSl, dSlO, dNo, dSo, d1, dIsi, dList, dCall, dCallK, putS, dGcd, dNeg, dLc, dYes, wTupI, wLstI, wRng1, wRng2, wEnT, wEnL, wName, wNil, wCons, wTup, subD, mulD, divD, modD, powD, ltD, leD, gtD, geD, reprD, wipeD, uns, List.cons_append, List.nil_append, List.length_cons, List.length_nil, List.replicate, List.getElem?_cons_zero, List.getElem?_cons_succ, List.set_cons_zero, List.set_cons_succ, List.map_cons, List.map_nil, List.getD_cons_zero, List.getD_cons_succ, ↓reduceIte, Bool.not_true, Bool.not_false, Bool.false_eq_true, sof_fn1, sof_fn2, sof_fn1p, sof_fn2p, eqv_int, eqv_str, plain_int, plain_bool, plain_none, true_and, and_true, sizeLine_eq, Nat.reduceAdd, Nat.reduceLeDiff, Nat.zero_add, addD_int, addD_str, addD_tup, addD_list, intF_int, intD_int, eqD_int, eqD_str, neD_int, neD_str, inD_list, inD_tup, isND_none, ixD_t0, ixD_t1, ixD_t2, ixD_t3, ixD_l0, lenD_tup, lenD_list, lenD_str, absD_int, toIntD_int, toIntD_bool, toStrD_int, tupleD_list, tupleD_tup, cutSq_tup, cutSq_list, cutSq_str, isInt_none, isInt_bool, isInt_int, isInt_str, isInt_list, isInt_tup, isInt_dict, isBool_none, isBool_bool, isBool_int, isBool_str, isBool_list, isBool_tup, isBool_dict, isStr_none, isStr_bool, isStr_int, isStr_str, isStr_list, isStr_tup, isStr_dict, isTup_none, isTup_bool, isTup_int, isTup_str, isTup_list, isTup_tup, isTup_dict, isLst_none, isLst_bool, isLst_int, isLst_str, isLst_list, isLst_tup, isLst_dict]
  exact (Dts.tuple (Dts.cons (dt_small (by omega)) (Dts.cons hd' (Dts.cons (dt_small (by omega)) Dts.nil)))).le (by decide) (by decide)
theorem Txt.ok_weights (T : Txt K mg A D) : FnOk P w K mg base CX0 3 (A 15) (D 15) ["jar", "k"] (spD K fun ss P => ∃ k : Int, ss = [.lm, .d (.int k)] ∧ 1 ≤ k ∧ k ≤ 3 ∧ P = fun d => ∃ xs, d = .tuple xs ∧ (xs.length : Int) = k ∧ ∀ x ∈ xs, Dt 3 1 x) := by
  refine okD T.F_weights sc_weights (by rintro ss P ⟨k, rfl, _⟩; rfl) (fun cdv Ar outer s H E hr => ⟨_, (dss_one (ds_ret (de_cT c_tuple (by rfl) T.z_tuple (by decide +kernel) (DE.r (DF.de (df_lc (own := [("place", 2)]) rfl sc_weights.nd (di_rng1 rfl T.range (de_v (pv 1))) (blkOk_by (N := ["jar", "k", "place"]) (sc := defScope s_weights) (by decide +kernel)) (fun _ _ _ _ _ => (dg_name (i := 2) sc_weights.nd rfl (Or.inl rfl))) (fun _ _ _ _ _ => dts_nil) (fun _ _ _ _ _ => (de_call T.ok_pick hr (by rfl) T.g_pick T.k_pick T.b_pick pass0 (dg_lm (pv 0) (dg_cons (DF.de (df_lst (da_cons (de_tup (da_cons de_int (da_cons de_int da_nil))) (da_cons (de_tup (da_cons de_int (da_cons de_int da_nil))) (da_cons (de_tup (da_cons de_int (da_cons de_int da_nil))) (da_cons (de_tup (da_cons de_int (da_cons de_int da_nil))) (da_cons (de_tup (da_cons de_int (da_cons de_int da_nil))) (da_cons (de_tup (da_cons de_int (da_cons de_int da_nil))) da_nil)))))))) dg_nil)))))))))), ?_⟩)
  rintro ss P ⟨k, rfl, k1, k3, rfl⟩
  simp only [dSeq, dIfS, dRet, dRetN, dSet, dPar, dPar3, dAsg, dFor, dDrop, dNext, dBrk, dCnt, dAug, dApp, dExt, dPop, dPopAt, dSetI, dFrz, xD, xF, dC, dV, dO, dOp, dOpO, dB, dCh, dAnd, dOr, dNot, dAndV, dOrV, dNotV, dNotT, dIf, dNil, dCons, gNilD, gConsD, gLm, dTup, dLst, dLs, dSl, dSlO, dNo, dSo, d1, dIsi, dList, dCall, dCallK, putS, dGcd, dNeg, dLc, dYes, wTupI, wLstI, wRng1, wRng2, wEnT, wEnL, wName, wNil, wCons, wTup, subD, mulD, divD, modD, powD, ltD, leD, gtD, geD, reprD, wipeD, uns, List.cons_append, List.nil_append, List.length_cons, List.length_nil, List.replicate, List.getElem?_cons_zero, List.getElem?_cons_succ, List.set_cons_zero, List.set_cons_succ, List.map_cons, List.map_nil, List.getD_cons_zero, List.getD_cons_succ, ↓reduceIte, Bool.not_true, Bool.not_false, Bool.false_eq_true, sof_fn1, sof_fn2, sof_fn1p, sof_fn2p, eqv_int, eqv_str, plain_int, plain_bool, plain_none, true_and, and_true, sizeLine_eq, Nat.reduceAdd, Nat.reduceLeDiff, Nat.zero_add, addD_int, addD_str, addD_tup, addD_list, intF_int, intD_int, eqD_int, eqD_str, neD_int, neD_str, inD_list, inD_tup, isND_none, ixD_t0, ixD_t1, ixD_t2, ixD_t3, ixD_l0, lenD_tup, lenD_list, lenD_str, absD_int, toIntD_int, toIntD_bool, toStrD_int, tupleD_list, tupleD_tup, cutSq_tup, cutSq_list, cutSq_str, isInt_none, isInt_bool, isInt_int, isInt_str, isInt_list, isInt_tup, isInt_dict, isBool_none, isBool_bool, isBool_int, isBool_str, isBool_list, isBool_tup, isBool_dict, isStr_none, isStr_bool, isStr_int, isStr_str, isStr_list, isStr_tup, isStr_dict, isTup_none, isTup_bool, isTup_int, isTup_str, isTup_list, isTup_tup, isTup_dict, isLst_none, isLst_bool, isLst_int, isLst_str, isLst_list, isLst_tup, isLst_dict]
  refine ⟨by omega, by omega, ?_⟩
  refine lcD_ind (fun r acc => (r.length + acc.length : Int) = k ∧ ∀ x ∈ acc, Dt 3 1 x) ?_ ?_ _ [] ⟨by rw [rngD_len]; simp; omega, fun x hx => nomatch hx⟩
  · rintro acc ⟨h1, h2⟩
    exact ⟨acc, rfl, by simpa using h1, h2⟩
  · rintro x xs acc N ⟨h1, h2⟩ hN
    simp only [dSeq, dIfS, dRet, dRetN, dSet, dPar, dPar3, dAsg, dFor, dDrop, dNext, dBrk, dCnt, dAug, dApp, dExt, dPop, dPopAt, dSetI, dFrz, xD, xF, dC, dV, dO, dOp, dOpO, dB, dCh, dAnd, dOr, dNot, dAndV, dOrV, dNotV, dNotT, dIf, dNil, dCons, gNilD, gConsD, gLm, dTup, dLst, dLs, dSl, dSlO, dNo, dSo, d1, dIsi, dList, dCall, dCallK, putS, dGcd, dNeg, dLc, dYes, wTupI, wLstI, wRng1, wRng2, wEnT, wEnL, wName, wNil, wCons, wTup, subD, mulD, divD, modD, powD, ltD, leD, gtD, geD, reprD, wipeD, uns, List.cons_append, List.nil_append, List.length_cons, List.length_nil, List.replicate, List.getElem?_cons_zero, List.getElem?_cons_succ, List.set_cons_zero, List.set_cons_succ, List.map_cons, List.map_nil, List.getD_cons_zero, List.getD_cons_succ, ↓reduceIte, Bool.not_true, Bool.not_false, Bool.false_eq_true, sof_fn1, sof_fn2, sof_fn1p, sof_fn2p, eqv_int, eqv_str, plain_int, plain_bool, plain_none, true_and, and_true, sizeLine_eq, Nat.reduceAdd, Nat.reduceLeDiff, Nat.zero_add, addD_int, addD_str, addD_tup, addD_list, intF_int, intD_int, eqD_int, eqD_str, neD_int, neD_str, inD_list, inD_tup, isND_none, ixD_t0, ixD_t1, ixD_t2, ixD_t3, ixD_l0, lenD_tup, lenD_list, lenD_str, absD_int, toIntD_int, toIntD_bool, toStrD_int, tupleD_list, tupleD_tup, cutSq_tup, cutSq_list, cutSq_str, isInt_none, isInt_bool, isInt_int, isInt_str, isInt_list, isInt_tup, isInt_dict, isBool_none, isBool_bool, isBool_int, isBool_str, isBool_list, isBool_tup, isBool_dict, isStr_none, isStr_bool, isStr_int, isStr_str, isStr_list, isStr_tup, isStr_dict, isTup_none, isTup_bool, isTup_int, isTup_str, isTup_list, isTup_tup, isTup_dict, isLst_none, isLst_bool, isLst_int, isLst_str, isLst_list, isLst_tup, isLst_dict]
    refine ⟨_, ⟨_, rfl, by simp, by decide, rfl⟩, ?_⟩
    intro d hd
    rw [List.length_cons] at h1
    refine ⟨by omega, hN _ ⟨by rw [List.length_append, List.length_singleton]; omega, fun y hy => ?_⟩⟩
    rcases List.mem_append.mp hy with hy | hy
    · exact h2 y hy
    · rw [List.mem_singleton.mp hy]
      have two : ∀ x y : Int, x.natAbs < 1000000 → y.natAbs < 1000000 → Dt 3 1 (.tuple [.int x, .int y]) := fun x y hx hy => (Dts.tuple (Dts.cons (dt_small hx) (Dts.cons (dt_small hy) Dts.nil))).le (by decide) (by decide)
      simp only [List.mem_cons, List.not_mem_nil, or_false] at hd
      rcases hd with rfl | rfl | rfl | rfl | rfl | rfl <;> exact two _ _ (by decide) (by decide)
end
end Ev

set_option exponentiation.threshold 256
namespace Ev
open PySem PySem.Spec PyProof.Rows L2
def prevR : Nat → RelD
  | 0 => fun _ _ => False
  | n + 1 => someR n
theorem in_if : isIf "if" = true := by decide +kernel
theorem step_flat {n : Nat} {w : Str} {rest : List PyData} (hw : isIf w = false) (h : Dt 60 5 (.tuple (.str w :: rest))) : StepOk n (.tuple (.str w :: rest)) := by
  cases n with
  | zero => exact ⟨w, rest, rfl, hw, h⟩
  | succ n => exact .inl ⟨w, rest, rfl, hw, h⟩
section
variable {P : Program} {w : World} {K : PySem.W.Frag} {mg : Str → Option Value} {base : Heap} {A : Nat → Addr} {D : Nat → FuncData}
theorem Txt.step_ok (T : Txt K mg A D) {k n : Nat} (hk : 4 ≤ k) (hn : n ≤ 1) (ih_some_steps : FnOk P w K mg base CX0 k (A 11) (D 11) ["jar", "k", "depth", "words", "most"] (spD K (prevR n))) :
    FnOk P w K mg base CX0 (k + 1) (A 10) (D 10) ["jar", "k", "depth", "words"] (spD K (stepR n)) := by
  refine okD T.F_step sc_step (by rintro ss P ⟨k, rfl, _⟩; rfl) (fun cdv Ar outer s H E hr => ⟨_, (dss_cons (ds_par (i := 4) (j := 5) rfl sc_step.nd rfl rfl (by decide) rfl rfl (DE.x (de_call T.ok_pick (hr.mono (by omega)) (by rfl) T.g_pick T.k_pick T.b_pick pass0 (dg_lm (pv 0) (dg_cons (de_v (pv 3)) dg_nil)))) (DE.x (de_call T.ok_draw (hr.mono (by omega)) (by rfl) T.g_draw T.k_draw T.b_draw pass0 (dg_lm (pv 0) (dg_cons (de_v (pv 1)) dg_nil)))) (by rfl))
    (dss_cons (ds_if (dt_cmp (o_eq hr.units) (de_v (pv 4)) (DE.r de_str) (nomark _)) (dss_one (ds_ret (de_tup (da_cons de_str (da_cons (de_v (pv 5)) (da_cons (de_call T.ok_draw (hr.mono (by omega)) (by rfl) T.g_draw T.k_draw T.b_draw pass0 (dg_lm (pv 0) (dg_cons de_int dg_nil))) da_nil)))))) dss_nil)
    (dss_cons (ds_if (dt_cmp (o_eq hr.units) (de_v (pv 4)) (DE.r de_str) (nomark _)) (dss_one (ds_ret (de_tup (da_cons de_str (da_cons (de_v (pv 5)) (da_cons (de_op o_add de_int (DE.r (de_call T.ok_draw (hr.mono (by omega)) (by rfl) T.g_draw T.k_draw T.b_draw pass0 (dg_lm (pv 0) (dg_cons de_int dg_nil))))) da_nil)))))) dss_nil)
    (dss_cons (ds_if (dt_cmp (o_eq hr.units) (de_v (pv 4)) (DE.r de_str) (nomark _)) (dss_one (ds_ret (de_tup (da_cons de_str (da_cons (de_v (pv 5)) (da_cons (de_call T.ok_die (hr.mono (by omega)) (by rfl) T.g_die T.k_die T.b_die pass0 (dg_lm (pv 0) dg_nil)) da_nil)))))) dss_nil)
    (dss_cons (ds_if (dt_cmp (o_eq hr.units) (de_v (pv 4)) (DE.r de_str) (nomark _)) (dss_one (ds_ret (de_tup (da_cons de_str (da_cons (de_v (pv 5)) (da_cons (de_tup (da_cons de_str (da_cons (de_call T.ok_share (hr.mono (by omega)) (by rfl) T.g_share T.k_share T.b_share pass0 (dg_lm (pv 0) dg_nil)) da_nil))) da_nil)))))) dss_nil)
    (dss_cons (ds_if (dt_cmp (o_eq hr.units) (de_v (pv 4)) (DE.r de_str) (nomark _)) (dss_one (ds_ret (de_tup (da_cons de_str (da_cons (de_v (pv 5)) (da_cons (de_call T.ok_die (hr.mono (by omega)) (by rfl) T.g_die T.k_die T.b_die pass0 (dg_lm (pv 0) dg_nil)) (da_cons (de_call T.ok_draw (hr.mono (by omega)) (by rfl) T.g_draw T.k_draw T.b_draw pass0 (dg_lm (pv 0) (dg_cons (de_v (pv 1)) dg_nil))) da_nil))))))) dss_nil)
    (dss_cons (ds_if (dt_cmp (o_eq hr.units) (de_v (pv 4)) (DE.r de_str) (nomark _)) (dss_one (ds_ret (de_tup (da_cons de_str (da_cons (de_call T.ok_test (hr.mono (by omega)) (by rfl) T.g_test T.k_test T.b_test pass0 (dg_lm (pv 0) (dg_cons (de_v (pv 1)) (dg_cons de_int dg_nil)))) da_nil))))) dss_nil)
    (dss_cons (ds_if (DW.pt (dw_and (dt_cmp o_in (de_v (pv 4)) (DE.r (de_tup (da_cons de_str (da_cons de_str da_nil)))) (by rfl)) (dw_and1 (dt_cmp o_gt (de_v (pv 2)) (DE.r de_int) (nomark _))))) (dss_cons (ds_set (i := 6) sc_step.nd rfl (Or.inl rfl) (DE.x (de_if (dt_cmp (o_eq hr.units) (de_v (pv 4)) (DE.r de_str) (nomark _)) (de_tup (da_cons de_str (da_cons (de_call T.ok_test (hr.mono (by omega)) (by rfl) T.g_test T.k_test T.b_test pass0 (dg_lm (pv 0) (dg_cons (de_v (pv 1)) (dg_cons de_int dg_nil)))) da_nil))) (de_tup (da_cons de_str (da_cons (de_call T.ok_share (hr.mono (by omega)) (by rfl) T.g_share T.k_share T.b_share pass0 (dg_lm (pv 0) dg_nil)) da_nil))))))
    (dss_one (ds_ret (de_op o_add (de_v (pv 6)) (DE.r (de_tup (da_cons (de_call ih_some_steps hr (by rfl) T.g_some_steps T.k_some_steps T.b_some_steps pass0 (dg_lm (pv 0) (dg_cons (de_v (pv 1)) (dg_cons (de_op o_sub (de_v (pv 2)) (DE.r de_int)) (dg_cons (de_v (pv 3)) (dg_cons de_int dg_nil)))))) (da_cons (de_call ih_some_steps hr (by rfl) T.g_some_steps T.k_some_steps T.b_some_steps pass0 (dg_lm (pv 0) (dg_cons (de_v (pv 1)) (dg_cons (de_op o_sub (de_v (pv 2)) (DE.r de_int)) (dg_cons (de_v (pv 3)) (dg_cons de_int dg_nil)))))) da_nil)))))))) dss_nil)
    (dss_one (ds_ret (de_tup (da_cons de_str (da_cons (de_v (pv 5)) da_nil))))))))))))), ?_⟩)
  rintro ss P ⟨k, rfl, k1, k3, rfl⟩
  simp only [dSeq, dIfS, dRet, dRetN, dSet, dPar, dPar3, dAsg, dFor, dDrop, dNext, dBrk, dCnt, dAug, dApp, dExt, dPop, dPopAt, dSetI, dFrz, xD, xF, dC, dV, dO, dOp, dOpO, dB, dCh, dAnd, dOr, dNot, dAndV, dOrV, dNotV, dNotT, dIf, dNil, dCons, gNilD, gConsD, gLm, dTup, dLst, dLs, dSl, dSlO, dNo, dSo, d1, dIsi, dList, dCall, dCallK, putS, dGcd, dNeg, dLc, dYes, wTupI, wLstI, wRng1, wRng2, wEnT, wEnL, wName, wNil, wCons, wTup, subD, mulD, divD, modD, powD, ltD, leD, gtD, geD, reprD, wipeD, uns, List.cons_append, List.nil_append, List.length_cons, List.length_nil, List.replicate, List.getElem?_cons_zero, List.getElem?_cons_succ, List.set_cons_zero, List.set_cons_succ, List.map_cons, List.map_nil, List.getD_cons_zero, List.getD_cons_succ, ↓reduceIte, Bool.not_true, Bool.not_false, Bool.false_eq_true, sof_fn1, sof_fn2, sof_fn1p, sof_fn2p, eqv_int, eqv_str, plain_int, plain_bool, plain_none, true_and, and_true, sizeLine_eq, Nat.reduceAdd, Nat.reduceLeDiff, Nat.zero_add, addD_int, addD_str, addD_tup, addD_list, intF_int, intD_int, eqD_int, eqD_str, neD_int, neD_str, inD_list, inD_tup, isND_none, ixD_t0, ixD_t1, ixD_t2, ixD_t3, ixD_l0, lenD_tup, lenD_list, lenD_str, absD_int, toIntD_int, toIntD_bool, toStrD_int, tupleD_list, tupleD_tup, cutSq_tup, cutSq_list, cutSq_str, isInt_none, isInt_bool, isInt_int, isInt_str, isInt_list, isInt_tup, isInt_dict, isBool_none, isBool_bool, isBool_int, isBool_str, isBool_list, isBool_tup, isBool_dict, isStr_none, isStr_bool, isStr_int, isStr_str, isStr_list, isStr_tup, isStr_dict, isTup_none, isTup_bool, isTup_int, isTup_str, isTup_list, isTup_tup, isTup_dict, isLst_none, isLst_bool, isLst_int, isLst_str, isLst_list, isLst_tup, isLst_dict]
  refine ⟨_, ⟨_, rfl, by decide, by decide, rfl⟩, ?_⟩
  intro d hd
  simp only [wordsD, List.mem_cons, List.not_mem_nil, or_false] at hd
  refine ⟨_, ⟨_, rfl, by omega, rfl⟩, ?_⟩
  rintro _ ⟨c, rfl, c0, c1⟩
  have hc : c.natAbs < 1000000 := by omega
  have dW : ∀ {x : Str} {d : PyData} {m : Nat}, (decide (x.length ≤ 5) && x.cps.toList.all fun c => decide (c < 1114112)) = true → Dt m 4 d → m ≤ 40 → Dt 60 5 (.tuple [.str x, .int c, d]) := fun h hd hm =>
    (Dts.tuple (Dts.cons (dtW h) (Dts.cons (dt_small hc) (Dts.cons hd Dts.nil)))).le (by omega) (by omega)
  have less : StepOk n (.tuple [.str "less", .int c]) := step_flat (by decide +kernel) ((Dts.tuple (Dts.cons (dtW (by decide +kernel)) (Dts.cons (dt_small hc) Dts.nil))).le (by decide) (by decide))
  rcases hd with rfl | rfl | rfl | rfl
  · simp only [dSeq, dIfS, dRet, dRetN, dSet, dPar, dPar3, dAsg, dFor, dDrop, dNext, dBrk, dCnt, dAug, dApp, dExt, dPop, dPopAt, dSetI, dFrz, xD, xF, dC, dV, dO, dOp, dOpO, dB, dCh, dAnd, dOr, dNot, dAndV, dOrV, dNotV, dNotT, dIf, dNil, dCons, gNilD, gConsD, gLm, dTup, dLst, dLs, dSl, dSlO, dNo, dSo, d1, dIsi, dList, dCall, dCallK, putS, dGcd, dNeg, dLc, dYes, wTupI, wLstI, wRng1, wRng2, wEnT, wEnL, wName, wNil, wCons, wTup, subD, mulD, divD, modD, powD, ltD, leD, gtD, geD, reprD, wipeD, uns, List.cons_append, List.nil_append, List.length_cons, List.length_nil, List.replicate, List.getElem?_cons_zero, List.getElem?_cons_succ, List.set_cons_zero, List.set_cons_succ, List.map_cons, List.map_nil, List.getD_cons_zero, List.getD_cons_succ, ↓reduceIte, Bool.not_true, Bool.not_false, Bool.false_eq_true, sof_fn1, sof_fn2, sof_fn1p, sof_fn2p, eqv_int, eqv_str, plain_int, plain_bool, plain_none, true_and, and_true, sizeLine_eq, Nat.reduceAdd, Nat.reduceLeDiff, Nat.zero_add, addD_int, addD_str, addD_tup, addD_list, intF_int, intD_int, eqD_int, eqD_str, neD_int, neD_str, inD_list, inD_tup, isND_none, ixD_t0, ixD_t1, ixD_t2, ixD_t3, ixD_l0, lenD_tup, lenD_list, lenD_str, absD_int, toIntD_int, toIntD_bool, toStrD_int, tupleD_list, tupleD_tup, cutSq_tup, cutSq_list, cutSq_str, isInt_none, isInt_bool, isInt_int, isInt_str, isInt_list, isInt_tup, isInt_dict, isBool_none, isBool_bool, isBool_int, isBool_str, isBool_list, isBool_tup, isBool_dict, isStr_none, isStr_bool, isStr_int, isStr_str, isStr_list, isStr_tup, isStr_dict, isTup_none, isTup_bool, isTup_int, isTup_str, isTup_list, isTup_tup, isTup_dict, isLst_none, isLst_bool, isLst_int, isLst_str, isLst_list, isLst_tup, isLst_dict]
    simp (config := { decide := true }) only [↓reduceIte, decide_false, Bool.false_eq_true]
    exact ⟨trivial, trivial, less⟩
  · simp only [dSeq, dIfS, dRet, dRetN, dSet, dPar, dPar3, dAsg, dFor, dDrop, dNext, dBrk, dCnt, dAug, dApp, dExt, dPop, dPopAt, dSetI, dFrz, xD, xF, dC, dV, dO, dOp, dOpO, dB, dCh, dAnd, dOr, dNot, dAndV, dOrV, dNotV, dNotT, dIf, dNil, dCons, gNilD, gConsD, gLm, dTup, dLst, dLs, dSl, dSlO, dNo, dSo, d1, dIsi, dList, dCall, dCallK, putS, dGcd, dNeg, dLc, dYes, wTupI, wLstI, wRng1, wRng2, wEnT, wEnL, wName, wNil, wCons, wTup, subD, mulD, divD, modD, powD, ltD, leD, gtD, geD, reprD, wipeD, uns, List.cons_append, List.nil_append, List.length_cons, List.length_nil, List.replicate, List.getElem?_cons_zero, List.getElem?_cons_succ, List.set_cons_zero, List.set_cons_succ, List.map_cons, List.map_nil, List.getD_cons_zero, List.getD_cons_succ, ↓reduceIte, Bool.not_true, Bool.not_false, Bool.false_eq_true, sof_fn1, sof_fn2, sof_fn1p, sof_fn2p, eqv_int, eqv_str, plain_int, plain_bool, plain_none, true_and, and_true, sizeLine_eq, Nat.reduceAdd, Nat.reduceLeDiff, Nat.zero_add, addD_int, addD_str, addD_tup, addD_list, intF_int, intD_int, eqD_int, eqD_str, neD_int, neD_str, inD_list, inD_tup, isND_none, ixD_t0, ixD_t1, ixD_t2, ixD_t3, ixD_l0, lenD_tup, lenD_list, lenD_str, absD_int, toIntD_int, toIntD_bool, toStrD_int, tupleD_list, tupleD_tup, cutSq_tup, cutSq_list, cutSq_str, isInt_none, isInt_bool, isInt_int, isInt_str, isInt_list, isInt_tup, isInt_dict, isBool_none, isBool_bool, isBool_int, isBool_str, isBool_list, isBool_tup, isBool_dict, isStr_none, isStr_bool, isStr_int, isStr_str, isStr_list, isStr_tup, isStr_dict, isTup_none, isTup_bool, isTup_int, isTup_str, isTup_list, isTup_tup, isTup_dict, isLst_none, isLst_bool, isLst_int, isLst_str, isLst_list, isLst_tup, isLst_dict]
    simp (config := { decide := true }) only [↓reduceIte, decide_false, Bool.false_eq_true]
    refine ⟨_, ⟨_, rfl, by decide, rfl⟩, ?_⟩
    rintro _ ⟨j, rfl, j0, j1⟩
    simp only [dSeq, dIfS, dRet, dRetN, dSet, dPar, dPar3, dAsg, dFor, dDrop, dNext, dBrk, dCnt, dAug, dApp, dExt, dPop, dPopAt, dSetI, dFrz, xD, xF, dC, dV, dO, dOp, dOpO, dB, dCh, dAnd, dOr, dNot, dAndV, dOrV, dNotV, dNotT, dIf, dNil, dCons, gNilD, gConsD, gLm, dTup, dLst, dLs, dSl, dSlO, dNo, dSo, d1, dIsi, dList, dCall, dCallK, putS, dGcd, dNeg, dLc, dYes, wTupI, wLstI, wRng1, wRng2, wEnT, wEnL, wName, wNil, wCons, wTup, subD, mulD, divD, modD, powD, ltD, leD, gtD, geD, reprD, wipeD, uns, List.cons_append, List.nil_append, List.length_cons, List.length_nil, List.replicate, List.getElem?_cons_zero, List.getElem?_cons_succ, List.set_cons_zero, List.set_cons_succ, List.map_cons, List.map_nil, List.getD_cons_zero, List.getD_cons_succ, ↓reduceIte, Bool.not_true, Bool.not_false, Bool.false_eq_true, sof_fn1, sof_fn2, sof_fn1p, sof_fn2p, eqv_int, eqv_str, plain_int, plain_bool, plain_none, true_and, and_true, sizeLine_eq, Nat.reduceAdd, Nat.reduceLeDiff, Nat.zero_add, addD_int, addD_str, addD_tup, addD_list, intF_int, intD_int, eqD_int, eqD_str, neD_int, neD_str, inD_list, inD_tup, isND_none, ixD_t0, ixD_t1, ixD_t2, ixD_t3, ixD_l0, lenD_tup, lenD_list, lenD_str, absD_int, toIntD_int, toIntD_bool, toStrD_int, tupleD_list, tupleD_tup, cutSq_tup, cutSq_list, cutSq_str, isInt_none, isInt_bool, isInt_int, isInt_str, isInt_list, isInt_tup, isInt_dict, isBool_none, isBool_bool, isBool_int, isBool_str, isBool_list, isBool_tup, isBool_dict, isStr_none, isStr_bool, isStr_int, isStr_str, isStr_list, isStr_tup, isStr_dict, isTup_none, isTup_bool, isTup_int, isTup_str, isTup_list, isTup_tup, isTup_dict, isLst_none, isLst_bool, isLst_int, isLst_str, isLst_list, isLst_tup, isLst_dict]
    exact step_flat (by decide +kernel) (dW (by decide +kernel) ((dt_small (by omega)).le (Nat.le_refl _) (Nat.zero_le _)) (by decide))
  · simp only [dSeq, dIfS, dRet, dRetN, dSet, dPar, dPar3, dAsg, dFor, dDrop, dNext, dBrk, dCnt, dAug, dApp, dExt, dPop, dPopAt, dSetI, dFrz, xD, xF, dC, dV, dO, dOp, dOpO, dB, dCh, dAnd, dOr, dNot, dAndV, dOrV, dNotV, dNotT, dIf, dNil, dCons, gNilD, gConsD, gLm, dTup, dLst, dLs, dSl, dSlO, dNo, dSo, d1, dIsi, dList, dCall, dCallK, putS, dGcd, dNeg, dLc, dYes, wTupI, wLstI, wRng1, wRng2, wEnT, wEnL, wName, wNil, wCons, wTup, subD, mulD, divD, modD, powD, ltD, leD, gtD, geD, reprD, wipeD, uns, List.cons_append, List.nil_append, List.length_cons, List.length_nil, List.replicate, List.getElem?_cons_zero, List.getElem?_cons_succ, List.set_cons_zero, List.set_cons_succ, List.map_cons, List.map_nil, List.getD_cons_zero, List.getD_cons_succ, ↓reduceIte, Bool.not_true, Bool.not_false, Bool.false_eq_true, sof_fn1, sof_fn2, sof_fn1p, sof_fn2p, eqv_int, eqv_str, plain_int, plain_bool, plain_none, true_and, and_true, sizeLine_eq, Nat.reduceAdd, Nat.reduceLeDiff, Nat.zero_add, addD_int, addD_str, addD_tup, addD_list, intF_int, intD_int, eqD_int, eqD_str, neD_int, neD_str, inD_list, inD_tup, isND_none, ixD_t0, ixD_t1, ixD_t2, ixD_t3, ixD_l0, lenD_tup, lenD_list, lenD_str, absD_int, toIntD_int, toIntD_bool, toStrD_int, tupleD_list, tupleD_tup, cutSq_tup, cutSq_list, cutSq_str, isInt_none, isInt_bool, isInt_int, isInt_str, isInt_list, isInt_tup, isInt_dict, isBool_none, isBool_bool, isBool_int, isBool_str, isBool_list, isBool_tup, isBool_dict, isStr_none, isStr_bool, isStr_int, isStr_str, isStr_list, isStr_tup, isStr_dict, isTup_none, isTup_bool, isTup_int, isTup_str, isTup_list, isTup_tup, isTup_dict, isLst_none, isLst_bool, isLst_int, isLst_str, isLst_list, isLst_tup, isLst_dict]
    simp (config := { decide := true }) only [↓reduceIte, decide_false, Bool.false_eq_true]
    refine ⟨_, ⟨rfl, rfl⟩, ?_⟩
    intro d hd
    exact step_flat (by decide +kernel) (dW (by decide +kernel) hd (by decide))
  · simp only [dSeq, dIfS, dRet, dRetN, dSet, dPar, dPar3, dAsg, dFor, dDrop, dNext, dBrk, dCnt, dAug, dApp, dExt, dPop, dPopAt, dSetI, dFrz, xD, xF, dC, dV, dO, dOp, dOpO, dB, dCh, dAnd, dOr, dNot, dAndV, dOrV, dNotV, dNotT, dIf, dNil, dCons, gNilD, gConsD, gLm, dTup, dLst, dLs, dSl, dSlO, dNo, dSo, d1, dIsi, dList, dCall, dCallK, putS, dGcd, dNeg, dLc, dYes, wTupI, wLstI, wRng1, wRng2, wEnT, wEnL, wName, wNil, wCons, wTup, subD, mulD, divD, modD, powD, ltD, leD, gtD, geD, reprD, wipeD, uns, List.cons_append, List.nil_append, List.length_cons, List.length_nil, List.replicate, List.getElem?_cons_zero, List.getElem?_cons_succ, List.set_cons_zero, List.set_cons_succ, List.map_cons, List.map_nil, List.getD_cons_zero, List.getD_cons_succ, ↓reduceIte, Bool.not_true, Bool.not_false, Bool.false_eq_true, sof_fn1, sof_fn2, sof_fn1p, sof_fn2p, eqv_int, eqv_str, plain_int, plain_bool, plain_none, true_and, and_true, sizeLine_eq, Nat.reduceAdd, Nat.reduceLeDiff, Nat.zero_add, addD_int, addD_str, addD_tup, addD_list, intF_int, intD_int, eqD_int, eqD_str, neD_int, neD_str, inD_list, inD_tup, isND_none, ixD_t0, ixD_t1, ixD_t2, ixD_t3, ixD_l0, lenD_tup, lenD_list, lenD_str, absD_int, toIntD_int, toIntD_bool, toStrD_int, tupleD_list, tupleD_tup, cutSq_tup, cutSq_list, cutSq_str, isInt_none, isInt_bool, isInt_int, isInt_str, isInt_list, isInt_tup, isInt_dict, isBool_none, isBool_bool, isBool_int, isBool_str, isBool_list, isBool_tup, isBool_dict, isStr_none, isStr_bool, isStr_int, isStr_str, isStr_list, isStr_tup, isStr_dict, isTup_none, isTup_bool, isTup_int, isTup_str, isTup_list, isTup_tup, isTup_dict, isLst_none, isLst_bool, isLst_int, isLst_str, isLst_list, isLst_tup, isLst_dict]
    simp (config := { decide := true }) only [↓reduceIte, decide_false, Bool.false_eq_true]
    refine ⟨trivial, trivial, ?_⟩
    match n, hn with
    | 0, _ =>
      rw [if_neg (by decide)]
      exact less
    | m + 1, _ =>
      have em : m = 0 := by omega
      subst em
      rw [if_pos (by decide)]
      refine ⟨_, ⟨_, _, rfl, k1, k3, by decide, by decide, rfl⟩, ?_⟩
      intro t ht
      refine ⟨_, ⟨k, 2, rfl, k1, k3, by decide, by decide, rfl⟩, ?_⟩
      rintro _ ⟨ys, rfl, ly, hy⟩
      refine ⟨_, ⟨k, 1, rfl, k1, k3, by decide, by decide, rfl⟩, ?_⟩
      rintro _ ⟨ns, rfl, ln, hn⟩
      refine .inr ⟨_, t, ys, ns, rfl, in_if, hy, hn, ?_⟩
      have dy := dts_all fun x hx => (hy x hx).dt0
      have dn := dts_all fun x hx => (hn x hx).dt0
      exact (Dts.tuple (Dts.cons (dtW (by decide +kernel)) (Dts.cons ht (Dts.cons (Dts.tuple dy) (Dts.cons (Dts.tuple dn) Dts.nil))))).le (by omega) (by decide)
theorem Txt.some_ok (T : Txt K mg A D) {k n : Nat} (hk : 4 ≤ k) (ih_step : FnOk P w K mg base CX0 k (A 10) (D 10) ["jar", "k", "depth", "words"] (spD K (stepR n))) :
    FnOk P w K mg base CX0 (k + 1) (A 11) (D 11) ["jar", "k", "depth", "words", "most"] (spD K (someR n)) := by
  refine okD T.F_some_steps sc_some_steps (by rintro ss P ⟨k, m, rfl, _⟩; rfl) (fun cdv Ar outer s H E hr => ⟨_, (dss_one (ds_ret (de_cT c_tuple (by rfl) T.z_tuple (by decide +kernel) (DE.r (DF.de (df_lc (own := [("turn", 5)]) rfl sc_some_steps.nd (di_rng1 rfl T.range (de_call T.ok_draw (hr.mono (by omega)) (by rfl) T.g_draw T.k_draw T.b_draw pass0 (dg_lm (pv 0) (dg_cons (de_op o_add (de_v (pv 4)) (DE.r de_int)) dg_nil)))) (blkOk_by (N := ["jar", "k", "depth", "words", "most", "turn"]) (sc := defScope s_some_steps) (by decide +kernel)) (fun _ _ _ _ _ => (dg_name (i := 5) sc_some_steps.nd rfl (Or.inl rfl))) (fun _ _ _ _ _ => dts_nil) (fun _ _ _ _ _ => (de_call ih_step hr (by rfl) T.g_step T.k_step T.b_step pass0 (dg_lm (pv 0) (dg_cons (de_v (pv 1)) (dg_cons (de_v (pv 2)) (dg_cons (de_v (pv 3)) dg_nil)))))))))))), ?_⟩)
  rintro ss P ⟨k, m, rfl, k1, k3, m1, m2, rfl⟩
  simp only [dSeq, dIfS, dRet, dRetN, dSet, dPar, dPar3, dAsg, dFor, dDrop, dNext, dBrk, dCnt, dAug, dApp, dExt, dPop, dPopAt, dSetI, dFrz, xD, xF, dC, dV, dO, dOp, dOpO, dB, dCh, dAnd, dOr, dNot, dAndV, dOrV, dNotV, dNotT, dIf, dNil, dCons, gNilD, gConsD, gLm, dTup, dLst, dLs, dSl, dSlO, dNo, dSo, d1, dIsi, dList, dCall, dCallK, putS, dGcd, dNeg, dLc, dYes, wTupI, wLstI, wRng1, wRng2, wEnT, wEnL, wName, wNil, wCons, wTup, subD, mulD, divD, modD, powD, ltD, leD, gtD, geD, reprD, wipeD, uns, List.cons_append, List.nil_append, List.length_cons, List.length_nil, List.replicate, List.getElem?_cons_zero, List.getElem?_cons_succ, List.set_cons_zero, List.set_cons_succ, List.map_cons, List.map_nil, List.getD_cons_zero, List.getD_cons_succ, ↓reduceIte, Bool.not_true, Bool.not_false, Bool.false_eq_true, sof_fn1, sof_fn2, sof_fn1p, sof_fn2p, eqv_int, eqv_str, plain_int, plain_bool, plain_none, true_and, and_true, sizeLine_eq, Nat.reduceAdd, Nat.reduceLeDiff, Nat.zero_add, addD_int, addD_str, addD_tup, addD_list, intF_int, intD_int, eqD_int, eqD_str, neD_int, neD_str, inD_list, inD_tup, isND_none, ixD_t0, ixD_t1, ixD_t2, ixD_t3, ixD_l0, lenD_tup, lenD_list, lenD_str, absD_int, toIntD_int, toIntD_bool, toStrD_int, tupleD_list, tupleD_tup, cutSq_tup, cutSq_list, cutSq_str, isInt_none, isInt_bool, isInt_int, isInt_str, isInt_list, isInt_tup, isInt_dict, isBool_none, isBool_bool, isBool_int, isBool_str, isBool_list, isBool_tup, isBool_dict, isStr_none, isStr_bool, isStr_int, isStr_str, isStr_list, isStr_tup, isStr_dict, isTup_none, isTup_bool, isTup_int, isTup_str, isTup_list, isTup_tup, isTup_dict, isLst_none, isLst_bool, isLst_int, isLst_str, isLst_list, isLst_tup, isLst_dict]
  refine ⟨_, ⟨_, rfl, by omega, rfl⟩, ?_⟩
  rintro _ ⟨j, rfl, j0, j1⟩
  simp only [dSeq, dIfS, dRet, dRetN, dSet, dPar, dPar3, dAsg, dFor, dDrop, dNext, dBrk, dCnt, dAug, dApp, dExt, dPop, dPopAt, dSetI, dFrz, xD, xF, dC, dV, dO, dOp, dOpO, dB, dCh, dAnd, dOr, dNot, dAndV, dOrV, dNotV, dNotT, dIf, dNil, dCons, gNilD, gConsD, gLm, dTup, dLst, dLs, dSl, dSlO, dNo, dSo, d1, dIsi, dList, dCall, dCallK, putS, dGcd, dNeg, dLc, dYes, wTupI, wLstI, wRng1, wRng2, wEnT, wEnL, wName, wNil, wCons, wTup, subD, mulD, divD, modD, powD, ltD, leD, gtD, geD, reprD, wipeD, uns, List.cons_append, List.nil_append, List.length_cons, List.length_nil, List.replicate, List.getElem?_cons_zero, List.getElem?_cons_succ, List.set_cons_zero, List.set_cons_succ, List.map_cons, List.map_nil, List.getD_cons_zero, List.getD_cons_succ, ↓reduceIte, Bool.not_true, Bool.not_false, Bool.false_eq_true, sof_fn1, sof_fn2, sof_fn1p, sof_fn2p, eqv_int, eqv_str, plain_int, plain_bool, plain_none, true_and, and_true, sizeLine_eq, Nat.reduceAdd, Nat.reduceLeDiff, Nat.zero_add, addD_int, addD_str, addD_tup, addD_list, intF_int, intD_int, eqD_int, eqD_str, neD_int, neD_str, inD_list, inD_tup, isND_none, ixD_t0, ixD_t1, ixD_t2, ixD_t3, ixD_l0, lenD_tup, lenD_list, lenD_str, absD_int, toIntD_int, toIntD_bool, toStrD_int, tupleD_list, tupleD_tup, cutSq_tup, cutSq_list, cutSq_str, isInt_none, isInt_bool, isInt_int, isInt_str, isInt_list, isInt_tup, isInt_dict, isBool_none, isBool_bool, isBool_int, isBool_str, isBool_list, isBool_tup, isBool_dict, isStr_none, isStr_bool, isStr_int, isStr_str, isStr_list, isStr_tup, isStr_dict, isTup_none, isTup_bool, isTup_int, isTup_str, isTup_list, isTup_tup, isTup_dict, isLst_none, isLst_bool, isLst_int, isLst_str, isLst_list, isLst_tup, isLst_dict]
  refine ⟨by omega, by omega, ?_⟩
  refine lcD_ind (fun r acc => ((r.length + acc.length : Nat) : Int) ≤ m ∧ ∀ x ∈ acc, StepOk n x) ?_ ?_ _ [] ⟨by rw [rngD_len]; simp; omega, fun x hx => nomatch hx⟩
  · rintro acc ⟨h1, h2⟩
    exact ⟨acc, rfl, by simpa using h1, h2⟩
  · rintro x xs acc N ⟨h1, h2⟩ hN
    simp only [dSeq, dIfS, dRet, dRetN, dSet, dPar, dPar3, dAsg, dFor, dDrop, dNext, dBrk, dCnt, dAug, dApp, dExt, dPop, dPopAt, dSetI, dFrz, xD, xF, dC, dV, dO, dOp, dOpO, dB, dCh, dAnd, dOr, dNot, dAndV, dOrV, dNotV, dNotT, dIf, dNil, dCons, gNilD, gConsD, gLm, dTup, dLst, dLs, dSl, dSlO, dNo, dSo, d1, dIsi, dList, dCall, dCallK, putS, dGcd, dNeg, dLc, dYes, wTupI, wLstI, wRng1, wRng2, wEnT, wEnL, wName, wNil, wCons, wTup, subD, mulD, divD, modD, powD, ltD, leD, gtD, geD, reprD, wipeD, uns, List.cons_append, List.nil_append, List.length_cons, List.length_nil, List.replicate, List.getElem?_cons_zero, List.getElem?_cons_succ, List.set_cons_zero, List.set_cons_succ, List.map_cons, List.map_nil, List.getD_cons_zero, List.getD_cons_succ, ↓reduceIte, Bool.not_true, Bool.not_false, Bool.false_eq_true, sof_fn1, sof_fn2, sof_fn1p, sof_fn2p, eqv_int, eqv_str, plain_int, plain_bool, plain_none, true_and, and_true, sizeLine_eq, Nat.reduceAdd, Nat.reduceLeDiff, Nat.zero_add, addD_int, addD_str, addD_tup, addD_list, intF_int, intD_int, eqD_int, eqD_str, neD_int, neD_str, inD_list, inD_tup, isND_none, ixD_t0, ixD_t1, ixD_t2, ixD_t3, ixD_l0, lenD_tup, lenD_list, lenD_str, absD_int, toIntD_int, toIntD_bool, toStrD_int, tupleD_list, tupleD_tup, cutSq_tup, cutSq_list, cutSq_str, isInt_none, isInt_bool, isInt_int, isInt_str, isInt_list, isInt_tup, isInt_dict, isBool_none, isBool_bool, isBool_int, isBool_str, isBool_list, isBool_tup, isBool_dict, isStr_none, isStr_bool, isStr_int, isStr_str, isStr_list, isStr_tup, isStr_dict, isTup_none, isTup_bool, isTup_int, isTup_str, isTup_list, isTup_tup, isTup_dict, isLst_none, isLst_bool, isLst_int, isLst_str, isLst_list, isLst_tup, isLst_dict]
    rw [List.length_cons] at h1
    refine ⟨_, ⟨k, rfl, k1, k3, rfl⟩, ?_⟩
    intro d hd
    refine ⟨by omega, hN _ ⟨by rw [List.length_append, List.length_singleton]; omega, fun y hy => ?_⟩⟩
    rcases List.mem_append.mp hy with hy | hy
    · exact h2 y hy
    · rw [List.mem_singleton.mp hy]
      exact hd
theorem Txt.ok_step (T : Txt K mg A D) : FnOk P w K mg base CX0 7 (A 10) (D 10) ["jar", "k", "depth", "words"] (spD K (stepR 1)) :=
  T.step_ok (n := 1) (by decide) (by decide) (T.some_ok (by decide) (T.step_ok (k := 4) (n := 0) (by decide) (by decide) okF))
/-! ### how many steps -/
def sizeR (n : Nat) : RelD := fun ss P => ∃ xs, ss = [.d (.tuple xs)] ∧ (∀ x ∈ xs, StepOk n x) ∧ P = fun d => ∃ i : Int, d = .int i
def sizePrev : Nat → RelD
  | 0 => fun _ _ => False
  | n + 1 => sizeR n
theorem Txt.size_ok (T : Txt K mg A D) {k n : Nat} (ih_size : FnOk P w K mg base CX0 k (A 14) (D 14) ["steps"] (spD K (sizePrev n))) : FnOk P w K mg base CX0 (k + 1) (A 14) (D 14) ["steps"] (spD K (sizeR n)) := by
  refine okD T.F_size sc_size (by rintro ss P ⟨xs, rfl, _⟩; rfl) (fun cdv Ar outer s H E hr => ⟨_, (dss_cons (ds_set (i := 1) sc_size.nd rfl (Or.inl rfl) (DE.x de_int))
    (dss_cons (ds_for PassesOwn.never rfl (di_tup (de_v (pv 0))) (dg_name (i := 2) sc_size.nd rfl (Or.inl rfl)) (dss_cons (ds_set (i := 1) sc_size.nd rfl (Or.inl rfl) (DE.x (de_op o_add (de_v (pv 1)) (DE.r de_int))))
    (dss_one (ds_if (dt_cmp o_in (de_ix (de_v (pv 2)) de_int (fun _ _ => rfl)) (DE.r (de_tup (da_cons de_str (da_cons de_str da_nil)))) (by rfl)) (dss_one (ds_set (i := 1) sc_size.nd rfl (Or.inl rfl) (DE.x (de_op o_add (de_op o_add (de_v (pv 1)) (DE.r (de_call ih_size hr (by rfl) T.g_size T.k_size T.b_size pass0 (dg_cons (de_ix (de_v (pv 2)) de_int (fun _ _ => rfl)) dg_nil)))) (DE.r (de_call ih_size hr (by rfl) T.g_size T.k_size T.b_size pass0 (dg_cons (de_ix (de_v (pv 2)) de_int (fun _ _ => rfl)) dg_nil))))))) dss_nil))))
    (dss_one (ds_ret (de_v (pv 1)))))), ?_⟩)
  rintro ss P ⟨xs, rfl, hx, rfl⟩
  simp only [dSeq, dIfS, dRet, dRetN, dSet, dPar, dPar3, dAsg, dFor, dDrop, dNext, dBrk, dCnt, dAug, dApp, dExt, dPop, dPopAt, dSetI, dFrz, xD, xF, dC, dV, dO, dOp, dOpO, dB, dCh, dAnd, dOr, dNot, dAndV, dOrV, dNotV, dNotT, dIf, dNil, dCons, gNilD, gConsD, gLm, dTup, dLst, dLs, dSl, dSlO, dNo, dSo, d1, dIsi, dList, dCall, dCallK, putS, dGcd, dNeg, dLc, dYes, wTupI, wLstI, wRng1, wRng2, wEnT, wEnL, wName, wNil, wCons, wTup, subD, mulD, divD, modD, powD, ltD, leD, gtD, geD, reprD, wipeD, uns, List.cons_append, List.nil_append, List.length_cons, List.length_nil, List.replicate, List.getElem?_cons_zero, List.getElem?_cons_succ, List.set_cons_zero, List.set_cons_succ, List.map_cons, List.map_nil, List.getD_cons_zero, List.getD_cons_succ, ↓reduceIte, Bool.not_true, Bool.not_false, Bool.false_eq_true, sof_fn1, sof_fn2, sof_fn1p, sof_fn2p, eqv_int, eqv_str, plain_int, plain_bool, plain_none, true_and, and_true, sizeLine_eq, Nat.reduceAdd, Nat.reduceLeDiff, Nat.zero_add, addD_int, addD_str, addD_tup, addD_list, intF_int, intD_int, eqD_int, eqD_str, neD_int, neD_str, inD_list, inD_tup, isND_none, ixD_t0, ixD_t1, ixD_t2, ixD_t3, ixD_l0, lenD_tup, lenD_list, lenD_str, absD_int, toIntD_int, toIntD_bool, toStrD_int, tupleD_list, tupleD_tup, cutSq_tup, cutSq_list, cutSq_str, isInt_none, isInt_bool, isInt_int, isInt_str, isInt_list, isInt_tup, isInt_dict, isBool_none, isBool_bool, isBool_int, isBool_str, isBool_list, isBool_tup, isBool_dict, isStr_none, isStr_bool, isStr_int, isStr_str, isStr_list, isStr_tup, isStr_dict, isTup_none, isTup_bool, isTup_int, isTup_str, isTup_list, isTup_tup, isTup_dict, isLst_none, isLst_bool, isLst_int, isLst_str, isLst_list, isLst_tup, isLst_dict]
  refine forD_ind (fun ys ρ => (∀ y ∈ ys, StepOk n y) ∧ ∃ (i : Int) (b : SV), ρ = [.d (.tuple xs), .d (.int i), b]) ?_ ?_ xs _ ⟨hx, 0, _, rfl⟩
  · rintro ρ ⟨_, i, b, rfl⟩
    simp only [dSeq, dIfS, dRet, dRetN, dSet, dPar, dPar3, dAsg, dFor, dDrop, dNext, dBrk, dCnt, dAug, dApp, dExt, dPop, dPopAt, dSetI, dFrz, xD, xF, dC, dV, dO, dOp, dOpO, dB, dCh, dAnd, dOr, dNot, dAndV, dOrV, dNotV, dNotT, dIf, dNil, dCons, gNilD, gConsD, gLm, dTup, dLst, dLs, dSl, dSlO, dNo, dSo, d1, dIsi, dList, dCall, dCallK, putS, dGcd, dNeg, dLc, dYes, wTupI, wLstI, wRng1, wRng2, wEnT, wEnL, wName, wNil, wCons, wTup, subD, mulD, divD, modD, powD, ltD, leD, gtD, geD, reprD, wipeD, uns, List.cons_append, List.nil_append, List.length_cons, List.length_nil, List.replicate, List.getElem?_cons_zero, List.getElem?_cons_succ, List.set_cons_zero, List.set_cons_succ, List.map_cons, List.map_nil, List.getD_cons_zero, List.getD_cons_succ, ↓reduceIte, Bool.not_true, Bool.not_false, Bool.false_eq_true, sof_fn1, sof_fn2, sof_fn1p, sof_fn2p, eqv_int, eqv_str, plain_int, plain_bool, plain_none, true_and, and_true, sizeLine_eq, Nat.reduceAdd, Nat.reduceLeDiff, Nat.zero_add, addD_int, addD_str, addD_tup, addD_list, intF_int, intD_int, eqD_int, eqD_str, neD_int, neD_str, inD_list, inD_tup, isND_none, ixD_t0, ixD_t1, ixD_t2, ixD_t3, ixD_l0, lenD_tup, lenD_list, lenD_str, absD_int, toIntD_int, toIntD_bool, toStrD_int, tupleD_list, tupleD_tup, cutSq_tup, cutSq_list, cutSq_str, isInt_none, isInt_bool, isInt_int, isInt_str, isInt_list, isInt_tup, isInt_dict, isBool_none, isBool_bool, isBool_int, isBool_str, isBool_list, isBool_tup, isBool_dict, isStr_none, isStr_bool, isStr_int, isStr_str, isStr_list, isStr_tup, isStr_dict, isTup_none, isTup_bool, isTup_int, isTup_str, isTup_list, isTup_tup, isTup_dict, isLst_none, isLst_bool, isLst_int, isLst_str, isLst_list, isLst_tup, isLst_dict]
    exact ⟨i, rfl⟩
  · rintro y ys ρ N ⟨hy, i, b, rfl⟩ hN
    have h0 := hy y (List.mem_cons_self ..)
    have fin : ∀ (i : Int) (b : SV), N [.d (.tuple xs), .d (.int i), b] := fun i b => hN _ ⟨fun z hz => hy z (List.mem_cons_of_mem _ hz), i, b, rfl⟩
    have flat : ∀ (v : Str), flatD (.str v) = true ∧ [PyData.str "if", PyData.str "either"].all flatD = true := fun v => ⟨rfl, rfl⟩
    have go : (∃ v r, y = .tuple (.str v :: r) ∧ isIf v = false) ∨ ∃ m v t p q, n = m + 1 ∧ y = .tuple [.str v, t, .tuple p, .tuple q] ∧ isIf v = true ∧ (∀ z ∈ p, StepOk m z) ∧ ∀ z ∈ q, StepOk m z := by
      cases n with
      | zero =>
        obtain ⟨v, r, e, h, _⟩ := h0
        exact .inl ⟨v, r, e, h⟩
      | succ m =>
        rcases h0 with ⟨v, r, e, h, _⟩ | ⟨v, t, p, q, e, h, hp, hq, _⟩
        · exact .inl ⟨v, r, e, h⟩
        · exact .inr ⟨m, v, t, p, q, rfl, e, h, hp, hq⟩
    rcases go with ⟨v, r, rfl, h⟩ | ⟨m, v, t, p, q, rfl, rfl, h, hp, hq⟩
    · simp only [dSeq, dIfS, dRet, dRetN, dSet, dPar, dPar3, dAsg, dFor, dDrop, dNext, dBrk, dCnt, dAug, dApp, dExt, dPop, dPopAt, dSetI, dFrz, xD, xF, dC, dV, dO, dOp, dOpO, dB, dCh, dAnd, dOr, dNot, dAndV, dOrV, dNotV, dNotT, dIf, dNil, dCons, gNilD, gConsD, gLm, dTup, dLst, dLs, dSl, dSlO, dNo, dSo, d1, dIsi, dList, dCall, dCallK, putS, dGcd, dNeg, dLc, dYes, wTupI, wLstI, wRng1, wRng2, wEnT, wEnL, wName, wNil, wCons, wTup, subD, mulD, divD, modD, powD, ltD, leD, gtD, geD, reprD, wipeD, uns, List.cons_append, List.nil_append, List.length_cons, List.length_nil, List.replicate, List.getElem?_cons_zero, List.getElem?_cons_succ, List.set_cons_zero, List.set_cons_succ, List.map_cons, List.map_nil, List.getD_cons_zero, List.getD_cons_succ, ↓reduceIte, Bool.not_true, Bool.not_false, Bool.false_eq_true, sof_fn1, sof_fn2, sof_fn1p, sof_fn2p, eqv_int, eqv_str, plain_int, plain_bool, plain_none, true_and, and_true, sizeLine_eq, Nat.reduceAdd, Nat.reduceLeDiff, Nat.zero_add, addD_int, addD_str, addD_tup, addD_list, intF_int, intD_int, eqD_int, eqD_str, neD_int, neD_str, inD_list, inD_tup, isND_none, ixD_t0, ixD_t1, ixD_t2, ixD_t3, ixD_l0, lenD_tup, lenD_list, lenD_str, absD_int, toIntD_int, toIntD_bool, toStrD_int, tupleD_list, tupleD_tup, cutSq_tup, cutSq_list, cutSq_str, isInt_none, isInt_bool, isInt_int, isInt_str, isInt_list, isInt_tup, isInt_dict, isBool_none, isBool_bool, isBool_int, isBool_str, isBool_list, isBool_tup, isBool_dict, isStr_none, isStr_bool, isStr_int, isStr_str, isStr_list, isStr_tup, isStr_dict, isTup_none, isTup_bool, isTup_int, isTup_str, isTup_list, isTup_tup, isTup_dict, isLst_none, isLst_bool, isLst_int, isLst_str, isLst_list, isLst_tup, isLst_dict]
      refine ⟨rfl, rfl, ?_⟩
      rw [if_neg (by show ¬ isIf v = true; rw [h]; decide)]
      exact fin _ _
    · simp only [dSeq, dIfS, dRet, dRetN, dSet, dPar, dPar3, dAsg, dFor, dDrop, dNext, dBrk, dCnt, dAug, dApp, dExt, dPop, dPopAt, dSetI, dFrz, xD, xF, dC, dV, dO, dOp, dOpO, dB, dCh, dAnd, dOr, dNot, dAndV, dOrV, dNotV, dNotT, dIf, dNil, dCons, gNilD, gConsD, gLm, dTup, dLst, dLs, dSl, dSlO, dNo, dSo, d1, dIsi, dList, dCall, dCallK, putS, dGcd, dNeg, dLc, dYes, wTupI, wLstI, wRng1, wRng2, wEnT, wEnL, wName, wNil, wCons, wTup, subD, mulD, divD, modD, powD, ltD, leD, gtD, geD, reprD, wipeD, uns, List.cons_append, List.nil_append, List.length_cons, List.length_nil, List.replicate, List.getElem?_cons_zero, List.getElem?_cons_succ, List.set_cons_zero, List.set_cons_succ, List.map_cons, List.map_nil, List.getD_cons_zero, List.getD_cons_succ, ↓reduceIte, Bool.not_true, Bool.not_false, Bool.false_eq_true, sof_fn1, sof_fn2, sof_fn1p, sof_fn2p, eqv_int, eqv_str, plain_int, plain_bool, plain_none, true_and, and_true, sizeLine_eq, Nat.reduceAdd, Nat.reduceLeDiff, Nat.zero_add, addD_int, addD_str, addD_tup, addD_list, intF_int, intD_int, eqD_int, eqD_str, neD_int, neD_str, inD_list, inD_tup, isND_none, ixD_t0, ixD_t1, ixD_t2, ixD_t3, ixD_l0, lenD_tup, lenD_list, lenD_str, absD_int, toIntD_int, toIntD_bool, toStrD_int, tupleD_list, tupleD_tup, cutSq_tup, cutSq_list, cutSq_str, isInt_none, isInt_bool, isInt_int, isInt_str, isInt_list, isInt_tup, isInt_dict, isBool_none, isBool_bool, isBool_int, isBool_str, isBool_list, isBool_tup, isBool_dict, isStr_none, isStr_bool, isStr_int, isStr_str, isStr_list, isStr_tup, isStr_dict, isTup_none, isTup_bool, isTup_int, isTup_str, isTup_list, isTup_tup, isTup_dict, isLst_none, isLst_bool, isLst_int, isLst_str, isLst_list, isLst_tup, isLst_dict]
      refine ⟨rfl, rfl, ?_⟩
      rw [if_pos (by show isIf v = true; exact h)]
      refine ⟨_, ⟨p, rfl, hp, rfl⟩, ?_⟩
      rintro _ ⟨a, rfl⟩
      simp only [dSeq, dIfS, dRet, dRetN, dSet, dPar, dPar3, dAsg, dFor, dDrop, dNext, dBrk, dCnt, dAug, dApp, dExt, dPop, dPopAt, dSetI, dFrz, xD, xF, dC, dV, dO, dOp, dOpO, dB, dCh, dAnd, dOr, dNot, dAndV, dOrV, dNotV, dNotT, dIf, dNil, dCons, gNilD, gConsD, gLm, dTup, dLst, dLs, dSl, dSlO, dNo, dSo, d1, dIsi, dList, dCall, dCallK, putS, dGcd, dNeg, dLc, dYes, wTupI, wLstI, wRng1, wRng2, wEnT, wEnL, wName, wNil, wCons, wTup, subD, mulD, divD, modD, powD, ltD, leD, gtD, geD, reprD, wipeD, uns, List.cons_append, List.nil_append, List.length_cons, List.length_nil, List.replicate, List.getElem?_cons_zero, List.getElem?_cons_succ, List.set_cons_zero, List.set_cons_succ, List.map_cons, List.map_nil, List.getD_cons_zero, List.getD_cons_succ, ↓reduceIte, Bool.not_true, Bool.not_false, Bool.false_eq_true, sof_fn1, sof_fn2, sof_fn1p, sof_fn2p, eqv_int, eqv_str, plain_int, plain_bool, plain_none, true_and, and_true, sizeLine_eq, Nat.reduceAdd, Nat.reduceLeDiff, Nat.zero_add, addD_int, addD_str, addD_tup, addD_list, intF_int, intD_int, eqD_int, eqD_str, neD_int, neD_str, inD_list, inD_tup, isND_none, ixD_t0, ixD_t1, ixD_t2, ixD_t3, ixD_l0, lenD_tup, lenD_list, lenD_str, absD_int, toIntD_int, toIntD_bool, toStrD_int, tupleD_list, tupleD_tup, cutSq_tup, cutSq_list, cutSq_str, isInt_none, isInt_bool, isInt_int, isInt_str, isInt_list, isInt_tup, isInt_dict, isBool_none, isBool_bool, isBool_int, isBool_str, isBool_list, isBool_tup, isBool_dict, isStr_none, isStr_bool, isStr_int, isStr_str, isStr_list, isStr_tup, isStr_dict, isTup_none, isTup_bool, isTup_int, isTup_str, isTup_list, isTup_tup, isTup_dict, isLst_none, isLst_bool, isLst_int, isLst_str, isLst_list, isLst_tup, isLst_dict]
      refine ⟨_, ⟨q, rfl, hq, rfl⟩, ?_⟩
      rintro _ ⟨c, rfl⟩
      simp only [dSeq, dIfS, dRet, dRetN, dSet, dPar, dPar3, dAsg, dFor, dDrop, dNext, dBrk, dCnt, dAug, dApp, dExt, dPop, dPopAt, dSetI, dFrz, xD, xF, dC, dV, dO, dOp, dOpO, dB, dCh, dAnd, dOr, dNot, dAndV, dOrV, dNotV, dNotT, dIf, dNil, dCons, gNilD, gConsD, gLm, dTup, dLst, dLs, dSl, dSlO, dNo, dSo, d1, dIsi, dList, dCall, dCallK, putS, dGcd, dNeg, dLc, dYes, wTupI, wLstI, wRng1, wRng2, wEnT, wEnL, wName, wNil, wCons, wTup, subD, mulD, divD, modD, powD, ltD, leD, gtD, geD, reprD, wipeD, uns, List.cons_append, List.nil_append, List.length_cons, List.length_nil, List.replicate, List.getElem?_cons_zero, List.getElem?_cons_succ, List.set_cons_zero, List.set_cons_succ, List.map_cons, List.map_nil, List.getD_cons_zero, List.getD_cons_succ, ↓reduceIte, Bool.not_true, Bool.not_false, Bool.false_eq_true, sof_fn1, sof_fn2, sof_fn1p, sof_fn2p, eqv_int, eqv_str, plain_int, plain_bool, plain_none, true_and, and_true, sizeLine_eq, Nat.reduceAdd, Nat.reduceLeDiff, Nat.zero_add, addD_int, addD_str, addD_tup, addD_list, intF_int, intD_int, eqD_int, eqD_str, neD_int, neD_str, inD_list, inD_tup, isND_none, ixD_t0, ixD_t1, ixD_t2, ixD_t3, ixD_l0, lenD_tup, lenD_list, lenD_str, absD_int, toIntD_int, toIntD_bool, toStrD_int, tupleD_list, tupleD_tup, cutSq_tup, cutSq_list, cutSq_str, isInt_none, isInt_bool, isInt_int, isInt_str, isInt_list, isInt_tup, isInt_dict, isBool_none, isBool_bool, isBool_int, isBool_str, isBool_list, isBool_tup, isBool_dict, isStr_none, isStr_bool, isStr_int, isStr_str, isStr_list, isStr_tup, isStr_dict, isTup_none, isTup_bool, isTup_int, isTup_str, isTup_list, isTup_tup, isTup_dict, isLst_none, isLst_bool, isLst_int, isLst_str, isLst_list, isLst_tup, isLst_dict]
      exact fin _ _
theorem Txt.ok_size (T : Txt K mg A D) : FnOk P w K mg base CX0 2 (A 14) (D 14) ["steps"] (spD K (sizeR 1)) := T.size_ok (n := 1) (T.size_ok (n := 0) okF)
/-! ### the loop -/
def loopR : RelD := fun ss P => ∃ k : Int, ss = [.lm, .d (.int k), .d (.list wordsD), .d (.int 2)] ∧ 1 ≤ k ∧ k ≤ 3 ∧ P = fun d => LoopN k.toNat d ∧ Dt 900 12 d
theorem cut3 (a b c : PyData) {k : Int} (k1 : 1 ≤ k) (k3 : k ≤ 3) : cutD [a, b, c] none (some k) = [a, b, c].take k.toNat := by
  have : k = 1 ∨ k = 2 ∨ k = 3 := by omega
  rcases this with rfl | rfl | rfl <;> rfl
theorem dts_take {n m : Nat} {ds : List PyData} (h : ∀ d ∈ ds, Dt n m d) (k : Nat) : Dt (ds.length * n + 1) (m + 1) (.tuple (ds.take k)) := by
  have d := dts_all (ds := ds.take k) fun x hx => h x (List.mem_of_mem_take hx)
  refine (Dts.tuple d).le ?_ (Nat.le_refl _)
  have : (ds.take k).length * n ≤ ds.length * n := Nat.mul_le_mul_right _ (by rw [List.length_take]; omega)
  omega
theorem Txt.ok_loop (T : Txt K mg A D) : FnOk P w K mg base CX0 9 (A 12) (D 12) ["jar", "k", "words", "many"] (spD K loopR) := by
  refine okD T.F_loop sc_loop (by rintro ss P ⟨k, rfl, _⟩; rfl) (fun cdv Ar outer s H E hr => ⟨_, (dss_cons (ds_set (i := 4) sc_loop.nd rfl (Or.inl rfl) (DE.x (de_if (dt_cmp (o_eq hr.units) (de_call T.ok_draw (hr.mono (by decide)) (by rfl) T.g_draw T.k_draw T.b_draw pass0 (dg_lm (pv 0) (dg_cons de_int dg_nil))) (DE.r de_int) (nomark _)) (de_sl (de_tup (da_cons de_str (da_cons de_str (da_cons de_str da_nil)))) do_none (do_some (de_v (pv 1)))) (de_sl (de_tup (da_cons de_str (da_cons de_str (da_cons de_str da_nil)))) do_none (do_some (de_v (pv 1)))))))
    (dss_cons (ds_set (i := 5) sc_loop.nd rfl (Or.inl rfl) (DE.x (de_cT c_tuple (by rfl) T.z_tuple (by decide +kernel) (DE.r (DF.de (df_lc (own := [("turn", 6)]) rfl sc_loop.nd (di_rng1 rfl T.range (de_op o_add de_int (DE.r (de_call T.ok_draw (hr.mono (by decide)) (by rfl) T.g_draw T.k_draw T.b_draw pass0 (dg_lm (pv 0) (dg_cons (de_v (pv 3)) dg_nil)))))) (blkOk_by (N := ["jar", "k", "words", "many", "names", "steps", "turn"]) (sc := defScope s_loop) (by decide +kernel)) (fun _ _ _ _ _ => (dg_name (i := 6) sc_loop.nd rfl (Or.inl rfl))) (fun _ _ _ _ _ => dts_nil) (fun _ _ _ _ _ => (de_call T.ok_step (hr.mono (by decide)) (by rfl) T.g_step T.k_step T.b_step pass0 (dg_lm (pv 0) (dg_cons (de_v (pv 1)) (dg_cons de_int (dg_cons (de_v (pv 2)) dg_nil))))))))))))
    (dss_one (ds_ret (de_tup (da_cons (de_v (pv 4)) (da_cons (de_call T.ok_test (hr.mono (by decide)) (by rfl) T.g_test T.k_test T.b_test pass0 (dg_lm (pv 0) (dg_cons (de_v (pv 1)) (dg_cons de_int dg_nil)))) (da_cons (de_if (dt_cmp o_lt (de_call T.ok_size (hr.mono (by decide)) (by rfl) T.g_size T.k_size T.b_size pass0 (dg_cons (de_v (pv 5)) dg_nil)) (DE.r de_int) (nomark _)) (de_v (pv 5)) (de_sl (de_v (pv 5)) do_none (do_some de_int))) da_nil)))))))), ?_⟩)
  rintro ss P ⟨k, rfl, k1, k3, rfl⟩
  simp only [dSeq, dIfS, dRet, dRetN, dSet, dPar, dPar3, dAsg, dFor, dDrop, dNext, dBrk, dCnt, dAug, dApp, dExt, dPop, dPopAt, dSetI, dFrz, xD, xF, dC, dV, dO, dOp, dOpO, dB, dCh, dAnd, dOr, dNot, dAndV, dOrV, dNotV, dNotT, dIf, dNil, dCons, gNilD, gConsD, gLm, dTup, dLst, dLs, dSl, dSlO, dNo, dSo, d1, dIsi, dList, dCall, dCallK, putS, dGcd, dNeg, dLc, dYes, wTupI, wLstI, wRng1, wRng2, wEnT, wEnL, wName, wNil, wCons, wTup, subD, mulD, divD, modD, powD, ltD, leD, gtD, geD, reprD, wipeD, uns, List.cons_append, List.nil_append, List.length_cons, List.length_nil, List.replicate, List.getElem?_cons_zero, List.getElem?_cons_succ, List.set_cons_zero, List.set_cons_succ, List.map_cons, List.map_nil, List.getD_cons_zero, List.getD_cons_succ, ↓reduceIte, Bool.not_true, Bool.not_false, Bool.false_eq_true, sof_fn1, sof_fn2, sof_fn1p, sof_fn2p, eqv_int, eqv_str, plain_int, plain_bool, plain_none, true_and, and_true, sizeLine_eq, Nat.reduceAdd, Nat.reduceLeDiff, Nat.zero_add, addD_int, addD_str, addD_tup, addD_list, intF_int, intD_int, eqD_int, eqD_str, neD_int, neD_str, inD_list, inD_tup, isND_none, ixD_t0, ixD_t1, ixD_t2, ixD_t3, ixD_l0, lenD_tup, lenD_list, lenD_str, absD_int, toIntD_int, toIntD_bool, toStrD_int, tupleD_list, tupleD_tup, cutSq_tup, cutSq_list, cutSq_str, isInt_none, isInt_bool, isInt_int, isInt_str, isInt_list, isInt_tup, isInt_dict, isBool_none, isBool_bool, isBool_int, isBool_str, isBool_list, isBool_tup, isBool_dict, isStr_none, isStr_bool, isStr_int, isStr_str, isStr_list, isStr_tup, isStr_dict, isTup_none, isTup_bool, isTup_int, isTup_str, isTup_list, isTup_tup, isTup_dict, isLst_none, isLst_bool, isLst_int, isLst_str, isLst_list, isLst_tup, isLst_dict]
  refine ⟨_, ⟨_, rfl, by decide, rfl⟩, ?_⟩
  rintro _ ⟨j, rfl, j0, j1⟩
  simp only [dSeq, dIfS, dRet, dRetN, dSet, dPar, dPar3, dAsg, dFor, dDrop, dNext, dBrk, dCnt, dAug, dApp, dExt, dPop, dPopAt, dSetI, dFrz, xD, xF, dC, dV, dO, dOp, dOpO, dB, dCh, dAnd, dOr, dNot, dAndV, dOrV, dNotV, dNotT, dIf, dNil, dCons, gNilD, gConsD, gLm, dTup, dLst, dLs, dSl, dSlO, dNo, dSo, d1, dIsi, dList, dCall, dCallK, putS, dGcd, dNeg, dLc, dYes, wTupI, wLstI, wRng1, wRng2, wEnT, wEnL, wName, wNil, wCons, wTup, subD, mulD, divD, modD, powD, ltD, leD, gtD, geD, reprD, wipeD, uns, List.cons_append, List.nil_append, List.length_cons, List.length_nil, List.replicate, List.getElem?_cons_zero, List.getElem?_cons_succ, List.set_cons_zero, List.set_cons_succ, List.map_cons, List.map_nil, List.getD_cons_zero, List.getD_cons_succ, ↓reduceIte, Bool.not_true, Bool.not_false, Bool.false_eq_true, sof_fn1, sof_fn2, sof_fn1p, sof_fn2p, eqv_int, eqv_str, plain_int, plain_bool, plain_none, true_and, and_true, sizeLine_eq, Nat.reduceAdd, Nat.reduceLeDiff, Nat.zero_add, addD_int, addD_str, addD_tup, addD_list, intF_int, intD_int, eqD_int, eqD_str, neD_int, neD_str, inD_list, inD_tup, isND_none, ixD_t0, ixD_t1, ixD_t2, ixD_t3, ixD_l0, lenD_tup, lenD_list, lenD_str, absD_int, toIntD_int, toIntD_bool, toStrD_int, tupleD_list, tupleD_tup, cutSq_tup, cutSq_list, cutSq_str, isInt_none, isInt_bool, isInt_int, isInt_str, isInt_list, isInt_tup, isInt_dict, isBool_none, isBool_bool, isBool_int, isBool_str, isBool_list, isBool_tup, isBool_dict, isStr_none, isStr_bool, isStr_int, isStr_str, isStr_list, isStr_tup, isStr_dict, isTup_none, isTup_bool, isTup_int, isTup_str, isTup_list, isTup_tup, isTup_dict, isLst_none, isLst_bool, isLst_int, isLst_str, isLst_list, isLst_tup, isLst_dict]
  split
  all_goals
    rw [cut3 _ _ _ k1 k3]
    refine ⟨_, ⟨_, rfl, by decide, rfl⟩, ?_⟩
    rintro _ ⟨i, rfl, i0, i1⟩
    simp only [dSeq, dIfS, dRet, dRetN, dSet, dPar, dPar3, dAsg, dFor, dDrop, dNext, dBrk, dCnt, dAug, dApp, dExt, dPop, dPopAt, dSetI, dFrz, xD, xF, dC, dV, dO, dOp, dOpO, dB, dCh, dAnd, dOr, dNot, dAndV, dOrV, dNotV, dNotT, dIf, dNil, dCons, gNilD, gConsD, gLm, dTup, dLst, dLs, dSl, dSlO, dNo, dSo, d1, dIsi, dList, dCall, dCallK, putS, dGcd, dNeg, dLc, dYes, wTupI, wLstI, wRng1, wRng2, wEnT, wEnL, wName, wNil, wCons, wTup, subD, mulD, divD, modD, powD, ltD, leD, gtD, geD, reprD, wipeD, uns, List.cons_append, List.nil_append, List.length_cons, List.length_nil, List.replicate, List.getElem?_cons_zero, List.getElem?_cons_succ, List.set_cons_zero, List.set_cons_succ, List.map_cons, List.map_nil, List.getD_cons_zero, List.getD_cons_succ, ↓reduceIte, Bool.not_true, Bool.not_false, Bool.false_eq_true, sof_fn1, sof_fn2, sof_fn1p, sof_fn2p, eqv_int, eqv_str, plain_int, plain_bool, plain_none, true_and, and_true, sizeLine_eq, Nat.reduceAdd, Nat.reduceLeDiff, Nat.zero_add, addD_int, addD_str, addD_tup, addD_list, intF_int, intD_int, eqD_int, eqD_str, neD_int, neD_str, inD_list, inD_tup, isND_none, ixD_t0, ixD_t1, ixD_t2, ixD_t3, ixD_l0, lenD_tup, lenD_list, lenD_str, absD_int, toIntD_int, toIntD_bool, toStrD_int, tupleD_list, tupleD_tup, cutSq_tup, cutSq_list, cutSq_str, isInt_none, isInt_bool, isInt_int, isInt_str, isInt_list, isInt_tup, isInt_dict, isBool_none, isBool_bool, isBool_int, isBool_str, isBool_list, isBool_tup, isBool_dict, isStr_none, isStr_bool, isStr_int, isStr_str, isStr_list, isStr_tup, isStr_dict, isTup_none, isTup_bool, isTup_int, isTup_str, isTup_list, isTup_tup, isTup_dict, isLst_none, isLst_bool, isLst_int, isLst_str, isLst_list, isLst_tup, isLst_dict]
    refine ⟨by omega, by omega, ?_⟩
    refine lcD_ind (fun r acc => r.length + acc.length ≤ 2 ∧ 1 ≤ r.length + acc.length ∧ ∀ x ∈ acc, StepOk 1 x) ?_ ?_ _ [] ⟨by rw [rngD_len]; simp; omega, by rw [rngD_len]; simp; omega, fun x hx => nomatch hx⟩
    · rintro acc ⟨h1, h0, h2⟩
      refine ⟨_, ⟨k, 3, rfl, k1, k3, by decide, by decide, rfl⟩, ?_⟩
      intro t ht
      refine ⟨_, ⟨acc, rfl, h2, rfl⟩, ?_⟩
      rintro _ ⟨sz, rfl⟩
      simp only [dSeq, dIfS, dRet, dRetN, dSet, dPar, dPar3, dAsg, dFor, dDrop, dNext, dBrk, dCnt, dAug, dApp, dExt, dPop, dPopAt, dSetI, dFrz, xD, xF, dC, dV, dO, dOp, dOpO, dB, dCh, dAnd, dOr, dNot, dAndV, dOrV, dNotV, dNotT, dIf, dNil, dCons, gNilD, gConsD, gLm, dTup, dLst, dLs, dSl, dSlO, dNo, dSo, d1, dIsi, dList, dCall, dCallK, putS, dGcd, dNeg, dLc, dYes, wTupI, wLstI, wRng1, wRng2, wEnT, wEnL, wName, wNil, wCons, wTup, subD, mulD, divD, modD, powD, ltD, leD, gtD, geD, reprD, wipeD, uns, List.cons_append, List.nil_append, List.length_cons, List.length_nil, List.replicate, List.getElem?_cons_zero, List.getElem?_cons_succ, List.set_cons_zero, List.set_cons_succ, List.map_cons, List.map_nil, List.getD_cons_zero, List.getD_cons_succ, ↓reduceIte, Bool.not_true, Bool.not_false, Bool.false_eq_true, sof_fn1, sof_fn2, sof_fn1p, sof_fn2p, eqv_int, eqv_str, plain_int, plain_bool, plain_none, true_and, and_true, sizeLine_eq, Nat.reduceAdd, Nat.reduceLeDiff, Nat.zero_add, addD_int, addD_str, addD_tup, addD_list, intF_int, intD_int, eqD_int, eqD_str, neD_int, neD_str, inD_list, inD_tup, isND_none, ixD_t0, ixD_t1, ixD_t2, ixD_t3, ixD_l0, lenD_tup, lenD_list, lenD_str, absD_int, toIntD_int, toIntD_bool, toStrD_int, tupleD_list, tupleD_tup, cutSq_tup, cutSq_list, cutSq_str, isInt_none, isInt_bool, isInt_int, isInt_str, isInt_list, isInt_tup, isInt_dict, isBool_none, isBool_bool, isBool_int, isBool_str, isBool_list, isBool_tup, isBool_dict, isStr_none, isStr_bool, isStr_int, isStr_str, isStr_list, isStr_tup, isStr_dict, isTup_none, isTup_bool, isTup_int, isTup_str, isTup_list, isTup_tup, isTup_dict, isLst_none, isLst_bool, isLst_int, isLst_str, isLst_list, isLst_tup, isLst_dict]
      have names : ∀ a b c : PyData, Dt 10 0 a → Dt 10 0 b → Dt 10 0 c → Dt 31 1 (.tuple ([a, b, c].take k.toNat)) := fun a b c ha hb hc => (dts_take (ds := [a, b, c]) (fun d hd => by
        simp only [List.mem_cons, List.not_mem_nil, or_false] at hd
        rcases hd with rfl | rfl | rfl <;> assumption) _).le (Nat.le_refl 31) (by decide)
      have fin : ∀ a b c : PyData, Dt 10 0 a → Dt 10 0 b → Dt 10 0 c → ∀ acc' : List PyData, (∀ x ∈ acc', StepOk 1 x) → acc'.length ≤ 2 → LoopN k.toNat (.tuple [.tuple ([a, b, c].take k.toNat), t, .tuple acc']) ∧ Dt 900 12 (.tuple [.tuple ([a, b, c].take k.toNat), t, .tuple acc']) := fun a b c ha hb hc acc' h2 h1 => by
        refine ⟨⟨_, _, rfl, by rw [List.length_take]; simp only [List.length_cons, List.length_nil]; omega⟩, ?_⟩
        have da := dts_all fun x hx => (h2 x hx).dt
        exact (Dts.tuple (Dts.cons (names a b c ha hb hc) (Dts.cons ht (Dts.cons (Dts.tuple da) Dts.nil)))).le (by omega) (by decide)
      split
      · exact fin _ _ _ ⟨by decide +kernel, by decide +kernel, by decide +kernel⟩ ⟨by decide +kernel, by decide +kernel, by decide +kernel⟩ ⟨by decide +kernel, by decide +kernel, by decide +kernel⟩ acc h2 (by simpa using h1)
      · refine fin _ _ _ ⟨by decide +kernel, by decide +kernel, by decide +kernel⟩ ⟨by decide +kernel, by decide +kernel, by decide +kernel⟩ ⟨by decide +kernel, by decide +kernel, by decide +kernel⟩ _ (fun x hx => h2 x ?_) ?_
        · unfold cutD at hx
          exact List.mem_of_mem_drop (List.mem_of_mem_take hx)
        · unfold cutD
          rw [List.length_take, List.length_drop]
          simp at h1
          omega
    · rintro x xs acc N ⟨h1, h0, h2⟩ hN
      simp only [dSeq, dIfS, dRet, dRetN, dSet, dPar, dPar3, dAsg, dFor, dDrop, dNext, dBrk, dCnt, dAug, dApp, dExt, dPop, dPopAt, dSetI, dFrz, xD, xF, dC, dV, dO, dOp, dOpO, dB, dCh, dAnd, dOr, dNot, dAndV, dOrV, dNotV, dNotT, dIf, dNil, dCons, gNilD, gConsD, gLm, dTup, dLst, dLs, dSl, dSlO, dNo, dSo, d1, dIsi, dList, dCall, dCallK, putS, dGcd, dNeg, dLc, dYes, wTupI, wLstI, wRng1, wRng2, wEnT, wEnL, wName, wNil, wCons, wTup, subD, mulD, divD, modD, powD, ltD, leD, gtD, geD, reprD, wipeD, uns, List.cons_append, List.nil_append, List.length_cons, List.length_nil, List.replicate, List.getElem?_cons_zero, List.getElem?_cons_succ, List.set_cons_zero, List.set_cons_succ, List.map_cons, List.map_nil, List.getD_cons_zero, List.getD_cons_succ, ↓reduceIte, Bool.not_true, Bool.not_false, Bool.false_eq_true, sof_fn1, sof_fn2, sof_fn1p, sof_fn2p, eqv_int, eqv_str, plain_int, plain_bool, plain_none, true_and, and_true, sizeLine_eq, Nat.reduceAdd, Nat.reduceLeDiff, Nat.zero_add, addD_int, addD_str, addD_tup, addD_list, intF_int, intD_int, eqD_int, eqD_str, neD_int, neD_str, inD_list, inD_tup, isND_none, ixD_t0, ixD_t1, ixD_t2, ixD_t3, ixD_l0, lenD_tup, lenD_list, lenD_str, absD_int, toIntD_int, toIntD_bool, toStrD_int, tupleD_list, tupleD_tup, cutSq_tup, cutSq_list, cutSq_str, isInt_none, isInt_bool, isInt_int, isInt_str, isInt_list, isInt_tup, isInt_dict, isBool_none, isBool_bool, isBool_int, isBool_str, isBool_list, isBool_tup, isBool_dict, isStr_none, isStr_bool, isStr_int, isStr_str, isStr_list, isStr_tup, isStr_dict, isTup_none, isTup_bool, isTup_int, isTup_str, isTup_list, isTup_tup, isTup_dict, isLst_none, isLst_bool, isLst_int, isLst_str, isLst_list, isLst_tup, isLst_dict]
      rw [List.length_cons] at h1
      refine ⟨_, ⟨k, rfl, k1, k3, rfl⟩, ?_⟩
      intro d hd
      refine ⟨by omega, hN _ ⟨by rw [List.length_append, List.length_singleton]; omega, by rw [List.length_append, List.length_singleton]; omega, fun y hy => ?_⟩⟩
      rcases List.mem_append.mp hy with hy | hy
      · exact h2 y hy
      · rw [List.mem_singleton.mp hy]
        exact hd
end
end Ev

set_option exponentiation.threshold 256
namespace Ev
open PySem PySem.Spec PyProof.Rows L2
theorem firstW_dt : ∀ (ds : List PyData) (k : Nat), k + ds.length < 1000000 → Dt 12 1 (firstW k ds)
  | [], _, _ => dt_none.le (by decide) (by decide)
  | x :: r, k, h => by
    rw [List.length_cons] at h
    unfold firstW
    split
    · exact (Dts.tuple (Dts.cons (n := 7) (k := 0) ⟨by decide +kernel, by decide +kernel, by decide +kernel⟩ (Dts.cons (dt_small (by omega)) Dts.nil))).le (by decide) (by decide)
    · exact firstW_dt r (k + 1) (by omega)
theorem szxs_len : ∀ ds : List PyData, ds.length ≤ szxs ds
  | [] => Nat.zero_le _
  | d :: ds => by
    have := szxs_len ds
    have : 1 ≤ szx d := by cases d <;> simp [szx]
    simp only [szxs, List.length_cons]
    omega
theorem due_dt {n m k : Nat} {d : PyData} (h : Dt m k d) (hm : m < 1000000) : Dt 12 1 (dueD n d) := by
  have form : Dt 12 1 (.str "form") := ⟨by decide +kernel, by decide +kernel, by decide +kernel⟩
  cases d with
  | tuple ds =>
    unfold dueD
    dsimp only
    split
    · refine firstW_dt ds 0 ?_
      have := h.sz
      have := szxs_len ds
      simp only [szx] at *
      omega
    · exact form
  | _ => exact form
def oddL : List PyData := [.tuple [.int 2, .int 2], .tuple [.int 0, .int 2], .tuple [.int (-1), .int 2], .tuple [.int 1, .int 0], .tuple [.int 1, .int (-2)], .tuple [.bool true, .int 2], .tuple [.int 1, .bool true],
  .list [.int 1, .int 2], .tuple [.int 1], .tuple [.int 1, .int 2, .int 3], .int 1, .none, .str "1/2", .tuple [], .tuple [.int (10 ^ 30), .int 7], .tuple [.int 0, .int 1], .dict [], .tuple [.list [.int 1], .int 2], .tuple [.none, .int 1]]
theorem dtOne {n k : Nat} {d : PyData} (h : (fitx d && decide (szx d ≤ n) && decide (d.depth ≤ k)) = true) : Dt n k d := by
  simp only [Bool.and_eq_true, decide_eq_true_eq] at h
  exact ⟨h.1.1, h.1.2, h.2⟩
theorem odd_dt : ∀ d ∈ oddL, Dt 20 3 d := fun d hd => by
  have : (oddL.all fun d => fitx d && decide (szx d ≤ 20) && decide (d.depth ≤ 3)) = true := by decide +kernel
  exact dtOne (List.all_eq_true.mp this d hd)
section
variable {P : Program} {w : World} {K : PySem.W.Frag} {mg : Str → Option Value} {base : Heap} {A : Nat → Addr} {D : Nat → FuncData}
theorem Txt.kb_measure_error (T : Txt K mg A D) : KB0 K (D 2) ["loop", "value"] ["value", "loop"] [1, 0] := by
  obtain ⟨c1, c2, c3, c4, c5, c6, c7, c8, c9, e, lk, hcd⟩ := T.F_measure_error.ex
  rw [e]
  refine ⟨fun s ws _ hl => ?_⟩
  match ws, hl with
  | [x, y], _ => exact .of_eq rfl
def sp_law (K : PySem.W.Frag) : Sp := fun vs H Q _ => ∃ (a : Addr) (ns : List Int), vs = [.ref a] ∧ SqL K H a (ns.map V.int) ∧ ns.length ≤ 63 ∧ ∀ H', Q (.bl true) H'
set_option maxHeartbeats 0 in
theorem Txt.ok_law (T : Txt K mg A D) : FnG P w K mg base CX0 10 (A 17) (D 17) ["script"] (sp_law K) := by
  refine okG T.F_law sc_law (fun vs H Q E h => ?_) (fun cdv Ar outer s H vs Q E hA hr h => ?_)
  · obtain ⟨a, ns, rfl, _⟩ := h
    rfl
  · obtain ⟨a0, ns, rfl, hS, hlen, q⟩ := h
    have hG : (Ar.deeper (envOfC (Str.ofString "law") (defScope s_law) s.heap.objs.size (A 17) cdv)).guards = some [] := hA
    refine okLaw (ρ := [.un, .lm, .un, .un, .un, .un, .un, .un, .un, .un, .un, .un, .un, .un, .un, .un]) (ps_set (i := 1) sc_law.nd rfl (Or.inl rfl) (pe_call T.ok_jar (hr.mono (by decide)) (by rfl) T.g_jar T.k_jar T.b_jar .nil pass0 (pa_cons (pv 0) pa_nil)))
      ⟨_, (dss_cons (ds_for PassesOwn.never rfl (di_rng1 rfl T.range de_int) (dg_name (i := 2) sc_law.nd rfl (Or.inl rfl)) (dss_cons (ds_set (i := 3) sc_law.nd rfl (Or.inl rfl) (DE.x (de_call T.ok_loop hr (by rfl) T.g_loop T.k_loop T.b_loop pass0 (dg_lm (pv 1) (dg_cons (de_op o_add de_int (DE.r (de_call T.ok_draw (hr.mono (by decide)) (by rfl) T.g_draw T.k_draw T.b_draw pass0 (dg_lm (pv 1) (dg_cons de_int dg_nil))))) (dg_cons (DF.de (df_lst (da_cons de_str (da_cons de_str (da_cons de_str (da_cons de_str da_nil)))))) (dg_cons de_int dg_nil)))))))
    (dss_cons (ds_set (i := 4) sc_law.nd rfl (Or.inl rfl) (DE.x (de_c1 c_len (by rfl) T.z_len (by decide +kernel) (DE.r (de_ix (de_v (pv 3)) de_int (fun _ _ => rfl))))))
    (dss_cons (ds_set (i := 5) sc_law.nd rfl (Or.inl rfl) (DE.x (de_call T.ok_weights (hr.mono (by decide)) (by rfl) T.g_weights T.k_weights T.b_weights pass0 (dg_lm (pv 1) (dg_cons (de_v (pv 4)) dg_nil)))))
    (dss_cons (ds_set (i := 6) sc_law.nd rfl (Or.inl rfl) (DE.x (de_call T.ok_draw (hr.mono (by decide)) (by rfl) T.g_draw T.k_draw T.b_draw pass0 (dg_lm (pv 1) (dg_cons (de_v (pv 4)) dg_nil)))))
    (dss_cons (ds_set (i := 7) sc_law.nd rfl (Or.inl rfl) (DE.x (DF.de (df_lst (da_cons (de_tup (da_cons de_int (da_cons de_int da_nil))) (da_cons (de_tup (da_cons de_int (da_cons de_int da_nil))) (da_cons (de_tup (da_cons (de_neg de_int) (da_cons de_int da_nil))) (da_cons (de_tup (da_cons de_int (da_cons de_int da_nil))) (da_cons (de_tup (da_cons de_int (da_cons (de_neg de_int) da_nil))) (da_cons (de_tup (da_cons de_bl (da_cons de_int da_nil))) (da_cons (de_tup (da_cons de_int (da_cons de_bl da_nil))) (da_cons (DF.de (df_lst (da_cons de_int (da_cons de_int da_nil)))) (da_cons (de_tup (da_cons de_int da_nil)) (da_cons (de_tup (da_cons de_int (da_cons de_int (da_cons de_int da_nil)))) (da_cons de_int (da_cons de_non da_nil))))))))))))))))
    (dss_cons (ds_set (i := 7) sc_law.nd rfl (Or.inl rfl) (DE.x (de_op o_add (de_v (pv 7)) (DE.r (DF.de (df_lst (da_cons de_str (da_cons (de_tup da_nil) (da_cons (de_tup (da_cons (de_op o_pow de_int (DE.r de_int)) (da_cons de_int da_nil))) (da_cons (de_tup (da_cons de_int (da_cons de_int da_nil))) (da_cons de_dict0 (da_cons (de_tup (da_cons (DF.de (df_lst (da_cons de_int da_nil))) (da_cons de_int da_nil))) (da_cons (de_tup (da_cons de_non (da_cons de_int da_nil))) da_nil)))))))))))))
    (dss_cons (ds_set (i := 8) sc_law.nd rfl (Or.inl rfl) (DE.x (de_op o_add (de_op o_add (de_sl (de_v (pv 5)) do_none (do_some (de_v (pv 6)))) (DE.r (de_tup (da_cons (de_call T.ok_pick (hr.mono (by decide)) (by rfl) T.g_pick T.k_pick T.b_pick pass0 (dg_lm (pv 1) (dg_cons (de_v (pv 7)) dg_nil))) da_nil)))) (DE.r (de_sl (de_v (pv 5)) (do_some (de_op o_add (de_v (pv 6)) (DE.r de_int))) do_none)))))
    (dss_cons (ds_set (i := 9) sc_law.nd rfl (Or.inl rfl) (DE.x (de_op o_add (de_sl (de_v (pv 8)) do_none (do_some (de_op o_sub (de_v (pv 4)) (DE.r de_int)))) (DE.r (de_tup (da_cons (de_call T.ok_pick (hr.mono (by decide)) (by rfl) T.g_pick T.k_pick T.b_pick pass0 (dg_lm (pv 1) (dg_cons (de_v (pv 7)) dg_nil))) da_nil))))))
    (dss_cons (ds_set (i := 10) sc_law.nd rfl (Or.inl rfl) (DE.x (DF.de (df_lst (da_cons (de_v (pv 5)) (da_cons (de_v (pv 8)) (da_cons (de_v (pv 9)) (da_cons (de_op o_add (de_v (pv 5)) (DE.r (de_sl (de_v (pv 5)) do_none (do_some de_int)))) (da_cons (de_sl (de_v (pv 5)) (do_some de_int) do_none) (da_cons (DF.de (df_list (by rfl) T.z_list (by decide +kernel) (DE.r (de_v (pv 5))))) (da_cons de_non (da_cons de_int (da_cons (de_tup da_nil) (da_cons de_dict0 (da_cons (de_ix (de_v (pv 5)) de_int (fun _ _ => rfl)) da_nil)))))))))))))))
    (dss_one (ds_for PassesOwn.never rfl (di_enL (by rfl) T.enumerate (de_v (pv 10))) (dg_tup (n := 2) rfl (dgs_cons (dg_name (i := 11) sc_law.nd rfl (Or.inl rfl)) (dgs_cons (dg_name (i := 12) sc_law.nd rfl (Or.inl rfl)) dgs_nil))) (dss_cons (ds_par (i := 13) (j := 14) rfl sc_law.nd rfl rfl (by decide) rfl rfl (DE.x (de_c1 (c_repr hG hr.units) (by rfl) T.z_repr (by decide +kernel) (DE.r (DF.de (df_lst (da_cons (de_v (pv 3)) (da_cons (de_v (pv 12)) da_nil))))))) (DE.x (de_c1 (c_repr hG hr.units) (by rfl) T.z_repr (by decide +kernel) (DE.r (de_call T.ok_due (hr.mono (by decide)) (by rfl) T.g_due T.k_due T.b_due pass0 (dg_cons (de_v (pv 3)) (dg_cons (de_v (pv 12)) dg_nil)))))) (by rfl))
    (dss_cons (ds_set (i := 15) sc_law.nd rfl (Or.inl rfl) (DE.x (de_if (dt_cmp (o_eq hr.units) (de_v (pv 11)) (DE.r (de_v (pv 2))) (nomark _)) (de_callK T.ok_measure_error (hr.mono (by decide)) (by rfl) T.g_measure_error T.k_measure_error T.kb_measure_error pass0 (dk_cons (de_v (pv 12)) (dk_cons (de_v (pv 3)) dk_nil))) (de_call T.ok_measure_error (hr.mono (by decide)) (by rfl) T.g_measure_error T.k_measure_error T.b_measure_error pass0 (dg_cons (de_v (pv 3)) (dg_cons (de_v (pv 12)) dg_nil))))))
    (dss_one (ds_if (DW.pt (dw_or (dt_cmp (o_ne hr.units) (de_c1 (c_repr hG hr.units) (by rfl) T.z_repr (by decide +kernel) (DE.r (de_v (pv 15)))) (DE.r (de_v (pv 14))) (nomark _)) (dw_or (dt_cmp (o_ne hr.units) (de_c1 (c_repr hG hr.units) (by rfl) T.z_repr (by decide +kernel) (DE.r (de_call T.ok_measure_error (hr.mono (by decide)) (by rfl) T.g_measure_error T.k_measure_error T.b_measure_error pass0 (dg_cons (de_v (pv 3)) (dg_cons (de_v (pv 12)) dg_nil))))) (DE.r (de_v (pv 14))) (nomark _)) (dw_or1 (dt_cmp (o_ne hr.units) (de_c1 (c_repr hG hr.units) (by rfl) T.z_repr (by decide +kernel) (DE.r (DF.de (df_lst (da_cons (de_v (pv 3)) (da_cons (de_v (pv 12)) da_nil)))))) (DE.r (de_v (pv 13))) (nomark _)))))) (dss_one (ds_ret de_bl)) dss_nil))))))))))))))))
    (dss_one (ds_ret de_bl))), ?_⟩ (fun H' => q H') (fun N hN => ⟨_, rfl, a0, ns, rfl, hS, hlen, fun H0 L F sm lm hL hF => hN _ _ _ _ (rep_loom sm lm hL hF rfl fun i s e => ?_)⟩)
    · simp only [dSeq, dIfS, dRet, dRetN, dSet, dPar, dPar3, dAsg, dFor, dDrop, dNext, dBrk, dCnt, dAug, dApp, dExt, dPop, dPopAt, dSetI, dFrz, xD, xF, dC, dV, dO, dOp, dOpO, dB, dCh, dAnd, dOr, dNot, dAndV, dOrV, dNotV, dNotT, dIf, dNil, dCons, gNilD, gConsD, gLm, dTup, dLst, dLs, dSl, dSlO, dNo, dSo, d1, dIsi, dList, dCall, dCallK, putS, dGcd, dNeg, dLc, dYes, wTupI, wLstI, wRng1, wRng2, wEnT, wEnL, wName, wNil, wCons, wTup, subD, mulD, divD, modD, powD, ltD, leD, gtD, geD, reprD, wipeD, uns, List.cons_append, List.nil_append, List.length_cons, List.length_nil, List.replicate, List.getElem?_cons_zero, List.getElem?_cons_succ, List.set_cons_zero, List.set_cons_succ, List.map_cons, List.map_nil, List.getD_cons_zero, List.getD_cons_succ, ↓reduceIte, Bool.not_true, Bool.not_false, Bool.false_eq_true, sof_fn1, sof_fn2, sof_fn1p, sof_fn2p, eqv_int, eqv_str, plain_int, plain_bool, plain_none, true_and, and_true, sizeLine_eq, Nat.reduceAdd, Nat.reduceLeDiff, Nat.zero_add, addD_int, addD_str, addD_tup, addD_list, intF_int, intD_int, eqD_int, eqD_str, neD_int, neD_str, inD_list, inD_tup, isND_none, ixD_t0, ixD_t1, ixD_t2, ixD_t3, ixD_l0, lenD_tup, lenD_list, lenD_str, absD_int, toIntD_int, toIntD_bool, toStrD_int, tupleD_list, tupleD_tup, cutSq_tup, cutSq_list, cutSq_str, isInt_none, isInt_bool, isInt_int, isInt_str, isInt_list, isInt_tup, isInt_dict, isBool_none, isBool_bool, isBool_int, isBool_str, isBool_list, isBool_tup, isBool_dict, isStr_none, isStr_bool, isStr_int, isStr_str, isStr_list, isStr_tup, isStr_dict, isTup_none, isTup_bool, isTup_int, isTup_str, isTup_list, isTup_tup, isTup_dict, isLst_none, isLst_bool, isLst_int, isLst_str, isLst_list, isLst_tup, isLst_dict]
      refine ⟨by decide, by decide, forD_ind (fun ys ρ => (∀ y ∈ ys, y ∈ rngD 0 9) ∧ ∃ x0 x2 x3 x4 x5 x6 x7 x8 x9 x10 x11 x12 x13 x14 x15, ρ = [x0, .lm, x2, x3, x4, x5, x6, x7, x8, x9, x10, x11, x12, x13, x14, x15]) ?_ ?_ _ _ ⟨fun y hy => hy, _, _, _, _, _, _, _, _, _, _, _, _, _, _, _, rfl⟩⟩
      · rintro ρ ⟨hx, x0, x2, x3, x4, x5, x6, x7, x8, x9, x10, x11, x12, x13, x14, x15, rfl⟩
        simp only [dSeq, dIfS, dRet, dRetN, dSet, dPar, dPar3, dAsg, dFor, dDrop, dNext, dBrk, dCnt, dAug, dApp, dExt, dPop, dPopAt, dSetI, dFrz, xD, xF, dC, dV, dO, dOp, dOpO, dB, dCh, dAnd, dOr, dNot, dAndV, dOrV, dNotV, dNotT, dIf, dNil, dCons, gNilD, gConsD, gLm, dTup, dLst, dLs, dSl, dSlO, dNo, dSo, d1, dIsi, dList, dCall, dCallK, putS, dGcd, dNeg, dLc, dYes, wTupI, wLstI, wRng1, wRng2, wEnT, wEnL, wName, wNil, wCons, wTup, subD, mulD, divD, modD, powD, ltD, leD, gtD, geD, reprD, wipeD, uns, List.cons_append, List.nil_append, List.length_cons, List.length_nil, List.replicate, List.getElem?_cons_zero, List.getElem?_cons_succ, List.set_cons_zero, List.set_cons_succ, List.map_cons, List.map_nil, List.getD_cons_zero, List.getD_cons_succ, ↓reduceIte, Bool.not_true, Bool.not_false, Bool.false_eq_true, sof_fn1, sof_fn2, sof_fn1p, sof_fn2p, eqv_int, eqv_str, plain_int, plain_bool, plain_none, true_and, and_true, sizeLine_eq, Nat.reduceAdd, Nat.reduceLeDiff, Nat.zero_add, addD_int, addD_str, addD_tup, addD_list, intF_int, intD_int, eqD_int, eqD_str, neD_int, neD_str, inD_list, inD_tup, isND_none, ixD_t0, ixD_t1, ixD_t2, ixD_t3, ixD_l0, lenD_tup, lenD_list, lenD_str, absD_int, toIntD_int, toIntD_bool, toStrD_int, tupleD_list, tupleD_tup, cutSq_tup, cutSq_list, cutSq_str, isInt_none, isInt_bool, isInt_int, isInt_str, isInt_list, isInt_tup, isInt_dict, isBool_none, isBool_bool, isBool_int, isBool_str, isBool_list, isBool_tup, isBool_dict, isStr_none, isStr_bool, isStr_int, isStr_str, isStr_list, isStr_tup, isStr_dict, isTup_none, isTup_bool, isTup_int, isTup_str, isTup_list, isTup_tup, isTup_dict, isLst_none, isLst_bool, isLst_int, isLst_str, isLst_list, isLst_tup, isLst_dict]
      · rintro x xs ρ N ⟨hx, x0, x2, x3, x4, x5, x6, x7, x8, x9, x10, x11, x12, x13, x14, x15, rfl⟩ hN
        simp only [dSeq, dIfS, dRet, dRetN, dSet, dPar, dPar3, dAsg, dFor, dDrop, dNext, dBrk, dCnt, dAug, dApp, dExt, dPop, dPopAt, dSetI, dFrz, xD, xF, dC, dV, dO, dOp, dOpO, dB, dCh, dAnd, dOr, dNot, dAndV, dOrV, dNotV, dNotT, dIf, dNil, dCons, gNilD, gConsD, gLm, dTup, dLst, dLs, dSl, dSlO, dNo, dSo, d1, dIsi, dList, dCall, dCallK, putS, dGcd, dNeg, dLc, dYes, wTupI, wLstI, wRng1, wRng2, wEnT, wEnL, wName, wNil, wCons, wTup, subD, mulD, divD, modD, powD, ltD, leD, gtD, geD, reprD, wipeD, uns, List.cons_append, List.nil_append, List.length_cons, List.length_nil, List.replicate, List.getElem?_cons_zero, List.getElem?_cons_succ, List.set_cons_zero, List.set_cons_succ, List.map_cons, List.map_nil, List.getD_cons_zero, List.getD_cons_succ, ↓reduceIte, Bool.not_true, Bool.not_false, Bool.false_eq_true, sof_fn1, sof_fn2, sof_fn1p, sof_fn2p, eqv_int, eqv_str, plain_int, plain_bool, plain_none, true_and, and_true, sizeLine_eq, Nat.reduceAdd, Nat.reduceLeDiff, Nat.zero_add, addD_int, addD_str, addD_tup, addD_list, intF_int, intD_int, eqD_int, eqD_str, neD_int, neD_str, inD_list, inD_tup, isND_none, ixD_t0, ixD_t1, ixD_t2, ixD_t3, ixD_l0, lenD_tup, lenD_list, lenD_str, absD_int, toIntD_int, toIntD_bool, toStrD_int, tupleD_list, tupleD_tup, cutSq_tup, cutSq_list, cutSq_str, isInt_none, isInt_bool, isInt_int, isInt_str, isInt_list, isInt_tup, isInt_dict, isBool_none, isBool_bool, isBool_int, isBool_str, isBool_list, isBool_tup, isBool_dict, isStr_none, isStr_bool, isStr_int, isStr_str, isStr_list, isStr_tup, isStr_dict, isTup_none, isTup_bool, isTup_int, isTup_str, isTup_list, isTup_tup, isTup_dict, isLst_none, isLst_bool, isLst_int, isLst_str, isLst_list, isLst_tup, isLst_dict]
        refine ⟨_, ⟨_, rfl, by decide, rfl⟩, ?_⟩
        rintro _ ⟨j, rfl, j0, j1⟩
        simp only [dSeq, dIfS, dRet, dRetN, dSet, dPar, dPar3, dAsg, dFor, dDrop, dNext, dBrk, dCnt, dAug, dApp, dExt, dPop, dPopAt, dSetI, dFrz, xD, xF, dC, dV, dO, dOp, dOpO, dB, dCh, dAnd, dOr, dNot, dAndV, dOrV, dNotV, dNotT, dIf, dNil, dCons, gNilD, gConsD, gLm, dTup, dLst, dLs, dSl, dSlO, dNo, dSo, d1, dIsi, dList, dCall, dCallK, putS, dGcd, dNeg, dLc, dYes, wTupI, wLstI, wRng1, wRng2, wEnT, wEnL, wName, wNil, wCons, wTup, subD, mulD, divD, modD, powD, ltD, leD, gtD, geD, reprD, wipeD, uns, List.cons_append, List.nil_append, List.length_cons, List.length_nil, List.replicate, List.getElem?_cons_zero, List.getElem?_cons_succ, List.set_cons_zero, List.set_cons_succ, List.map_cons, List.map_nil, List.getD_cons_zero, List.getD_cons_succ, ↓reduceIte, Bool.not_true, Bool.not_false, Bool.false_eq_true, sof_fn1, sof_fn2, sof_fn1p, sof_fn2p, eqv_int, eqv_str, plain_int, plain_bool, plain_none, true_and, and_true, sizeLine_eq, Nat.reduceAdd, Nat.reduceLeDiff, Nat.zero_add, addD_int, addD_str, addD_tup, addD_list, intF_int, intD_int, eqD_int, eqD_str, neD_int, neD_str, inD_list, inD_tup, isND_none, ixD_t0, ixD_t1, ixD_t2, ixD_t3, ixD_l0, lenD_tup, lenD_list, lenD_str, absD_int, toIntD_int, toIntD_bool, toStrD_int, tupleD_list, tupleD_tup, cutSq_tup, cutSq_list, cutSq_str, isInt_none, isInt_bool, isInt_int, isInt_str, isInt_list, isInt_tup, isInt_dict, isBool_none, isBool_bool, isBool_int, isBool_str, isBool_list, isBool_tup, isBool_dict, isStr_none, isStr_bool, isStr_int, isStr_str, isStr_list, isStr_tup, isStr_dict, isTup_none, isTup_bool, isTup_int, isTup_str, isTup_list, isTup_tup, isTup_dict, isLst_none, isLst_bool, isLst_int, isLst_str, isLst_list, isLst_tup, isLst_dict]
        refine ⟨_, ⟨1 + j, rfl, by omega, by omega, rfl⟩, ?_⟩
        rintro l ⟨hn, hl⟩
        obtain ⟨nm, r, rfl, hk⟩ := hn
        have hk' : (nm.length : Int) = 1 + j := by omega
        simp only [dSeq, dIfS, dRet, dRetN, dSet, dPar, dPar3, dAsg, dFor, dDrop, dNext, dBrk, dCnt, dAug, dApp, dExt, dPop, dPopAt, dSetI, dFrz, xD, xF, dC, dV, dO, dOp, dOpO, dB, dCh, dAnd, dOr, dNot, dAndV, dOrV, dNotV, dNotT, dIf, dNil, dCons, gNilD, gConsD, gLm, dTup, dLst, dLs, dSl, dSlO, dNo, dSo, d1, dIsi, dList, dCall, dCallK, putS, dGcd, dNeg, dLc, dYes, wTupI, wLstI, wRng1, wRng2, wEnT, wEnL, wName, wNil, wCons, wTup, subD, mulD, divD, modD, powD, ltD, leD, gtD, geD, reprD, wipeD, uns, List.cons_append, List.nil_append, List.length_cons, List.length_nil, List.replicate, List.getElem?_cons_zero, List.getElem?_cons_succ, List.set_cons_zero, List.set_cons_succ, List.map_cons, List.map_nil, List.getD_cons_zero, List.getD_cons_succ, ↓reduceIte, Bool.not_true, Bool.not_false, Bool.false_eq_true, sof_fn1, sof_fn2, sof_fn1p, sof_fn2p, eqv_int, eqv_str, plain_int, plain_bool, plain_none, true_and, and_true, sizeLine_eq, Nat.reduceAdd, Nat.reduceLeDiff, Nat.zero_add, addD_int, addD_str, addD_tup, addD_list, intF_int, intD_int, eqD_int, eqD_str, neD_int, neD_str, inD_list, inD_tup, isND_none, ixD_t0, ixD_t1, ixD_t2, ixD_t3, ixD_l0, lenD_tup, lenD_list, lenD_str, absD_int, toIntD_int, toIntD_bool, toStrD_int, tupleD_list, tupleD_tup, cutSq_tup, cutSq_list, cutSq_str, isInt_none, isInt_bool, isInt_int, isInt_str, isInt_list, isInt_tup, isInt_dict, isBool_none, isBool_bool, isBool_int, isBool_str, isBool_list, isBool_tup, isBool_dict, isStr_none, isStr_bool, isStr_int, isStr_str, isStr_list, isStr_tup, isStr_dict, isTup_none, isTup_bool, isTup_int, isTup_str, isTup_list, isTup_tup, isTup_dict, isLst_none, isLst_bool, isLst_int, isLst_str, isLst_list, isLst_tup, isLst_dict]
        refine ⟨_, ⟨_, rfl, by omega, by omega, rfl⟩, ?_⟩
        rintro _ ⟨ws, rfl, hw, hws⟩
        have W : DL 3 20 3 ws := ⟨by omega, fun x hx => (hws x hx).le (by decide) (by decide)⟩
        refine ⟨_, ⟨_, rfl, by omega, rfl⟩, ?_⟩
        rintro _ ⟨i, rfl, i0, i1⟩
        simp only [dSeq, dIfS, dRet, dRetN, dSet, dPar, dPar3, dAsg, dFor, dDrop, dNext, dBrk, dCnt, dAug, dApp, dExt, dPop, dPopAt, dSetI, dFrz, xD, xF, dC, dV, dO, dOp, dOpO, dB, dCh, dAnd, dOr, dNot, dAndV, dOrV, dNotV, dNotT, dIf, dNil, dCons, gNilD, gConsD, gLm, dTup, dLst, dLs, dSl, dSlO, dNo, dSo, d1, dIsi, dList, dCall, dCallK, putS, dGcd, dNeg, dLc, dYes, wTupI, wLstI, wRng1, wRng2, wEnT, wEnL, wName, wNil, wCons, wTup, subD, mulD, divD, modD, powD, ltD, leD, gtD, geD, reprD, wipeD, uns, List.cons_append, List.nil_append, List.length_cons, List.length_nil, List.replicate, List.getElem?_cons_zero, List.getElem?_cons_succ, List.set_cons_zero, List.set_cons_succ, List.map_cons, List.map_nil, List.getD_cons_zero, List.getD_cons_succ, ↓reduceIte, Bool.not_true, Bool.not_false, Bool.false_eq_true, sof_fn1, sof_fn2, sof_fn1p, sof_fn2p, eqv_int, eqv_str, plain_int, plain_bool, plain_none, true_and, and_true, sizeLine_eq, Nat.reduceAdd, Nat.reduceLeDiff, Nat.zero_add, addD_int, addD_str, addD_tup, addD_list, intF_int, intD_int, eqD_int, eqD_str, neD_int, neD_str, inD_list, inD_tup, isND_none, ixD_t0, ixD_t1, ixD_t2, ixD_t3, ixD_l0, lenD_tup, lenD_list, lenD_str, absD_int, toIntD_int, toIntD_bool, toStrD_int, tupleD_list, tupleD_tup, cutSq_tup, cutSq_list, cutSq_str, isInt_none, isInt_bool, isInt_int, isInt_str, isInt_list, isInt_tup, isInt_dict, isBool_none, isBool_bool, isBool_int, isBool_str, isBool_list, isBool_tup, isBool_dict, isStr_none, isStr_bool, isStr_int, isStr_str, isStr_list, isStr_tup, isStr_dict, isTup_none, isTup_bool, isTup_int, isTup_str, isTup_list, isTup_tup, isTup_dict, isLst_none, isLst_bool, isLst_int, isLst_str, isLst_list, isLst_tup, isLst_dict]
        refine ⟨by decide, ?_⟩
        refine ⟨_, ⟨_, rfl, by decide, by decide, rfl⟩, ?_⟩
        intro d hd
        have hd' := odd_dt d hd
        have lw := W.len
        have F := (DL.app (DL.app (W.cut none (some i)) (DL.cons hd' DL.nil (c := 0))) (W.cut (some (i + 1)) none)).le (c' := 7) (by decide) (Nat.le_refl _) (Nat.le_refl _)
        have f0 := (W.cut none (some i)).len
        have f1 := F.len
        refine ⟨by omega, by rw [← List.length_append]; omega, ?_⟩
        generalize cutD ws none (some i) ++ [d] ++ cutD ws (some (i + 1)) none = fr at F f1 ⊢
        refine ⟨_, ⟨_, rfl, by decide, by decide, rfl⟩, ?_⟩
        intro e he
        have he' := odd_dt e he
        have f2 := (F.cut none (some ((nm.length : Int) - 1))).len
        have G := (DL.app (F.cut none (some ((nm.length : Int) - 1))) (DL.cons he' DL.nil (c := 0)))
        have f3 := (W.cut none (some 1)).len
        refine ⟨by omega, by omega, ?_⟩
        have W2 := DL.app W (W.cut none (some 1))
        have W3 := W.cut (some 1) none
        obtain ⟨w0, ew, hw0⟩ := atI_ex (xs := ws) (i := 0) (by decide) (by omega)
        rw [ixD_of ew]
        have hv : ∀ v ∈ [PyData.tuple ws, .tuple fr, .tuple (cutD fr none (some ((nm.length : Int) - 1)) ++ [e]), .tuple (ws ++ cutD ws none (some 1)), .tuple (cutD ws (some 1) none), .list ws, .none, .int 0, .tuple [], .dict [], w0], Dt 200 5 v := fun v hv => by
          simp only [List.mem_cons, List.not_mem_nil, or_false] at hv
          rcases hv with rfl | rfl | rfl | rfl | rfl | rfl | rfl | rfl | rfl | rfl | rfl
          · exact W.tup.le (by decide) (by decide)
          · exact F.tup.le (by decide) (by decide)
          · exact G.tup.le (by decide) (by decide)
          · exact W2.tup.le (by decide) (by decide)
          · exact W3.tup.le (by decide) (by decide)
          · exact W.list.le (by decide) (by decide)
          · exact dt_none.le (by decide) (by decide)
          · exact (dt_small (by decide)).le (by decide) (by decide)
          · exact (dtOne (n := 5) (k := 5) (by decide +kernel)).le (by decide) (by decide)
          · exact (dtOne (n := 5) (k := 5) (by decide +kernel)).le (by decide) (by decide)
          · exact (W.all _ hw0).le (by decide) (by decide)
        obtain ⟨xi, rfl, _⟩ := rngD_mem (lo := 0) (n := 9) (hx x (List.mem_cons_self ..))
        refine for_enum (fun k ys ρ => (∀ y ∈ ys, Dt 200 5 y) ∧ ∃ y8 y9 y10 y11 y12 y13 y14 y15 y16 y17 y18 y19, ρ = [x0, .lm, .d (.int xi), .d (.tuple (.tuple nm :: r)), y8, y9, y10, y11, y12, y13, y14, y15, y16, y17, y18, y19]) ?_ ?_ _ _ ⟨hv, _, _, _, _, _, _, _, _, _, _, _, _, rfl⟩
        · rintro k ρ ⟨_, z1, z2, z3, z4, z5, z6, z7, z8, z9, z10, z11, z12, rfl⟩
          exact hN _ ⟨fun y hy => hx y (List.mem_cons_of_mem _ hy), _, _, _, _, _, _, _, _, _, _, _, _, _, _, _, rfl⟩
        · rintro k v vs ρ N' ⟨hv, z1, z2, z3, z4, z5, z6, z7, z8, z9, z10, z11, z12, rfl⟩ hN'
          have dv := hv v (List.mem_cons_self ..)
          have dl : Dt 1200 14 (.list [.tuple (.tuple nm :: r), v]) := (hl.lpair dv).le (by decide) (by decide)
          have dd := due_dt (n := nm.length) dv (by decide)
          have ask : ∀ (Q : PyData → Prop), Q (dueD nm.length v) → Sof dueR [.d (.tuple (.tuple nm :: r)), .d v] Q := fun Q hq => ⟨_, ⟨_, _, _, rfl, ⟨nm, r, rfl, rfl⟩, rfl⟩, fun r hr => by rw [hr]; exact hq⟩
          simp only [dSeq, dIfS, dRet, dRetN, dSet, dPar, dPar3, dAsg, dFor, dDrop, dNext, dBrk, dCnt, dAug, dApp, dExt, dPop, dPopAt, dSetI, dFrz, xD, xF, dC, dV, dO, dOp, dOpO, dB, dCh, dAnd, dOr, dNot, dAndV, dOrV, dNotV, dNotT, dIf, dNil, dCons, gNilD, gConsD, gLm, dTup, dLst, dLs, dSl, dSlO, dNo, dSo, d1, dIsi, dList, dCall, dCallK, putS, dGcd, dNeg, dLc, dYes, wTupI, wLstI, wRng1, wRng2, wEnT, wEnL, wName, wNil, wCons, wTup, subD, mulD, divD, modD, powD, ltD, leD, gtD, geD, reprD, wipeD, uns, List.cons_append, List.nil_append, List.length_cons, List.length_nil, List.replicate, List.getElem?_cons_zero, List.getElem?_cons_succ, List.set_cons_zero, List.set_cons_succ, List.map_cons, List.map_nil, List.getD_cons_zero, List.getD_cons_succ, ↓reduceIte, Bool.not_true, Bool.not_false, Bool.false_eq_true, sof_fn1, sof_fn2, sof_fn1p, sof_fn2p, eqv_int, eqv_str, plain_int, plain_bool, plain_none, true_and, and_true, sizeLine_eq, Nat.reduceAdd, Nat.reduceLeDiff, Nat.zero_add, addD_int, addD_str, addD_tup, addD_list, intF_int, intD_int, eqD_int, eqD_str, neD_int, neD_str, inD_list, inD_tup, isND_none, ixD_t0, ixD_t1, ixD_t2, ixD_t3, ixD_l0, lenD_tup, lenD_list, lenD_str, absD_int, toIntD_int, toIntD_bool, toStrD_int, tupleD_list, tupleD_tup, cutSq_tup, cutSq_list, cutSq_str, isInt_none, isInt_bool, isInt_int, isInt_str, isInt_list, isInt_tup, isInt_dict, isBool_none, isBool_bool, isBool_int, isBool_str, isBool_list, isBool_tup, isBool_dict, isStr_none, isStr_bool, isStr_int, isStr_str, isStr_list, isStr_tup, isStr_dict, isTup_none, isTup_bool, isTup_int, isTup_str, isTup_list, isTup_tup, isTup_dict, isLst_none, isLst_bool, isLst_int, isLst_str, isLst_list, isLst_tup, isLst_dict]
          have sl := dl.showD (by decide) (by decide)
          have sd := dd.showD (by decide) (by decide)
          have no : (!decide True) = true → False := by decide
          have fin : ∀ a b c, N' [x0, .lm, .d (.int xi), .d (.tuple (.tuple nm :: r)), z1, z2, z3, z4, z5, z6, z7, .d (.int (k : Int)), .d v, a, b, c] := fun a b c => hN' _ ⟨fun y hy => hv y (List.mem_cons_of_mem _ hy), _, _, _, _, _, _, _, _, _, _, _, _, rfl⟩
          refine ⟨sl, ask _ ⟨sd, ?_⟩⟩
          split
          all_goals
            refine ask _ ⟨sd, ?_⟩
            rw [if_neg (by simp)]
            refine ask _ ⟨sd, ?_⟩
            rw [if_neg (by simp)]
            refine ⟨sl, ?_⟩
            exact fin _ _ _
    · match i with
      | 0 => exact .inl (Option.some.inj e).symm
      | 1 => exact .inr ⟨(Option.some.inj e).symm, rfl⟩
      | n + 2 =>
        refine .inl ?_
        have : s ∈ ([.un, .un, .un, .un, .un, .un, .un, .un, .un, .un, .un, .un, .un, .un] : En) := List.mem_of_getElem? (i := n) e
        simpa using this
end
end Ev

set_option exponentiation.threshold 256
namespace Ev
open PySem PySem.Spec PyProof.Rows L2
theorem all_mk {l : PySem.W.OpenLaw} {w : World} {K : PySem.W.Frag} {h : Heap} {mg : Str → Option Value} {fa : Addr}
    (X : K.In h) (G : h.Ns mainGlobals mg) (hfa : mg "law" = some (.ref fa))
    {f0 : Addr} {od0 an0 : Option Addr} {sl0 : Array (Option Value)} {oc0 kV0 dc0 pm0 cd0 ct0 : Value}
    (a0 : PySem.W.nsIn K mainGlobals "is_integer" = some (some (.ref f0)))
    (l0 : K.lookup f0 = some ⟨oc0, od0, .func (PySem.W.fnOf "is_integer" "is_integer" (defArgs s_is_integer) (defBody s_is_integer) (defScope s_is_integer) .none kV0 dc0 pm0 an0 cd0 ct0), sl0⟩)
    (c0 : PySem.W.codeIn K cd0 "is_integer" = true)
    (k0 : PySem.W.keepIn K (.ref f0) = true)
    {f1 : Addr} {od1 an1 : Option Addr} {sl1 : Array (Option Value)} {oc1 kV1 dc1 pm1 cd1 ct1 : Value}
    (a1 : PySem.W.nsIn K mainGlobals "is_fraction" = some (some (.ref f1)))
    (l1 : K.lookup f1 = some ⟨oc1, od1, .func (PySem.W.fnOf "is_fraction" "is_fraction" (defArgs s_is_fraction) (defBody s_is_fraction) (defScope s_is_fraction) .none kV1 dc1 pm1 an1 cd1 ct1), sl1⟩)
    (c1 : PySem.W.codeIn K cd1 "is_fraction" = true)
    (k1 : PySem.W.keepIn K (.ref f1) = true)
    {f2 : Addr} {od2 an2 : Option Addr} {sl2 : Array (Option Value)} {oc2 kV2 dc2 pm2 cd2 ct2 : Value}
    (a2 : PySem.W.nsIn K mainGlobals "measure_error" = some (some (.ref f2)))
    (l2 : K.lookup f2 = some ⟨oc2, od2, .func (PySem.W.fnOf "measure_error" "measure_error" (defArgs s_measure_error) (defBody s_measure_error) (defScope s_measure_error) .none kV2 dc2 pm2 an2 cd2 ct2), sl2⟩)
    (c2 : PySem.W.codeIn K cd2 "measure_error" = true)
    (k2 : PySem.W.keepIn K (.ref f2) = true)
    {f3 : Addr} {od3 an3 : Option Addr} {sl3 : Array (Option Value)} {oc3 kV3 dc3 pm3 cd3 ct3 : Value}
    (a3 : PySem.W.nsIn K mainGlobals "_law_jar" = some (some (.ref f3)))
    (l3 : K.lookup f3 = some ⟨oc3, od3, .func (PySem.W.fnOf "_law_jar" "_law_jar" (defArgs s_jar) (defBody s_jar) (defScope s_jar) .none kV3 dc3 pm3 an3 cd3 ct3), sl3⟩)
    (c3 : PySem.W.codeIn K cd3 "_law_jar" = true)
    (k3 : PySem.W.keepIn K (.ref f3) = true)
    {f4 : Addr} {od4 an4 : Option Addr} {sl4 : Array (Option Value)} {oc4 kV4 dc4 pm4 cd4 ct4 : Value}
    (a4 : PySem.W.nsIn K mainGlobals "_law_draw" = some (some (.ref f4)))
    (l4 : K.lookup f4 = some ⟨oc4, od4, .func (PySem.W.fnOf "_law_draw" "_law_draw" (defArgs s_draw) (defBody s_draw) (defScope s_draw) .none kV4 dc4 pm4 an4 cd4 ct4), sl4⟩)
    (c4 : PySem.W.codeIn K cd4 "_law_draw" = true)
    (k4 : PySem.W.keepIn K (.ref f4) = true)
    {f5 : Addr} {od5 an5 : Option Addr} {sl5 : Array (Option Value)} {oc5 kV5 dc5 pm5 cd5 ct5 : Value}
    (a5 : PySem.W.nsIn K mainGlobals "_law_pick" = some (some (.ref f5)))
    (l5 : K.lookup f5 = some ⟨oc5, od5, .func (PySem.W.fnOf "_law_pick" "_law_pick" (defArgs s_pick) (defBody s_pick) (defScope s_pick) .none kV5 dc5 pm5 an5 cd5 ct5), sl5⟩)
    (c5 : PySem.W.codeIn K cd5 "_law_pick" = true)
    (k5 : PySem.W.keepIn K (.ref f5) = true)
    {f6 : Addr} {od6 an6 : Option Addr} {sl6 : Array (Option Value)} {oc6 kV6 dc6 pm6 cd6 ct6 : Value}
    (a6 : PySem.W.nsIn K mainGlobals "_law_gcd" = some (some (.ref f6)))
    (l6 : K.lookup f6 = some ⟨oc6, od6, .func (PySem.W.fnOf "_law_gcd" "_law_gcd" (defArgs s_gcd) (defBody s_gcd) (defScope s_gcd) .none kV6 dc6 pm6 an6 cd6 ct6), sl6⟩)
    (c6 : PySem.W.codeIn K cd6 "_law_gcd" = true)
    (k6 : PySem.W.keepIn K (.ref f6) = true)
    {f7 : Addr} {od7 an7 : Option Addr} {sl7 : Array (Option Value)} {oc7 kV7 dc7 pm7 cd7 ct7 : Value}
    (a7 : PySem.W.nsIn K mainGlobals "_law_share" = some (some (.ref f7)))
    (l7 : K.lookup f7 = some ⟨oc7, od7, .func (PySem.W.fnOf "_law_share" "_law_share" (defArgs s_share) (defBody s_share) (defScope s_share) .none kV7 dc7 pm7 an7 cd7 ct7), sl7⟩)
    (c7 : PySem.W.codeIn K cd7 "_law_share" = true)
    (k7 : PySem.W.keepIn K (.ref f7) = true)
    {f8 : Addr} {od8 an8 : Option Addr} {sl8 : Array (Option Value)} {oc8 kV8 dc8 pm8 cd8 ct8 : Value}
    (a8 : PySem.W.nsIn K mainGlobals "_law_die" = some (some (.ref f8)))
    (l8 : K.lookup f8 = some ⟨oc8, od8, .func (PySem.W.fnOf "_law_die" "_law_die" (defArgs s_die) (defBody s_die) (defScope s_die) .none kV8 dc8 pm8 an8 cd8 ct8), sl8⟩)
    (c8 : PySem.W.codeIn K cd8 "_law_die" = true)
    (k8 : PySem.W.keepIn K (.ref f8) = true)
    {f9 : Addr} {od9 an9 : Option Addr} {sl9 : Array (Option Value)} {oc9 kV9 dc9 pm9 cd9 ct9 : Value}
    (a9 : PySem.W.nsIn K mainGlobals "_law_test" = some (some (.ref f9)))
    (l9 : K.lookup f9 = some ⟨oc9, od9, .func (PySem.W.fnOf "_law_test" "_law_test" (defArgs s_test) (defBody s_test) (defScope s_test) .none kV9 dc9 pm9 an9 cd9 ct9), sl9⟩)
    (c9 : PySem.W.codeIn K cd9 "_law_test" = true)
    (k9 : PySem.W.keepIn K (.ref f9) = true)
    {f10 : Addr} {od10 an10 : Option Addr} {sl10 : Array (Option Value)} {oc10 kV10 dc10 pm10 cd10 ct10 : Value}
    (a10 : PySem.W.nsIn K mainGlobals "_law_step" = some (some (.ref f10)))
    (l10 : K.lookup f10 = some ⟨oc10, od10, .func (PySem.W.fnOf "_law_step" "_law_step" (defArgs s_step) (defBody s_step) (defScope s_step) .none kV10 dc10 pm10 an10 cd10 ct10), sl10⟩)
    (c10 : PySem.W.codeIn K cd10 "_law_step" = true)
    (k10 : PySem.W.keepIn K (.ref f10) = true)
    {f11 : Addr} {od11 an11 : Option Addr} {sl11 : Array (Option Value)} {oc11 kV11 dc11 pm11 cd11 ct11 : Value}
    (a11 : PySem.W.nsIn K mainGlobals "_law_some_steps" = some (some (.ref f11)))
    (l11 : K.lookup f11 = some ⟨oc11, od11, .func (PySem.W.fnOf "_law_some_steps" "_law_some_steps" (defArgs s_some_steps) (defBody s_some_steps) (defScope s_some_steps) .none kV11 dc11 pm11 an11 cd11 ct11), sl11⟩)
    (c11 : PySem.W.codeIn K cd11 "_law_some_steps" = true)
    (k11 : PySem.W.keepIn K (.ref f11) = true)
    {f12 : Addr} {od12 an12 : Option Addr} {sl12 : Array (Option Value)} {oc12 kV12 dc12 pm12 cd12 ct12 : Value}
    (a12 : PySem.W.nsIn K mainGlobals "_law_loop" = some (some (.ref f12)))
    (l12 : K.lookup f12 = some ⟨oc12, od12, .func (PySem.W.fnOf "_law_loop" "_law_loop" (defArgs s_loop) (defBody s_loop) (defScope s_loop) .none kV12 dc12 pm12 an12 cd12 ct12), sl12⟩)
    (c12 : PySem.W.codeIn K cd12 "_law_loop" = true)
    (k12 : PySem.W.keepIn K (.ref f12) = true)
    {f13 : Addr} {od13 an13 : Option Addr} {sl13 : Array (Option Value)} {oc13 kV13 dc13 pm13 cd13 ct13 : Value}
    (a13 : PySem.W.nsIn K mainGlobals "_law_is_fraction" = some (some (.ref f13)))
    (l13 : K.lookup f13 = some ⟨oc13, od13, .func (PySem.W.fnOf "_law_is_fraction" "_law_is_fraction" (defArgs s_l_is_fraction) (defBody s_l_is_fraction) (defScope s_l_is_fraction) .none kV13 dc13 pm13 an13 cd13 ct13), sl13⟩)
    (c13 : PySem.W.codeIn K cd13 "_law_is_fraction" = true)
    (k13 : PySem.W.keepIn K (.ref f13) = true)
    {f14 : Addr} {od14 an14 : Option Addr} {sl14 : Array (Option Value)} {oc14 kV14 dc14 pm14 cd14 ct14 : Value}
    (a14 : PySem.W.nsIn K mainGlobals "_law_size" = some (some (.ref f14)))
    (l14 : K.lookup f14 = some ⟨oc14, od14, .func (PySem.W.fnOf "_law_size" "_law_size" (defArgs s_size) (defBody s_size) (defScope s_size) .none kV14 dc14 pm14 an14 cd14 ct14), sl14⟩)
    (c14 : PySem.W.codeIn K cd14 "_law_size" = true)
    (k14 : PySem.W.keepIn K (.ref f14) = true)
    {f15 : Addr} {od15 an15 : Option Addr} {sl15 : Array (Option Value)} {oc15 kV15 dc15 pm15 cd15 ct15 : Value}
    (a15 : PySem.W.nsIn K mainGlobals "_law_weights" = some (some (.ref f15)))
    (l15 : K.lookup f15 = some ⟨oc15, od15, .func (PySem.W.fnOf "_law_weights" "_law_weights" (defArgs s_weights) (defBody s_weights) (defScope s_weights) .none kV15 dc15 pm15 an15 cd15 ct15), sl15⟩)
    (c15 : PySem.W.codeIn K cd15 "_law_weights" = true)
    (k15 : PySem.W.keepIn K (.ref f15) = true)
    {f16 : Addr} {od16 an16 : Option Addr} {sl16 : Array (Option Value)} {oc16 kV16 dc16 pm16 cd16 ct16 : Value}
    (a16 : PySem.W.nsIn K mainGlobals "_law_due" = some (some (.ref f16)))
    (l16 : K.lookup f16 = some ⟨oc16, od16, .func (PySem.W.fnOf "_law_due" "_law_due" (defArgs s_due) (defBody s_due) (defScope s_due) .none kV16 dc16 pm16 an16 cd16 ct16), sl16⟩)
    (c16 : PySem.W.codeIn K cd16 "_law_due" = true)
    (k16 : PySem.W.keepIn K (.ref f16) = true)
    {f17 : Addr} {od17 an17 : Option Addr} {sl17 : Array (Option Value)} {oc17 kV17 dc17 pm17 cd17 ct17 : Value}
    (a17 : PySem.W.nsIn K mainGlobals "law" = some (some (.ref f17)))
    (l17 : K.lookup f17 = some ⟨oc17, od17, .func (PySem.W.fnOf "law" "law" (defArgs s_law) (defBody s_law) (defScope s_law) .none kV17 dc17 pm17 an17 cd17 ct17), sl17⟩)
    (c17 : PySem.W.codeIn K cd17 "law" = true)
    (k17 : PySem.W.keepIn K (.ref f17) = true)
    (n_int : PySem.W.nsIn K mainGlobals "int" = some none)
    (n_len : PySem.W.nsIn K mainGlobals "len" = some none)
    (n_abs : PySem.W.nsIn K mainGlobals "abs" = some none)
    (n_repr : PySem.W.nsIn K mainGlobals "repr" = some none)
    (n_range : PySem.W.nsIn K mainGlobals "range" = some none)
    (n_isinstance : PySem.W.nsIn K mainGlobals "isinstance" = some none)
    (n_list : PySem.W.nsIn K mainGlobals "list" = some none)
    (n_tuple : PySem.W.nsIn K mainGlobals "tuple" = some none)
    (n_enumerate : PySem.W.nsIn K mainGlobals "enumerate" = some none)
    (n_bool : PySem.W.nsIn K mainGlobals "bool" = some none)
    (n_gcd : PySem.W.nsIn K mainGlobals "gcd" = some (some (.builtin "math.gcd")))
    : ∃ fd : FuncData, (∀ (s : Shared) (v : Value), BindsTo s fd ⟨[v], []⟩ [("script", v)]) ∧ ∀ base : Heap, K.In base → base.Ns mainGlobals mg →
      FnG l.prog w K mg base CX0 10 fa fd ["script"] (sp_law K) := by
  have e : f17 = fa := by
    cases hfa.symm.trans (PySem.W.mg_of X G a17)
    rfl
  subst e
  have T : Txt K mg (fun i => [f0, f1, f2, f3, f4, f5, f6, f7, f8, f9, f10, f11, f12, f13, f14, f15, f16, f17].getD i 0) (fun i => [(PySem.W.fnOf "is_integer" "is_integer" (defArgs s_is_integer) (defBody s_is_integer) (defScope s_is_integer) .none kV0 dc0 pm0 an0 cd0 ct0),
      (PySem.W.fnOf "is_fraction" "is_fraction" (defArgs s_is_fraction) (defBody s_is_fraction) (defScope s_is_fraction) .none kV1 dc1 pm1 an1 cd1 ct1),
      (PySem.W.fnOf "measure_error" "measure_error" (defArgs s_measure_error) (defBody s_measure_error) (defScope s_measure_error) .none kV2 dc2 pm2 an2 cd2 ct2),
      (PySem.W.fnOf "_law_jar" "_law_jar" (defArgs s_jar) (defBody s_jar) (defScope s_jar) .none kV3 dc3 pm3 an3 cd3 ct3),
      (PySem.W.fnOf "_law_draw" "_law_draw" (defArgs s_draw) (defBody s_draw) (defScope s_draw) .none kV4 dc4 pm4 an4 cd4 ct4),
      (PySem.W.fnOf "_law_pick" "_law_pick" (defArgs s_pick) (defBody s_pick) (defScope s_pick) .none kV5 dc5 pm5 an5 cd5 ct5),
      (PySem.W.fnOf "_law_gcd" "_law_gcd" (defArgs s_gcd) (defBody s_gcd) (defScope s_gcd) .none kV6 dc6 pm6 an6 cd6 ct6),
      (PySem.W.fnOf "_law_share" "_law_share" (defArgs s_share) (defBody s_share) (defScope s_share) .none kV7 dc7 pm7 an7 cd7 ct7),
      (PySem.W.fnOf "_law_die" "_law_die" (defArgs s_die) (defBody s_die) (defScope s_die) .none kV8 dc8 pm8 an8 cd8 ct8),
      (PySem.W.fnOf "_law_test" "_law_test" (defArgs s_test) (defBody s_test) (defScope s_test) .none kV9 dc9 pm9 an9 cd9 ct9),
      (PySem.W.fnOf "_law_step" "_law_step" (defArgs s_step) (defBody s_step) (defScope s_step) .none kV10 dc10 pm10 an10 cd10 ct10),
      (PySem.W.fnOf "_law_some_steps" "_law_some_steps" (defArgs s_some_steps) (defBody s_some_steps) (defScope s_some_steps) .none kV11 dc11 pm11 an11 cd11 ct11),
      (PySem.W.fnOf "_law_loop" "_law_loop" (defArgs s_loop) (defBody s_loop) (defScope s_loop) .none kV12 dc12 pm12 an12 cd12 ct12),
      (PySem.W.fnOf "_law_is_fraction" "_law_is_fraction" (defArgs s_l_is_fraction) (defBody s_l_is_fraction) (defScope s_l_is_fraction) .none kV13 dc13 pm13 an13 cd13 ct13),
      (PySem.W.fnOf "_law_size" "_law_size" (defArgs s_size) (defBody s_size) (defScope s_size) .none kV14 dc14 pm14 an14 cd14 ct14),
      (PySem.W.fnOf "_law_weights" "_law_weights" (defArgs s_weights) (defBody s_weights) (defScope s_weights) .none kV15 dc15 pm15 an15 cd15 ct15),
      (PySem.W.fnOf "_law_due" "_law_due" (defArgs s_due) (defBody s_due) (defScope s_due) .none kV16 dc16 pm16 an16 cd16 ct16),
      (PySem.W.fnOf "law" "law" (defArgs s_law) (defBody s_law) (defScope s_law) .none kV17 dc17 pm17 an17 cd17 ct17)].getD i (PySem.W.fnOf "is_integer" "is_integer" (defArgs s_is_integer) (defBody s_is_integer) (defScope s_is_integer) .none kV0 dc0 pm0 an0 cd0 ct0)) :=
    { F_is_integer := fun_mk (st := s_is_integer) l0 c0 k0,
      g_is_integer := PySem.W.mg_of X G a0,
      F_is_fraction := fun_mk (st := s_is_fraction) l1 c1 k1,
      g_is_fraction := PySem.W.mg_of X G a1,
      F_measure_error := fun_mk (st := s_measure_error) l2 c2 k2,
      g_measure_error := PySem.W.mg_of X G a2,
      F_jar := fun_mk (st := s_jar) l3 c3 k3,
      g_jar := PySem.W.mg_of X G a3,
      F_draw := fun_mk (st := s_draw) l4 c4 k4,
      g_draw := PySem.W.mg_of X G a4,
      F_pick := fun_mk (st := s_pick) l5 c5 k5,
      g_pick := PySem.W.mg_of X G a5,
      F_gcd := fun_mk (st := s_gcd) l6 c6 k6,
      g_gcd := PySem.W.mg_of X G a6,
      F_share := fun_mk (st := s_share) l7 c7 k7,
      g_share := PySem.W.mg_of X G a7,
      F_die := fun_mk (st := s_die) l8 c8 k8,
      g_die := PySem.W.mg_of X G a8,
      F_test := fun_mk (st := s_test) l9 c9 k9,
      g_test := PySem.W.mg_of X G a9,
      F_step := fun_mk (st := s_step) l10 c10 k10,
      g_step := PySem.W.mg_of X G a10,
      F_some_steps := fun_mk (st := s_some_steps) l11 c11 k11,
      g_some_steps := PySem.W.mg_of X G a11,
      F_loop := fun_mk (st := s_loop) l12 c12 k12,
      g_loop := PySem.W.mg_of X G a12,
      F_l_is_fraction := fun_mk (st := s_l_is_fraction) l13 c13 k13,
      g_l_is_fraction := PySem.W.mg_of X G a13,
      F_size := fun_mk (st := s_size) l14 c14 k14,
      g_size := PySem.W.mg_of X G a14,
      F_weights := fun_mk (st := s_weights) l15 c15 k15,
      g_weights := PySem.W.mg_of X G a15,
      F_due := fun_mk (st := s_due) l16 c16 k16,
      g_due := PySem.W.mg_of X G a16,
      F_law := fun_mk (st := s_law) l17 c17 k17,
      g_law := PySem.W.mg_of X G a17,
      z_int := PySem.W.mg_none_of X G n_int,
      z_len := PySem.W.mg_none_of X G n_len,
      z_abs := PySem.W.mg_none_of X G n_abs,
      z_repr := PySem.W.mg_none_of X G n_repr,
      range := PySem.W.mg_none_of X G n_range,
      z_isinstance := PySem.W.mg_none_of X G n_isinstance,
      z_list := PySem.W.mg_none_of X G n_list,
      z_tuple := PySem.W.mg_none_of X G n_tuple,
      enumerate := PySem.W.mg_none_of X G n_enumerate,
      z_bool := PySem.W.mg_none_of X G n_bool,
      z_gcd := PySem.W.mg_of X G n_gcd }
  exact ⟨_, fun s v => .of_eq rfl, fun base _ _ => T.ok_law⟩
end Ev

open PySem PySem.W PyProof.Rows in
set_option maxRecDepth 100000 in
set_option maxHeartbeats 0 in
theorem PySem.Challenge.cw_everystart_k51_what_measures_are_holds : PySem.Challenge.rw_everystart_k51_what_measures_are.Holds := by
  w_on; o_law; k_head; (case hw => w_witness2)
  k_fill
  refine Ev.walk_ofG (l := PySem.Challenge.rw_everystart_k51_what_measures_are) (n := 63) (k := 10) (x := "script") (sp := fun w => Ev.sp_law _) rfl (by decide) rfl ⟨rfl, by decide, by decide⟩ (fun w h Y => PySem.W.kIn_of Y) ?F (fun _ _ a ns hl _ hS => ⟨a, ns, rfl, hS, hl, fun _ => rfl⟩)
  case F =>
    intro w mg fa h KX G hmg
    refine' Ev.all_mk KX G hmg ?a0 ?l0 ?c0 ?k0 ?a1 ?l1 ?c1 ?k1 ?a2 ?l2 ?c2 ?k2 ?a3 ?l3 ?c3 ?k3 ?a4 ?l4 ?c4 ?k4 ?a5 ?l5 ?c5 ?k5 ?a6 ?l6 ?c6 ?k6 ?a7 ?l7 ?c7 ?k7 ?a8 ?l8 ?c8 ?k8 ?a9 ?l9 ?c9 ?k9 ?a10 ?l10 ?c10 ?k10 ?a11 ?l11 ?c11 ?k11 ?a12 ?l12 ?c12 ?k12 ?a13 ?l13 ?c13 ?k13 ?a14 ?l14 ?c14 ?k14 ?a15 ?l15 ?c15 ?k15 ?a16 ?l16 ?c16 ?k16 ?a17 ?l17 ?c17 ?k17 ?n_int ?n_len ?n_abs ?n_repr ?n_range ?n_isinstance ?n_list ?n_tuple ?n_enumerate ?n_bool ?n_gcd
    (case a0 => k_is)
    (case l0 => k_is)
    (case c0 => k_is)
    (case k0 => k_is)
    (case a1 => k_is)
    (case l1 => k_is)
    (case c1 => k_is)
    (case k1 => k_is)
    (case a2 => k_is)
    (case l2 => k_is)
    (case c2 => k_is)
    (case k2 => k_is)
    (case a3 => k_is)
    (case l3 => k_is)
    (case c3 => k_is)
    (case k3 => k_is)
    (case a4 => k_is)
    (case l4 => k_is)
    (case c4 => k_is)
    (case k4 => k_is)
    (case a5 => k_is)
    (case l5 => k_is)
    (case c5 => k_is)
    (case k5 => k_is)
    (case a6 => k_is)
    (case l6 => k_is)
    (case c6 => k_is)
    (case k6 => k_is)
    (case a7 => k_is)
    (case l7 => k_is)
    (case c7 => k_is)
    (case k7 => k_is)
    (case a8 => k_is)
    (case l8 => k_is)
    (case c8 => k_is)
    (case k8 => k_is)
    (case a9 => k_is)
    (case l9 => k_is)
    (case c9 => k_is)
    (case k9 => k_is)
    (case a10 => k_is)
    (case l10 => k_is)
    (case c10 => k_is)
    (case k10 => k_is)
    (case a11 => k_is)
    (case l11 => k_is)
    (case c11 => k_is)
    (case k11 => k_is)
    (case a12 => k_is)
    (case l12 => k_is)
    (case c12 => k_is)
    (case k12 => k_is)
    (case a13 => k_is)
    (case l13 => k_is)
    (case c13 => k_is)
    (case k13 => k_is)
    (case a14 => k_is)
    (case l14 => k_is)
    (case c14 => k_is)
    (case k14 => k_is)
    (case a15 => k_is)
    (case l15 => k_is)
    (case c15 => k_is)
    (case k15 => k_is)
    (case a16 => k_is)
    (case l16 => k_is)
    (case c16 => k_is)
    (case k16 => k_is)
    (case a17 => k_is)
    (case l17 => k_is)
    (case c17 => k_is)
    (case k17 => k_is)
    (case n_int => k_is)
    (case n_len => k_is)
    (case n_abs => k_is)
    (case n_repr => k_is)
    (case n_range => k_is)
    (case n_isinstance => k_is)
    (case n_list => k_is)
    (case n_tuple => k_is)
    (case n_enumerate => k_is)
    (case n_bool => k_is)
    (case n_gcd => k_is)
