import PyProof.Rows.All
import Wide.All
import OpenK.AllK
import Wide.FinOn
import PyProof.EqAt
import PyProof.EqKinds
import PyProof.TupleCall
import HandS.ForMost
import HandS.Exc
import HandS.TryOnly
import HandS.ExcOwn
import HandS.WordsExc
import HandS.Wide
import HandS.Gcd
import HandS.Property
import HandS.Defaults
import HandS.MakeKw
import HandS.IsInst
import HandS.Style
import HandS.MakeKwOnly
import HandS.Walk
import HandS.Codes
import HandS.More
import KE.KRevSl
import HandS.ExcCtx
import HandS.HotCalls
import HandS.ExcIs
import HandS.ExcInit
import HandS.ExcField
import HandS.ExcValue
import KE.RegKIsAll
import PySem.Challenge.RW_stirred_k72_errors_are_distinct
set_option Elab.async false
set_option linter.all false
set_option maxRecDepth 100000
set_option maxHeartbeats 4000000
/-! Defs that are run where no display is under way: their promise may use repr. -/
namespace G
open PySem PySem.Spec PyProof.Rows L2
section
variable {P : Program} {w : World} {K : PySem.W.Frag} {mg : Str → Option Value} {base : Heap}
/-- as FnOk, for callers where no display is under way -/
structure FnG (P : Program) (w : World) (K : PySem.W.Frag) (mg : Str → Option Value) (base : Heap)
    (k : Nat) (f : Addr) (fd : FuncData) (ps : List Str) (sp : Sp) : Prop where
  len : ∀ vs H Q E, sp vs H Q E →
    vs.length = ps.length
  run : ∀ (A : Around) (outer : List Env) (s : Shared) (H : Hp) (args : Args) (us : List Value) (vs : List V) (Q : VK) (E : XK),
    A.guards = some [] → Room k A → Env0 P w K mg base A outer s H → BindsTo s fd args (ps.zip us) → Vals vs us → sp vs H Q E →
    codeAny (model P w) A (.call (.ref f) args) (CR CX0 outer P w H s Q E) s

theorem of_ok {k : Nat} {f : Addr} {fd : FuncData} {ps : List Str} {sp : Sp} (F : FnOk P w K mg base CX0 k f fd ps sp) :
    FnG P w K mg base k f fd ps sp :=
  ⟨F.len, fun A outer s H args us vs Q E _ r e b v h => F.run A outer s H args us vs Q E r e b v h⟩

/-- a def by its body, no display under way -/
theorem fun_ok {x qual : Str} {st : Stmt} {f : Addr} {fd : FuncData} {N ps : List Str} {k : Nat} {sp : Sp} (F : Fun K x qual st f fd)
    (S : FnScope N ps (defScope st)) (len : ∀ vs H Q E, sp vs H Q E → vs.length = ps.length)
    (body : ∀ (cdv : Value) (A : Around) (outer : List Env) (s : Shared) (H : Hp) (vs : List V) (Q : VK) (E : XK), A.guards = some [] →
      Room k (A.deeper (envOfC qual (defScope st) s.heap.objs.size f cdv)) → sp vs H Q E →
      ∃ t, PSs (cxOf CX0 P w K mg base N qual (defScope st) f cdv A outer s H E).nox (defBody st) t ∧
        t { nx := fun _ H' => Q .non H', rt := Q } (start N vs) H) :
    FnG P w K mg base (k + 1) f fd ps sp := by
  obtain ⟨oc, od, kV, doc, pm, an, cdv, ct, osl, rfl, lk, hcd⟩ := F.ex
  refine ⟨len, fun A outer s H args us vs Q E hgd hr e0 hb r hsp => ?_⟩
  have hlen := len _ _ _ _ hsp
  have kin : K.In s.heap := e0.mod.kin.keeps fun b o e =>
    (e0.bs b o e).1
  have nolim : s.heap.NoLimit := e0.mod.nolimit.keeps fun b o e =>
    (e0.bs b o e).1
  have kinds : ∀ y ∈ ps.zip us, (defScope st).names.lookup y.1 = some .local ∨ ((defScope st).names.lookup y.1 = some .cell ∧
      ((cellsFrom (s.heap.objs.size + 1) (defScope st).names []).lookup y.1).isSome = true) := by
    rintro ⟨n, v⟩ hy
    exact (S.par n (List.of_mem_zip hy).1).elim (fun q => .inl q) fun q => .inr ⟨q, PySem.W.cellsFrom_some _ _ _ (.inl q)⟩
  refine codeAny_call_function hr.depth (kin _ _ lk) rfl S.co S.gen rfl
    (PySem.W.codeRec_of kin hcd) (hb _ _ _ _ ?_)
  refine wpAny_newFunctionEnv_cells S.kind kinds fun env he s1 x => ?_
  subst he
  refine ⟨nolim.keeps x.toInCall.keep, codeAny_func ?_⟩
  obtain ⟨t, ht0, hq⟩ := body cdv A outer s H vs Q E hgd (hr.deeper _) hsp
  have ht := ht0.nox
  have I0 : Inv (cxOf CX0 P w K mg base N qual (defScope st) f cdv A outer s H E) [] (start N vs) H s1 :=
    inv_start S hr.hd e0 hlen r x
  refine wpAny_mono (ht.run [] s1 (start N vs) H _ I0 hq) (fun fl s' hs => ?_) fun e s' hs => hs
  cases fl with
  | ret u =>
    obtain ⟨v, σ', H', J, rv, q⟩ := hs
    exact ⟨v, H', J.os, J.bare, J.base, J.hok, rv, q⟩
  | next =>
    obtain ⟨σ', H', J, q⟩ := hs
    exact ⟨V.non, H', J.os, J.bare, J.base, J.hok, rfl, q⟩
  | brk => exact hs.elim fun _ h => h.elim fun _ h => False.elim h.2
  | cont => exact hs.elim fun _ h => h.elim fun _ h => False.elim h.2
end

section
variable {X : Cx} {k : Nat} {f : Addr} {fd : FuncData} {ps : List Str} {sp : Sp} {dvs : List V} {ds : List Value} {E : XK} {x : Str} {p pos : Pos} {e : Expr} {es : List Expr} {t : TA}
theorem run_g {pins : List (Addr × Obj)} {σ : L2.St} {H : Hp} {s : Shared} {Q : VK} {us : List Value} {vs : List V} (F : FnG X.prog X.w X.K X.mg X.base k f fd ps sp)
    (hg : X.A.guards = some []) (hr : Room k X.A) (hb : Binds X.K fd ps ds) (hd : Vals dvs ds)
    (I : Inv X pins σ H s) (r : Vals vs us) (h : sp (vs ++ dvs) H Q E) : wpAny (model X.prog X.w) X.A (call (.ref f) us) (EP X pins σ Q) X.xe s := by
  have rr : Vals (vs ++ dvs) (us ++ ds) := r.append hd
  refine wpAny_call (codeAny_mono (F.run X.A X.stack s H ⟨us, []⟩ (us ++ ds) (vs ++ dvs) Q E hg hr I.env0
    (hb s us I.kIn (by rw [← rr.length]; exact F.len _ _ _ _ h)) rr h) fun r s' hq => ?_)
  match r, hq with
  | .ok (.ret u), hq => exact I.after hq
/-- f(e, ..), f such a def -/
theorem pe_callG (F : FnG X.prog X.w X.K X.mg X.base k f fd ps sp) (hgd : X.A.guards = some []) (hr : Room k X.A) (hg : Gl X x) (hm : X.mg x = some (.ref f)) (hk : PySem.W.keepIn X.K (.ref f) = true)
    (hb : Binds X.K fd ps ds) (hd : Vals dvs ds) (ha : PA X (e :: es) t) (hdb : (x == ("__debug__" : Str)) = false := by decide)
    (he : starEach (e :: es) X.env = (false, eval e X.env) :: starEach es X.env := by rfl) (hpl : (backTo pos (starEach es X.env)).any (·.1) = false := by rfl) :
    PE X (.Call (.Name x p) (e :: es) [] pos) (tCall sp dvs E0 t) := by
  refine ⟨fun pins s σ H Q I h => wpAny_Call_Name_kw (ld_glob I hg hm ?_ hdb)⟩
  exact PySem.W.callWith_K (h₀ := X.base) I.ok.mod.kin hk (thn (ha.run pos pins s σ H _ I h) fun us s1 ⟨vs, H1, I1, r, q⟩ =>
    ⟨I1.kIn, run_g F hgd hr hb hd I1 r q⟩) he hpl
end

/-! ### the end: a law's def of this kind -/
/-- base, the heap behind the top without what is tracked, is where the callee starts -/
theorem start_at {P : Program} {w : World} {K : PySem.W.Frag} {mg mb : Str → Option Value} {a : Addr} {s : Shared} {us : List Value} {ns : List Int}
    (kin : K.In s.heap) (hn : s.heap.Ns mainGlobals mg) (hb : s.heap.Ns builtinsNs mb) (hbb : ∀ x : Str, x ≠ "__name__" → mb x = bootBuiltins x)
    (hlim : s.heap.NoLimit) (hg : s.gens = #[]) (ha : s.heap.get? a = some { cls := .type "list", data := .seq us.toArray })
    (hi : IntsAre us ns) (hl : ns.length ≤ sizeLine) :
    ∃ H : Hp, Only H ∧ SqL K H a (ns.map V.int) ∧ K.In (hidT s.heap H) ∧ (hidT s.heap H).Ns mainGlobals mg ∧
      Env0 P w K mg (hidT s.heap H) callerA [] s H ∧ HOk P w H s.heap := by
  have rv := vals_ints hi
  have lenU := hi.length
  have main : ∀ H : Hp, HOk P w H s.heap → (∀ b, H b ≠ none → b = a ∧ K.lookup a = none) →
      K.In (hidT s.heap H) ∧ (hidT s.heap H).Ns mainGlobals mg ∧ Env0 P w K mg (hidT s.heap H) callerA [] s H ∧ HOk P w H s.heap := by
    intro H hok only
    have free : ∀ {b : Addr}, b ≠ a → H b = none := fun {b} hne => by
      cases q : H b with
      | none => rfl
      | some u => exact absurd (only b (by rw [q]; exact fun z => nomatch z)).1 hne
    have notDict : ∀ {b : Addr} {o : Obj} {es : Array DictEntry} {n : Nat}, s.heap.get? b = some o → o.data = .dict es n → b ≠ a := by
      rintro b o es n e d rfl
      rw [ha] at e
      cases e
      exact nomatch (show Data.seq us.toArray _ = Data.dict es n from d)
    have spaces : ∀ {b : Addr} {m : Str → Option Value}, s.heap.Ns b m → (hidT s.heap H).Ns b m := by
      rintro b m ⟨o, es, n, e, d, r⟩
      exact ⟨o, es, n, hidT_get e (free (notDict e d)), d, r⟩
    have kin2 : K.In (hidT s.heap H) := by
      intro b o e
      refine hidT_get (kin b o e) ?_
      cases q : H b with
      | none => rfl
      | some u =>
        obtain ⟨e1, e2⟩ := only b (by rw [q]; exact fun z => nomatch z)
        rw [e1, e2] at e
        cases e
    obtain ⟨mc, l1, l2⟩ := hlim
    refine ⟨kin2, spaces hn, ⟨rfl, ⟨kin2, spaces hn, ⟨mb, spaces hb, hbb⟩, ⟨mc, spaces l1, l2⟩⟩, fun b o e => of_hidT e, Nat.le_of_eq (hidT_size _ _), trivial, ?_, hok, .of_eq hg⟩, hok⟩
    exact fun b hb => absurd (show b ∈ ([] : List Addr) from hb) (by simp)
  cases lk : K.lookup a with
  | some o =>
    have e := kin a o lk
    rw [ha] at e
    cases e
    refine ⟨fun _ => none, fun _ => .inl rfl, .inr ⟨_, us.toArray, _, lk, rfl, rfl, rfl, ?_, ?_⟩, main _ ?_ ?_⟩
    · rw [List.size_toArray, lenU]; exact hl
    · simpa using rv
    · exact fun b u z => nomatch (show (none : Option HO) = some u from z)
    · exact fun b z => absurd rfl z
  | none =>
    have at_ : ∀ b, (if b = a then some (HO.frz { cls := .type "list", data := .seq us.toArray } (.lst (ns.map V.int))) else none) ≠ none → b = a := fun b z => by
      by_cases hb : b = a
      · exact hb
      · exact absurd (if_neg hb) z
    refine ⟨fun b => if b = a then some (.frz { cls := .type "list", data := .seq us.toArray } (.lst (ns.map V.int))) else none, fun b => ?_, .inl (.inr ⟨{ cls := .type "list", data := .seq us.toArray }, if_pos rfl⟩), main _ ?_ ?_⟩
    · by_cases hb : b = a
      · exact .inr ⟨_, _, if_pos hb⟩
      · exact .inl (if_neg hb)
    · intro b u z
      by_cases hb : b = a
      · have zz := (if_pos hb).symm.trans z
        cases zz
        subst hb
        exact ⟨ha, by rw [List.length_map]; exact hl, us, _, rv, ha⟩
      · have zz := (if_neg hb).symm.trans z
        cases zz
    · exact fun b z => ⟨at_ b z, lk⟩

/-- the goal that the head leaves, from the promise of the law's def (as walk_of) -/
theorem walk_ofG {l : PySem.W.OpenLaw} {n k : Nat} {q : Program} {loose : List Str} {XP : (Str → Option Value) → Heap → Prop} {YP : World → Heap → Prop} {d : DefRec} {K : Params → PySem.W.Frag} {sp : World → Sp} {x : Str}
    (hn : l.most = some n) (hn2 : n ≤ sizeLine) (hdf : d.params.defaults = []) (hr : Room k callerA)
    (hY : ∀ (w : World) (h : Heap), YP w h → (K w.params).In h)
    (F : ∀ (w : World) (mg : Str → Option Value) (fa : Addr) (h : Heap), (K w.params).In h → h.Ns mainGlobals mg → mg d.name = some (.ref fa) → ∃ fd : FuncData,
      (∀ (s : Shared) (u : Value), BindsTo s fd ⟨[u], []⟩ [(x, u)]) ∧
      ∀ base : Heap, (K w.params).In base → base.Ns mainGlobals mg → FnG l.prog w (K w.params) mg base k fa fd [x] (sp w))
    (hsp : ∀ (w : World) (H : Hp) (a : Addr) (ns : List Int), ns.length ≤ n → Only H → SqL (K w.params) H a (ns.map V.int) →
      sp w [.ref a] H (fun v _ => v = .bl true) fun _ _ _ => False) :
    PySem.W.WalkO q loose XP YP l.row.toRowW d [] (fun f vs => PySem.call f vs) := by
  refine Att.attach_call hn hdf fun w s₀ s mg mb fa o pm cd doc a us ns G Y _ _ _ hmg hobj hints hlen hg => ?_
  have kin := hY w _ Y
  obtain ⟨fd, hb, hF⟩ := F w mg fa _ kin G.T.g hmg
  obtain ⟨H, hO, hS, k1, k2, e0, hok⟩ := start_at (P := l.prog) (w := w) kin G.T.g G.T.b G.T.builtins G.T.nolimit hg hobj hints (Nat.le_trans hlen hn2)
  refine codeAny_mono ((hF _ k1 k2).run callerA [] s H ⟨[.ref a], []⟩ [.ref a] [.ref a] _ _ rfl hr e0 (hb s (.ref a)) (.cons rfl .nil) (hsp w H a ns hlen hO hS)) fun r s' h => ?_
  match r, h with
  | .ok (.ret u), h =>
    obtain ⟨v, H', os, bare, un, hok', r', q⟩ := h
    obtain rfl : v = .bl true := q
    obtain rfl : u = Value.bool true := r'
    refine ⟨rfl, OldK.of_keep fun b o e => ?_, os, bare⟩
    cases q : H b with
    | none => exact un.keep b o e q (fun z => absurd (show b ∈ ([] : List Addr) from z) (by simp)) (by simp)
    | some u =>
      rcases hO b with z | ⟨ob, xs, z⟩
      · rw [q] at z; cases z
      · obtain ⟨e1, _⟩ := hok b _ z
        obtain ⟨e2, _⟩ := hok' b _ (un.frzs b ob _ z)
        rw [e] at e1
        cases e1
        exact e2

/-! ### repr -/
mutual
/-- ints below 2 ^ 1900, no texts, no dicts -/
def lim : PyData → Prop
  | .none | .bool _ => True
  | .int i => i.natAbs < 2 ^ 1900
  | .str _ | .dict _ => False
  | .list xs | .tuple xs => limAll xs
def limAll : List PyData → Prop
  | [] => True
  | x :: xs => lim x ∧ limAll xs
end
mutual
def cnt : PyData → Nat
  | .none | .bool _ | .int _ | .str _ | .dict _ => 1
  | .list xs | .tuple xs => cntAll xs + 1
def cntAll : List PyData → Nat
  | [] => 0
  | x :: xs => cnt x + cntAll xs
end
mutual
theorem lim_show : ∀ d : PyData, lim d → d.showable = true ∧ d.hasDict = false
  | .none, _ => ⟨by simp only [PyData.showable], by simp only [PyData.hasDict]⟩
  | .bool _, _ => ⟨by simp only [PyData.showable], by simp only [PyData.hasDict]⟩
  | .int i, h => ⟨by
      simp only [PyData.showable, decide_eq_true_eq]
      have h : i.natAbs < 2 ^ 1900 := by simpa only [lim] using h
      exact Nat.lt_of_lt_of_le (PySem.Flt.log2_lt_of (by decide) h) (by decide), by simp only [PyData.hasDict]⟩
  | .str _, h => by simp only [lim] at h
  | .dict _, h => by simp only [lim] at h
  | .list xs, h => by
    obtain ⟨a, b⟩ := limAll_show xs (by simpa only [lim] using h)
    exact ⟨by simpa only [PyData.showable] using a, by simpa only [PyData.hasDict] using b⟩
  | .tuple xs, h => by
    obtain ⟨a, b⟩ := limAll_show xs (by simpa only [lim] using h)
    exact ⟨by simpa only [PyData.showable] using a, by simpa only [PyData.hasDict] using b⟩
theorem limAll_show : ∀ xs : List PyData, limAll xs → PyData.showableAll xs = true ∧ PyData.hasDictAll xs = false
  | [], _ => ⟨by simp only [PyData.showableAll], by simp only [PyData.hasDictAll]⟩
  | x :: xs, h => by
    obtain ⟨h1, h2⟩ : lim x ∧ limAll xs := by simpa only [limAll] using h
    obtain ⟨a, b⟩ := lim_show x h1
    obtain ⟨c, d⟩ := limAll_show xs h2
    exact ⟨by simp only [PyData.showableAll, a, c, Bool.and_self], by simp only [PyData.hasDictAll, b, d, Bool.or_self]⟩
end
theorem int_len {i : Int} (h : i.natAbs < 2 ^ 1900) : (PyData.shown (.int i)).length ≤ 1901 := by
  have e := int_text_length_le (k := 1900) (a := i) (by decide) (PySem.Flt.log2_lt_of (by decide) h)
  rw [← PySem.ofString_length] at e
  simp only [PyData.shown]
  exact e
mutual
theorem lim_len : ∀ d : PyData, lim d → d.shown.length + 10 ≤ 2000 * cnt d
  | .none, _ => by
    have e : (PyData.shown .none).length = 4 := rfl
    simp only [cnt]; omega
  | .bool b, _ => by
    have e : (PyData.shown (.bool b)).length ≤ 5 := by cases b <;> decide
    simp only [cnt]; omega
  | .int i, h => by
    have e := int_len (by simpa only [lim] using h)
    simp only [cnt]
    omega
  | .str _, h => by simp only [lim] at h
  | .dict _, h => by simp only [lim] at h
  | .list xs, h => by
    have a := limAll_len xs (by simpa only [lim] using h)
    have b := listText_len_le (PyData.shownAll xs)
    have c := PyData.shownAll_length xs
    simp only [PyData.shown, cnt]
    omega
  | .tuple xs, h => by
    have a := limAll_len xs (by simpa only [lim] using h)
    have b := tupleText_len_le (PyData.shownAll xs)
    have c := PyData.shownAll_length xs
    simp only [PyData.shown, cnt]
    omega
theorem limAll_len : ∀ xs : List PyData, limAll xs → ((PyData.shownAll xs).map (·.length)).sum + 2 * xs.length ≤ 2000 * cntAll xs
  | [], _ => by simp [PyData.shownAll]
  | x :: xs, h => by
    obtain ⟨h1, h2⟩ : lim x ∧ limAll xs := by simpa only [limAll] using h
    have a := lim_len x h1
    have b := limAll_len xs h2
    simp only [PyData.shownAll, cntAll, List.map_cons, List.sum_cons, List.length_cons] at *
    omega
end
section
variable {X : Cx}
/-- repr of data: its text -/
def rRepr (K : PySem.W.Frag) : List V → Hp → VK → Prop := fun vs H Q => ∃ a d, vs = [.ref a] ∧ Dp K H (.ref a) d ∧ lim d ∧ cnt d ≤ 8000 ∧ d.depth ≤ 40 ∧ Q (.str d.shown) H
theorem call_repr (hg : X.A.guards = some []) (hu : X.A.units + 64 < cLine) : CallR X (.builtin "repr") (rRepr X.K) := by
  intro pins s σ H vs us Q I r h
  obtain ⟨a, d, rfl, hd, hl, hc, hdp, q⟩ := h
  obtain ⟨hs, hn⟩ := lim_show d hl
  have hsz : d.shown.length ≤ sizeLine := by
    have := lim_len d hl
    rw [show sizeLine = 16777216 from sizeLine_eq]
    omega
  cases r with
  | cons rv rn =>
    cases rn
    obtain ⟨as, rd⟩ := Dp.reads I d _ _ hd rv
    obtain rfl := (show _ = Value.ref a from rv)
    refine repr_of_reads' rd hs (fun z => by rw [hn] at z; cases z) hg (by omega) (fun _ _ e => e) (fun h' u tk hk => ?_) hsz
    exact ⟨.str _, H, I.kept hk, ⟨_, rfl⟩, q⟩
end
end G

/-! Readings taken step by step: one lemma a head, the continuation last. -/
namespace G
open PySem PySem.Spec L2
section
variable {σ : L2.St} {H : Hp} {i j : Nat} {v x y : V} {Q : VK} {ta tb te : TE} {K : PySem.W.Frag} {D : Ends} {t u : TS} {tt tu : TT} {tr : TA} {QT : Bool → Hp → Prop} {QA : List V → Hp → Prop}
theorem w_var (h : σ[i]? = some (some v)) (q : Q v H) : tVar i σ H Q := ⟨v, h, q⟩
theorem w_c (q : Q v H) : tC v σ H Q := q
theorem w_op {r : R2} (q : ta σ H fun x H1 => tb σ H1 fun y H2 => r x y H2 Q) : tOp r ta tb σ H Q := q
theorem w_un {r : V → Hp → VK → Prop} (q : ta σ H fun x H1 => r x H1 Q) : tUn r ta σ H Q := q
theorem w_cb {r : List V → Hp → VK → Prop} (q : tr σ H fun vs H1 => r vs H1 Q) : tCB r tr σ H Q := q
theorem w_nil (q : QA [] H) : tNil σ H QA := q
theorem w_cons (q : te σ H fun x H1 => tr σ H1 fun xs H2 => QA (x :: xs) H2) : tCons te tr σ H QA := q
theorem w_I0 {g : Int → Int → V} {a b : Int} (q : Q (g a b) H) : rI0 g (.int a) (.int b) H Q := ⟨a, b, rfl, rfl, q⟩
theorem w_I {C : Int → Int → Prop} {g : Int → Int → V} {a b : Int} (c : C a b) (q : Q (g a b) H) : rI C g (.int a) (.int b) H Q := ⟨a, b, rfl, rfl, c, q⟩
theorem w_U {g : Int → V} {a : Int} (q : Q (g a) H) : rU g (.int a) H Q := ⟨a, rfl, q⟩
theorem w_eq (h : scal x y = true) (q : Q (.bl (decide (x = y))) H) : rEq x y H Q := ⟨h, q⟩
theorem w_ne (h : scal x y = true) (q : Q (.bl (!decide (x = y))) H) : rNe x y H Q := ⟨h, q⟩
theorem w_eqI {a b : Int} (q : Q (.bl (decide (a = b))) H) : rEq (.int a) (.int b) H Q := ⟨rfl, by
  have e : decide (V.int a = V.int b) = decide (a = b) := by
    by_cases h : a = b
    · rw [h]; simp
    · rw [decide_eq_false h, decide_eq_false fun z => h (by injection z)]
  rw [e]; exact q⟩
theorem w_neI {a b : Int} (q : Q (.bl (!decide (a = b))) H) : rNe (.int a) (.int b) H Q := ⟨rfl, by
  have e : decide (V.int a = V.int b) = decide (a = b) := by
    by_cases h : a = b
    · rw [h]; simp
    · rw [decide_eq_false h, decide_eq_false fun z => h (by injection z)]
  rw [e]; exact q⟩
theorem w_test (q : te σ H fun x H1 => ∃ k, x = .bl k ∧ QT k H1) : tTest te σ H QT := q
theorem w_tB (q : te σ H fun x H1 => ∃ k, x = .bl k ∧ QT k H1) : tB te σ H QT := q
theorem w_bl {b : Bool} {P : Bool → Prop} (q : P b) : ∃ k, V.bl b = .bl k ∧ P k := ⟨b, rfl, q⟩
theorem w_not (q : tt σ H fun c H1 => QT (!c) H1) : tNot tt σ H QT := q
theorem w_and (q : tt σ H fun c H1 => if c = true then tu σ H1 QT else QT false H1) : tAnd tt tu σ H QT := q
theorem w_or (q : tt σ H fun c H1 => if c = true then QT true H1 else tu σ H1 QT) : tOr tt tu σ H QT := q
theorem w_andV (q : ta σ H fun x H1 => ∃ c, x = .bl c ∧ if c = true then tb σ H1 Q else Q (.bl false) H1) : tAndV ta tb σ H Q := q
theorem w_orV (q : ta σ H fun x H1 => ∃ c, x = .bl c ∧ if c = true then Q (.bl true) H1 else tb σ H1 Q) : tOrV ta tb σ H Q := q
theorem w_notV (q : ta σ H fun x H1 => ∃ c, x = .bl c ∧ Q (.bl (!c)) H1) : tNotV ta σ H Q := q
theorem w_tif (q : tt σ H fun c H1 => if c = true then ta σ H1 Q else tb σ H1 Q) : tIf tt ta tb σ H Q := q
theorem w_ite {b : Bool} {A B : Prop} (h1 : b = true → A) (h2 : b = false → B) : if b = true then A else B := by
  cases b with
  | true => exact h1 rfl
  | false => exact h2 rfl
theorem w_iteT {b : Bool} {A B : Prop} (e : b = true) (h1 : A) : if b = true then A else B := by rw [if_pos e]; exact h1
theorem w_iteF {b : Bool} {A B : Prop} (e : b = false) (h1 : B) : if b = true then A else B := by rw [e]; exact h1
/-! statements -/
theorem w_seq (q : t { nx := u D, rt := D.rt, bk := D.bk, ct := D.ct } σ H) : tSeq t u D σ H := q
theorem w_next (q : D.nx σ H) : tNext D σ H := q
theorem w_brk (q : D.bk σ H) : tBreak D σ H := q
theorem w_cont (q : D.ct σ H) : tCont D σ H := q
theorem w_ret (q : te σ H D.rt) : tRet te D σ H := q
theorem w_retN (q : D.rt .non H) : tRetN D σ H := q
theorem w_drop (q : te σ H fun _ H1 => D.nx σ H1) : tDrop te D σ H := q
theorem w_asg {g : TG} (q : te σ H fun x H1 => g x σ H1 D.nx) : tAsg te g D σ H := q
theorem w_gn {R : L2.St → Hp → Prop} (q : R (σ.set i (some v)) H) : gName i v σ H R := q
theorem w_if (q : tt σ H fun b H1 => if b = true then t D σ H1 else u D σ H1) : tIfS tt t u D σ H := q
theorem w_par (q : tr σ H fun vs H1 => ∃ v w, vs = [v, w] ∧ D.nx ((σ.set i (some v)).set j (some w)) H1) : tPar i j tr D σ H := q
theorem w_par2 {a b : V} {P : V → V → Prop} (q : P a b) : ∃ v w, [a, b] = [v, w] ∧ P v w := ⟨a, b, rfl, q⟩
/-! displays, items -/
theorem same_new {p : Addr} {o : HO} (h : H p = none) : Same H (upd H p o) := fun c u e => by rw [upd_ne (ne_of_none e h)]; exact e
/-- a new object: the heap is a letter again behind it -/
def Alloc (mk : List V → HO) (Q : VK) : List V → Hp → Prop := fun xs H1 => xs.length ≤ sizeLine ∧ ∀ p, H1 p = none → Q (.ref p) (upd H1 p (mk xs))
theorem w_tup (q : tr σ H (Alloc HO.tup Q)) : tTup tr σ H Q := q
theorem w_lst (q : tr σ H (Alloc HO.lst Q)) : tLst tr σ H Q := q
theorem w_alloc {mk : List V → HO} {xs : List V} (h : decide (xs.length ≤ 16777216) = true) (q : ∀ p H', H p = none → Same H H' → H' p = some (mk xs) → Q (.ref p) H') : Alloc mk Q xs H :=
  ⟨by rw [show sizeLine = 16777216 from sizeLine_eq]; exact of_decide_eq_true h, fun p hp => q p _ hp (same_new hp) upd_same⟩
theorem w_size {n : Nat} {A : Prop} (h : decide (n ≤ 16777216) = true) (q : A) : n ≤ sizeLine ∧ A := ⟨by rw [show sizeLine = 16777216 from sizeLine_eq]; exact of_decide_eq_true h, q⟩
end
end G
namespace G
open PySem PySem.Spec L2
section
variable {σ : L2.St} {H : Hp} {v x y : V} {Q : VK} {ta tb te : TE} {K : PySem.W.Frag} {D : Ends} {tr tk : TA} {sp : Sp} {dvs : List V} {E : XK} {f : Str} {C a dx : Addr} {fs : List (Str × V)}
theorem w_call (q : tr σ H fun vs H1 => sp (vs ++ dvs) H1 Q E) : tCall sp dvs E tr σ H Q := q
theorem w_fld (q : ta σ H fun x H1 => ∃ a C dx fs v, x = .ref a ∧ H1 a = some (.ins C dx fs) ∧ Cls K C ∧ NoAttr K C f ∧ fs.lookup f = some v ∧ Q v H1) : tFld K ta f σ H Q := q
theorem w_fld1 {R : V → Prop} (ho : H a = some (.ins C dx fs)) (hc : Cls K C) (hn : NoAttr K C f) (hl : fs.lookup f = some v) (q : R v) :
    ∃ b C dx fs w, V.ref a = .ref b ∧ H b = some (.ins C dx fs) ∧ Cls K C ∧ NoAttr K C f ∧ fs.lookup f = some w ∧ R w := ⟨a, C, dx, fs, v, rfl, ho, hc, hn, hl, q⟩
theorem w_sfld (q : te σ H fun y H1 => ta σ H1 fun x H2 => ∃ a C dx fs, x = .ref a ∧ H2 a = some (.ins C dx fs) ∧ Cls K C ∧ NoAttr K C f ∧ fs.length < 1000 ∧ D.nx σ (upd H2 a (.ins C dx (putF f y fs)))) : sFld K ta te f D σ H := q
theorem w_sfld1 (ho : H a = some (.ins C dx fs)) (hc : Cls K C) (hn : NoAttr K C f) (hl : fs.length < 1000) {y : V} {S : L2.St → Hp → Prop} (q : S σ (upd H a (.ins C dx (putF f y fs)))) :
    ∃ b C dx fs, V.ref a = .ref b ∧ H b = some (.ins C dx fs) ∧ Cls K C ∧ NoAttr K C f ∧ fs.length < 1000 ∧ S σ (upd H b (.ins C dx (putF f y fs))) := ⟨a, C, dx, fs, rfl, ho, hc, hn, hl, q⟩
theorem w_prop (q : ta σ H fun x H1 => ∃ a dx fs, x = .ref a ∧ H1 a = some (.ins C dx fs) ∧ sp (.ref a :: dvs) H1 Q E) : tProp C sp dvs E ta σ H Q := q
theorem w_make (q : tr σ H fun vs H1 => ∀ x dx, H1 x = none → H1 dx = none → dx ≠ x → sp (.ref x :: (vs ++ dvs)) (upd (upd H1 dx (.own x)) x (.ins C dx [])) (fun v H2 => v = .non ∧ Q (.ref x) H2) E) : tMake C sp dvs E tr σ H Q := q
theorem w_meth {m : Str} (q : ta σ H fun x H1 => ∃ a dx fs, x = .ref a ∧ H1 a = some (.ins C dx fs) ∧ fs.lookup m = none ∧ tr σ H1 fun vs H2 => sp (x :: (vs ++ dvs)) H2 Q E) : tMeth C m sp dvs E ta tr σ H Q := q
theorem w_ixL {p : Addr} {xs : List V} {i : Int} (h : SqL K H p xs) (e : atI xs i = some v) (q : Q v H) : rIxL K (.ref p) (.int i) H Q := ⟨p, xs, i, v, rfl, rfl, h, e, q⟩
theorem w_ixT {p : Addr} {xs : List V} {i : Int} (h : SqT K H p xs) (e : atI xs i = some v) (q : Q v H) : rIxT K (.ref p) (.int i) H Q := ⟨p, xs, i, v, rfl, rfl, h, e, q⟩
theorem w_setL {p : Addr} {xs : List V} {i : Int} {j : Nat} {R : Hp → Prop} (h : H p = some (.lst xs)) (e : ixN xs.length i = some j) (q : R (upd H p (.lst (xs.set j v)))) : rSetL (.ref p) (.int i) v H R := ⟨p, xs, i, j, rfl, rfl, h, e, q⟩
theorem w_gsub {to ti : TE} {t : TSet} {R : L2.St → Hp → Prop} (q : to σ H fun o H1 => ti σ H1 fun i H2 => t o i v H2 fun H3 => R σ H3) : gSub to ti t v σ H R := q
end
end G
namespace G
open PySem PySem.Spec L2
section
variable {σ : L2.St} {H : Hp} {v x y : V} {Q : VK} {ta tb te : TE} {K : PySem.W.Frag} {D : Ends} {tr tk : TA} {sp : Sp} {dvs : List V} {E : XK} {C a dx : Addr} {tb : TS} {g : TG} {wi : TI}
/-- a walk J from the heap H on: the invariant that is asked -/
def ForW (J : It) (g : TG) (tb : TS) (D : Ends) (σ : L2.St) (H : Hp) : Prop := ∃ W : Nat → Nat → L2.St → Hp → Prop, (∃ m, W 0 m σ H) ∧ ∀ i m σ H, W i m σ H →
  (J.stop i H ∧ D.nx σ H) ∨ (J.go i H ∧ ∃ N : L2.St → Hp → Prop, (∀ σ' H', N σ' H' → ∃ m', m' < m ∧ W (i + 1) m' σ' H') ∧ ∀ x H', J.yld i H x H' → g x σ H' fun σ2 H2 => tb { D with nx := N, ct := N, bk := D.nx } σ2 H2)
theorem w_for (q : wi σ H fun J H1 => ForW J g tb D σ H1) : tFor wi g tb D σ H := q
theorem w_iList {te : TE} {R : It → Hp → Prop} (q : te σ H fun x H1 => ∃ a, x = .ref a ∧ (∃ xs, SqL K H1 a xs) ∧ R (Itl K a) H1) : iList K te σ H R := q
theorem w_iTup {te : TE} {R : It → Hp → Prop} (q : te σ H fun x H1 => ∃ a, x = .ref a ∧ (∃ xs, SqT K H1 a xs) ∧ R (Itt K a) H1) : iTup K te σ H R := q
/-- a list, one name -/
theorem w_walkL {j : Nat} {xs : List V} (hl : SqL K H a xs) (Pv : Nat → L2.St → Hp → Prop) (h0 : Pv 0 σ H) (hk : ∀ i σ' H', i ≤ xs.length → Pv i σ' H' → SqL K H' a xs)
    (hs : ∀ (i : Nat) x σ' H', xs[i]? = some x → Pv i σ' H' → tb { nx := Pv (i + 1), rt := D.rt, ct := Pv (i + 1), bk := D.nx } (σ'.set j (some x)) H') (hd : ∀ σ' H', Pv xs.length σ' H' → D.nx σ' H') :
    ∃ b, V.ref a = .ref b ∧ (∃ xs, SqL K H b xs) ∧ ForW (Itl K b) (gName j) tb D σ H := ⟨a, rfl, ⟨_, hl⟩, for_list Pv h0 hk hs hd⟩
/-- for .. in range(n) -/
theorem w_forR1 {j : Nat} {n : Int} (hv : ∀ R : List V → Hp → Prop, R [.int n] H → tr σ H R) (hn : 0 ≤ n ∧ n ≤ 1000000) (Pv : Nat → L2.St → Hp → Prop) (h0 : Pv 0 σ H)
    (hs : ∀ (i : Nat) σ' H', (i : Int) < n → Pv i σ' H' → tb { nx := Pv (i + 1), rt := D.rt, ct := Pv (i + 1), bk := D.nx } (σ'.set j (some (.int (i : Int)))) H') (hd : ∀ σ' H', Pv n.toNat σ' H' → D.nx σ' H') : tFor (iRng1 tr) (gName j) tb D σ H := by
  refine hv _ ⟨n, rfl, by omega, by omega, for_range (lo := 0) (n := n.toNat) Pv h0 (fun i σ' H' hi p => ?_) hd⟩
  have e0 : (0 : Int) + (i : Int) = (i : Int) := Int.zero_add _
  show tb { nx := Pv (i + 1), rt := D.rt, ct := Pv (i + 1), bk := D.nx } (σ'.set j (some (.int ((0 : Int) + (i : Int))))) H'
  rw [e0]
  exact hs i σ' H' (by omega) p
/-- for .. in a list -/
theorem w_forL {j : Nat} {xs : List V} (hv : ∀ R : V → Hp → Prop, R (.ref a) H → te σ H R) (hl : SqL K H a xs) (Pv : Nat → L2.St → Hp → Prop) (h0 : Pv 0 σ H) (hk : ∀ i σ' H', i ≤ xs.length → Pv i σ' H' → SqL K H' a xs)
    (hs : ∀ (i : Nat) x σ' H', xs[i]? = some x → Pv i σ' H' → tb { nx := Pv (i + 1), rt := D.rt, ct := Pv (i + 1), bk := D.nx } (σ'.set j (some x)) H') (hd : ∀ σ' H', Pv xs.length σ' H' → D.nx σ' H') : tFor (iList K te) (gName j) tb D σ H :=
  hv _ ⟨a, rfl, ⟨_, hl⟩, for_list Pv h0 hk hs hd⟩
/-- all but what stands at a is as it was -/
def Fr (a : Addr) (H H' : Hp) : Prop := ∀ c o, c ≠ a → H c = some o → H' c = some o
theorem Fr.refl (a : Addr) (H : Hp) : Fr a H H := fun _ _ _ h => h
theorem Fr.trans {a : Addr} {H H1 H2 : Hp} (x : Fr a H H1) (y : Fr a H1 H2) : Fr a H H2 := fun c o n h => y c o n (x c o n h)
theorem Fr.at_ {a : Addr} {H : Hp} {o : HO} : Fr a H (upd H a o) := fun c u n h => by rw [upd_ne n]; exact h
theorem Fr.new {a p : Addr} {H : Hp} {o : HO} (h : H p = none) : Fr a H (upd H p o) := fun c u n e => by rw [upd_ne (ne_of_none e h)]; exact e
theorem Fr.same {a : Addr} {H H' : Hp} (h : Same H H') : Fr a H H' := fun c o _ e => h c o e
/-- a change at an address that H does not know is none for H -/
theorem Fr.unseen {a : Addr} {H H1 H2 : Hp} (n : H a = none) (s : Same H H1) (f : Fr a H1 H2) : Same H H2 := fun c o h => f c o (ne_of_none h n) (s c o h)
/-- what is kept while a comprehension fills its list at L -/
def Fills (Pv : Addr → Nat → List V → Hp → Prop) (L : Addr) (i : Nat) : Hp → Prop := fun H => ∃ acc, H L = some (.lst acc) ∧ Pv L i acc H
theorem fills_more {Pv : Addr → Nat → List V → Hp → Prop} {L : Addr} {i : Nat} {acc : List V} (h : H L = some (.lst acc)) (hz : acc.length < 10000000) (q : ∀ H', Fr L H H' → H' L = some (.lst (acc ++ [y])) → Pv L (i + 1) (acc ++ [y]) H') :
    ∃ acc, H L = some (.lst acc) ∧ acc.length < sizeLine ∧ Fills Pv L (i + 1) (upd H L (.lst (acc ++ [y]))) :=
  ⟨acc, h, by rw [show sizeLine = 16777216 from sizeLine_eq]; omega, acc ++ [y], upd_same, q _ Fr.at_ upd_same⟩
/-- [e for x in a list if t] -/
theorem w_lcL {tt : TT} {vs : List Nat} {xs : List V} (hv : ∀ R : V → Hp → Prop, R (.ref a) H → ta σ H R) (hl : SqL K H a xs) (Pv : Addr → Nat → List V → Hp → Prop)
    (h0 : ∀ L H', H L = none → Same H H' → H' L = some (.lst []) → Pv L 0 [] H')
    (hk : ∀ L i acc H', i ≤ xs.length → Pv L i acc H' → SqL K H' a xs)
    (hs : ∀ L (i : Nat) x acc H', H L = none → xs[i]? = some x → H' L = some (.lst acc) → Pv L i acc H' → g x (wipe σ vs) H' fun σ2 H2 => wipe σ2 vs = wipe σ vs ∧ tt σ2 H2 fun b H3 =>
      if b = true then te σ2 H3 fun y H4 => ∃ acc, H4 L = some (.lst acc) ∧ acc.length < sizeLine ∧ Fills Pv L (i + 1) (upd H4 L (.lst (acc ++ [y]))) else Fills Pv L (i + 1) H3)
    (hd : ∀ L acc H', H L = none → H' L = some (.lst acc) → Pv L xs.length acc H' → Q (.ref L) H') : tLc (iList K ta) g tt te vs σ H Q :=
  hv _ ⟨a, rfl, ⟨_, hl⟩, fun L hL => lc_list (xs := xs) (fun i H' => Fills Pv L i H') ⟨[], upd_same, h0 L _ hL (same_new hL) upd_same⟩ (fun i H' hi ⟨acc, _, p⟩ => hk L i acc H' hi p)
    (fun i x H' hi ⟨acc, hA, hp⟩ => hs L i x acc H' hL hi hA hp) fun H' ⟨acc, h1, h2⟩ => hd L acc H' hL h1 h2⟩
/-! more heads -/
theorem w_bm {T : String} {r : V → List V → Hp → VK → Prop} (q : ta σ H fun x H1 => tyV K T x H1 ∧ tr σ H1 fun xs H2 => r x xs H2 Q) : tBM K T r ta tr σ H Q := q
theorem w_bmL {p : Addr} {xs : List V} {B : Prop} (h : H p = some (.lst xs)) (q : B) : tyV K "list" (.ref p) H ∧ B := ⟨.inl ⟨rfl, xs, SqL.of h⟩, q⟩
theorem w_append {l : Addr} {xs : List V} (h : H l = some (.lst xs)) (q : ∀ H', Fr l H H' → H' l = some (.lst (xs ++ [y])) → Q .non H') (hz : decide (xs.length < 10000000) = true := by rfl) : rAppend (.ref l) [y] H Q :=
  ⟨l, xs, y, rfl, rfl, h, by have := of_decide_eq_true hz; rw [show sizeLine = 16777216 from sizeLine_eq]; omega, q _ Fr.at_ upd_same⟩
theorem w_makeK {n m : Nat} {gV : List V → List V → List V} (q : tr σ H fun vs H1 => tk σ H1 fun zs H2 => vs.length = n ∧ zs.length = m ∧ ∀ x dx, H2 x = none → H2 dx = none → dx ≠ x → sp (gV (.ref x :: vs) zs) (upd (upd H2 dx (.own x)) x (.ins C dx [])) (fun v H3 => v = .non ∧ Q (.ref x) H3) E) :
    tMakeK C n m sp gV E tr tk σ H Q := q
theorem w_callN {n m : Nat} {gV : List V → List V → List V} (q : tr σ H fun vs H1 => tk σ H1 fun zs H2 => vs.length = n ∧ zs.length = m ∧ sp (gV vs zs) H2 Q E) : tCallN n m sp gV E tr tk σ H Q := q
theorem w_rfl2 {n m : Nat} {A : Prop} {a b : Nat} (h1 : a = n) (h2 : b = m) (q : A) : a = n ∧ b = m ∧ A := ⟨h1, h2, q⟩

end
end G

/-! Wide ints; operators by methods of one's own. -/
namespace G
open PySem PySem.Spec PyProof.Rows L2
section
variable {X : Cx}
def CPowW (i j : Int) : Prop := 0 ≤ j ∧ j ≤ 64 ∧ i.natAbs.log2 < 1000000
theorem op_powW : OpR X (binaryOp .Pow) (rI CPowW fun i j => .int (i ^ j.toNat)) := opI fun i j _ _ _ _ _ hc q => by
  refine pow_int hc.1 ?_ q
  have b : Builtin.Int.intBits i ≤ i.natAbs.log2 + 1 := by
    unfold Builtin.Int.intBits
    split <;> omega
  have h1 : ((Builtin.Int.intBits i : Nat) : Int) ≤ 1000000 := by have := hc.2.2; omega
  have h2 : ((Builtin.Int.intBits i : Nat) : Int) * j ≤ 1000000 * 64 := Int.mul_le_mul h1 hc.2.1 hc.1 (by decide)
  exact Int.le_trans h2 (by decide)
/-- % by a positive number of any size -/
theorem op_modW : OpR X (binaryOp .Mod) (rI (fun _ j => 0 < j) fun i j => .int (i % j)) := by
  intro pins s σ H x y v u Q I rx ry h
  obtain ⟨i, j, hx, hy, hc, q⟩ := h
  exact op_modN pins s σ H x y v u Q I rx ry ⟨i, j, hx, hy, by omega, by
    show Q (.int (i.fmod j)) H
    rw [Int.fmod_eq_emod_of_nonneg i (by omega)]
    exact q⟩
/-! ### operators by a method of the left operand's class -/
theorem mono_rel {v : V} {u : Value} {s : Shared} {R : Value → Shared → Prop} (r : RelV v u) (q : R u s) : PySem.W.CmpBack R u s := by
  cases v with
  | non => cases (show u = Value.none from r); exact q
  | bl b => cases (show u = Value.bool b from r); exact q
  | int i => obtain ⟨t, e⟩ := (show ∃ t, u = Value.int i t from r); cases e; exact q
  | str z => obtain ⟨t, e⟩ := (show ∃ t, u = Value.str z t from r); cases e; exact q
  | byt z => obtain ⟨t, e⟩ := (show ∃ t, u = Value.bytes z t from r); cases e; exact q
  | flt z => obtain ⟨t, e⟩ := (show ∃ t, u = Value.float z t from r); cases e; exact q
  | ref a => cases (show u = Value.ref a from r); exact q
  | ty n => cases (show u = Value.type n from r); exact q

variable {k : Nat} {f C D : Addr} {fd : FuncData} {ps : List Str} {sp : Sp} {E : XK} {op : Operator}
/-- a method for an operator: found in the class, a def -/
structure OpM (K : PySem.W.Frag) (C : Addr) (m : Str) (f : Addr) : Prop where
  at_ : PySem.W.findIn K (.ref C) m = some (some (.ref f))
  fn : PySem.W.isFn K (.ref f) = true
/-- both of one class -/
def rOwn (C : Addr) (sp : Sp) (E : XK) : R2 := fun x y H Q => ∃ a dx fs b dy gs, x = .ref a ∧ y = .ref b ∧ H a = some (.ins C dx fs) ∧ H b = some (.ins C dy gs) ∧ sp [x, y] H Q E
theorem op_own {CX : CXT} (F : FnOk X.prog X.w X.K X.mg X.base CX k f fd ps sp) (hr : Room k X.A) (hb : Binds X.K fd ps []) (hx : Passes CX X E) (m : OpM X.K C (PySem.dunder op.info.2) f) (hc : PySem.W.selfFirst X.K C = true) :
    OpR X (binaryOp op) (rOwn C sp E) := by
  intro pins s σ H x y v u Q I rx ry h
  obtain ⟨a, dx, fs, b, dy, gs, rfl, rfl, ea, eb, q⟩ := h
  obtain rfl : v = Value.ref a := rx
  obtain rfl : u = Value.ref b := ry
  obtain ⟨mA, O, _⟩ := ins_get I.hok ea
  obtain ⟨od, J, _⟩ := O.look
  obtain ⟨mB, O2, _⟩ := ins_get I.hok eb
  obtain ⟨od2, J2, _⟩ := O2.look
  obtain ⟨mm, fr⟩ := I.fr
  refine PySem.W.binop_K fr I.ok.mod.kin J J2.type hc m.at_ m.fn ?_
  refine wpAny_mono (run_fn (us := [.ref a, .ref b]) (vs := [.ref a, .ref b]) F hr hb .nil hx I (.cons rfl (.cons rfl .nil)) q) (fun w s' hw => ?_) fun _ _ e => e
  obtain ⟨z, H', I', rz, qz⟩ := hw
  exact mono_rel rz ⟨z, H', I', rz, qz⟩
/-- unary minus -/
def rNeg (C : Addr) (sp : Sp) (E : XK) : V → Hp → VK → Prop := fun x H Q => ∃ a dx fs, x = .ref a ∧ H a = some (.ins C dx fs) ∧ sp [x] H Q E
theorem un_own {CX : CXT} (F : FnOk X.prog X.w X.K X.mg X.base CX k f fd ps sp) (hr : Room k X.A) (hb : Binds X.K fd ps []) (hx : Passes CX X E) (m : OpM X.K C "__neg__" f) :
    UnR X (unaryOp .USub) (rNeg C sp E) := by
  intro pins s σ H x v Q I rx h
  obtain ⟨a, dx, fs, rfl, ea, q⟩ := h
  obtain rfl : v = Value.ref a := rx
  obtain ⟨mA, O, _⟩ := ins_get I.hok ea
  obtain ⟨od, J, _⟩ := O.look
  unfold unaryOp
  refine wpAny_holding ?_
  show wpAny _ _ (callSpecial? (.ref a) "__neg__" >>= _) _ _ _
  refine wpAny_bind (PySem.W.special_fn I.kIn J m.at_ (beq_iff_eq.mp m.fn) ?_)
  refine wpAny_mono (run_fn (us := [.ref a]) (vs := [.ref a]) F hr hb .nil hx I (.cons rfl .nil) q) (fun w s' hw => ?_) fun _ _ e => e
  exact wpAny_pure hw
/-- == by the left operand's __eq__, the right operand anything whose type is known -/
def rEqO (K : PySem.W.Frag) (C : Addr) (sp : Sp) (E : XK) : R2 := fun x y H Q => ∃ a dx fs t, x = .ref a ∧ H a = some (.ins C dx fs) ∧ TyX K H y t ∧ PySem.W.notFirst K C t = true ∧ sp [x, y] H Q E
theorem op_eqO {CX : CXT} (F : FnOk X.prog X.w X.K X.mg X.base CX k f fd ps sp) (hr : Room k X.A) (hb : Binds X.K fd ps []) (hx : Passes CX X E) (m : OpM X.K C "__eq__" f) :
    OpR X (compareOp .Eq) (rEqO X.K C sp E) := by
  intro pins s σ H x y v u Q I rx ry h
  obtain ⟨a, dx, fs, t, rfl, ea, ty, hn, q⟩ := h
  obtain rfl : v = Value.ref a := rx
  obtain ⟨mA, O, _⟩ := ins_get I.hok ea
  obtain ⟨od, J, _⟩ := O.look
  obtain ⟨mm, fr⟩ := I.fr
  obtain ⟨P, Z, hp, hne⟩ := kit_of I ry ty
  show wpAny _ _ (richCompare .Eq (.ref a) u) _ _ _
  have lk : PySem.W.Looks (model X.prog X.w) s.heap (typeOf u) t := Z.ty _ _ I.kIn hp
  refine PySem.W.cmp_K hr.units0 fr I.ok.mod.kin J lk hn m.at_ m.fn ?_
  refine wpAny_mono (run_fn (us := [.ref a, u]) (vs := [.ref a, y]) F hr hb .nil hx I (.cons rfl (.cons ry .nil)) q) (fun w s' hw => ?_) fun _ _ e => e
  obtain ⟨z, H', I', rz, qz⟩ := hw
  exact mono_rel rz ⟨z, H', I', rz, qz⟩
end
end G

/-! Sizes of numbers, told by a number of bits. -/
namespace G
open PySem PySem.Spec L2
/-- below 2 ^ n in size; a word, so that no number of that size is reckoned with -/
def Bt (n : Nat) (i : Int) : Prop := i.natAbs < 2 ^ n
instance {n : Nat} {i : Int} : Decidable (Bt n i) := inferInstanceAs (Decidable (i.natAbs < 2 ^ n))
section
variable {a b n : Nat} {i j : Int}
theorem Bt.mono (x : Bt a i) (h : a ≤ b) : Bt b i := Nat.lt_of_lt_of_le x (Nat.pow_le_pow_right (by decide) h)
theorem Bt.of_le (x : Bt a j) (h : i.natAbs ≤ j.natAbs) : Bt a i := Nat.lt_of_le_of_lt h x
theorem Bt.any : Bt (i.natAbs.log2 + 1) i := Nat.lt_log2_self
theorem Bt.neg (x : Bt a i) : Bt a (-i) := by unfold Bt; rw [Int.natAbs_neg]; exact x
theorem two_max (x : i.natAbs < 2 ^ a) (y : j.natAbs < 2 ^ b) : i.natAbs + j.natAbs < 2 ^ (max a b + 1) := by
  have h1 : 2 ^ a ≤ 2 ^ max a b := Nat.pow_le_pow_right (by decide) (Nat.le_max_left a b)
  have h2 : 2 ^ b ≤ 2 ^ max a b := Nat.pow_le_pow_right (by decide) (Nat.le_max_right a b)
  rw [Nat.pow_succ]
  omega
theorem Bt.add (x : Bt a i) (y : Bt b j) : Bt (max a b + 1) (i + j) := Nat.lt_of_le_of_lt (Int.natAbs_add_le i j) (two_max x y)
theorem Bt.sub (x : Bt a i) (y : Bt b j) : Bt (max a b + 1) (i - j) := by
  have h := Bt.add x y.neg
  rw [← Int.sub_eq_add_neg] at h
  exact h
theorem Bt.mul (x : Bt a i) (y : Bt b j) : Bt (a + b) (i * j) := by
  unfold Bt
  rw [Int.natAbs_mul, Nat.pow_add]
  exact Nat.mul_lt_mul'' x y
theorem Bt.pow3 (x : Bt a i) : Bt (a + a + a) (i ^ 3) := by
  have h := Bt.mul (Bt.mul x x) x
  rw [show i ^ 3 = i * i * i from by rw [show (3 : Nat) = 2 + 1 from rfl, Int.pow_succ, Int.pow_succ, Int.pow_succ, Int.pow_zero, Int.one_mul]]
  exact h
theorem Bt.mod (h : 0 < j) (y : Bt b j) : Bt b (i % j) := by
  have h1 := Int.emod_nonneg i (show j ≠ 0 by omega)
  have h2 := Int.emod_lt_of_pos i h
  exact y.of_le (by omega)
theorem Bt.div (h : 0 < j) (x : Bt a i) : Bt a (i / j) := by
  refine x.of_le ?_
  have e := Int.natAbs_ediv_le_natAbs i j
  exact e
theorem Bt.abs (x : Bt a i) : Bt a (if i < 0 then -i else i) := by
  split
  · exact x.neg
  · exact x
theorem Bt.log2 (x : Bt a i) (h : 0 < a) : i.natAbs.log2 < a := PySem.Flt.log2_lt_of h x
theorem Bt.log2' (x : Bt a i) : i.natAbs.log2 ≤ a := by
  by_cases h : 0 < a
  · exact Nat.le_of_lt (x.log2 h)
  · have e : a = 0 := by omega
    subst e
    have z : i.natAbs = 0 := by have := x; unfold Bt at this; omega
    rw [z]
    decide
theorem Bt.ltI (x : Bt a i) : i < 2 ^ a := by
  have h : (i.natAbs : Int) < ((2 ^ a : Nat) : Int) := Int.ofNat_lt.mpr x
  have e : ((2 ^ a : Nat) : Int) = (2 : Int) ^ a := by simp
  omega
theorem mulOk (x : Bt a i) (y : Bt b j) (h : decide (a + b < 1000000) = true) : CMulW i j := by
  have := x.log2'
  have := y.log2'
  have := of_decide_eq_true h
  unfold CMulW
  omega
theorem divOk (h : 0 < j) (y : Bt b j) (h9 : decide (b < 9000) = true) : CDivW i j := ⟨h, Nat.lt_of_le_of_lt y.log2' (of_decide_eq_true h9)⟩
theorem powOk (x : Bt a i) (h0 : decide (0 ≤ j ∧ j ≤ 64) = true) (h : decide (a < 1000000) = true) : CPowW i j :=
  ⟨(of_decide_eq_true h0).1, (of_decide_eq_true h0).2, Nat.lt_of_le_of_lt x.log2' (of_decide_eq_true h)⟩
theorem powLit (h : decide (0 ≤ j ∧ j ≤ 64 ∧ i.natAbs.log2 < 1000000) = true) : CPowW i j := by
  have z : 0 ≤ j ∧ j ≤ 64 ∧ i.natAbs.log2 < 1000000 := of_decide_eq_true h
  exact z
end
end G
namespace G
open PySem PySem.Spec L2
section
theorem w_two {a b : Int} {P : Int → Int → Prop} (q : P a b) : ∃ i j, [V.int a, V.int b] = [V.int i, V.int j] ∧ P i j := ⟨a, b, rfl, q⟩
theorem w_one {a : Int} {P : Int → Prop} (q : P a) : ∃ i, [V.int a] = [V.int i] ∧ P i := ⟨a, rfl, q⟩
end
end G
namespace G
open PySem PySem.Spec L2
/-- a written power -/
theorem w_powN {i j : Int} {n : Nat} {H : Hp} {Q : VK} (e : j = (n : Int)) (h : decide (0 ≤ j ∧ j ≤ 64 ∧ i.natAbs.log2 < 1000000) = true) (q : Q (.int (i ^ n)) H) :
    rI CPowW (fun i j => .int (i ^ j.toNat)) (.int i) (.int j) H Q := ⟨i, j, rfl, rfl, powLit h, by
  have z : j.toNat = n := by omega
  show Q (.int (i ^ j.toNat)) H
  rw [z]
  exact q⟩
theorem w_powV {i j : Int} {n a : Nat} {H : Hp} {Q : VK} (e : j = (n : Int)) (x : Bt a i) (h0 : decide (0 ≤ j ∧ j ≤ 64) = true) (h : decide (a < 1000000) = true) (q : Q (.int (i ^ n)) H) :
    rI CPowW (fun i j => .int (i ^ j.toNat)) (.int i) (.int j) H Q := ⟨i, j, rfl, rfl, powOk x h0 h, by
  have z : j.toNat = n := by omega
  show Q (.int (i ^ j.toNat)) H
  rw [z]
  exact q⟩
end G
namespace G
open PySem PySem.Spec PyProof.Rows L2
/-- a ** b, both written: the number c -/
theorem pe_powc {X : Cx} {a b c : Int} {p1 p2 pos : Pos} {k1 k2} (h : decide (0 ≤ b ∧ b ≤ 64 ∧ a.natAbs.log2 < 1000000) = true) (e : a ^ b.toNat = c) :
    PE X (.BinOp (.Constant (.int a) k1 p1) .Pow (.Constant (.int b) k2 p2) pos) (tC (.int c)) := by
  have t := pe_op (X := X) (pos := pos) op_powW (pe_int (i := a) (j := k1) (pos := p1)) (pe_int (i := b) (j := k2) (pos := p2))
  refine ⟨fun pins s σ H Q I q => t.run pins s σ H Q I ?_⟩
  refine ⟨a, b, rfl, rfl, powLit h, ?_⟩
  show Q (.int (a ^ b.toNat)) H
  rw [e]
  exact q
end G
namespace G
open PySem PySem.Spec PyProof.Rows L2
section
variable {X : Cx} {CX : CXT} {k : Nat} {f : Addr} {fd : FuncData} {ps ks : List Str} {sp : Sp} {E : XK} {x : Str} {p pos : Pos} {kws : List Keyword} {tk : TA} {g : List Value → List Value → List Value} {gV : List V → List V → List V}
/-- f(k = v, ..) -/
theorem pe_callN0 (F : FnOk X.prog X.w X.K X.mg X.base CX k f fd ps sp) (hr : Room k X.A) (hg : Gl X x) (hm : X.mg x = some (.ref f)) (hk : PySem.W.keepIn X.K (.ref f) = true) (hb : KBn X.K fd ps 0 ks g gV) (hx : Passes CX X E)
    (hkw : PK X kws tk) (hall : (backToKw pos (keywordEach kws X.env)).all (·.1.isSome) = true := by rfl) (hks : (backToKw pos (keywordEach kws X.env)).filterMap (·.1) = ks := by rfl) (hdb : (x == ("__debug__" : Str)) = false := by decide)
    (hpl : ((backTo pos (starEach [] X.env)).any (·.1) || (backToKw pos (keywordEach kws X.env)).any (·.1.isNone)) = false := by rfl) :
    PE X (.Call (.Name x p) [] kws pos) (tCallN 0 ks.length sp gV E tNil tk) := by
  refine ⟨fun pins s σ H Q I h => wpAny_Call_Name_kw (ld_glob I hg hm ?_ hdb)⟩
  refine PySem.W.callWith_KW0 (h₀ := X.base) I.ok.mod.kin hk hall ?_ hpl
  refine thn (hkw.run pos pins s σ H _ I h) fun ws s2 ⟨zs, H2, I2, rz, l1, l2, q2⟩ => ⟨I2.kIn, ?_⟩
  rw [hks]
  exact run_fnN (us := []) (vs := []) F hr hb hx I2 .nil rz rfl l2 q2
/-- every parameter by its name, in their order -/
theorem kbn_all {K : PySem.W.Frag} (h : ∀ ws : List Value, ws.length = ks.length → bindArgs fd ⟨[], ks.zip ws⟩ = pure (ps.zip ws)) : KBn K fd ps 0 ks (fun _ ws => ws) (fun _ zs => zs) :=
  ⟨fun s us ws _ l1 l2 => by
    have e : us = [] := List.length_eq_zero_iff.mp l1
    subst e
    exact .of_eq (h ws l2), fun _ r => r⟩
end
end G
namespace G
open PySem PySem.Spec L2
section
variable {H : Hp} {Q : VK} {K : PySem.W.Frag}
theorem w_isB {a b : Bool} (q : Q (.bl (decide (a = b))) H) : rIsB (.bl a) (.bl b) H Q := ⟨a, b, rfl, rfl, q⟩
theorem w_notB {a b : Bool} (q : Q (.bl (!decide (a = b))) H) : rNotB (.bl a) (.bl b) H Q := ⟨a, b, rfl, rfl, q⟩
/-- a text against itself -/
theorem w_neS {s : Str} (q : Q (.bl false) H) : rNe (.str s) (.str s) H Q := ⟨rfl, by
  show Q (.bl (!decide (V.str s = V.str s))) H
  rw [decide_eq_true (rfl : V.str s = V.str s)]
  exact q⟩
theorem w_eqS {s : Str} (q : Q (.bl true) H) : rEq (.str s) (.str s) H Q := ⟨rfl, by
  show Q (.bl (decide (V.str s = V.str s))) H
  rw [decide_eq_true (rfl : V.str s = V.str s)]
  exact q⟩
theorem w_repr {a : Addr} {d : PyData} (hd : Dp K H (.ref a) d) (hl : lim d) (q : Q (.str d.shown) H) (hc : decide (cnt d ≤ 8000) = true := by rfl) (hp : decide (d.depth ≤ 40) = true := by rfl) : rRepr K [.ref a] H Q := ⟨a, d, rfl, hd, hl, of_decide_eq_true hc, of_decide_eq_true hp, q⟩
theorem w_eqD {x y : V} {d e : PyData} {b : Bool} (hd : Dp K H x d) (he : Dp K H y e) (sd : SeqAt.shaped d = true) (se : SeqAt.shaped e = true) (h : PyData.eqv d e = b) (q : Q (.bl b) H) : rEqD K x y H Q := ⟨d, e, hd, he, sd, se, by rw [h]; exact q⟩
theorem w_neD {x y : V} {d e : PyData} {b : Bool} (hd : Dp K H x d) (he : Dp K H y e) (sd : SeqAt.shaped d = true) (se : SeqAt.shaped e = true) (h : PyData.eqv d e = b) (q : Q (.bl (!b)) H) : rNeD K x y H Q := ⟨d, e, hd, he, sd, se, by rw [h]; exact q⟩
theorem Bt.lim {n : Nat} {i : Int} (x : Bt n i) (h : n ≤ 1900) : lim (.int i) := by
  simp only [G.lim]
  exact Bt.mono x h
/-- a pair of ints -/
def prd (p : Int × Int) : PyData := .tuple [.int p.1, .int p.2]
theorem prd_lim {p : Int × Int} (h1 : Bt 1900 p.1) (h2 : Bt 1900 p.2) : G.lim (prd p) := by
  simp only [prd, G.lim, G.limAll]
  exact ⟨h1, h2, trivial⟩
theorem prd_dp {a : Addr} {i j : Int} (h : H a = some (.tup [.int i, .int j])) : Dp K H (.ref a) (prd (i, j)) := .tup (SqT.of h) (.cons (.int i) (.cons (.int j) .nil))
theorem prd_shaped (p : Int × Int) : SeqAt.shaped (prd p) = true := by rfl
end
end G
namespace G
open PySem PySem.Spec L2
section
variable {H : Hp} {Q : VK} {K : PySem.W.Frag}
/-- xs * k -/
theorem w_rep {l : Addr} {k : Int} {xs ys : List V} (h : H l = some (.lst xs)) (hk : decide (0 ≤ k ∧ k ≤ 1000) = true) (hz : decide (xs.length ≤ 1000) = true) (e : (List.replicate k.toNat xs).flatten = ys)
    (q : ∀ p H', H p = none → Same H H' → H' p = some (.lst ys) → Q (.ref p) H') : rRep (.ref l) (.int k) H Q := by
  have hk := of_decide_eq_true hk
  have hz := of_decide_eq_true hz
  refine ⟨l, k, xs, rfl, rfl, h, by omega, by omega, ?_, fun p hp => ?_⟩
  · rw [show sizeLine = 16777216 from sizeLine_eq]
    have h1 : xs.length * k.toNat ≤ 1000 * 1000 := Nat.mul_le_mul hz (by omega)
    omega
  · rw [e]
    exact q p _ hp (same_new hp) upd_same
/-- xs + ys -/
theorem w_cat {l b : Addr} {xs ys : List V} (h : H l = some (.lst xs)) (h' : H b = some (.lst ys)) (hz : xs.length + ys.length ≤ 1000000)
    (q : ∀ p H', H p = none → Same H H' → H' p = some (.lst (xs ++ ys)) → Q (.ref p) H') : rCat (.ref l) (.ref b) H Q :=
  ⟨l, b, xs, ys, rfl, rfl, h, h', by rw [show sizeLine = 16777216 from sizeLine_eq]; omega, fun p hp => q p _ hp (same_new hp) upd_same⟩
/-- {} -/
theorem w_dnew {σ : L2.St} (q : ∀ p H', H p = none → Same H H' → H' p = some (.dK []) → Q (.ref p) H') : tDNewK σ H Q := fun p hp => q p _ hp (same_new hp) upd_same
/-- str(n) -/
theorem w_strI {i : Int} {P : Int → Prop} (h : Bt 1900 i) (q : P i) : ∃ j : Int, [V.int i] = [V.int j] ∧ j.natAbs.log2 < 1920 ∧ P j :=
  ⟨i, rfl, Nat.lt_of_le_of_lt h.log2' (by decide), q⟩
theorem w_strI2 {i : Int} {P : Prop} (h : Bt 1900 i) (q : P) : i.natAbs.log2 < 1920 ∧ P := ⟨Nat.lt_of_le_of_lt h.log2' (by decide), q⟩
theorem Same.src {H H' : Hp} {b : Addr} {o : HO} (e : Same H H') (h : H b = some o) : H' b = some o := e b o h
end
end G
namespace G
open PySem PySem.Spec PyProof.Rows L2
section
variable {X : Cx}
/-- xs + ys, lists that are read only -/
def rCatL (K : PySem.W.Frag) : R2 := fun x y H Q => ∃ l b xs zs, x = .ref l ∧ y = .ref b ∧ SqL K H l xs ∧ SqL K H b zs ∧ xs.length + zs.length ≤ 1000000 ∧ ∀ p H', H p = none → Same H H' → H' p = some (.lst (xs ++ zs)) → Q (.ref p) H'
theorem op_catL : OpR X (binaryOp .Add) (rCatL X.K) := by
  intro pins s σ H x y v u Q I rx ry h
  obtain ⟨l, b, xs, zs, rfl, rfl, hH, hB, hz, q⟩ := h
  obtain rfl : v = Value.ref l := rx
  obtain rfl : u = Value.ref b := ry
  obtain ⟨its, r, ⟨⟨cls, dd, data, sl⟩, n, ho, hc, _, hd⟩, _⟩ := I.list hH
  obtain ⟨its2, r2, ⟨⟨cls2, dd2, data2, sl2⟩, n2, ho2, hc2, _, hd2⟩, _⟩ := I.list hB
  simp only at hc hd hc2 hd2
  subst hc hd hc2 hd2
  have e : its.toArray ++ its2.toArray = (its ++ its2).toArray := by simp
  have l1 := r.length
  have l2 := r2.length
  have z : xs.length + zs.length ≤ sizeLine := by rw [show sizeLine = 16777216 from sizeLine_eq]; omega
  refine concat_meets ⟨_, ho, rfl⟩ ⟨_, ho2, rfl⟩ noFill_list_add seq_list_add PySem.F.slot_list_add PySem.F.entry_list_add (PySem.F.args_list_add_2 _ _)
    (list_addW l b its.toArray its2.toArray n n2 dd dd2 sl sl2 (by rw [List.size_toArray, List.size_toArray]; omega)) ⟨ho, ho2, ?_⟩
  rw [e]
  exact ⟨.ref _, _, I.lnew (t' := s.toks) (r.append r2) (by rw [List.length_append]; omega), rfl, q _ _ I.fresh (same_new I.fresh) upd_same⟩
end
section
variable {σ : L2.St} {H : Hp} {Q : VK} {K : PySem.W.Frag} {a : Addr} {D : Ends} {tr : TA} {tb : TS}
theorem w_iEnum {R : It → Hp → Prop} (q : tr σ H fun vs H1 => ∃ a xs, vs = [.ref a] ∧ SqL K H1 a xs ∧ R (Ite K a) H1) : iEnum K tr σ H R := q
/-- for i, x in enumerate(xs) -/
theorem w_walkE {n i1 i2 : Nat} {xs : List V} (hl : SqL K H a xs) (hn : n = 2) (Pv : Nat → L2.St → Hp → Prop) (h0 : Pv 0 σ H) (hk : ∀ i σ' H', i ≤ xs.length → Pv i σ' H' → SqL K H' a xs)
    (hs : ∀ (i : Nat) x σ' H' H2, xs[i]? = some x → Pv i σ' H' → Same H' H2 → tb { nx := Pv (i + 1), rt := D.rt, ct := Pv (i + 1), bk := D.nx } ((σ'.set i1 (some (.int (i : Int)))).set i2 (some x)) H2) (hd : ∀ σ' H', Pv xs.length σ' H' → D.nx σ' H') :
    ∃ b ys, [V.ref a] = [.ref b] ∧ SqL K H b ys ∧ ForW (Ite K b) (gTup K n (gCons (gName i1) (gCons (gName i2) gNil))) tb D σ H := by
  subst hn
  refine ⟨a, xs, rfl, hl, for_it walk_enum Pv h0 hk ?_ hd⟩
  rintro i x σ' H' H2 hi hp ⟨T, y, z, rfl, hT, rfl, hy, hz⟩
  cases hy
  refine ⟨T, _, rfl, SqT.of upd_same, rfl, _, _, rfl, _, _, rfl, rfl, hs i z σ' H' _ hz hp (same_new hT)⟩
/-- slices -/
theorem w_sl {r : V → Option Int → Option Int → Hp → VK → Prop} {te : TE} {tl th : TO} (q : te σ H fun x H1 => tl σ H1 fun l H2 => th σ H2 fun u H3 => r x l u H3 Q) : tSl r te tl th σ H Q := q
theorem w_slL {p : Addr} {xs : List V} {l u : Option Int} (h : SqL K H p xs) (k : ∀ q H', H q = none → Same H H' → H' q = some (.lst (cutV xs l u)) → Q (.ref q) H') : rSlL K (.ref p) l u H Q :=
  ⟨p, xs, rfl, h, fun q hq => k q _ hq (same_new hq) upd_same⟩
/-- len of a list -/
theorem w_lenL {p : Addr} {xs : List V} {R : Nat → Prop} (h : SqL K H p xs) (q : R xs.length) : ∃ x n, [V.ref p] = [x] ∧ LenV K x H n ∧ R n := ⟨.ref p, xs.length, rfl, .inl ⟨xs, h, rfl⟩, q⟩
theorem w_noPart {R : Option Int → Hp → Prop} (q : R none H) : tNoPart σ H R := q
theorem w_part {te : TE} {R : Option Int → Hp → Prop} (q : te σ H fun x H1 => ∃ i, x = .int i ∧ R (some i) H1) : tPart te σ H R := q
theorem w_int {i : Int} {P : Int → Prop} (q : P i) : ∃ j, V.int i = .int j ∧ P j := ⟨i, rfl, q⟩
theorem dp_ints {ns : List Int} (h : SqL K H a (ns.map V.int)) : Dp K H (.ref a) (.list (ns.map PyData.int)) := by
  refine .lst h ?_
  clear h
  induction ns with
  | nil => exact .nil
  | cons n r ih => exact .cons (.int n) ih
theorem shaped_ints (ns : List Int) : SeqAt.shaped (.list (ns.map PyData.int)) = true := by
  have h1 : PyData.canLayAll0 (ns.map PyData.int) = true := by
    induction ns with
    | nil => simp only [List.map_nil, PyData.canLayAll0]
    | cons n r ih => simp only [List.map_cons, PyData.canLayAll0, PyData.canLay0, ih, Bool.and_self]
  have h2 : PyData.depthAll (ns.map PyData.int) = 0 := by
    clear h1
    induction ns with
    | nil => simp only [List.map_nil, PyData.depthAll]
    | cons n r ih => simp only [List.map_cons, PyData.depthAll, PyData.depth, ih, Nat.max_self]
  unfold SeqAt.shaped
  simp only [PyData.canLay0, PyData.depth, h1, h2]
  rfl
theorem cut_mem {xs : List V} {lo hi : Option Int} {x : V} (h : x ∈ cutV xs lo hi) : x ∈ xs := List.mem_of_mem_drop (List.mem_of_mem_take h)
theorem cut_len {xs : List V} {lo hi : Option Int} : (cutV xs lo hi).length ≤ xs.length := by
  unfold cutV
  rw [List.length_take, List.length_drop]
  omega
end
end G

/-! The laws' draws; ratios; what is promised of the small defs. -/
namespace G
open PySem PySem.Spec L2
/-- the numbers that are drawn from stand at a; so many at most were drawn -/
def Src (b : Nat) (H : Hp) (a : Addr) : Prop := ∃ x y z : Int, H a = some (.lst [.int x, .int y, .int z]) ∧ 0 ≤ x ∧ 0 ≤ y ∧ Bt 200 y ∧ 0 ≤ z ∧ z ≤ b
theorem Src.mono {b c : Nat} {H : Hp} {a : Addr} (h : Src b H a) (l : b ≤ c) : Src c H a := let ⟨x, y, z, h1, h2, h3, h4, h5, h6⟩ := h; ⟨x, y, z, h1, h2, h3, h4, h5, by omega⟩
theorem Src.new {b : Nat} {H : Hp} {a p : Addr} {o : HO} (h : Src b H a) (n : H p = none) : Src b (upd H p o) a :=
  let ⟨x, y, z, h1, h2⟩ := h; ⟨x, y, z, by rw [upd_ne (ne_of_none h1 n)]; exact h1, h2⟩
theorem Src.same {b : Nat} {H H' : Hp} {a : Addr} (h : Src b H a) (e : Same H H') : Src b H' a :=
  let ⟨x, y, z, h1, h2⟩ := h; ⟨x, y, z, e _ _ h1, h2⟩
theorem Src.ne {b : Nat} {H : Hp} {a p : Addr} (h : Src b H a) (n : H p = none) : p ≠ a := let ⟨_, _, _, h1, _⟩ := h; (ne_of_none h1 n).symm
theorem upd_twice {H : Hp} {a : Addr} {o u : HO} : upd (upd H a o) a u = upd H a u := by
  funext b
  unfold upd
  by_cases h : b = a
  · rw [if_pos h, if_pos h]
  · rw [if_neg h, if_neg h, if_neg h]
/-- the attributes of a ratio -/
def rf (i j : Int) : List (Str × V) := putF "_bottom" (.int j) (putF "_top" (.int i) [])
theorem rf_top (i j : Int) : (rf i j).lookup ("_top" : Str) = some (.int i) := by
  unfold rf
  rw [lookup_putF, if_neg (by decide +kernel), lookup_putF, if_pos rfl]
theorem rf_bottom (i j : Int) : (rf i j).lookup ("_bottom" : Str) = some (.int j) := by
  unfold rf
  rw [lookup_putF, if_pos rfl]
/-- a ratio stands at p -/
def Rat (C : Addr) (H : Hp) (p : Addr) (i j : Int) : Prop := ∃ dx, H p = some (.ins C dx (rf i j))
/-! ### the promises -/
/-- is_whole of an int -/
def spWhole : Sp := fun vs H Q _ => ∃ i, vs = [.int i] ∧ Q (.bl true) H
def spInit (C : Addr) : Sp := fun vs H Q _ => ∃ (p dx : Addr) (i j : Int), vs = [.ref p, .int i, .int j] ∧ 0 < j ∧ Bt 8000 j ∧ H p = some (.ins C dx []) ∧
  Q .non (upd H p (.ins C dx (rf (i / (Int.gcd i j : Int)) (j / (Int.gcd i j : Int)))))
def spIsR (K : PySem.W.Frag) (C : Addr) : Sp := fun vs H Q _ => ∃ x t b, vs = [x] ∧ TyX K H x t ∧ PySem.W.kitOne K t (.ref C) = some b ∧ Q (.bl b) H
def spSource : Sp := fun vs H Q _ => ∃ c k : Int, vs = [.int c, .int k] ∧ 0 ≤ k ∧ Bt 60 k ∧ ∀ p H', H p = none → Same H H' → Src 0 H' p → Q (.ref p) H'
def spDraw : Sp := fun vs H Q _ => ∃ a n b, vs = [.ref a, .int n] ∧ Src b H a ∧ b < 2 ^ 60 ∧ 0 < n ∧ Bt 2000 n ∧
  ∀ d H', 0 ≤ d → d < n → Src (b + 1) H' a → Fr a H H' → Q (.int d) H'
def spSize : Sp := fun vs H Q _ => ∃ a b, vs = [.ref a] ∧ Src b H a ∧ b < 2 ^ 60 ∧ ∀ n H', 3 ≤ n → n ≤ 10 ^ 31 → Src (b + 1) H' a → Fr a H H' → Q (.int n) H'
def spPair : Sp := fun vs H Q _ => ∃ a b, vs = [.ref a] ∧ Src b H a ∧ b + 10 < 2 ^ 60 ∧
  ∀ i j p H', i.natAbs < 10 ^ 31 → 0 < j → j < 10 ^ 31 → H' p = some (.tup [.int i, .int j]) → p ≠ a → Src (b + 10) H' a → Fr a H H' → Q (.ref p) H'
def spLowest (K : PySem.W.Frag) : Sp := fun vs H Q _ => ∃ p i j, vs = [.ref p] ∧ SqT K H p [.int i, .int j] ∧ 0 < j ∧ Bt 8000 i ∧ Bt 8000 j ∧
  ∀ q H', H q = none → Same H H' → H' q = some (.tup [.int (i / (Int.gcd i j : Int)), .int (j / (Int.gcd i j : Int))]) → Q (.ref q) H'
def spSeen (C : Addr) : Sp := fun vs H Q _ => ∃ p i j, vs = [.ref p] ∧ Rat C H p i j ∧ ∀ q H', H q = none → Same H H' → H' q = some (.tup [.int i, .int j]) → Q (.ref q) H'
/-- one of the five sizes -/
theorem size_at {d : Int} (h0 : 0 ≤ d) (h1 : d < 5) : ∃ n : Int, 3 ≤ n ∧ n ≤ 10 ^ 31 ∧ atI [V.int 3, V.int 12, V.int 1000000, V.int 1000000000000000, V.int 10000000000000000000000000000000] d = some (.int n) := by
  have c : d = 0 ∨ d = 1 ∨ d = 2 ∨ d = 3 ∨ d = 4 := by omega
  rcases c with rfl | rfl | rfl | rfl | rfl
  · exact ⟨3, by decide, by decide, rfl⟩
  · exact ⟨12, by decide, by decide, rfl⟩
  · exact ⟨1000000, by decide, by decide, rfl⟩
  · exact ⟨1000000000000000, by decide, by decide, rfl⟩
  · exact ⟨10000000000000000000000000000000, by decide, by decide, rfl⟩
theorem sign_at {d : Int} (h0 : 0 ≤ d) (h1 : d < 3) : ∃ n : Int, (n = 1 ∨ n = -1) ∧ atI [V.int 1, V.int 1, V.int (-1)] d = some (.int n) := by
  have c : d = 0 ∨ d = 1 ∨ d = 2 := by omega
  rcases c with rfl | rfl | rfl
  · exact ⟨1, .inl rfl, rfl⟩
  · exact ⟨1, .inl rfl, rfl⟩
  · exact ⟨-1, .inr rfl, rfl⟩
theorem bt_31 {n : Int} (h0 : 0 ≤ n) (h : n ≤ 10 ^ 31) : Bt 104 n := by
  unfold Bt
  omega
theorem ratio_of {C : Addr} {H : Hp} {i j : Int} {Q : Addr → Hp → Prop} {E : XK} (hj : 0 < j) (bj : Bt 8000 j) (q : ∀ x H2, H x = none → Same H H2 → Rat C H2 x (i / (Int.gcd i j : Int)) (j / (Int.gcd i j : Int)) → Q x H2) :
    ∀ x dx, H x = none → H dx = none → dx ≠ x → spInit C [.ref x, .int i, .int j] (upd (upd H dx (.own x)) x (.ins C dx [])) (fun v H2 => v = .non ∧ Q x H2) E := by
  intro x dx hx hd hne
  refine ⟨x, dx, i, j, rfl, hj, bj, upd_same, rfl, ?_⟩
  refine q x _ hx (fun c o h => ?_) ⟨dx, upd_same⟩
  rw [upd_ne (ne_of_none h hx), upd_ne (ne_of_none h hx), upd_ne (ne_of_none h hd)]
  exact h
/-- lowest terms: what is in them already -/
theorem low_pos {i j : Int} (h : 0 < j) : 0 < j / (Int.gcd i j : Int) := by
  have g := Int.gcd_pos_of_ne_zero_right i (show j ≠ 0 by omega)
  have d : (Int.gcd i j : Int) ∣ j := Int.gcd_dvd_right i j
  exact Int.ediv_pos_of_pos_of_dvd h (by omega) d
theorem low_gcd {i j : Int} (h : 0 < j) : Int.gcd (i / (Int.gcd i j : Int)) (j / (Int.gcd i j : Int)) = 1 :=
  Int.gcd_ediv_gcd_ediv_gcd (Int.gcd_pos_of_ne_zero_right i (show j ≠ 0 by omega))
theorem low_bt {n : Nat} {i j : Int} (h : 0 < j) (x : Bt n i) : Bt n (i / (Int.gcd i j : Int)) := by
  have g := Int.gcd_pos_of_ne_zero_right i (show j ≠ 0 by omega)
  exact Bt.div (by omega) x
theorem low_bt_b {n : Nat} {i j : Int} (h : 0 < j) (x : Bt n j) : Bt n (j / (Int.gcd i j : Int)) := by
  have g := Int.gcd_pos_of_ne_zero_right i (show j ≠ 0 by omega)
  exact Bt.div (by omega) x
theorem low_again {i j : Int} (h : Int.gcd i j = 1) : i / (Int.gcd i j : Int) = i ∧ j / (Int.gcd i j : Int) = j := by
  rw [h]
  exact ⟨Int.ediv_one i, Int.ediv_one j⟩
theorem Rat.same {C : Addr} {H H' : Hp} {p : Addr} {i j : Int} (h : Rat C H p i j) (e : Same H H') : Rat C H' p i j := let ⟨dx, h⟩ := h; ⟨dx, e _ _ h⟩
/-- no ratio, now and in all heaps that grow out of this one -/
def NotR (K : PySem.W.Frag) (C : Addr) (H : Hp) (x : V) : Prop := ∃ t, (∀ H', Same H H' → TyX K H' x t) ∧ PySem.W.kitOne K t (.ref C) = some false

/-! ### what stands where, from heap to heap -/
theorem tup_same {H H' : Hp} {p : Addr} {xs : List V} (h : H p = some (.tup xs)) (e : Same H H') : H' p = some (.tup xs) := e _ _ h
theorem tup_fr {b : Nat} {H H' : Hp} {a p : Addr} {xs : List V} (h : H p = some (.tup xs)) (s : Src b H a) (f : Fr a H H') : H' p = some (.tup xs) :=
  let ⟨_, _, _, k, _⟩ := s; f _ _ (ne_of h k (by intro z; cases z)) h
theorem lst_same {H H' : Hp} {p : Addr} {xs : List V} (h : H p = some (.lst xs)) (e : Same H H') : H' p = some (.lst xs) := e _ _ h
theorem lst_fr {H H' : Hp} {a p : Addr} {xs : List V} (h : H p = some (.lst xs)) (n : p ≠ a) (f : Fr a H H') : H' p = some (.lst xs) := f _ _ n h
theorem Rat.fr {b : Nat} {C : Addr} {H H' : Hp} {a p : Addr} {i j : Int} (h : Rat C H p i j) (s : Src b H a) (f : Fr a H H') : Rat C H' p i j :=
  let ⟨dx, h⟩ := h; let ⟨_, _, _, k, _⟩ := s; ⟨dx, f _ _ (ne_of h k (by intro z; cases z)) h⟩
/-! ### pairs in lowest terms -/
def low (i j : Int) : Int × Int := (i / (Int.gcd i j : Int), j / (Int.gcd i j : Int))
/-- in lowest terms, so many bits at most -/
def Lp (n : Nat) (x : Int × Int) : Prop := 0 < x.2 ∧ Int.gcd x.1 x.2 = 1 ∧ Bt n x.1 ∧ Bt n x.2
theorem Lp.low {n : Nat} {i j : Int} (h : 0 < j) (a : Bt n i) (b : Bt n j) : Lp n (G.low i j) := ⟨low_pos h, low_gcd h, low_bt h a, low_bt_b h b⟩
theorem Lp.mono {n m : Nat} {x : Int × Int} (h : Lp n x) (l : n ≤ m) : Lp m x := ⟨h.1, h.2.1, h.2.2.1.mono l, h.2.2.2.mono l⟩
theorem Lp.again {n : Nat} {x : Int × Int} (h : Lp n x) : G.low x.1 x.2 = x := by
  obtain ⟨h1, h2⟩ := low_again h.2.1
  unfold G.low
  rw [h1, h2]
end G
namespace G
open PySem PySem.Spec L2
/-! ### sums, differences, products of pairs: 0, 1, 2 -/
def jn (w : Int) (x y : Int × Int) : Int × Int := if w = 2 then low (x.1 * y.1) (x.2 * y.2) else low (x.1 * y.2 + (1 - 2 * w) * y.1 * x.2) (x.2 * y.2)
theorem jn_add (x y : Int × Int) : jn 0 x y = low (x.1 * y.2 + y.1 * x.2) (x.2 * y.2) := by
  unfold jn
  rw [if_neg (by decide), show (1 - 2 * 0 : Int) = 1 by decide, Int.one_mul]
theorem jn_sub (x y : Int × Int) : jn 1 x y = low (x.1 * y.2 - y.1 * x.2) (x.2 * y.2) := by
  unfold jn
  rw [if_neg (by decide), show (1 - 2 * 1 : Int) = -1 by decide, Int.neg_mul, Int.one_mul, Int.neg_mul, ← Int.sub_eq_add_neg]
theorem jn_mul (x y : Int × Int) : jn 2 x y = low (x.1 * y.1) (x.2 * y.2) := by
  unfold jn
  rw [if_pos rfl]
theorem jn_lp {a b : Nat} {w : Int} {x y : Int × Int} (h : w = 0 ∨ w = 1 ∨ w = 2) (hx : Lp a x) (hy : Lp b y) : Lp (a + b + 1) (jn w x y) := by
  obtain ⟨x1, x2, x3, x4⟩ := hx
  obtain ⟨y1, y2, y3, y4⟩ := hy
  have p := Int.mul_pos x1 y1
  have c : max (a + b) (b + a) + 1 ≤ a + b + 1 := by omega
  rcases h with rfl | rfl | rfl
  · rw [jn_add]
    exact Lp.low p ((Bt.add (Bt.mul x3 y4) (Bt.mul y3 x4)).mono c) ((Bt.mul x4 y4).mono (by omega))
  · rw [jn_sub]
    exact Lp.low p ((Bt.sub (Bt.mul x3 y4) (Bt.mul y3 x4)).mono c) ((Bt.mul x4 y4).mono (by omega))
  · rw [jn_mul]
    exact Lp.low p ((Bt.mul x3 y3).mono (by omega)) ((Bt.mul x4 y4).mono (by omega))
/-- an operator of two ratios -/
def spBin (C : Addr) (w : Int) : Sp := fun vs H Q _ => ∃ p q x y n, vs = [.ref p, .ref q] ∧ Rat C H p x.1 x.2 ∧ Rat C H q y.1 y.2 ∧ Lp n x ∧ Lp n y ∧ n ≤ 3500 ∧
  ∀ r H', H r = none → Same H H' → Rat C H' r (jn w x y).1 (jn w x y).2 → Q (.ref r) H'
def spNeg (C : Addr) : Sp := fun vs H Q _ => ∃ p x n, vs = [.ref p] ∧ Rat C H p x.1 x.2 ∧ Lp n x ∧ n ≤ 3500 ∧
  ∀ r H', H r = none → Same H H' → Rat C H' r (-x.1) x.2 → Q (.ref r) H'
/-- == of a ratio with a ratio, with any other value -/
def spEq (K : PySem.W.Frag) (C : Addr) : Sp := fun vs H Q _ =>
  (∃ (p q : Addr) (x y : Int × Int), vs = [.ref p, .ref q] ∧ Rat C H p x.1 x.2 ∧ Rat C H q y.1 y.2 ∧ Q (.bl (decide (x = y))) H) ∨
  (∃ (p : Addr) (x : Int × Int) (v : V) (t : Value), vs = [.ref p, v] ∧ Rat C H p x.1 x.2 ∧ TyX K H v t ∧ PySem.W.kitOne K t (.ref C) = some false ∧ Q (.bl false) H)
end G
namespace G
open PySem PySem.Spec L2
theorem ratio_lp {C : Addr} {H : Hp} {n : Nat} {x : Int × Int} {Q : Addr → Hp → Prop} {E : XK} (hx : Lp n x) (hn : decide (n ≤ 8000) = true) (q : ∀ r H2, H r = none → Same H H2 → Rat C H2 r x.1 x.2 → Q r H2) :
    ∀ r dx, H r = none → H dx = none → dx ≠ r → spInit C [.ref r, .int x.1, .int x.2] (upd (upd H dx (.own r)) r (.ins C dx [])) (fun v H2 => v = .non ∧ Q r H2) E :=
  ratio_of hx.1 (hx.2.2.2.mono (of_decide_eq_true hn)) fun r H2 n e R => q r H2 n e (by
    have z := hx.again
    unfold G.low at z
    have z1 : x.1 / (Int.gcd x.1 x.2 : Int) = x.1 := congrArg Prod.fst z
    have z2 : x.2 / (Int.gcd x.1 x.2 : Int) = x.2 := congrArg Prod.snd z
    rw [z1, z2] at R
    exact R)
theorem bt_of_31 {i : Int} {n : Nat} (h : i.natAbs < 10 ^ 31) (hn : decide (104 ≤ n) = true) : Bt n i := by
  refine Bt.mono (a := 104) ?_ (of_decide_eq_true hn)
  unfold Bt
  omega
theorem bt_of_p31 {i : Int} {n : Nat} (h0 : 0 < i) (h : i < 10 ^ 31) (hn : decide (104 ≤ n) = true) : Bt n i := bt_of_31 (by omega) hn
/-- a pair that was drawn, in lowest terms -/
theorem lp_drawn {i j : Int} (hi : i.natAbs < 10 ^ 31) (h0 : 0 < j) (hj : j < 10 ^ 31) : Lp 104 (low i j) := Lp.low h0 (bt_of_31 hi rfl) (bt_of_p31 h0 hj rfl)
/-- tuples of pairs stand at the places of a list -/
inductive Tups (H : Hp) : List V → List (Int × Int) → Prop
  | nil : Tups H [] []
  | cons {s : Addr} {x : Int × Int} {vs : List V} {xs : List (Int × Int)} : H s = some (.tup [.int x.1, .int x.2]) → Tups H vs xs → Tups H (.ref s :: vs) (x :: xs)
theorem Tups.same {H H' : Hp} {vs : List V} {xs : List (Int × Int)} (h : Tups H vs xs) (e : Same H H') : Tups H' vs xs := by
  induction h with
  | nil => exact .nil
  | cons a _ ih => exact .cons (e _ _ a) ih
theorem Tups.fr {H H' : Hp} {L : Addr} {ys : List V} {vs : List V} {xs : List (Int × Int)} (h : Tups H vs xs) (hL : H L = some (.lst ys)) (e : Fr L H H') : Tups H' vs xs := by
  induction h with
  | nil => exact .nil
  | cons a _ ih => exact .cons (e _ _ (ne_of a hL (by intro z; cases z)) a) ih
theorem Tups.snoc {H : Hp} {s : Addr} {x : Int × Int} {vs : List V} {xs : List (Int × Int)} (h : Tups H vs xs) (a : H s = some (.tup [.int x.1, .int x.2])) : Tups H (vs ++ [.ref s]) (xs ++ [x]) := by
  induction h with
  | nil => exact .cons a .nil
  | cons b _ ih => exact .cons b ih
theorem Tups.dp {K : PySem.W.Frag} {H : Hp} {vs : List V} {xs : List (Int × Int)} (h : Tups H vs xs) : DpAll K H vs (xs.map prd) := by
  induction h with
  | nil => exact .nil
  | cons a _ ih => exact .cons (prd_dp a) ih
theorem prds_lim {xs : List (Int × Int)} (h : ∀ x ∈ xs, Bt 1900 x.1 ∧ Bt 1900 x.2) : lim (.list (xs.map prd)) := by
  simp only [lim]
  induction xs with
  | nil => simp only [List.map_nil, limAll]
  | cons x r ih =>
    have a := h x List.mem_cons_self
    exact ⟨prd_lim a.1 a.2, ih fun y hy => h y (List.mem_cons_of_mem _ hy)⟩
theorem Lp.lim {n : Nat} {x : Int × Int} (h : Lp n x) (hn : decide (n ≤ 1900) = true) : G.lim (prd x) := prd_lim (h.2.2.1.mono (of_decide_eq_true hn)) (h.2.2.2.mono (of_decide_eq_true hn))
theorem lim_two {x y : PyData} (a : lim x) (b : lim y) : lim (.list [x, y]) := ⟨a, b, trivial⟩
theorem take_snoc {α : Type} {l : List α} {i : Nat} {x : α} (h : l[i]? = some x) : l.take (i + 1) = l.take i ++ [x] := by
  rw [List.take_add_one, h]
  rfl
end G
namespace G
open PySem PySem.Spec L2
/-- ratios stand at the places of a list -/
inductive Rats (C : Addr) (H : Hp) : List V → List (Int × Int) → Prop
  | nil : Rats C H [] []
  | cons {s : Addr} {x : Int × Int} {vs : List V} {xs : List (Int × Int)} : Rat C H s x.1 x.2 → Rats C H vs xs → Rats C H (.ref s :: vs) (x :: xs)
theorem Rats.same {C : Addr} {H H' : Hp} {vs : List V} {xs : List (Int × Int)} (h : Rats C H vs xs) (e : Same H H') : Rats C H' vs xs := by
  induction h with
  | nil => exact .nil
  | cons a _ ih => exact .cons (a.same e) ih
theorem Rats.fr {C : Addr} {H H' : Hp} {L : Addr} {ys vs : List V} {xs : List (Int × Int)} (h : Rats C H vs xs) (hL : H L = some (.lst ys)) (e : Fr L H H') : Rats C H' vs xs := by
  induction h with
  | nil => exact .nil
  | cons a _ ih =>
    obtain ⟨dx, a⟩ := a
    exact .cons ⟨dx, e _ _ (ne_of a hL (by intro z; cases z)) a⟩ ih
theorem Rats.snoc {C : Addr} {H : Hp} {s : Addr} {x : Int × Int} {vs : List V} {xs : List (Int × Int)} (h : Rats C H vs xs) (a : Rat C H s x.1 x.2) : Rats C H (vs ++ [.ref s]) (xs ++ [x]) := by
  induction h with
  | nil => exact .cons a .nil
  | cons b _ ih => exact .cons b ih
theorem Rats.get {C : Addr} {H : Hp} {vs : List V} {xs : List (Int × Int)} (h : Rats C H vs xs) : ∀ {k : Nat} {v : V}, vs[k]? = some v → ∃ r x, v = .ref r ∧ xs[k]? = some x ∧ Rat C H r x.1 x.2 := by
  induction h with
  | nil => intro k v e; simp at e
  | @cons s x vs xs a _ ih =>
    intro k v e
    cases k with
    | zero =>
      simp at e
      exact ⟨s, x, e.symm, rfl, a⟩
    | succ k =>
      simp at e
      obtain ⟨r, y, h1, h2, h3⟩ := ih e
      exact ⟨r, y, h1, by simpa using h2, h3⟩
theorem Rats.len {C : Addr} {H : Hp} {vs : List V} {xs : List (Int × Int)} (h : Rats C H vs xs) : vs.length = xs.length := by
  induction h with
  | nil => rfl
  | cons _ _ ih => simp [ih]
theorem w_yes {σ : L2.St} {H : Hp} {R : Bool → Hp → Prop} (q : R true H) : tYes σ H R := q
/-- [_law_seen(thing) for thing in told] -/
theorem seen_all {K : PySem.W.Frag} {C : Addr} {σ : L2.St} {H : Hp} {Q : VK} {E : XK} {t : Addr} {i j : Nat} {rs : List V} {xs : List (Int × Int)} (hv : σ[i]? = some (some (.ref t))) (hj : j < σ.length) (ht : H t = some (.lst rs)) (hr : Rats C H rs xs)
    (hlen : rs.length ≤ 1000) (q : ∀ L acc H', H L = none → Same H H' → H' L = some (.lst acc) → Tups H' acc xs → Q (.ref L) H') :
    tLc (iList K (tVar i)) (gName j) tYes (tCall (spSeen C) [] E (tCons (tVar j) tNil)) [j] σ H Q := by
  refine w_lcL (fun R h => w_var hv h) (SqL.of ht) (fun L k acc H' => Same H H' ∧ Tups H' acc (xs.take k) ∧ acc.length = k) (fun L H' _ e _ => ⟨e, by rw [List.take_zero]; exact .nil, rfl⟩) (fun L k acc H' _ p => p.1.seq (SqL.of ht)) ?_ ?_
  · rintro L k x acc H' nL hx hL ⟨e, ts, hk⟩
    obtain ⟨r, y, rfl, hy, R⟩ := hr.get hx
    refine ⟨?_, ?_⟩
    · show ((σ.set j none).set j (some (.ref r))).set j none = σ.set j none
      rw [List.set_set, List.set_set]
    · refine w_yes ?_
      refine w_iteT rfl ?_
      refine w_call (w_cons (w_var (v := .ref r) ?_ (w_nil ?_)))
      · show ((σ.set j none).set j (some (.ref r)))[j]? = _
        rw [List.getElem?_set_self (by rw [List.length_set]; exact hj)]
      · refine ⟨r, y.1, y.2, rfl, R.same e, fun s H2 ns e2 h2 => ?_⟩
        have kl : k < rs.length := (List.getElem?_eq_some_iff.mp hx).1
        refine fills_more (e2 _ _ hL) (by omega) fun H5 f5 h5 => ⟨Fr.unseen nL (e.trans e2) f5, ?_, by rw [List.length_append, hk]; rfl⟩
        rw [take_snoc hy]
        exact ((ts.same e2).fr (e2 _ _ hL) f5).snoc (f5 _ _ (ne_of h2 (e2 _ _ hL) (by intro z; cases z)) h2)
  · rintro L acc H' nL hL ⟨e, ts, _⟩
    rw [hr.len, List.take_length] at ts
    exact q L acc H' nL e hL ts
end G
namespace G
open PySem PySem.Spec L2
section
variable {σ : L2.St} {H : Hp} {D : Ends} {tr : TA} {tb : TS}
theorem w_iRng1 {R : It → Hp → Prop} (q : tr σ H fun vs H1 => ∃ j : Int, vs = [.int j] ∧ -(2 ^ 62) ≤ j ∧ j < 2 ^ 62 ∧ R (Itr 0 j.toNat) H1) : iRng1 tr σ H R := q
/-- for .. in range(n), the number known -/
theorem w_walkR {j : Nat} {n : Int} (hn : 0 ≤ n ∧ n ≤ 1000000) (Pv : Nat → L2.St → Hp → Prop) (h0 : Pv 0 σ H)
    (hs : ∀ (i : Nat) σ' H', (i : Int) < n → Pv i σ' H' → tb { nx := Pv (i + 1), rt := D.rt, ct := Pv (i + 1), bk := D.nx } (σ'.set j (some (.int (i : Int)))) H') (hd : ∀ σ' H', Pv n.toNat σ' H' → D.nx σ' H') :
    -(2 ^ 62) ≤ n ∧ n < 2 ^ 62 ∧ ForW (Itr 0 n.toNat) (gName j) tb D σ H := by
  refine ⟨by omega, by omega, for_range (lo := 0) (n := n.toNat) Pv h0 (fun i σ' H' hi p => ?_) hd⟩
  have e0 : (0 : Int) + (i : Int) = (i : Int) := Int.zero_add _
  show tb { nx := Pv (i + 1), rt := D.rt, ct := Pv (i + 1), bk := D.nx } (σ'.set j (some (.int ((0 : Int) + (i : Int))))) H'
  rw [e0]
  exact hs i σ' H' (by omega) p
end
end G
namespace G
open PySem PySem.Spec L2
/-- an instance of the class at C has that class as its type -/
def InsTy (K : PySem.W.Frag) (C : Addr) : Prop := ∀ (H : Hp) (p dx : Addr) (fs : List (Str × V)), H p = some (.ins C dx fs) → TyX K H (.ref p) (.ref C)
section
variable {K : PySem.W.Frag} {C : Addr} {H : Hp} {Q : VK} {E : XK} {p q : Addr} {x y : Int × Int} {n : Nat}
theorem w_negR (R : Rat C H p x.1 x.2) (hx : Lp n x) (hn : decide (n ≤ 3500) = true) (k : ∀ r H', H r = none → Same H H' → Rat C H' r (-x.1) x.2 → Q (.ref r) H') : rNeg C (spNeg C) E (.ref p) H Q :=
  let ⟨dx, h⟩ := R; ⟨p, dx, _, rfl, h, p, x, n, rfl, ⟨dx, h⟩, hx, of_decide_eq_true hn, k⟩
theorem w_binR {w : Int} (R : Rat C H p x.1 x.2) (S : Rat C H q y.1 y.2) (hx : Lp n x) (hy : Lp n y) (hn : decide (n ≤ 3500) = true) (k : ∀ r H', H r = none → Same H H' → Rat C H' r (jn w x y).1 (jn w x y).2 → Q (.ref r) H') :
    rOwn C (spBin C w) E (.ref p) (.ref q) H Q :=
  let ⟨dx, h⟩ := R; let ⟨dy, h'⟩ := S; ⟨p, dx, _, q, dy, _, rfl, rfl, h, h', p, q, x, y, n, rfl, ⟨dx, h⟩, ⟨dy, h'⟩, hx, hy, of_decide_eq_true hn, k⟩
theorem notFirst_self : PySem.W.notFirst K C (.ref C) = true := by
  unfold PySem.W.notFirst
  simp
theorem w_eqR (I : InsTy K C) (R : Rat C H p x.1 x.2) (S : Rat C H q y.1 y.2) (k : Q (.bl (decide (x = y))) H) : rEqO K C (spEq K C) E (.ref p) (.ref q) H Q :=
  let ⟨dx, h⟩ := R; let ⟨dy, h'⟩ := S; ⟨p, dx, _, .ref C, rfl, h, I _ _ _ _ h', notFirst_self, .inl ⟨p, q, x, y, rfl, ⟨dx, h⟩, ⟨dy, h'⟩, k⟩⟩
theorem w_isR (I : InsTy K C) (ki : PySem.W.kitOne K (.ref C) (.ref C) = some true) {i j : Int} (R : Rat C H p i j) (k : Q (.bl true) H) : spIsR K C [.ref p] H Q E :=
  let ⟨_, h⟩ := R; ⟨_, _, true, rfl, I _ _ _ _ h, ki, k⟩
end
theorem Lp.neg {n : Nat} {x : Int × Int} (h : Lp n x) : Lp n (-x.1, x.2) := ⟨h.1, by show Int.gcd (-x.1) x.2 = 1; rw [Int.neg_gcd]; exact h.2.1, h.2.2.1.neg, h.2.2.2⟩
theorem jn_neg (x y : Int × Int) : jn 1 x y = jn 0 x (-y.1, y.2) := by
  rw [jn_sub, jn_add]
  show low (x.1 * y.2 - y.1 * x.2) (x.2 * y.2) = low (x.1 * y.2 + -y.1 * x.2) (x.2 * y.2)
  rw [Int.neg_mul, Int.sub_eq_add_neg]
theorem low_zero {b : Int} (h : 0 < b) : low 0 b = (0, 1) := by
  unfold low
  have e : (Int.gcd 0 b : Int) = b := by
    rw [Int.gcd_zero_left]
    omega
  rw [e, Int.zero_ediv, Int.ediv_self (by omega)]
theorem jn_self {n : Nat} {x : Int × Int} (h : Lp n x) : jn 1 x x = (0, 1) := by
  rw [jn_sub, Int.sub_self]
  exact low_zero (Int.mul_pos h.1 h.1)
end G

/-! Pairs as numbers. -/
namespace G
open PySem
/-- the number that a pair stands for -/
def val (x : Int × Int) : _root_.Rat := (x.1 : _root_.Rat) / (x.2 : _root_.Rat)
theorem cast_ne {j : Int} (h : j ≠ 0) : (j : _root_.Rat) ≠ 0 := by
  intro z
  exact h (by exact_mod_cast z)
theorem val_low {i j : Int} (h : 0 < j) : val (low i j) = (i : _root_.Rat) / (j : _root_.Rat) := by
  have g := Int.gcd_pos_of_ne_zero_right i (show j ≠ 0 by omega)
  obtain ⟨a, ha⟩ : (Int.gcd i j : Int) ∣ i := Int.gcd_dvd_left i j
  obtain ⟨b, hb⟩ : (Int.gcd i j : Int) ∣ j := Int.gcd_dvd_right i j
  have g0 : (Int.gcd i j : Int) ≠ 0 := by omega
  unfold val low
  show ((i / (Int.gcd i j : Int) : Int) : _root_.Rat) / ((j / (Int.gcd i j : Int) : Int) : _root_.Rat) = _
  generalize hg : (Int.gcd i j : Int) = d at *
  have e1 : i / d = a := by rw [ha]; exact Int.mul_ediv_cancel_left a g0
  have e2 : j / d = b := by rw [hb]; exact Int.mul_ediv_cancel_left b g0
  rw [e1, e2]
  have b0 : b ≠ 0 := by
    intro z
    rw [z] at hb
    omega
  have q1 := cast_ne b0
  have q2 := cast_ne g0
  have c1 : (i : _root_.Rat) = d * a := by exact_mod_cast ha
  have c2 : (j : _root_.Rat) = d * b := by exact_mod_cast hb
  rw [c1, c2]
  grind
theorem dvd_of {a b c : Int} (h : a ∣ b * c) (g : Int.gcd a b = 1) : a ∣ c := by
  have e := Int.gcd_mul_right_right_of_gcd_eq_one (k := c) g
  have d : a ∣ (Int.gcd a (b * c) : Int) := Int.dvd_coe_gcd (Int.dvd_refl a) h
  rw [e] at d
  exact Int.dvd_trans d (Int.gcd_dvd_right a c)
theorem val_inj {n m : Nat} {x y : Int × Int} (hx : Lp n x) (hy : Lp m y) (h : val x = val y) : x = y := by
  obtain ⟨x1, x2, _⟩ := hx
  obtain ⟨y1, y2, _⟩ := hy
  have q1 := cast_ne (show x.2 ≠ 0 by omega)
  have q2 := cast_ne (show y.2 ≠ 0 by omega)
  unfold val at h
  have c : (x.1 : _root_.Rat) * y.2 = y.1 * x.2 := by grind
  have c : x.1 * y.2 = y.1 * x.2 := by exact_mod_cast c
  have d1 : x.2 ∣ y.2 := dvd_of (b := x.1) ⟨y.1, by rw [c, Int.mul_comm]⟩ (by rw [Int.gcd_comm]; exact x2)
  have d2 : y.2 ∣ x.2 := dvd_of (b := y.1) ⟨x.1, by rw [← c, Int.mul_comm]⟩ (by rw [Int.gcd_comm]; exact y2)
  have e : x.2 = y.2 := Int.dvd_antisymm (by omega) (by omega) d1 d2
  refine Prod.ext ?_ e
  rw [← e] at c
  exact Int.eq_of_mul_eq_mul_right (by omega) c
theorem val_jn0 {n m : Nat} {x y : Int × Int} (hx : Lp n x) (hy : Lp m y) : val (jn 0 x y) = val x + val y := by
  have q1 := cast_ne (show x.2 ≠ 0 by have := hx.1; omega)
  have q2 := cast_ne (show y.2 ≠ 0 by have := hy.1; omega)
  rw [jn_add, val_low (Int.mul_pos hx.1 hy.1)]
  unfold val
  push_cast
  grind
theorem val_jn1 {n m : Nat} {x y : Int × Int} (hx : Lp n x) (hy : Lp m y) : val (jn 1 x y) = val x - val y := by
  have q1 := cast_ne (show x.2 ≠ 0 by have := hx.1; omega)
  have q2 := cast_ne (show y.2 ≠ 0 by have := hy.1; omega)
  rw [jn_sub, val_low (Int.mul_pos hx.1 hy.1)]
  unfold val
  push_cast
  grind
theorem val_jn2 {n m : Nat} {x y : Int × Int} (hx : Lp n x) (hy : Lp m y) : val (jn 2 x y) = val x * val y := by
  have q1 := cast_ne (show x.2 ≠ 0 by have := hx.1; omega)
  have q2 := cast_ne (show y.2 ≠ 0 by have := hy.1; omega)
  rw [jn_mul, val_low (Int.mul_pos hx.1 hy.1)]
  unfold val
  push_cast
  grind
theorem val_neg {n : Nat} {x : Int × Int} (hx : Lp n x) : val (-x.1, x.2) = -val x := by
  have q1 := cast_ne (show x.2 ≠ 0 by have := hx.1; omega)
  unfold val
  push_cast
  grind
theorem val_ne {n : Nat} {x : Int × Int} (hx : Lp n x) (h : x.1 ≠ 0) : val x ≠ 0 := by
  have q1 := cast_ne (show x.2 ≠ 0 by have := hx.1; omega)
  have q2 := cast_ne h
  unfold val
  grind
/-! ### quotients -/
def qt (x y : Int × Int) : Int × Int := if 0 < x.2 * y.1 then low (x.1 * y.2) (x.2 * y.1) else low (-(x.1 * y.2)) (-(x.2 * y.1))
theorem mul_ne {n : Nat} {x y : Int × Int} (hx : Lp n x) (h : y.1 ≠ 0) : x.2 * y.1 ≠ 0 := Int.mul_ne_zero (by have := hx.1; omega) h
theorem qt_lp {n m : Nat} {x y : Int × Int} (hx : Lp n x) (hy : Lp m y) (h : y.1 ≠ 0) : Lp (n + m) (qt x y) := by
  have hne := mul_ne hx h
  obtain ⟨x1, x2, x3, x4⟩ := hx
  obtain ⟨y1, y2, y3, y4⟩ := hy
  unfold qt
  split
  · exact Lp.low (by omega) (Bt.mul x3 y4) (Bt.mul x4 y3)
  · exact Lp.low (by omega) (Bt.mul x3 y4).neg (Bt.mul x4 y3).neg
theorem val_qt {n m : Nat} {x y : Int × Int} (hx : Lp n x) (hy : Lp m y) (h : y.1 ≠ 0) : val (qt x y) = val x / val y := by
  have q1 := cast_ne (show x.2 ≠ 0 by have := hx.1; omega)
  have q2 := cast_ne (show y.2 ≠ 0 by have := hy.1; omega)
  have q3 := cast_ne h
  have hne := mul_ne hx h
  unfold qt
  split
  · rw [val_low (by omega)]
    unfold val
    push_cast
    grind
  · rw [val_low (by omega)]
    unfold val
    push_cast
    grind
end G
namespace G
/-! what the quotients keep -/
theorem qt_mul {n m : Nat} {x y : Int × Int} (hx : Lp n x) (hy : Lp m y) (h : y.1 ≠ 0) : jn 2 (qt x y) y = x := by
  have q := val_ne hy h
  refine val_inj (jn_lp (.inr (.inr rfl)) (qt_lp hx hy h) hy) hx ?_
  rw [val_jn2 (qt_lp hx hy h) hy, val_qt hx hy h]
  grind
theorem lp_one : Lp 2 (1, 1) := ⟨by decide, by decide, by decide, by decide⟩
theorem qt_one {n : Nat} {x : Int × Int} (hx : Lp n x) : qt x (1, 1) = x := by
  refine val_inj (qt_lp hx lp_one (by decide)) hx ?_
  rw [val_qt hx lp_one (by decide)]
  have e : val (1, 1) = 1 := by unfold val; decide +kernel
  rw [e]
  grind
theorem qt_self {n : Nat} {y : Int × Int} (hy : Lp n y) (h : y.1 ≠ 0) : qt y y = (1, 1) := by
  have q := val_ne hy h
  refine val_inj (qt_lp hy hy h) lp_one ?_
  rw [val_qt hy hy h]
  have e : val (1, 1) = 1 := by unfold val; decide +kernel
  rw [e]
  grind
theorem qt_neg {n m : Nat} {x y : Int × Int} (hx : Lp n x) (hy : Lp m y) (h : y.1 ≠ 0) : qt x (-y.1, y.2) = (-(qt x y).1, (qt x y).2) := by
  have q := val_ne hy h
  have h' : (-y.1, y.2).1 ≠ 0 := by show -y.1 ≠ 0; omega
  refine val_inj (qt_lp hx hy.neg h') (qt_lp hx hy h).neg ?_
  rw [val_qt hx hy.neg h', val_neg (qt_lp hx hy h), val_qt hx hy h, val_neg hy]
  grind
theorem jn2_ne {n m : Nat} {x y : Int × Int} (hx : Lp n x) (hy : Lp m y) (h1 : x.1 ≠ 0) (h2 : y.1 ≠ 0) : (jn 2 x y).1 ≠ 0 := by
  intro z
  have e := val_jn2 hx hy
  have q1 := val_ne hx h1
  have q2 := val_ne hy h2
  have e0 : val (jn 2 x y) = 0 := by
    unfold val
    rw [z]
    grind
  rw [e0] at e
  grind
theorem qt_twice {n m : Nat} {x y : Int × Int} (hx : Lp n x) (hy : Lp m y) (h : y.1 ≠ 0) : qt (qt x y) y = qt x (jn 2 y y) := by
  have q := val_ne hy h
  have h' := jn2_ne hy hy h h
  have l := jn_lp (.inr (.inr rfl)) hy hy
  refine val_inj (qt_lp (qt_lp hx hy h) hy h) (qt_lp hx l h') ?_
  rw [val_qt (qt_lp hx hy h) hy h, val_qt hx hy h, val_qt hx l h', val_jn2 hy hy]
  grind
end G
namespace G
open PySem PySem.Spec PyProof.Rows L2
section
variable {X : Cx} {CX : CXT} {k : Nat} {f C : Addr} {fd : FuncData} {ps ks : List Str} {sp : Sp} {E : XK} {m : Str} {pos apos : Pos} {o : Expr} {kws : List Keyword} {ta : TE} {tk : TA} {g : List Value → List Value → List Value} {gV : List V → List V → List V}
/-- o.m(k = v, ..) -/
def tMethN (C : Addr) (m : Str) (n : Nat) (sp : Sp) (gV : List V → List V → List V) (E : XK) (ta : TE) (tk : TA) : TE := fun σ H Q => ta σ H fun x H1 => ∃ a dx fs, x = .ref a ∧ H1 a = some (.ins C dx fs) ∧ fs.lookup m = none ∧
  tk σ H1 fun zs H2 => zs.length = n ∧ sp (gV [x] zs) H2 Q E
theorem pe_methN0 {pl : Sem Bool} (he : PE X o ta) (c : Cls X.K C) (hm : Meth X.K C m f) (F : FnOk X.prog X.w X.K X.mg X.base CX k f fd ps sp) (hr : Room k X.A) (hb : KBn X.K fd ps 1 ks g gV) (hx : Passes CX X E) (hkw : PK X kws tk)
    (hall : (backToKw pos (keywordEach kws X.env)).all (·.1.isSome) = true := by rfl) (hks : (backToKw pos (keywordEach kws X.env)).filterMap (·.1) = ks := by rfl)
    (hpl : ((backTo pos (starEach [] X.env)).any (·.1) || (backToKw pos (keywordEach kws X.env)).any (·.1.isNone)) = false := by rfl)
    (ht : eval (.Call (.Attribute o m apos) [] kws pos) X.env = (do
      let ov ← eval o X.env
      standAt apos.atName
      let (f, first) ← holding [ov] (getMethod ov m pl)
      callWith pos f first (backTo pos (starEach [] X.env)) (backToKw pos (keywordEach kws X.env))) := by rfl) :
    PE X (.Call (.Attribute o m apos) [] kws pos) (tMethN C m ks.length sp gV E ta tk) := by
  refine ⟨fun pins s σ H Q I h => ?_⟩
  refine PySem.W.methodCall_KW (pl := pl) (thn (he.run pins s σ H _ I h) fun u s1 ⟨x, H1, I1, rx, a, dx, fs, ex, ea, l, q⟩ => ?_) ht
  subst ex
  obtain rfl : u = Value.ref a := rx
  refine getmeth_ok I1 ea c hm l ?_
  refine PySem.W.callWith_KW0 (first := [.ref a]) (h₀ := X.base) I.ok.mod.kin hm.kp hall ?_ hpl
  refine thn (hkw.run pos pins s1 σ H1 _ I1 q) fun ws s2 ⟨zs, H2, I2, rz, l2, q2⟩ => ⟨I2.kIn, ?_⟩
  rw [hks]
  exact run_fnN (us := [.ref a]) (vs := [.ref a]) F hr hb hx I2 (.cons rfl .nil) rz rfl l2 q2
/-- self and every other parameter by its name, in their order -/
theorem kbn_self {K : PySem.W.Frag} (h : ∀ us ws : List Value, us.length = 1 → ws.length = ks.length → bindArgs fd ⟨us, ks.zip ws⟩ = pure (ps.zip (us ++ ws))) : KBn K fd ps 1 ks (fun us ws => us ++ ws) (fun vs zs => vs ++ zs) :=
  ⟨fun s us ws _ l1 l2 => .of_eq (h us ws l1 l2), fun r1 r2 => r1.append r2⟩
end
section
variable {σ : L2.St} {H : Hp} {Q : VK} {ta : TE} {tk : TA} {sp : Sp} {E : XK} {C a dx : Addr} {fs : List (Str × V)} {m : Str} {n : Nat} {gV : List V → List V → List V}
theorem w_methN (q : ta σ H fun x H1 => ∃ a dx fs, x = .ref a ∧ H1 a = some (.ins C dx fs) ∧ fs.lookup m = none ∧ tk σ H1 fun zs H2 => zs.length = n ∧ sp (gV [x] zs) H2 Q E) : tMethN C m n sp gV E ta tk σ H Q := q
/-- the method is read off a ratio -/
theorem w_ofR {p : Addr} {i j : Int} {R : Prop} (h : Rat C H p i j) (hm : (m == ("_bottom" : Str)) = false) (hm2 : (m == ("_top" : Str)) = false) (q : R) : ∃ a dx fs, V.ref p = .ref a ∧ H a = some (.ins C dx fs) ∧ fs.lookup m = none ∧ R := by
  obtain ⟨dx, h⟩ := h
  refine ⟨p, dx, _, rfl, h, ?_, q⟩
  unfold rf
  rw [lookup_putF, if_neg (by intro z; rw [z] at hm; simp at hm), lookup_putF, if_neg (by intro z; rw [z] at hm2; simp at hm2)]
  rfl
/-- a quotient's promise: the divisor is not 0 -/
def spOver (C : Addr) : Sp := fun vs H Q _ => ∃ p q x y n, vs = [.ref p, .ref q] ∧ Rat C H p x.1 x.2 ∧ Rat C H q y.1 y.2 ∧ Lp n x ∧ Lp n y ∧ n ≤ 3500 ∧ y.1 ≠ 0 ∧
  ∀ r H', H r = none → Same H H' → Rat C H' r (qt x y).1 (qt x y).2 → Q (.ref r) H'
end
end G
namespace G
open PySem PySem.Spec L2
theorem w_cut {t u : TS} {D : Ends} {σ : L2.St} {H : Hp} (Mid : L2.St → Hp → Prop) (h : t { nx := Mid, rt := D.rt, bk := D.bk, ct := D.ct } σ H) (k : ∀ σ' H', Mid σ' H' → u D σ' H') : C8.tCut t u D σ H := ⟨Mid, h, k⟩
theorem low_pos1 {i j : Int} (hi : 0 < i) (h : 0 < j) : (low i j).1 ≠ 0 := by
  have g := Int.gcd_pos_of_ne_zero_right i (show j ≠ 0 by omega)
  have d : (Int.gcd i j : Int) ∣ i := Int.gcd_dvd_left i j
  have : 0 < i / (Int.gcd i j : Int) := Int.ediv_pos_of_pos_of_dvd hi (by omega) d
  show i / (Int.gcd i j : Int) ≠ 0
  omega
end G

/-! Sums of lists of pairs. -/
namespace G
open PySem L2
/-- the pairs of a list, joined from 0 on -/
def tot (xs : List (Int × Int)) : Int × Int := xs.foldl (jn 0) (0, 1)
/-- their numbers, added -/
def vsum : List (Int × Int) → _root_.Rat
  | [] => 0
  | x :: xs => val x + vsum xs
theorem vsum_app : ∀ xs ys : List (Int × Int), vsum (xs ++ ys) = vsum xs + vsum ys
  | [], ys => by
    show vsum ys = 0 + vsum ys
    grind
  | x :: xs, ys => by
    show val x + vsum (xs ++ ys) = val x + vsum xs + vsum ys
    rw [vsum_app xs ys]
    grind
theorem vsum_rev : ∀ xs : List (Int × Int), vsum xs.reverse = vsum xs
  | [] => rfl
  | x :: xs => by
    rw [List.reverse_cons, vsum_app, vsum_rev xs]
    show vsum xs + (val x + 0) = val x + vsum xs
    grind
theorem fold_lp : ∀ (xs : List (Int × Int)) (n m : Nat) (a : Int × Int), Lp m a → (∀ x ∈ xs, Lp n x) → Lp (m + xs.length * (n + 1)) (xs.foldl (jn 0) a) ∧ val (xs.foldl (jn 0) a) = val a + vsum xs
  | [], n, m, a, ha, _ => ⟨ha.mono (by omega), by show val a = val a + 0; grind⟩
  | x :: xs, n, m, a, ha, h => by
    have hx := h x List.mem_cons_self
    have q := fold_lp xs n (m + n + 1) (jn 0 a x) (jn_lp (.inl rfl) ha hx) fun y hy => h y (List.mem_cons_of_mem _ hy)
    refine ⟨q.1.mono ?_, ?_⟩
    · rw [List.length_cons, Nat.succ_mul]
      omega
    · show val (xs.foldl (jn 0) (jn 0 a x)) = val a + (val x + vsum xs)
      rw [q.2, val_jn0 ha hx]
      grind
theorem val_zero : val (0, 1) = 0 := by unfold val; decide +kernel
theorem lp_zero : Lp 1 (0, 1) := ⟨by decide, by decide, by decide, by decide⟩
theorem tot_lp {n : Nat} {xs : List (Int × Int)} (h : ∀ x ∈ xs, Lp n x) : Lp (1 + xs.length * (n + 1)) (tot xs) := (fold_lp xs n 1 _ lp_zero h).1
theorem tot_val {n : Nat} {xs : List (Int × Int)} (h : ∀ x ∈ xs, Lp n x) : val (tot xs) = vsum xs := by
  refine (fold_lp xs n 1 _ lp_zero h).2.trans ?_
  rw [val_zero]
  grind
theorem tot_snoc (xs : List (Int × Int)) (x : Int × Int) : tot (xs ++ [x]) = jn 0 (tot xs) x := by
  unfold tot
  rw [List.foldl_append]
  rfl
theorem tot_same {n m : Nat} {xs ys : List (Int × Int)} (h : ∀ x ∈ xs, Lp n x) (k : ∀ x ∈ ys, Lp m x) (e : vsum xs = vsum ys) : tot xs = tot ys :=
  val_inj (tot_lp h) (tot_lp k) (by rw [tot_val h, tot_val k, e])
theorem tot_rev {n : Nat} {xs : List (Int × Int)} (h : ∀ x ∈ xs, Lp n x) : tot xs.reverse = tot xs :=
  tot_same (n := n) (m := n) (fun x hx => h x (List.mem_reverse.mp hx)) h (vsum_rev xs)
theorem tot_cut {n : Nat} {xs : List (Int × Int)} (h : ∀ x ∈ xs, Lp n x) (c : Nat) : jn 0 (tot (xs.take c)) (tot (xs.drop c)) = tot xs := by
  have h1 : ∀ x ∈ xs.take c, Lp n x := fun x hx => h x (List.mem_of_mem_take hx)
  have h2 : ∀ x ∈ xs.drop c, Lp n x := fun x hx => h x (List.mem_of_mem_drop hx)
  refine val_inj (jn_lp (.inl rfl) (tot_lp h1) (tot_lp h2)) (tot_lp h) ?_
  rw [val_jn0 (tot_lp h1) (tot_lp h2), tot_val h1, tot_val h2, tot_val h, ← vsum_app, List.take_append_drop]
theorem tot_take {n m : Nat} {xs : List (Int × Int)} (h : ∀ x ∈ xs, Lp n x) (hm : 1 + xs.length * (n + 1) ≤ m) : ∀ k, k ≤ xs.length → Lp m (tot (xs.take k)) := fun k hk => by
  have h1 : ∀ x ∈ xs.take k, Lp n x := fun x hx => h x (List.mem_of_mem_take hx)
  refine (tot_lp h1).mono (Nat.le_trans ?_ hm)
  have : (xs.take k).length ≤ xs.length := by rw [List.length_take]; omega
  have := Nat.mul_le_mul_right (n + 1) this
  omega
/-- k times 1 / b -/
theorem tot_same_parts {b n : Nat} (hb : 0 < b) (h1 : Lp n (1, (b : Int))) : ∀ k : Nat, tot (List.replicate k (1, (b : Int))) = low k b
  | 0 => by
    refine val_inj (n := 1) (m := 1) lp_zero ?_ ?_
    · have : Lp 1 (low 0 (b : Int)) := by rw [low_zero (by omega)]; exact lp_zero
      exact this
    · show val (0, 1) = val (low 0 (b : Int))
      rw [low_zero (by omega)]
  | k + 1 => by
    have hb' : (0 : Int) < b := by omega
    have e := tot_same_parts hb h1 k
    rw [List.replicate_succ', tot_snoc, e]
    have l : Lp ((k : Int).natAbs.log2 + 1 + ((b : Int).natAbs.log2 + 1)) (low k b) := Lp.low hb' (Bt.any.mono (by omega)) (Bt.any.mono (by omega))
    have l' : Lp (((k + 1 : Nat) : Int).natAbs.log2 + 1 + ((b : Int).natAbs.log2 + 1)) (low ((k + 1 : Nat) : Int) b) := Lp.low hb' (Bt.any.mono (by omega)) (Bt.any.mono (by omega))
    refine val_inj (jn_lp (.inl rfl) l h1) l' ?_
    rw [val_jn0 l h1, val_low hb', val_low hb']
    unfold val
    have c := cast_ne (show (b : Int) ≠ 0 by omega)
    have e1 : (((k + 1 : Nat) : Int) : _root_.Rat) = ((k : Int) : _root_.Rat) + 1 := by push_cast; rfl
    rw [e1]
    have e2 : (((1 : Int), (b : Int)).1 : _root_.Rat) = 1 := by rfl
    rw [e2]
    grind
theorem Tups.get {H : Hp} {vs : List V} {xs : List (Int × Int)} (h : Tups H vs xs) : ∀ {k : Nat} {v : V}, vs[k]? = some v → ∃ r x, v = .ref r ∧ xs[k]? = some x ∧ H r = some (.tup [.int x.1, .int x.2]) := by
  induction h with
  | nil => intro k v e; simp at e
  | @cons s x vs xs a t ih =>
    intro k v e
    cases k with
    | zero =>
      have e : V.ref s = v := by simpa using e
      exact ⟨s, x, e.symm, rfl, a⟩
    | succ k => exact ih (by simpa using e)
theorem Tups.len {H : Hp} {vs : List V} {xs : List (Int × Int)} (h : Tups H vs xs) : vs.length = xs.length := by
  induction h with
  | nil => rfl
  | cons a t ih => simp [ih]
/-- a, b = a pair -/
theorem w_g2 {K : PySem.W.Frag} {n i1 i2 : Nat} {p : Addr} {u v : V} {σ : L2.St} {H : Hp} {Q : L2.St → Hp → Prop} (h : SqT K H p [u, v]) (hn : n = 2) (q : Q ((σ.set i1 (some u)).set i2 (some v)) H) :
    gTup K n (gCons (gName i1) (gCons (gName i2) gNil)) (.ref p) σ H Q := by
  subst hn
  exact ⟨p, _, rfl, h, rfl, u, [v], rfl, v, [], rfl, rfl, q⟩
end G
namespace G
open PySem PySem.Spec PyProof.Rows L2
section
variable {X : Cx} {e k : Expr} {te : TE} {tk : TO} {p2 pos : Pos}
theorem ix_tupK {X : Cx} {K : PySem.W.Frag} (h : X.K = K) : IxR X (rIxT K) := by rw [← h]; exact ix_tup
theorem ix_listK {X : Cx} {K : PySem.W.Frag} (h : X.K = K) : IxR X (rIxL K) := by rw [← h]; exact ix_list
/-- xs[::-1] -/
def tRevL (K : PySem.W.Frag) (te : TE) (tk : TO) : TE := fun σ H Q => te σ H fun x H1 => tk σ H1 fun k H2 => ∃ a xs, x = .ref a ∧ k = some (-1) ∧ SqL K H2 a xs ∧ ∀ p H', H2 p = none → Same H2 H' → H' p = some (.lst xs.reverse) → Q (.ref p) H'
theorem pe_revL (he : PE X e te) (hk : PO X (some k) tk) : PE X (.Subscript e (.Slice none none (some k) p2) pos) (tRevL X.K te tk) := by
  refine ⟨fun pins s σ H Q I h => ?_⟩
  refine Subscript_ (thn (he.run pins s σ H _ I h) fun v s1 ⟨x, H1, I1, r1, q1⟩ => ?_)
  refine wpAny_Slice ?_
  rw [evalPart_none]
  refine wpAny_pure ?_
  refine wpAny_pure ?_
  refine thn (hk.run pins s1 σ H1 _ I1 q1) fun vk s3 ⟨u, H3, I3, pk, a, xs, ex, eu, hx, q3⟩ => ?_
  subst ex
  subst eu
  cases r1
  have I4 : Inv X pins σ H3 { s3 with heap := s3.heap.push { cls := .type "slice", data := .fields #[.none, .none, vk] } } := I3.kept (t' := s3.toks) fun b ob q => Heap.get?_push_of_some _ q
  show wpAny (model X.prog X.w) X.A (subscriptTail e (.Slice none none (some k) p2) (.ref a) (.ref s3.heap.objs.size)) (EP X pins σ Q) X.xe { s3 with heap := s3.heap.push { cls := .type "slice", data := .fields #[.none, .none, vk] } }
  obtain ⟨its, r, ht, hz⟩ := I4.list hx
  have hlen := r.length
  refine tail_any (ops := [.ref a, .ref s3.heap.objs.size]) ht.isList.typeIs slot_list_getitem.lookup ?_ (by with_unfolding_all rfl)
  refine wpAny_getItem_list_slice ht.isList (Heap.IsSliceOf.new ..) .none .none pk (by simp) ?_ (by rw [List.size_toArray]; omega)
  rw [PySem.W.krv_pick]
  generalize hs4 : ({ s3 with heap := s3.heap.push { cls := .type "slice", data := .fields #[.none, .none, vk] } } : Shared) = s4 at *
  refine ⟨.ref s4.heap.objs.size, _, I4.laid (t' := s4.toks) (o := .lst xs.reverse) (fun b ob q => Heap.get?_push_of_some _ q) (Nat.le_refl _) ?_, rfl, q3 _ _ (I4.hok.fresh (Nat.le_refl _)) (same_new (I4.hok.fresh (Nat.le_refl _))) upd_same⟩
  refine ⟨by rw [List.length_reverse]; exact hz, _, 0, ?_, Heap.get?_push_size _ rfl⟩
  exact Vals.reverse r
end
section
variable {K : PySem.W.Frag} {σ : L2.St} {H : Hp} {Q : VK} {te : TE} {tk : TO}
theorem w_revL (q : te σ H fun x H1 => tk σ H1 fun k H2 => ∃ a xs, x = .ref a ∧ k = some (-1) ∧ SqL K H2 a xs ∧ ∀ p H', H2 p = none → Same H2 H' → H' p = some (.lst xs.reverse) → Q (.ref p) H') : tRevL K te tk σ H Q := q
end
end G

/-! Comprehensions. -/
namespace G
open PySem PySem.Spec L2
/-- the items of two lists, one by one -/
inductive PL {β : Type} (O : V → β → Prop) : List V → List β → Prop
  | nil : PL O [] []
  | cons {v : V} {y : β} {vs : List V} {ys : List β} : O v y → PL O vs ys → PL O (v :: vs) (y :: ys)
theorem PL.snoc {β : Type} {O : V → β → Prop} {vs : List V} {ys : List β} {v : V} {y : β} (h : PL O vs ys) (a : O v y) : PL O (vs ++ [v]) (ys ++ [y]) := by
  induction h with
  | nil => exact .cons a .nil
  | cons b _ ih => exact .cons b ih
theorem PL.imp {β : Type} {O O' : V → β → Prop} {vs : List V} {ys : List β} (h : PL O vs ys) (f : ∀ v y, O v y → O' v y) : PL O' vs ys := by
  induction h with
  | nil => exact .nil
  | cons b _ ih => exact .cons (f _ _ b) ih
def TupV (H : Hp) (v : V) (x : Int × Int) : Prop := ∃ s, v = .ref s ∧ H s = some (.tup [.int x.1, .int x.2])
def RatV (C : Addr) (H : Hp) (v : V) (x : Int × Int) : Prop := ∃ s, v = .ref s ∧ Rat C H s x.1 x.2
theorem PL.tups {H : Hp} {vs : List V} {ys : List (Int × Int)} (h : PL (TupV H) vs ys) : Tups H vs ys := by
  induction h with
  | nil => exact .nil
  | cons b _ ih =>
    obtain ⟨s, rfl, h⟩ := b
    exact .cons h ih
theorem PL.rats {C : Addr} {H : Hp} {vs : List V} {ys : List (Int × Int)} (h : PL (RatV C H) vs ys) : Rats C H vs ys := by
  induction h with
  | nil => exact .nil
  | cons b _ ih =>
    obtain ⟨s, rfl, h⟩ := b
    exact .cons h ih
/-- what is kept of a thing while other things come and a list is filled -/
structure Kept {β : Type} (O : Hp → V → β → Prop) : Prop where
  same : ∀ {H H' : Hp} {v : V} {y : β}, O H v y → Same H H' → O H' v y
  fill : ∀ {H H' : Hp} {L : Addr} {zs : List V} {v : V} {y : β}, O H v y → H L = some (.lst zs) → Fr L H H' → O H' v y
theorem kept_tup : Kept TupV where
  same := fun ⟨s, e, h⟩ f => ⟨s, e, f _ _ h⟩
  fill := fun ⟨s, e, h⟩ hL f => ⟨s, e, f _ _ (ne_of h hL (by intro z; cases z)) h⟩
theorem kept_rat {C : Addr} : Kept (RatV C) where
  same := fun ⟨s, e, h⟩ f => ⟨s, e, h.same f⟩
  fill := fun ⟨s, e, ⟨dx, h⟩⟩ hL f => ⟨s, e, dx, f _ _ (ne_of h hL (by intro z; cases z)) h⟩
def LcW (J : It) (g : TG) (tt : TT) (te : TE) (vs : List Nat) (σ : L2.St) (Q : VK) (H1 : Hp) : Prop := ∀ D, H1 D = none → ∃ W : Nat → Nat → Hp → Prop, (∃ m, W 0 m (upd H1 D (.lst []))) ∧ ∀ i m H, W i m H →
  (J.stop i H ∧ Q (.ref D) H) ∨ (J.go i H ∧ ∃ Nx : Hp → Prop, (∀ H', Nx H' → ∃ m', m' < m ∧ W (i + 1) m' H') ∧ ∀ x H', J.yld i H x H' → g x (wipe σ vs) H' fun σ2 H2 => wipe σ2 vs = wipe σ vs ∧ tt σ2 H2 fun b H3 =>
    if b = true then te σ2 H3 fun y H4 => ∃ acc, H4 D = some (.lst acc) ∧ acc.length < sizeLine ∧ Nx (upd H4 D (.lst (acc ++ [y]))) else Nx H3)
theorem w_lc {wi : TI} {g : TG} {tt : TT} {te : TE} {vs : List Nat} {σ : L2.St} {H : Hp} {Q : VK} (q : wi σ H fun J H1 => LcW J g tt te vs σ Q H1) : tLc wi g tt te vs σ H Q := q
/-- [te for x in a list]: the items are those of ys -/
theorem w_lcMap {β : Type} {K : PySem.W.Frag} {O : Hp → V → β → Prop} (KO : Kept O) {te : TE} {σ : L2.St} {Q : VK} {H1 : Hp} {t : Addr} {rs : List V} {j : Nat} (ys : List β) (hl : H1 t = some (.lst rs)) (ly : rs.length = ys.length) (hn : rs.length ≤ 1000)
    (step : ∀ (k : Nat) v y H' (R : VK), rs[k]? = some v → ys[k]? = some y → Same H1 H' → (∀ u H2, Same H' H2 → O H2 u y → R u H2) → te ((σ.set j none).set j (some v)) H' R)
    (q : ∀ L acc H', H1 L = none → Same H1 H' → H' L = some (.lst acc) → PL (O H') acc ys → Q (.ref L) H') : LcW (Itl K t) (gName j) tYes te [j] σ Q H1 := by
  intro L nL
  refine lc_list (K := K) (xs := rs) (fun i H' => Fills (fun L k acc H' => Same H1 H' ∧ PL (O H') acc (ys.take k) ∧ acc.length = k) L i H') ⟨[], upd_same, same_new nL, .nil, rfl⟩ (fun i H' hi ⟨acc, _, p⟩ => SqL.of (p.1 _ _ hl)) ?_ ?_
  · rintro k v H' hv ⟨acc, hL, e, ps, hk⟩
    have kl : k < rs.length := (List.getElem?_eq_some_iff.mp hv).1
    obtain ⟨y, hy⟩ : ∃ y, ys[k]? = some y := ⟨ys[k]'(by omega), by rw [List.getElem?_eq_getElem]⟩
    refine ⟨?_, ?_⟩
    · show ((σ.set j none).set j (some v)).set j none = σ.set j none
      rw [List.set_set, List.set_set]
    · refine w_yes ?_
      refine w_iteT rfl ?_
      refine step k v y H' _ hv hy e fun u H2 e2 o2 => ?_
      refine fills_more (Pv := fun L k acc H' => Same H1 H' ∧ PL (O H') acc (ys.take k) ∧ acc.length = k) (e2 _ _ hL) (by omega) fun H5 f5 h5 => ⟨Fr.unseen nL (e.trans e2) f5, ?_, by rw [List.length_append, hk]; rfl⟩
      rw [take_snoc hy]
      exact (ps.imp fun v y o => KO.fill (KO.same o e2) (e2 _ _ hL) f5).snoc (KO.fill o2 (e2 _ _ hL) f5)
  · rintro H' ⟨acc, hL, e, ps, _⟩
    rw [ly, List.take_length] at ps
    exact q L acc H' nL e hL ps
theorem Src.fr {b : Nat} {H H' : Hp} {a L : Addr} (h : Src b H a) (n : a ≠ L) (f : Fr L H H') : Src b H' a :=
  let ⟨x, y, z, h1, r⟩ := h; ⟨x, y, z, f _ _ n h1, r⟩
/-- pairs in lowest terms, drawn -/
theorem w_lcPairs {K : PySem.W.Frag} {E E' : XK} {σ : L2.St} {Q : VK} {H1 : Hp} {a : Addr} {j b n : Nat} (ha : σ[0]? = some (some (.ref a))) (hj : j ≠ 0) (hS : Src b H1 a) (hn : n ≤ 1000) (hb : b ≤ 1000000)
    (q : ∀ L acc xs H', H1 L = none → L ≠ a → Fr a H1 H' → Src (b + 10 * n) H' a → H' L = some (.lst acc) → Tups H' acc xs → xs.length = n → (∀ x ∈ xs, Lp 104 x) → Q (.ref L) H') :
    LcW (Itr 0 n) (gName j) tYes (tCall (spLowest K) [] E (tCons (tCall spPair [] E' (tCons (tVar 0) tNil)) tNil)) [j] σ Q H1 := by
  intro L nL
  have La : a ≠ L := let ⟨_, _, _, h1, _⟩ := hS; ne_of_none h1 nL
  refine lc_range (fun i H' => Fills (fun L k acc H' => Fr a H1 H' ∧ Src (b + 10 * k) H' a ∧ acc.length = k ∧ ∃ xs, Tups H' acc xs ∧ xs.length = k ∧ ∀ x ∈ xs, Lp 104 x) L i H') ⟨[], upd_same, Fr.same (same_new nL), hS.new nL, rfl, [], .nil, rfl, by intro x hx; cases hx⟩ ?_ ?_
  · rintro k H' hk ⟨acc, hL, f, S, lk, xs, ts, lx, hx⟩
    refine ⟨?_, ?_⟩
    · show ((σ.set j none).set j (some (.int (0 + (k : Int))))).set j none = σ.set j none
      rw [List.set_set, List.set_set]
    · refine w_yes ?_
      refine w_iteT rfl ?_
      refine w_call (w_cons (w_call (w_cons (w_var (v := .ref a) ?_ (w_nil ?_)))))
      · show ((σ.set j none).set j (some (.int (0 + (k : Int)))))[0]? = _
        rw [List.getElem?_set_ne hj, List.getElem?_set_ne hj]
        exact ha
      · refine ⟨a, _, rfl, S, by omega, fun i1 j1 p1 H2 hi1 hj1 hk1 hp1 hpa1 S2 f2 => ?_⟩
        refine w_nil ?_
        refine ⟨p1, i1, j1, rfl, SqT.of hp1, hj1, bt_of_31 hi1 rfl, bt_of_p31 hj1 hk1 rfl, fun d H3 n3 e3 h3 => ?_⟩
        have L3 : H3 L = some (.lst acc) := e3 _ _ (f2 _ _ (Ne.symm La) hL)
        have tl : Tups H3 acc xs := (let ⟨_, _, _, h1, _⟩ := S; ts.fr h1 f2).same e3
        refine fills_more (Pv := fun L k acc H' => Fr a H1 H' ∧ Src (b + 10 * k) H' a ∧ acc.length = k ∧ ∃ xs, Tups H' acc xs ∧ xs.length = k ∧ ∀ x ∈ xs, Lp 104 x) L3 (by omega) fun H5 f5 h5 => ⟨?_, ?_, by rw [List.length_append, lk]; rfl, xs ++ [low i1 j1], ?_, by rw [List.length_append, lx]; rfl, ?_⟩
        · exact fun c o nc h => f5 _ _ (ne_of_none h nL) (e3 _ _ (f2 _ _ nc (f _ _ nc h)))
        · exact ((S2.same e3).fr La f5).mono (by omega)
        · exact (tl.fr L3 f5).snoc (f5 _ _ (ne_of h3 L3 (by intro z; cases z)) h3)
        · intro x h
          rcases List.mem_append.mp h with h | h
          · exact hx x h
          · rw [List.mem_singleton] at h
            subst h
            exact lp_drawn hi1 hj1 hk1
  · rintro H' ⟨acc, hL, f, S, lk, xs, ts, lx, hx⟩
    exact q L acc xs H' nL (Ne.symm La) f S hL ts lx hx
end G
namespace G
open PySem PySem.Spec L2
theorem prds_shaped (xs : List (Int × Int)) : SeqAt.shaped (.list (xs.map prd)) = true := by
  have h1 : PyData.canLayAll0 (xs.map prd) = true := by
    induction xs with
    | nil => simp only [List.map_nil, PyData.canLayAll0]
    | cons n r ih => simp only [List.map_cons, prd, PyData.canLayAll0, PyData.canLay0, ih, Bool.and_self]
  have h2 : PyData.depthAll (xs.map prd) ≤ 1 := by
    clear h1
    induction xs with
    | nil => simp only [List.map_nil, PyData.depthAll]; omega
    | cons n r ih =>
      simp only [List.map_cons, PyData.depthAll]
      have : (prd n).depth ≤ 1 := by simp only [prd, PyData.depth, PyData.depthAll]; decide
      omega
  unfold SeqAt.shaped
  simp only [PyData.canLay0, PyData.depth, h1, Bool.true_and]
  exact decide_eq_true (by omega)
theorem prds_depth (xs : List (Int × Int)) : decide ((PyData.list (xs.map prd)).depth ≤ 40) = true := by
  have h2 : PyData.depthAll (xs.map prd) ≤ 1 := by
    induction xs with
    | nil => simp only [List.map_nil, PyData.depthAll]; omega
    | cons n r ih =>
      simp only [List.map_cons, PyData.depthAll]
      have : (prd n).depth ≤ 1 := by simp only [prd, PyData.depth, PyData.depthAll]; decide
      omega
  simp only [PyData.depth]
  exact decide_eq_true (by omega)
theorem prds_cnt {xs : List (Int × Int)} (h : xs.length ≤ 1000) : decide (cnt (.list (xs.map prd)) ≤ 8000) = true := by
  have h2 : cntAll (xs.map prd) ≤ 4 * xs.length := by
    clear h
    induction xs with
    | nil => simp only [List.map_nil, cntAll]; omega
    | cons n r ih =>
      simp only [List.map_cons, cntAll, List.length_cons]
      have : cnt (prd n) ≤ 4 := by simp only [prd, cnt, cntAll]; decide
      omega
  simp only [cnt]
  exact decide_eq_true (by omega)
theorem lp_abs {n : Nat} {x : Int × Int} (h : Lp n x) : Lp n (if x.1 < 0 then -x.1 else x.1, x.2) := by
  by_cases c : x.1 < 0
  · rw [if_pos c]; exact h.neg
  · rw [if_neg c]; exact h
theorem ix_last {K : PySem.W.Frag} {H : Hp} {acc : List V} {xs : List (Int × Int)} (h : Tups H acc xs) (ne : xs ≠ []) : ∃ s x, atI acc (-1) = some (.ref s) ∧ x ∈ xs ∧ H s = some (.tup [.int x.1, .int x.2]) := by
  have hl := h.len
  have h0 : 0 < xs.length := List.length_pos_iff.mpr ne
  obtain ⟨v, hv⟩ : ∃ v, acc[acc.length - 1]? = some v := ⟨acc[acc.length - 1]'(by omega), by rw [List.getElem?_eq_getElem]⟩
  obtain ⟨s, x, rfl, hx, hs⟩ := h.get hv
  refine ⟨s, x, ?_, List.mem_of_getElem? hx, hs⟩
  rw [← hv]
  unfold atI
  have e : ixN acc.length (-1) = some (acc.length - 1) := by
    unfold ixN
    rw [if_neg (by decide), if_pos (by omega)]
    congr 1
    omega
  rw [e]
  rfl
theorem Tups.app {H : Hp} {vs ws : List V} {xs ys : List (Int × Int)} (h : Tups H vs xs) (k : Tups H ws ys) : Tups H (vs ++ ws) (xs ++ ys) := by
  induction h with
  | nil => exact k
  | cons a _ ih => exact .cons a ih
end G
namespace G
open PySem PySem.Spec L2
theorem Rats.cut {C : Addr} {H : Hp} {vs : List V} {xs : List (Int × Int)} (h : Rats C H vs xs) : ∀ k : Nat, Rats C H (vs.take k) (xs.take k) ∧ Rats C H (vs.drop k) (xs.drop k) := by
  induction h with
  | nil => intro k; simp only [List.take_nil, List.drop_nil]; exact ⟨.nil, .nil⟩
  | cons a t ih =>
    intro k
    cases k with
    | zero => exact ⟨.nil, .cons a t⟩
    | succ k => exact ⟨.cons a (ih k).1, (ih k).2⟩
theorem Rats.app {C : Addr} {H : Hp} {vs ws : List V} {xs ys : List (Int × Int)} (h : Rats C H vs xs) (k : Rats C H ws ys) : Rats C H (vs ++ ws) (xs ++ ys) := by
  induction h with
  | nil => exact k
  | cons a _ ih => exact .cons a ih
theorem Rats.rev {C : Addr} {H : Hp} {vs : List V} {xs : List (Int × Int)} (h : Rats C H vs xs) : Rats C H vs.reverse xs.reverse := by
  induction h with
  | nil => exact .nil
  | cons a _ ih =>
    rw [List.reverse_cons, List.reverse_cons]
    exact ih.snoc a
theorem Rats.rep {C : Addr} {H : Hp} {r : Addr} {x : Int × Int} (h : Rat C H r x.1 x.2) : ∀ k : Nat, Rats C H (List.replicate k (.ref r)) (List.replicate k x)
  | 0 => .nil
  | k + 1 => by
    rw [List.replicate_succ, List.replicate_succ]
    exact .cons h (Rats.rep h k)
theorem cut_take {vs : List V} {c : Int} (h0 : 0 ≤ c) (h : c ≤ vs.length) : cutV vs none (some c) = vs.take c.toNat := by
  unfold cutV HT.sIx
  simp only [List.drop_zero]
  congr 1
  rw [if_neg (by omega)]
  omega
theorem cut_drop {vs : List V} {c : Int} (h0 : 0 ≤ c) (h : c ≤ vs.length) : cutV vs (some c) none = vs.drop c.toNat := by
  obtain ⟨k, rfl⟩ : ∃ k : Nat, c = k := ⟨c.toNat, by omega⟩
  unfold cutV
  rw [HT.sIx_none, HT.sIx_nat, Nat.min_eq_left (by omega), Int.toNat_natCast]
  exact List.take_of_length_le (by rw [List.length_drop]; omega)
theorem tot_400 : tot (List.replicate 400 (1, 400)) = (1, 1) := by
  have e := tot_same_parts (b := 400) (n := 10) (by decide) ⟨by decide, by decide, by decide, by decide⟩ 400
  exact e.trans (by decide +kernel)
theorem take_400 (k : Nat) (hk : k ≤ 400) : Lp 3500 (tot ((List.replicate 400 ((1 : Int), (400 : Int))).take k)) := by
  rw [List.take_replicate, Nat.min_eq_left hk]
  have e := tot_same_parts (b := 400) (n := 10) (by decide) ⟨by decide, by decide, by decide, by decide⟩ k
  have e' : tot (List.replicate k ((1 : Int), (400 : Int))) = low (k : Int) 400 := e
  rw [e']
  exact (Lp.low (n := 10) (by decide) (by unfold Bt; omega) (by decide)).mono (by decide)
end G

/-! == and != with an object that has its own __eq__ on either side. -/
namespace PySem.SeqAt
open AutoSeq1 (wpAny_loadPart')
open MeetsSeq
section
variable {prog : Program} {w : World} {A : Around} {E : Value → Shared → Prop} {s : Shared} {K : PySem.W.Frag} {x C : Addr} {ox : Obj} {od : Option Obj}
/-- what is known of the object: no list, tuple, dict -/
structure Onx (prog : Program) (w : World) (h : Heap) (b : Addr) : Prop where
  at_ : ∃ c d sl, h.get? b = some { cls := c, dict := d, data := .plain, slots := sl }
  li : PySem.W.Looks (model prog w) h (isInstance (.ref b) (.type "list")) false
  tu : PySem.W.Looks (model prog w) h (isInstance (.ref b) (.type "tuple")) false
  di : PySem.W.Looks (model prog w) h (isInstance (.ref b) (.type "dict")) false

theorem no_int_eq {b : Addr} {i : Int} {u : Tok} : MeetsIn prog w (Builtin.«int.__eq__» ⟨[.int i u, .ref b], []⟩) (fun _ R s => Onx prog w s.heap b ∧ R (.ok (.ret .notImplemented)) s) := by
  intro A R s h
  obtain ⟨hp, g, d, tk, os⟩ := s
  obtain ⟨⟨⟨c, dd, sl, hl⟩, _, _, _⟩, h⟩ := h
  wp_walk using wpAny_loadPart' hl, wpAny_load hl
  exact h

theorem no_bool_eq {b : Addr} {i : Bool} : MeetsIn prog w (Builtin.«int.__eq__» ⟨[.bool i, .ref b], []⟩) (fun _ R s => Onx prog w s.heap b ∧ R (.ok (.ret .notImplemented)) s) := by
  intro A R s h
  obtain ⟨hp, g, d, tk, os⟩ := s
  obtain ⟨⟨⟨c, dd, sl, hl⟩, _, _, _⟩, h⟩ := h
  wp_walk using wpAny_loadPart' hl, wpAny_load hl
  exact h

theorem no_str_eq {b : Addr} {i : Str} {u : Tok} : MeetsIn prog w (Builtin.«str.__eq__» ⟨[.str i u, .ref b], []⟩) (fun _ R s => Onx prog w s.heap b ∧ R (.ok (.ret .notImplemented)) s) := by
  intro A R s h
  obtain ⟨hp, g, d, tk, os⟩ := s
  obtain ⟨⟨⟨c, dd, sl, hl⟩, _, _, _⟩, h⟩ := h
  wp_walk using wpAny_loadPart' hl, wpAny_load hl
  exact h

theorem no_none_eq {b : Addr}  : MeetsIn prog w (Builtin.«NoneType.__eq__» ⟨[.none, .ref b], []⟩) (fun _ R s => Onx prog w s.heap b ∧ R (.ok (.ret .notImplemented)) s) := by
  intro A R s h
  obtain ⟨hp, g, d, tk, os⟩ := s
  obtain ⟨⟨⟨c, dd, sl, hl⟩, _, _, _⟩, h⟩ := h
  wp_walk using wpAny_loadPart' hl, wpAny_load hl
  exact h

theorem no_list_eq {a b : Addr} {items : Array Value} {n : Nat} {dd : Option Addr} {sl : Array (Option Value)} : MeetsIn prog w (Builtin.«list.__eq__» ⟨[.ref a, .ref b], []⟩) (fun _ R s => s.heap.get? a = some { cls := .type "list", dict := dd, data := .seq items n, slots := sl } ∧ Onx prog w s.heap b ∧ R (.ok (.ret .notImplemented)) s) := by
  intro A R s h
  obtain ⟨hp, g, d, tk, os⟩ := s
  obtain ⟨ha, ⟨⟨c, dd, sl, hl⟩, hli, htu, hdi⟩, h⟩ := h
  wp_walk using wpAny_loadPart' ha, (PySem.W.Looks.at hli)
  exact h

theorem no_tuple_eq {a b : Addr} {items : Array Value} {n : Nat} {dd : Option Addr} {sl : Array (Option Value)} : MeetsIn prog w (Builtin.«tuple.__eq__» ⟨[.ref a, .ref b], []⟩) (fun _ R s => s.heap.get? a = some { cls := .type "tuple", dict := dd, data := .seq items n, slots := sl } ∧ Onx prog w s.heap b ∧ R (.ok (.ret .notImplemented)) s) := by
  intro A R s h
  obtain ⟨hp, g, d, tk, os⟩ := s
  obtain ⟨ha, ⟨⟨c, dd, sl, hl⟩, hli, htu, hdi⟩, h⟩ := h
  wp_walk using wpAny_loadPart' ha, (PySem.W.Looks.at htu)
  exact h

theorem no_dict_eq {a b : Addr} {items : Array DictEntry} {n : Nat} {dd : Option Addr} {sl : Array (Option Value)} : MeetsIn prog w (Builtin.«dict.__eq__» ⟨[.ref a, .ref b], []⟩) (fun _ R s => s.heap.get? a = some { cls := .type "dict", dict := dd, data := .dict items n, slots := sl } ∧ Onx prog w s.heap b ∧ R (.ok (.ret .notImplemented)) s) := by
  intro A R s h
  obtain ⟨hp, g, d, tk, os⟩ := s
  obtain ⟨ha, ⟨⟨c, dd, sl, hl⟩, hli, htu, hdi⟩, h⟩ := h
  wp_walk using wpAny_loadPart' ha, (PySem.W.Looks.at hdi)
  exact h

theorem no_int_ne {b : Addr} {i : Int} {u : Tok} : MeetsIn prog w (Builtin.«int.__ne__» ⟨[.int i u, .ref b], []⟩) (fun _ R s => Onx prog w s.heap b ∧ R (.ok (.ret .notImplemented)) s) := by
  intro A R s h
  obtain ⟨hp, g, d, tk, os⟩ := s
  obtain ⟨⟨⟨c, dd, sl, hl⟩, _, _, _⟩, h⟩ := h
  wp_walk using wpAny_loadPart' hl, wpAny_load hl
  exact h

theorem no_bool_ne {b : Addr} {i : Bool} : MeetsIn prog w (Builtin.«int.__ne__» ⟨[.bool i, .ref b], []⟩) (fun _ R s => Onx prog w s.heap b ∧ R (.ok (.ret .notImplemented)) s) := by
  intro A R s h
  obtain ⟨hp, g, d, tk, os⟩ := s
  obtain ⟨⟨⟨c, dd, sl, hl⟩, _, _, _⟩, h⟩ := h
  wp_walk using wpAny_loadPart' hl, wpAny_load hl
  exact h

theorem no_str_ne {b : Addr} {i : Str} {u : Tok} : MeetsIn prog w (Builtin.«str.__ne__» ⟨[.str i u, .ref b], []⟩) (fun _ R s => Onx prog w s.heap b ∧ R (.ok (.ret .notImplemented)) s) := by
  intro A R s h
  obtain ⟨hp, g, d, tk, os⟩ := s
  obtain ⟨⟨⟨c, dd, sl, hl⟩, _, _, _⟩, h⟩ := h
  wp_walk using wpAny_loadPart' hl, wpAny_load hl
  exact h

theorem no_none_ne {b : Addr}  : MeetsIn prog w (Builtin.«NoneType.__ne__» ⟨[.none, .ref b], []⟩) (fun _ R s => Onx prog w s.heap b ∧ R (.ok (.ret .notImplemented)) s) := by
  intro A R s h
  obtain ⟨hp, g, d, tk, os⟩ := s
  obtain ⟨⟨⟨c, dd, sl, hl⟩, _, _, _⟩, h⟩ := h
  wp_walk using wpAny_loadPart' hl, wpAny_load hl
  exact h

theorem no_list_ne {a b : Addr} {items : Array Value} {n : Nat} {dd : Option Addr} {sl : Array (Option Value)} : MeetsIn prog w (Builtin.«list.__ne__» ⟨[.ref a, .ref b], []⟩) (fun _ R s => s.heap.get? a = some { cls := .type "list", dict := dd, data := .seq items n, slots := sl } ∧ Onx prog w s.heap b ∧ R (.ok (.ret .notImplemented)) s) := by
  intro A R s h
  obtain ⟨hp, g, d, tk, os⟩ := s
  obtain ⟨ha, ⟨⟨c, dd, sl, hl⟩, hli, htu, hdi⟩, h⟩ := h
  wp_walk using wpAny_loadPart' ha, (PySem.W.Looks.at hli)
  exact h

theorem no_tuple_ne {a b : Addr} {items : Array Value} {n : Nat} {dd : Option Addr} {sl : Array (Option Value)} : MeetsIn prog w (Builtin.«tuple.__ne__» ⟨[.ref a, .ref b], []⟩) (fun _ R s => s.heap.get? a = some { cls := .type "tuple", dict := dd, data := .seq items n, slots := sl } ∧ Onx prog w s.heap b ∧ R (.ok (.ret .notImplemented)) s) := by
  intro A R s h
  obtain ⟨hp, g, d, tk, os⟩ := s
  obtain ⟨ha, ⟨⟨c, dd, sl, hl⟩, hli, htu, hdi⟩, h⟩ := h
  wp_walk using wpAny_loadPart' ha, (PySem.W.Looks.at htu)
  exact h

theorem no_dict_ne {a b : Addr} {items : Array DictEntry} {n : Nat} {dd : Option Addr} {sl : Array (Option Value)} : MeetsIn prog w (Builtin.«dict.__ne__» ⟨[.ref a, .ref b], []⟩) (fun _ R s => s.heap.get? a = some { cls := .type "dict", dict := dd, data := .dict items n, slots := sl } ∧ Onx prog w s.heap b ∧ R (.ok (.ret .notImplemented)) s) := by
  intro A R s h
  obtain ⟨hp, g, d, tk, os⟩ := s
  obtain ⟨ha, ⟨⟨c, dd, sl, hl⟩, hli, htu, hdi⟩, h⟩ := h
  wp_walk using wpAny_loadPart' ha, (PySem.W.Looks.at hdi)
  exact h

end
end PySem.SeqAt

namespace G
open PySem PySem.Spec PyProof.Rows PySem.SeqAt L2
/-- no object of the class is one of these -/
structure Far (K : PySem.W.Frag) (C : Addr) : Prop where
  i : PySem.W.subIn K (.ref C) (.type "int") = some false
  b : PySem.W.subIn K (.ref C) (.type "bool") = some false
  s : PySem.W.subIn K (.ref C) (.type "str") = some false
  n : PySem.W.subIn K (.ref C) (.type "NoneType") = some false
  l : PySem.W.subIn K (.ref C) (.type "list") = some false
  t : PySem.W.subIn K (.ref C) (.type "tuple") = some false
  d : PySem.W.subIn K (.ref C) (.type "dict") = some false
/-- a value of a built-in kind -/
inductive Pl (H : Hp) : V → String → Prop
  | non : Pl H .non "NoneType"
  | bl (x : Bool) : Pl H (.bl x) "bool"
  | int (i : Int) : Pl H (.int i) "int"
  | str (x : Str) : Pl H (.str x) "str"
  | lst {a : Addr} {xs : List V} (e : H a = some (.lst xs)) : Pl H (.ref a) "list"
  | tup {a : Addr} {xs : List V} (e : H a = some (.tup xs)) : Pl H (.ref a) "tuple"
  | dK {a : Addr} {kvs : List (Key × V)} (e : H a = some (.dK kvs)) : Pl H (.ref a) "dict"
theorem Pl.ty {K : PySem.W.Frag} {H : Hp} {x : V} {T : String} (h : Pl H x T) : TyX K H x (.type T) := by
  cases h with
  | non => exact .base .non
  | bl x => exact .base (.bl x)
  | int i => exact .base (.int i)
  | str x => exact .base (.str x)
  | lst e => exact .base (.lst e)
  | tup e => exact .base (.tup e)
  | dK e => exact .base (.dK e)
theorem Pl.same {H H' : Hp} {x : V} {T : String} (h : Pl H x T) (e : Same H H') : Pl H' x T := by
  cases h with
  | non => exact .non
  | bl x => exact .bl x
  | int i => exact .int i
  | str x => exact .str x
  | lst h => exact .lst (e _ _ h)
  | tup h => exact .tup (e _ _ h)
  | dK h => exact .dK (e _ _ h)
section
variable {X : Cx} {pins : List (Addr × Obj)} {σ : L2.St} {H : Hp} {s : Shared} {b C dx : Addr} {fs : List (Str × V)} {A : Around} {E : Value → Shared → Prop}
theorem onx {od : Option Obj} {prog : Program} {w : World} {K : PySem.W.Frag} (X : K.In s.heap) (J : PySem.W.InstAt s.heap b (PySem.W.instObj C dx) C od) (far : Far K C) : Onx prog w s.heap b where
  at_ := ⟨_, _, _, J.1⟩
  li := J.type.andThen (PySem.W.looks_subIn X far.l)
  tu := J.type.andThen (PySem.W.looks_subIn X far.t)
  di := J.type.andThen (PySem.W.looks_subIn X far.d)
/-- a built-in kind's own == and != decline -/
theorem Pl.dec {x : V} {u : Value} {T : String} (h : Pl H x T) (I : Inv X pins σ H s) (r : RelV x u) (o : Onx X.prog X.w s.heap b) {K : PySem.W.Frag} (far : Far K C) (op : CmpOp) (hop : op = .Eq ∨ op = .NotEq) :
    s.TypeIs u T ∧ PySem.W.subIn K (.ref C) (.type T) = some false ∧ ∃ id, Slot T (cmpInfo op).2.1 id ∧ ∀ (A : Around) (E Q : Value → Shared → Prop), Q .notImplemented s → wpAny (model X.prog X.w) A (call (.builtin id) [u, .ref b]) Q E s := by
  cases h with
  | non =>
    cases (show u = Value.none from r)
    refine ⟨rfl, far.n, ?_⟩
    rcases hop with rfl | rfl
    · exact ⟨_, F.slot_NoneType_eq, fun A E Q q => call_meetsIn F.slot_NoneType_eq rfl F.entry_NoneType_eq (F.args_NoneType_eq_2 _ _) no_none_eq ⟨o, q⟩⟩
    · exact ⟨_, F.slot_NoneType_ne, fun A E Q q => call_meetsIn F.slot_NoneType_ne rfl F.entry_NoneType_ne (F.args_NoneType_ne_2 _ _) no_none_ne ⟨o, q⟩⟩
  | bl y =>
    cases (show u = Value.bool y from r)
    refine ⟨rfl, far.b, ?_⟩
    rcases hop with rfl | rfl
    · exact ⟨_, F.slot_bool_eq, fun A E Q q => call_meetsIn F.slot_bool_eq rfl F.entry_int_eq (F.args_int_eq_2 _ _) no_bool_eq ⟨o, q⟩⟩
    · exact ⟨_, F.slot_bool_ne, fun A E Q q => call_meetsIn F.slot_bool_ne rfl F.entry_int_ne (F.args_int_ne_2 _ _) no_bool_ne ⟨o, q⟩⟩
  | int i =>
    obtain ⟨t, rfl⟩ := (show ∃ t, u = Value.int i t from r)
    refine ⟨rfl, far.i, ?_⟩
    rcases hop with rfl | rfl
    · exact ⟨_, F.slot_int_eq, fun A E Q q => call_meetsIn F.slot_int_eq rfl F.entry_int_eq (F.args_int_eq_2 _ _) no_int_eq ⟨o, q⟩⟩
    · exact ⟨_, F.slot_int_ne, fun A E Q q => call_meetsIn F.slot_int_ne rfl F.entry_int_ne (F.args_int_ne_2 _ _) no_int_ne ⟨o, q⟩⟩
  | str y =>
    obtain ⟨t, rfl⟩ := (show ∃ t, u = Value.str y t from r)
    refine ⟨rfl, far.s, ?_⟩
    rcases hop with rfl | rfl
    · exact ⟨_, F.slot_str_eq, fun A E Q q => call_meetsIn F.slot_str_eq rfl F.entry_str_eq (F.args_str_eq_2 _ _) no_str_eq ⟨o, q⟩⟩
    · exact ⟨_, F.slot_str_ne, fun A E Q q => call_meetsIn F.slot_str_ne rfl F.entry_str_ne (F.args_str_ne_2 _ _) no_str_ne ⟨o, q⟩⟩
  | @lst a xs ea =>
    cases (show u = Value.ref a from r)
    obtain ⟨_, _, n, _, h1⟩ := (show ObjOk X.prog X.w H s.heap a (.lst xs) from I.hok a _ ea)
    refine ⟨⟨_, h1, rfl⟩, far.l, ?_⟩
    rcases hop with rfl | rfl
    · exact ⟨_, F.slot_list_eq, fun A E Q q => call_meetsIn F.slot_list_eq ⟨_, h1, rfl⟩ F.entry_list_eq (F.args_list_eq_2 _ _) no_list_eq ⟨h1, o, q⟩⟩
    · exact ⟨_, F.slot_list_ne, fun A E Q q => call_meetsIn F.slot_list_ne ⟨_, h1, rfl⟩ F.entry_list_ne (F.args_list_ne_2 _ _) no_list_ne ⟨h1, o, q⟩⟩
  | @tup a xs ea =>
    cases (show u = Value.ref a from r)
    obtain ⟨_, _, _, ob, h1, h2, n, h3⟩ := (show ObjOk X.prog X.w H s.heap a (.tup xs) from I.hok a _ ea)
    obtain ⟨oc, od, dt, sl⟩ := ob
    simp only at h2 h3
    subst h2 h3
    refine ⟨⟨_, h1, rfl⟩, far.t, ?_⟩
    rcases hop with rfl | rfl
    · exact ⟨_, F.slot_tuple_eq, fun A E Q q => call_meetsIn F.slot_tuple_eq ⟨_, h1, rfl⟩ F.entry_tuple_eq (F.args_tuple_eq_2 _ _) no_tuple_eq ⟨h1, o, q⟩⟩
    · exact ⟨_, F.slot_tuple_ne, fun A E Q q => call_meetsIn F.slot_tuple_ne ⟨_, h1, rfl⟩ F.entry_tuple_ne (F.args_tuple_ne_2 _ _) no_tuple_ne ⟨h1, o, q⟩⟩
  | @dK a kvs ea =>
    cases (show u = Value.ref a from r)
    obtain ⟨_, _, vs, _, p⟩ := (show ObjOk X.prog X.w H s.heap a (.dK kvs) from I.hok a _ ea)
    obtain ⟨ob, es, ep, h1, h2, h3, _⟩ := p
    obtain ⟨oc, od, dt, sl⟩ := ob
    obtain ⟨h4, h5, h6⟩ := h2
    simp only at h3 h4 h5 h6
    subst h3 h4 h5 h6
    refine ⟨⟨_, h1, rfl⟩, far.d, ?_⟩
    rcases hop with rfl | rfl
    · exact ⟨_, F.slot_dict_eq, fun A E Q q => call_meetsIn F.slot_dict_eq ⟨_, h1, rfl⟩ F.entry_dict_eq (F.args_dict_eq_2 _ _) no_dict_eq ⟨h1, o, q⟩⟩
    · exact ⟨_, F.slot_dict_ne, fun A E Q q => call_meetsIn F.slot_dict_ne ⟨_, h1, rfl⟩ F.entry_dict_ne (F.args_dict_ne_2 _ _) no_dict_ne ⟨h1, o, q⟩⟩
end
end G
namespace G
open PySem PySem.Spec PyProof.Rows PySem.SeqAt L2
section
variable {M : Model} {prog : Program} {w : World} {A : Around} {E : Value → Shared → Prop} {s : Shared} {K : PySem.W.Frag} {x C f : Addr} {ox : Obj} {od : Option Obj} {y : Value}
/-- an own class keeps object's != -/
structure NeM (K : PySem.W.Frag) (C : Addr) : Prop where
  ne : PySem.W.findIn K (.ref C) "__ne__" = some (some (.builtin "object.__ne__"))
  ob : PySem.W.mroIn K C (.type "object") = some true
theorem ifBound_objNe {args : List Value} {Q : Option Value → Shared → Prop} (X : K.In s.heap) (I : PySem.W.InstAt s.heap x ox C od) (hs : PySem.W.findIn K (.ref C) "__ne__" = some (some (.builtin "object.__ne__")))
    (h : wpAny M A (call (.builtin "object.__ne__") (.ref x :: args)) (fun v => Q (some v)) E s) : wpAny M A (callSpecialIfBound? (.ref x) "__ne__" args) Q E s := by
  simp only [callSpecialIfBound?, bindSpecialIfBound?]
  refine wpAny_holding (wpAny_bind (wpAny_bind (wpAny_bind (I.type.here ((PySem.W.looks_findIn X hs).here ?_)))))
  refine wpAny_bind (wpAny_askSetting (wpAny_ite ?_))
  have fin : wpAny M A (call (.builtin "object.__ne__") ([.ref x] ++ args) >>= fun v => pure (some v)) Q E s := wpAny_bind (wpAny_mono h (fun v s' h' => wpAny_pure h') fun _ _ h' => h')
  split
  · exact wpAny_bind (wpAny_of_eq (F.cmp_object.ne.bind _) (wpAny_pure (by exact fin)))
  · exact wpAny_tryCatch (wpAny_bind (wpAny_of_eq (F.cmp_object.ne.bind _) (wpAny_pure (by exact fin))))
theorem try_ne {Q : Option Value → Shared → Prop} (X : K.In s.heap) (I : PySem.W.InstAt s.heap x ox C od) (N : NeM K C) (he : PySem.W.findIn K (.ref C) "__eq__" = some (some (.ref f))) (hf : PySem.W.isFn K (.ref f) = true) (hu : A.units + 1 < cLine)
    (h : wpAny (model prog w) A.in1 (call (.ref f) [.ref x, y]) (fun v s' => ∃ k, v = .bool k ∧ Q (some (.bool (!k))) s') E s) : wpAny (model prog w) A (tryCompare (.ref x) "__ne__" y) Q E s := by
  unfold tryCompare
  refine wpAny_bind (ifBound_objNe X I N.ne ?_)
  refine wpAny_call (codeAny_call_builtin F.cmp_object.ne.plain F.cmpEntry_ne (PySem.W.check_slot F.cmpKind_ne F.cmpSplit_ne (I.type.andThen (PySem.W.looks_mroIn X N.ob)) (F.cmpArgs_ne _ _) ?_))
  unfold Builtin.«object.__ne__»
  repeat (first
    | with_reducible refine wpAny_cRoomFor hu ?_
    | (refine wpAny_bind (m := callSpecialIfBound? (.ref x) (Str.ofString "__eq__") [y]) (PySem.W.ifBound_K X I he hf (wpAny_mono h (fun r s' hr => by
          obtain ⟨b, rfl, hq⟩ := hr
          repeat (first | exact wpAny_pure (wpAny_pure hq) | exact wpAny_pure hq | (refine wpAny_bind (m := truthy (.bool _)) (wpAny_truthy_bool ?_)) | wp_step)) fun _ _ e => e)))
    | wp_step)
end
end G
namespace G
open PySem PySem.Spec PyProof.Rows PySem.SeqAt L2
section
variable {prog : Program} {w : World} {A : Around} {E : Value → Shared → Prop} {s : Shared} {K : PySem.W.Frag} {x C f : Addr} {ox : Obj} {od : Option Obj} {y : Value}
/-- the left one declines, the right one's class answers -/
theorem rc_refl {op : CmpOp} {u : Value} {T id : String} {Q : Value → Shared → Prop} (hu : A.units < cLine) (ht : s.TypeIs u T) (X : K.In s.heap) (I : PySem.W.InstAt s.heap x ox C od) (hsub : PySem.W.subIn K (.ref C) (.type T) = some false)
    (sl : Slot T (cmpInfo op).2.1 id) (hd : ∀ (A : Around) (E Q : Value → Shared → Prop), Q .notImplemented s → wpAny (model prog w) A (call (.builtin id) [u, .ref x]) Q E s)
    (h : wpAny (model prog w) A (tryCompare (.ref x) (cmpInfo op).2.2 u) (fun r s' => ∃ v, r = some v ∧ Q v s') E s) : wpAny (model prog w) A (richCompare op u (.ref x)) Q E s := by
  rcases hi : cmpInfo op with ⟨sym, m, r⟩
  rw [hi] at sl h
  simp only [richCompare, hi, ht.oneThing_none]
  refine wpAny_holding (wpAny_bind (wpAny_cRoomFor hu ?_))
  refine wpAny_bind (wpAny_typeOf ht (wpAny_bind (I.type.here ?_)))
  have hne : (Value.type T != Value.ref C) = true := by simp
  simp only [hne, if_true]
  refine wpAny_bind ((PySem.W.looks_subIn X hsub).here ?_)
  simp only [Bool.false_eq_true, if_false, Bool.not_false, if_true]
  refine wpAny_bind (m := tryCompare u _ (.ref x)) (wpAny_tryCompare_declines ht sl (hd _ _ _ ⟨rfl, ?_⟩))
  refine wpAny_bind (m := tryCompare (.ref x) _ u) (wpAny_mono h (fun r s' z => ?_) fun _ _ e => e)
  obtain ⟨v, rfl, q⟩ := z
  exact wpAny_pure q
theorem rc_ne {tb : Value} {Q : Value → Shared → Prop} (hu : A.units < cLine) (X : K.In s.heap) (I : PySem.W.InstAt s.heap x ox C od) (hb : PySem.W.Looks (model prog w) s.heap (typeOf y) tb) (hn : PySem.W.notFirst K C tb = true)
    (one : wpAny (model prog w) A (tryCompare (.ref x) "__ne__" y) (fun r s' => ∃ v, r = some v ∧ Q v s') E s) : wpAny (model prog w) A (richCompare .NotEq (.ref x) y) Q E s := by
  unfold richCompare
  simp only [oneThing_ref]
  rw [cmpInfo_NotEq]
  refine wpAny_holding (wpAny_bind (wpAny_cRoomFor hu ?_))
  refine wpAny_bind (I.type.here (wpAny_bind (hb.here ?_)))
  split
  · rename_i q
    have e : PySem.W.subIn K tb (.ref C) = some false := by
      rcases Bool.or_eq_true_iff.mp hn with e | e
      · rw [beq_iff_eq.mp e] at q; simp at q
      · exact beq_iff_eq.mp e
    refine wpAny_bind ((PySem.W.looks_subIn X e).here ?_)
    simp only [Bool.false_eq_true, if_false]
    refine wpAny_bind (wpAny_mono one (fun r s' z => ?_) fun _ _ e => e)
    obtain ⟨v, rfl, hq⟩ := z
    exact wpAny_pure hq
  · refine wpAny_bind (wpAny_pure ?_)
    simp only [Bool.false_eq_true, if_false]
    refine wpAny_bind (wpAny_mono one (fun r s' z => ?_) fun _ _ e => e)
    obtain ⟨v, rfl, hq⟩ := z
    exact wpAny_pure hq
end
section
variable {X : Cx} {k : Nat} {f C : Addr} {fd : FuncData} {ps : List Str} {sp : Sp} {E : XK}
/-- a def run from an inner step of a built-in -/
theorem run_in {CX : CXT} {pins : List (Addr × Obj)} {σ : L2.St} {H : Hp} {s : Shared} {Q : VK} {us : List Value} {vs : List V} {A : Around} (F : FnOk X.prog X.w X.K X.mg X.base CX k f fd ps sp) (hA : A.frames = X.A.frames) (hr : Room k A) (hb : Binds X.K fd ps [])
    (hx : Passes CX X E) (I : Inv X pins σ H s) (r : Vals vs us) (h : sp vs H Q E) : wpAny (model X.prog X.w) A (call (.ref f) us) (EP X pins σ Q) X.xe s := by
  have e0 : Env0 X.prog X.w X.K X.mg X.base A X.stack s H := by
    have e := I.env0
    exact ⟨by rw [hA]; exact e.frames, e.mod, e.bs, e.bsz, e.funs, e.frf, e.hok, e.bare⟩
  have hl := F.len _ _ _ _ h
  refine wpAny_call (codeAny_mono (F.run A X.stack s H ⟨us, []⟩ us vs Q E hr e0 (by
    have := hb s us I.kIn (by rw [List.append_nil, ← r.length]; exact hl)
    simpa using this) r h) fun r s' hq => ?_)
  cases r with
  | error e => exact hx pins σ H s e s' I hq
  | ok fl =>
    cases fl with
    | ret w => exact I.after hq
    | next => exact False.elim hq
    | brk => exact False.elim hq
    | cont => exact False.elim hq
/-- x != y by the left one's __eq__ -/
def rNeO (K : PySem.W.Frag) (C : Addr) (sp : Sp) (E : XK) : R2 := fun x y H Q => ∃ a dx fs t, x = .ref a ∧ H a = some (.ins C dx fs) ∧ TyX K H y t ∧ PySem.W.notFirst K C t = true ∧ sp [x, y] H (fun v H' => ∃ c, v = .bl c ∧ Q (.bl (!c)) H') E
theorem op_neO {CX : CXT} (F : FnOk X.prog X.w X.K X.mg X.base CX k f fd ps sp) (hr : Room (k + 1) X.A) (hb : Binds X.K fd ps []) (hx : Passes CX X E) (m : OpM X.K C "__eq__" f) (N : NeM X.K C) :
    OpR X (compareOp .NotEq) (rNeO X.K C sp E) := by
  intro pins s σ H x y v u Q I rx ry h
  obtain ⟨a, dx, fs, t, rfl, ea, ty, hn, q⟩ := h
  obtain rfl : v = Value.ref a := rx
  obtain ⟨mA, O, _⟩ := ins_get I.hok ea
  obtain ⟨od, J, _⟩ := O.look
  obtain ⟨mm, fr⟩ := I.fr
  obtain ⟨P, Z, hp, hne⟩ := kit_of I ry ty
  show wpAny _ _ (richCompare .NotEq (.ref a) u) _ _ _
  have lk : PySem.W.Looks (model X.prog X.w) s.heap (typeOf u) t := Z.ty _ _ I.kIn hp
  refine rc_ne hr.units0 I.kIn J lk hn ?_
  refine try_ne I.kIn J N m.at_ m.fn (by have := hr.un; omega) ?_
  refine wpAny_mono (run_in (A := X.A.in1) (us := [.ref a, u]) (vs := [.ref a, y]) F rfl hr.in1 hb hx I (.cons rfl (.cons ry .nil)) q) (fun w s' hw => ?_) fun _ _ e => e
  obtain ⟨z, H', I', rz, c, ez, qz⟩ := hw
  subst ez
  cases (show w = Value.bool c from rz)
  exact ⟨c, rfl, .bool (!c), rfl, .bl (!c), H', I', rfl, qz⟩
/-- v == x, v of a built-in kind, by x's __eq__ -/
def rEqR (C : Addr) (sp : Sp) (E : XK) : R2 := fun x y H Q => ∃ b dx fs T, y = .ref b ∧ H b = some (.ins C dx fs) ∧ Pl H x T ∧ sp [y, x] H Q E
theorem op_eqR {CX : CXT} (F : FnOk X.prog X.w X.K X.mg X.base CX k f fd ps sp) (hr : Room k X.A) (hb : Binds X.K fd ps []) (hx : Passes CX X E) (m : OpM X.K C "__eq__" f) (far : Far X.K C) :
    OpR X (compareOp .Eq) (rEqR C sp E) := by
  intro pins s σ H x y v u Q I rx ry h
  obtain ⟨b, dx, fs, T, rfl, eb, pl, q⟩ := h
  obtain rfl : u = Value.ref b := ry
  obtain ⟨mA, O, _⟩ := ins_get I.hok eb
  obtain ⟨od, J, _⟩ := O.look
  obtain ⟨ht, hs, id, sl, hd⟩ := pl.dec I rx (onx I.kIn J far) far .Eq (.inl rfl)
  show wpAny _ _ (richCompare .Eq v (.ref b)) _ _ _
  refine rc_refl hr.units0 ht I.kIn J hs sl hd ?_
  show wpAny _ _ (tryCompare (.ref b) "__eq__" v) _ _ _
  unfold tryCompare
  refine wpAny_bind (PySem.W.ifBound_K I.kIn J m.at_ m.fn (wpAny_mono (run_fn (us := [.ref b, v]) (vs := [.ref b, x]) F hr hb .nil hx I (.cons rfl (.cons rx .nil)) q) (fun w s' hw => ?_) fun _ _ e => e))
  obtain ⟨z, H', I', rz, qz⟩ := hw
  have cb : PySem.W.CmpBack (EP X pins σ Q) w s' := mono_rel rz ⟨z, H', I', rz, qz⟩
  cases w <;> first | exact cb.elim | exact wpAny_pure ⟨_, rfl, ⟨z, H', I', rz, qz⟩⟩
/-- v != x -/
def rNeR (C : Addr) (sp : Sp) (E : XK) : R2 := fun x y H Q => ∃ b dx fs T, y = .ref b ∧ H b = some (.ins C dx fs) ∧ Pl H x T ∧ sp [y, x] H (fun v H' => ∃ c, v = .bl c ∧ Q (.bl (!c)) H') E
theorem op_neR {CX : CXT} (F : FnOk X.prog X.w X.K X.mg X.base CX k f fd ps sp) (hr : Room (k + 1) X.A) (hb : Binds X.K fd ps []) (hx : Passes CX X E) (m : OpM X.K C "__eq__" f) (N : NeM X.K C) (far : Far X.K C) :
    OpR X (compareOp .NotEq) (rNeR C sp E) := by
  intro pins s σ H x y v u Q I rx ry h
  obtain ⟨b, dx, fs, T, rfl, eb, pl, q⟩ := h
  obtain rfl : u = Value.ref b := ry
  obtain ⟨mA, O, _⟩ := ins_get I.hok eb
  obtain ⟨od, J, _⟩ := O.look
  obtain ⟨ht, hs, id, sl, hd⟩ := pl.dec I rx (onx I.kIn J far) far .NotEq (.inr rfl)
  show wpAny _ _ (richCompare .NotEq v (.ref b)) _ _ _
  refine rc_refl hr.units0 ht I.kIn J hs sl hd ?_
  refine try_ne I.kIn J N m.at_ m.fn (by have := hr.un; omega) ?_
  refine wpAny_mono (run_in (A := X.A.in1) (us := [.ref b, v]) (vs := [.ref b, x]) F rfl hr.in1 hb hx I (.cons rfl (.cons rx .nil)) q) (fun w s' hw => ?_) fun _ _ e => e
  obtain ⟨z, H', I', rz, c, ez, qz⟩ := hw
  subst ez
  cases (show w = Value.bool c from rz)
  exact ⟨c, rfl, .bool (!c), rfl, .bl (!c), H', I', rfl, qz⟩
end
end G
namespace G
open PySem PySem.Spec PyProof.Rows L2
/-- x is a bool, x None or a bool -/
def rIsNB : R2 := fun x y H Q => ∃ b, y = .bl b ∧ ((x = .non ∧ Q (.bl false) H) ∨ ∃ a, x = .bl a ∧ Q (.bl (decide (a = b))) H)
def rIsNn : R2 := fun x y H Q => y = .non ∧ Q (.bl (decide (x = .non))) H
def rNotNn : R2 := fun x y H Q => y = .non ∧ Q (.bl (!decide (x = .non))) H
theorem op_isNn {X : Cx} : OpR X (compareOp .Is) rIsNn := op_isN
theorem op_notNn {X : Cx} : OpR X (compareOp .IsNot) rNotNn := op_notN
theorem op_isNB {X : Cx} : OpR X (compareOp .Is) rIsNB := by
  intro pins s σ H x y v u Q I rx ry h
  obtain ⟨b, rfl, h⟩ := h
  rcases h with ⟨rfl, q⟩ | ⟨a, rfl, q⟩
  · cases (show v = Value.none from rx)
    cases (show u = Value.bool b from ry)
    exact wpAny_is_other rfl (fun z => nomatch z) ⟨.bl false, H, I, rfl, q⟩
  · exact op_isBl pins s σ H (.bl a) (.bl b) v u Q I rx ry ⟨a, b, rfl, rfl, q⟩
section
variable {C a : Addr} {H : Hp} {Q : VK} {E : XK} {K : PySem.W.Frag} {x : V} {T : String} {i : Int × Int}
theorem w_isNB0 {b : Bool} (q : Q (.bl false) H) : rIsNB .non (.bl b) H Q := ⟨b, rfl, .inl ⟨rfl, q⟩⟩
theorem w_isNB {a b : Bool} (q : Q (.bl (decide (a = b))) H) : rIsNB (.bl a) (.bl b) H Q := ⟨b, rfl, .inr ⟨a, rfl, q⟩⟩
theorem w_isN {b : Bool} (e : decide (x = .non) = b) (q : Q (.bl b) H) : rIsNn x .non H Q := ⟨rfl, by rw [e]; exact q⟩
theorem w_notN {b : Bool} (e : decide (x = .non) = b) (q : Q (.bl (!b)) H) : rNotNn x .non H Q := ⟨rfl, by rw [e]; exact q⟩
/-- a walk over a tuple -/
theorem w_walkT {t : Addr} {g : TG} {tb : TS} {D : Ends} {σ : L2.St} {xs : List V} (hl : SqT K H t xs) (Pv : Nat → L2.St → Hp → Prop) (h0 : Pv 0 σ H) (hk : ∀ i σ' H', i ≤ xs.length → Pv i σ' H' → SqT K H' t xs)
    (hs : ∀ (i : Nat) x σ' H', xs[i]? = some x → Pv i σ' H' → g x σ' H' fun σ2 H2 => tb { nx := Pv (i + 1), rt := D.rt, ct := Pv (i + 1), bk := D.nx } σ2 H2) (hd : ∀ σ' H', Pv xs.length σ' H' → D.nx σ' H') :
    ∃ b, V.ref t = .ref b ∧ (∃ xs, SqT K H b xs) ∧ ForW (Itt K b) g tb D σ H := ⟨t, rfl, ⟨_, hl⟩, for_tup Pv h0 hk hs hd⟩
end
end G
namespace G
open PySem PySem.Spec PyProof.Rows L2
theorem notFirst_ty {K : PySem.W.Frag} {C : Addr} {T : String} {l : List String} (h : fastBuiltinMro T = some (l.map Value.type)) : PySem.W.notFirst K C (.type T) = true := by
  have e : PySem.W.subIn K (.type T) (.ref C) = some false := by
    show (fastBuiltinMro T).map (·.contains (.ref C)) = some false
    rw [h]
    simp
  unfold PySem.W.notFirst
  rw [e]
  simp
theorem Pl.notFirst {K : PySem.W.Frag} {C : Addr} {H : Hp} {x : V} {T : String} (h : Pl H x T) : PySem.W.notFirst K C (.type T) = true := by
  cases h with
  | non => exact notFirst_ty (l := ["NoneType", "object"]) (by decide +kernel)
  | bl x => exact notFirst_ty (l := ["bool", "int", "object"]) (by decide +kernel)
  | int i => exact notFirst_ty (l := ["int", "object"]) (by decide +kernel)
  | str x => exact notFirst_ty (l := ["str", "object"]) (by decide +kernel)
  | lst e => exact notFirst_ty (l := ["list", "object"]) (by decide +kernel)
  | tup e => exact notFirst_ty (l := ["tuple", "object"]) (by decide +kernel)
  | dK e => exact notFirst_ty (l := ["dict", "object"]) (by decide +kernel)
section
variable {C p q : Addr} {H : Hp} {Q : VK} {E : XK} {K : PySem.W.Frag} {y : V} {T : String} {x z : Int × Int}
theorem w_eqPl (R : Rat C H p x.1 x.2) (h : Pl H y T) (k : PySem.W.kitOne K (.type T) (.ref C) = some false) (w : Q (.bl false) H) : rEqO K C (spEq K C) E (.ref p) y H Q :=
  let ⟨dx, e⟩ := R; ⟨p, dx, _, _, rfl, e, h.ty, h.notFirst, .inr ⟨p, x, y, _, rfl, ⟨dx, e⟩, h.ty, k, w⟩⟩
theorem w_nePl (R : Rat C H p x.1 x.2) (h : Pl H y T) (k : PySem.W.kitOne K (.type T) (.ref C) = some false) (w : Q (.bl true) H) : rNeO K C (spEq K C) E (.ref p) y H Q :=
  let ⟨dx, e⟩ := R; ⟨p, dx, _, _, rfl, e, h.ty, h.notFirst, .inr ⟨p, x, y, _, rfl, ⟨dx, e⟩, h.ty, k, false, rfl, w⟩⟩
theorem w_eqPr (R : Rat C H p x.1 x.2) (h : Pl H y T) (k : PySem.W.kitOne K (.type T) (.ref C) = some false) (w : Q (.bl false) H) : rEqR C (spEq K C) E y (.ref p) H Q :=
  let ⟨dx, e⟩ := R; ⟨p, dx, _, _, rfl, e, h, .inr ⟨p, x, y, _, rfl, ⟨dx, e⟩, h.ty, k, w⟩⟩
theorem w_nePr (R : Rat C H p x.1 x.2) (h : Pl H y T) (k : PySem.W.kitOne K (.type T) (.ref C) = some false) (w : Q (.bl true) H) : rNeR C (spEq K C) E y (.ref p) H Q :=
  let ⟨dx, e⟩ := R; ⟨p, dx, _, _, rfl, e, h, .inr ⟨p, x, y, _, rfl, ⟨dx, e⟩, h.ty, k, false, rfl, w⟩⟩
theorem w_neR (I : InsTy K C) (R : Rat C H p x.1 x.2) (S : Rat C H q z.1 z.2) (k : Q (.bl (!decide (x = z))) H) : rNeO K C (spEq K C) E (.ref p) (.ref q) H Q :=
  let ⟨dx, e⟩ := R; let ⟨dy, e'⟩ := S
  ⟨p, dx, _, _, rfl, e, I _ _ _ _ e', by unfold PySem.W.notFirst; simp, .inl ⟨p, q, x, z, rfl, ⟨dx, e⟩, ⟨dy, e'⟩, _, rfl, k⟩⟩
end
/-! ### what is less -/
theorem low_parts {u v : Int} (h : 0 < v) : ∃ g : Int, 0 < g ∧ u = g * (low u v).1 ∧ v = g * (low u v).2 := by
  have g := Int.gcd_pos_of_ne_zero_right u (show v ≠ 0 by omega)
  refine ⟨(Int.gcd u v : Int), by omega, ?_, ?_⟩
  · exact (Int.mul_ediv_cancel' (Int.gcd_dvd_left u v)).symm
  · exact (Int.mul_ediv_cancel' (Int.gcd_dvd_right u v)).symm
theorem lt_low {a b u v : Int} (h : 0 < v) : (a * (low u v).2 < (low u v).1 * b) ↔ a * v < u * b := by
  obtain ⟨g, g0, e1, e2⟩ := low_parts (u := u) h
  generalize hc : (low u v).1 = c at *
  generalize hd : (low u v).2 = d at *
  rw [e1, e2, Int.mul_left_comm a g d, Int.mul_assoc g c b]
  exact (Int.mul_lt_mul_left g0).symm
theorem low_lt {a b u v : Int} (h : 0 < v) : ((low u v).1 * b < a * (low u v).2) ↔ u * b < a * v := by
  obtain ⟨g, g0, e1, e2⟩ := low_parts (u := u) h
  generalize hc : (low u v).1 = c at *
  generalize hd : (low u v).2 = d at *
  rw [e1, e2, Int.mul_left_comm a g d, Int.mul_assoc g c b]
  exact (Int.mul_lt_mul_left g0).symm
theorem eq_low {n : Nat} {x : Int × Int} {u v : Int} (hx : Lp n x) (h : 0 < v) : x = low u v ↔ x.1 * v = u * x.2 := by
  obtain ⟨g, g0, e1, e2⟩ := low_parts (u := u) h
  constructor
  · intro e
    rw [← e] at e1 e2
    rw [e1, e2]
    grind
  · intro e
    have bu : Bt (u.natAbs.log2 + v.natAbs.log2 + 2) u := Bt.any.mono (by omega)
    have bv : Bt (u.natAbs.log2 + v.natAbs.log2 + 2) v := Bt.any.mono (by omega)
    refine val_inj hx (Lp.low h bu bv) ?_
    rw [val_low h]
    unfold val
    have q1 := cast_ne (show x.2 ≠ 0 by have := hx.1; omega)
    have q2 := cast_ne (show v ≠ 0 by omega)
    have c : (x.1 : _root_.Rat) * v = u * x.2 := by exact_mod_cast e
    grind
theorem jn2_pos {t y : Int × Int} (ht : 0 < t.1) (hy : 0 < y.1) (t2 : 0 < t.2) (y2 : 0 < y.2) : 0 < (jn 2 t y).1 := by
  rw [jn_mul]
  obtain ⟨g, g0, e1, e2⟩ := low_parts (u := t.1 * y.1) (Int.mul_pos t2 y2)
  have p := Int.mul_pos ht hy
  rw [e1] at p
  generalize (low (t.1 * y.1) (t.2 * y.2)).1 = c at *
  by_cases hc : 0 < c
  · exact hc
  · have z := Int.mul_le_mul_of_nonneg_left (show c ≤ 0 by omega) (show 0 ≤ g by omega)
    rw [Int.mul_zero] at z
    omega
theorem lt_add {h t : Int × Int} (h2 : 0 < h.2) (t1 : 0 < t.1) (t2 : 0 < t.2) : h.1 * (jn 0 h t).2 < (jn 0 h t).1 * h.2 := by
  rw [jn_add, lt_low (Int.mul_pos h2 t2), Int.add_mul]
  have p := Int.mul_pos (Int.mul_pos t1 h2) h2
  have e : h.1 * (h.2 * t.2) = h.1 * t.2 * h.2 := by rw [Int.mul_comm h.2, Int.mul_assoc]
  rw [e]
  omega
theorem sub_lt {h t : Int × Int} (h2 : 0 < h.2) (t1 : 0 < t.1) (t2 : 0 < t.2) : (jn 1 h t).1 * h.2 < h.1 * (jn 1 h t).2 := by
  rw [jn_sub, low_lt (Int.mul_pos h2 t2), Int.sub_mul]
  have p := Int.mul_pos (Int.mul_pos t1 h2) h2
  have e : h.1 * (h.2 * t.2) = h.1 * t.2 * h.2 := by rw [Int.mul_comm h.2, Int.mul_assoc]
  rw [e]
  omega
end G

/-! Raising: making, methods that raise; defs that are called with the exception that is handled. -/
namespace G
open PySem PySem.Spec PyProof.Rows L2
section
variable {X : Cx} {CX : CXT} {k : Nat} {f C : Addr} {fd : FuncData} {ps : List Str} {sp : Sp} {E : L2.St → XK} {x m : Str} {p pos apos : Pos} {e o : Expr} {es : List Expr} {ta : TE} {t : TA} {ds : List Value} {dvs : List V}
/-- C(e, ..), __init__ may raise -/
theorem run_makeS {pins : List (Addr × Obj)} {σ : L2.St} {H : Hp} {s : Shared} {Q : VK} {us : List Value} {vs : List V} (M : Mk X.K C f) (F : FnOk X.prog X.w X.K X.mg X.base CX k f fd ps sp) (hr : Room (k + 1) X.A) (hb : Binds X.K fd ps ds) (hd : Vals dvs ds)
    (hx : PassesAt CX X σ (E σ)) (I : Inv X pins σ H s) (r : Vals vs us)
    (un : ∀ (C : Addr) (x dx : Addr) (H' : Hp), H x = none → H dx = none → dx ≠ x → True)
    (hpass : ∀ (x dx : Addr) (s1 : Shared) (e : Value) (s' : Shared), H x = none → H dx = none → Inv X pins σ (upd (upd H dx (.own x)) x (.ins C dx [])) s1 → CX X.stack (upd (upd H dx (.own x)) x (.ins C dx [])) s1 (E σ) e s' → X.xe e s')
    (h : ∀ x dx, H x = none → H dx = none → dx ≠ x → sp (.ref x :: (vs ++ dvs)) (upd (upd H dx (.own x)) x (.ins C dx [])) (fun v H2 => v = .non ∧ Q (.ref x) H2) (E σ)) :
    wpAny (model X.prog X.w) X.A (call (.ref C) us) (EP X pins σ Q) X.xe s := by
  have f1 := I.hok.fresh (Nat.le_succ s.heap.objs.size)
  have f2 := I.hok.fresh (Nat.le_refl s.heap.objs.size)
  have hq := h (s.heap.objs.size + 1) s.heap.objs.size f1 f2 (Nat.ne_of_lt (Nat.lt_succ_self _))
  have I2 := Inv.made (C := C) I
  have r2 : Vals (V.ref (s.heap.objs.size + 1) :: (vs ++ dvs)) (Value.ref (s.heap.objs.size + 1) :: (us ++ ds)) := .cons rfl (r.append hd)
  have hl : (Value.ref (s.heap.objs.size + 1) :: us ++ ds).length = ps.length := by
    have e := r2.length
    rw [F.len _ _ _ _ hq] at e
    exact e.symm
  refine wpAny_call (make_map (f := f) I.kIn M.makes M.init (beq_iff_eq.mp M.fn) (codeAny_mono (F.run _ X.stack _ _ ⟨Value.ref (s.heap.objs.size + 1) :: us, []⟩ (Value.ref (s.heap.objs.size + 1) :: (us ++ ds)) _ _ (E σ) (hr.make C us [])
    (I2.env0.make C us []) (hb _ (Value.ref (s.heap.objs.size + 1) :: us) I2.kIn hl) r2 hq) fun r s' hq' => ?_))
  cases r with
  | error e => exact hpass _ _ _ e s' f1 f2 I2 hq'
  | ok fl =>
    cases fl with
    | ret u =>
      obtain ⟨v, H', I3, rv, ev, q3⟩ := I2.after hq'
      subst ev
      exact ⟨rv, ⟨V.ref (s.heap.objs.size + 1), H', I3, rfl, q3⟩⟩
    | next => exact False.elim hq'
    | brk => exact False.elim hq'
    | cont => exact False.elim hq'
def tMakeS (C : Addr) (sp : Sp) (dvs : List V) (E : L2.St → XK) (t : TA) : TE := fun σ H Q => t σ H fun vs H1 => ∀ x dx, H1 x = none → H1 dx = none → dx ≠ x → sp (.ref x :: (vs ++ dvs)) (upd (upd H1 dx (.own x)) x (.ins C dx [])) (fun v H2 => v = .non ∧ Q (.ref x) H2) (E σ)
theorem pe_makeS (M : Mk X.K C f) (F : FnOk X.prog X.w X.K X.mg X.base CX k f fd ps sp) (hr : Room (k + 1) X.A) (hg : Gl X x) (hm : X.mg x = some (.ref C)) (hb : Binds X.K fd ps ds) (hd : Vals dvs ds) (hx : ∀ σ, PassesAt CX X σ (E σ))
    (ha : PA X (e :: es) t) (hdb : (x == ("__debug__" : Str)) = false := by decide) (he : starEach (e :: es) X.env = (false, eval e X.env) :: starEach es X.env := by rfl) (hpl : (backTo pos (starEach es X.env)).any (·.1) = false := by rfl) :
    PE X (.Call (.Name x p) (e :: es) [] pos) (tMakeS C sp dvs E t) := by
  refine ⟨fun pins s σ H Q I h => ?_⟩
  refine wpAny_Call_Name_kw (ld_glob I hg hm ?_ hdb)
  refine PySem.W.callWith_K (h₀ := X.base) I.ok.mod.kin M.kp (thn (ha.run pos pins s σ H _ I h) fun us s1 ⟨vs, H1, I1, r, q⟩ => ⟨I1.kIn, ?_⟩) he hpl
  exact run_makeS M F hr hb hd (hx σ) I1 r (fun _ _ _ _ _ _ _ => True.intro) (fun x dx s1 e s' _ _ J c => hx σ pins _ s1 e s' J c) q
theorem run_fnSD {pins : List (Addr × Obj)} {σ : L2.St} {H : Hp} {s : Shared} {Q : VK} {us : List Value} {vs : List V} (F : FnOk X.prog X.w X.K X.mg X.base CX k f fd ps sp) (hr : Room k X.A) (hb : Binds X.K fd ps ds) (hd : Vals dvs ds) (hx : PassesAt CX X σ (E σ))
    (I : Inv X pins σ H s) (r : Vals vs us) (h : sp (vs ++ dvs) H Q (E σ)) : wpAny (model X.prog X.w) X.A (call (.ref f) us) (EP X pins σ Q) X.xe s := by
  have rr : Vals (vs ++ dvs) (us ++ ds) := r.append hd
  refine wpAny_call (codeAny_mono (F.run X.A X.stack s H ⟨us, []⟩ (us ++ ds) (vs ++ dvs) Q (E σ) hr I.env0 (hb s us I.kIn (by rw [← rr.length]; exact F.len _ _ _ _ h)) rr h) fun r s' hq => ?_)
  cases r with
  | error e => exact hx pins H s e s' I hq
  | ok fl =>
    cases fl with
    | ret u => exact I.after hq
    | next => exact False.elim hq
    | brk => exact False.elim hq
    | cont => exact False.elim hq
def tMethS (C : Addr) (m : Str) (sp : Sp) (dvs : List V) (E : L2.St → XK) (ta : TE) (t : TA) : TE := fun σ H Q => ta σ H fun x H1 => ∃ a dx fs, x = .ref a ∧ H1 a = some (.ins C dx fs) ∧ fs.lookup m = none ∧ t σ H1 fun vs H2 => sp (x :: (vs ++ dvs)) H2 Q (E σ)
theorem pe_methS {pl : Sem Bool} (he : PE X o ta) (c : Cls X.K C) (hm : Meth X.K C m f) (F : FnOk X.prog X.w X.K X.mg X.base CX k f fd ps sp) (hr : Room k X.A) (hb : Binds X.K fd ps ds) (hd : Vals dvs ds) (hx : ∀ σ, PassesAt CX X σ (E σ)) (ha : PA X (e :: es) t)
    (hst : starEach (e :: es) X.env = (false, eval e X.env) :: starEach es X.env := by rfl) (hpl : (backTo pos (starEach es X.env)).any (·.1) = false := by rfl)
    (ht : eval (.Call (.Attribute o m apos) (e :: es) [] pos) X.env = (do
      let ov ← eval o X.env
      standAt apos.atName
      let (f, first) ← holding [ov] (getMethod ov m pl)
      callWith pos f first (backTo pos (starEach (e :: es) X.env)) (backToKw pos (keywordEach [] X.env))) := by rfl) :
    PE X (.Call (.Attribute o m apos) (e :: es) [] pos) (tMethS C m sp dvs E ta t) := by
  refine ⟨fun pins s σ H Q I h => ?_⟩
  refine PySem.W.methodCall_KW (pl := pl) (thn (he.run pins s σ H _ I h) fun u s1 ⟨x, H1, I1, rx, a, dx, fs, ex, ea, l, q⟩ => ?_) ht
  subst ex
  obtain rfl : u = Value.ref a := rx
  refine getmeth_ok I1 ea c hm l ?_
  refine PySem.W.callWith_K (first := [.ref a]) (h₀ := X.base) I.ok.mod.kin hm.kp (thn (ha.run pos pins s1 σ H1 _ I1 q) fun us s2 ⟨vs, H2, I2, r, q2⟩ => ⟨I2.kIn, ?_⟩) hst hpl
  exact run_fnSD (us := .ref a :: us) (vs := .ref a :: vs) F hr hb hd (hx σ) I2 (.cons rfl r) q2
end
section
variable {P : Program} {w : World} {K : PySem.W.Frag} {mg : Str → Option Value} {base : Heap}
/-- as Fun.okX, exceptions that tell their context -/
theorem fun_okN {x qual : Str} {st : Stmt} {f : Addr} {fd : FuncData} {N ps : List Str} {k : Nat} {sp : Sp} (F : Fun K x qual st f fd) (S : FnScope N ps (defScope st)) (len : ∀ vs H Q E, sp vs H Q E → vs.length = ps.length)
    (hbody : ∀ (cdv : Value) (A : Around) (outer : List Env) (s : Shared) (H : Hp) (vs : List V) (Q : VK) (E : XK), Room k (A.deeper (envOfC qual (defScope st) s.heap.objs.size f cdv)) → sp vs H Q E →
      ∃ t, PSs (cxOf (L2N.CX P w) P w K mg base N qual (defScope st) f cdv A outer s H E) (defBody st) t ∧ t { nx := fun _ H' => Q .non H', rt := Q } (start N vs) H) : FnOk P w K mg base (L2N.CX P w) (k + 1) f fd ps sp := by
  obtain ⟨oc, od, kV, doc, pm, an, cdv, ct, osl, rfl, lk, hcd⟩ := F.ex
  exact fn_of lk hcd S len fun A outer s H vs Q E hr hsp => hbody cdv A outer s H vs Q E hr hsp
/-- a def that is called with the exception that is handled; its promise knows which that is -/
structure FnP (P : Program) (w : World) (K : PySem.W.Frag) (mg : Str → Option Value) (base : Heap) (k : Nat) (f : Addr) (fd : FuncData) (ps : List Str) (sp : Addr × Obj → Sp) : Prop where
  len : ∀ p vs H Q E, sp p vs H Q E → vs.length = ps.length
  run : ∀ (A : Around) (outer : List Env) (s : Shared) (H : Hp) (args : Args) (us : List Value) (vs : List V) (Q : VK) (E : XK) (p : Addr × Obj), L2H.RoomH k A → L2H.Hot1 A p → L2H.PinOk outer H s p → Env0 P w K mg base A outer s H → BindsTo s fd args (ps.zip us) → Vals vs us → sp p vs H Q E →
    codeAny (model P w) A (.call (.ref f) args) (CR CX0 outer P w H s Q E) s
theorem fun_okP {x qual : Str} {st : Stmt} {f : Addr} {fd : FuncData} {N ps : List Str} {k : Nat} {sp : Addr × Obj → Sp} (F : Fun K x qual st f fd) (S : FnScope N ps (defScope st)) (len : ∀ p vs H Q E, sp p vs H Q E → vs.length = ps.length)
    (hbody : ∀ (cdv : Value) (A : Around) (outer : List Env) (s : Shared) (H : Hp) (vs : List V) (Q : VK) (E : XK) (p : Addr × Obj), L2H.Hot1 A p → L2H.RoomH k (A.deeper (envOfC qual (defScope st) s.heap.objs.size f cdv)) → sp p vs H Q E →
      ∃ t, PSs (L2H.cxH CX0 P w K mg base N qual (defScope st) f cdv A outer s H E p) (defBody st) t ∧ t { nx := fun _ H' => Q .non H', rt := Q } (L2.start N vs) H) : FnP P w K mg base (k + 1) f fd ps sp := by
  obtain ⟨oc, od, kV, doc, pm, an, cdv, ct, osl, rfl, lk, hcd⟩ := F.ex
  refine ⟨len, fun A outer s H args us vs Q E p hr hot hpin e0 hb r hsp => ?_⟩
  have hl := len _ _ _ _ _ hsp
  have KX : K.In s.heap := e0.mod.kin.keeps fun b o e => (e0.bs b o e).1
  have nolim : s.heap.NoLimit := e0.mod.nolimit.keeps fun b o e => (e0.bs b o e).1
  have kinds : ∀ y ∈ ps.zip us, (defScope st).names.lookup y.1 = some .local ∨ ((defScope st).names.lookup y.1 = some .cell ∧ ((cellsFrom (s.heap.objs.size + 1) (defScope st).names []).lookup y.1).isSome = true) := by
    rintro ⟨n, v⟩ hy
    exact (S.par n (List.of_mem_zip hy).1).elim (fun q => .inl q) fun q => .inr ⟨q, PySem.W.cellsFrom_some _ _ _ (.inl q)⟩
  refine codeAny_call_function hr.depth (KX _ _ lk) rfl S.co S.gen rfl (PySem.W.codeRec_of KX hcd) (hb _ _ _ _ ?_)
  refine wpAny_newFunctionEnv_cells S.kind kinds fun env he s1 x => ?_
  subst he
  refine ⟨nolim.keeps x.toInCall.keep, codeAny_func ?_⟩
  obtain ⟨t, ht, hq⟩ := hbody cdv A outer s H vs Q E p hot (hr.deeper _) hsp
  have I := L2H.inv_startH (CX := CX0) (K := K) (mg := mg) (base := base) (qual := qual) (cd := cdv) (E := E) S hpin e0 hl r x
  refine wpAny_mono (ht.run [] s1 (L2.start N vs) H _ I hq) (fun fl s' hs => ?_) fun e s' hs => hs
  cases fl with
  | ret u =>
    obtain ⟨v, σ', H', J, rv, q⟩ := hs
    exact ⟨v, H', J.os, J.bare, J.base, J.hok, rv, q⟩
  | next =>
    obtain ⟨σ', H', J, q⟩ := hs
    exact ⟨V.non, H', J.os, J.bare, J.base, J.hok, rfl, q⟩
  | brk => exact hs.elim fun _ h => h.elim fun _ h => False.elim h.2
  | cont => exact hs.elim fun _ h => h.elim fun _ h => False.elim h.2
end
section
variable {X : Cx} {k : Nat} {f : Addr} {fd : FuncData} {ps : List Str} {sp : Addr × Obj → Sp} {x : Str} {q pos : Pos} {e : Expr} {es : List Expr} {t : TA} {p : Addr × Obj}
theorem run_fnP {pins : List (Addr × Obj)} {σ : L2.St} {H : Hp} {s : Shared} {Q : VK} {us : List Value} {vs : List V} {E : XK} (F : FnP X.prog X.w X.K X.mg X.base k f fd ps sp) (hr : L2H.RoomH k X.A) (hot : L2H.Hot1 X.A p) (hp : p ∈ X.pn) (hb : Binds X.K fd ps [])
    (I : Inv X pins σ H s) (r : Vals vs us) (h : sp p vs H Q E) : wpAny (model X.prog X.w) X.A (call (.ref f) us) (EP X pins σ Q) X.xe s := by
  have hl : us.length = ps.length := by rw [← r.length]; exact F.len _ _ _ _ _ h
  have b := hb s us I.kIn (by rw [List.append_nil]; exact hl)
  rw [List.append_nil] at b
  have P1 := I.pin p (List.mem_append_left _ hp)
  have hpin : L2H.PinOk X.stack H s p := ⟨P1.1, P1.2.1, fun hm => (List.mem_cons.mp (I.stkSub p.1 hm)).elim P1.2.2.1 P1.2.2.2.1, P1.2.2.2.2⟩
  refine wpAny_call (codeAny_mono (F.run X.A X.stack s H ⟨us, []⟩ us vs Q E p hr hot hpin I.env0 b r h) fun r s' hq => ?_)
  match r, hq with
  | .ok (.ret u), hq => exact I.after hq
theorem roomS {k : Nat} {A : Around} {v : Option Value} (r : Room k A) : L2H.RoomH k (A.mark v) := ⟨r.dp, r.un⟩
theorem pe_callP {spr : Sp} (hsp : ∀ vs H Q E, spr vs H Q E → sp p vs H Q E) (F : FnP X.prog X.w X.K X.mg X.base k f fd ps sp) (hr : L2H.RoomH k X.A) (hot : L2H.Hot1 X.A p) (hp : p ∈ X.pn) (hg : Gl X x) (hm : X.mg x = some (.ref f)) (hk : PySem.W.keepIn X.K (.ref f) = true) (hb : Binds X.K fd ps [])
    (ha : PA X (e :: es) t) (hdb : (x == ("__debug__" : Str)) = false := by decide) (he : starEach (e :: es) X.env = (false, eval e X.env) :: starEach es X.env := by rfl) (hpl : (backTo pos (starEach es X.env)).any (·.1) = false := by rfl) :
    PE X (.Call (.Name x q) (e :: es) [] pos) (tCall spr [] E0 t) := by
  refine ⟨fun pins s σ H Q I h => ?_⟩
  refine wpAny_Call_Name_kw (ld_glob I hg hm ?_ hdb)
  refine PySem.W.callWith_K (h₀ := X.base) I.ok.mod.kin hk (thn (ha.run pos pins s σ H _ I h) fun us s1 ⟨vs, H1, I1, r, q⟩ => ⟨I1.kIn, ?_⟩) he hpl
  have q : spr (vs ++ []) H1 Q E0 := q
  rw [List.append_nil] at q
  exact run_fnP F hr hot hp hb I1 r (hsp _ _ _ _ q)
/-- isinstance(e, c), (c1, c2, ..), e the exception that is pinned -/
theorem inst_pin {D : Addr} {pins : List (Addr × Obj)} {σ : L2.St} {H : Hp} {s : Shared} (hp : p ∈ X.pn) (hz : Zc (.ref D) none p.2) (hf : ∃ vs, p.2.data = .fields vs) (I : Inv X pins σ H s) : PySem.W.InstAt s.heap p.1 p.2 D none := by
  obtain ⟨hget, _⟩ := I.pin p (List.mem_append_left _ hp)
  obtain ⟨a, oe⟩ := p
  obtain ⟨vs, hv⟩ := hf
  obtain ⟨oc, od, oda, osl⟩ := oe
  obtain ⟨h1, h2⟩ := hz
  dsimp only at h1 h2 hv hget
  subst h1 h2 hv
  exact ⟨hget, rfl, rfl, trivial⟩
theorem call_isP {D : Addr} (C : ExcC X.K D) (hp : p ∈ X.pn) (hz : Zc (.ref D) none p.2) (hf : ∃ vs, p.2.data = .fields vs) : CallR X (.builtin "isinstance") (rIsE X.K D p.1) := by
  intro pins s σ H xs us Q I r h
  obtain ⟨c, cv, b, rfl, hcv, e, q⟩ := h
  obtain ⟨u1, u2, rfl, r1, r2⟩ := vals2 r
  cases (show u1 = Value.ref p.1 from r1)
  have ec := hcv _ r2
  subst ec
  exact PySem.W.kia_one (PySem.W.handS_kitx_exc C.hg C.hk C.hs C.hd C.ha C.hn C.ht C.hm) I.kIn (inst_pin hp hz hf I) e (fun z => nomatch z) fun tk => ⟨.bl b, H, I.kept (t' := tk) fun _ _ z => z, rfl, q⟩
def rIsET (K : PySem.W.Frag) (D a : Addr) : List V → Hp → VK → Prop := fun xs H Q => ∃ (tp : Addr) (cs : List V) (us : List Value) (b : Bool), xs = [.ref a, .ref tp] ∧ H tp = some (.tup cs) ∧ Paired ClsV cs us ∧ PySem.W.kitAny K (.ref D) us = some b ∧ Q (.bl b) H
theorem call_isPT {D : Addr} (C : ExcC X.K D) (hp : p ∈ X.pn) (hz : Zc (.ref D) none p.2) (hf : ∃ vs, p.2.data = .fields vs) : CallR X (.builtin "isinstance") (rIsET X.K D p.1) := by
  intro pins s σ H xs us Q I r h
  obtain ⟨tp, cs, ws, b, rfl, hT, k, e, q⟩ := h
  obtain ⟨u1, u2, rfl, r1, r2⟩ := vals2 r
  cases (show u1 = Value.ref p.1 from r1)
  cases (show u2 = Value.ref tp from r2)
  obtain ⟨_, its, rv, o, h1, h2, n, h3⟩ := (show ObjOk X.prog X.w H s.heap tp (.tup cs) from I.hok tp _ hT)
  have e3 := ClsV.all k rv
  subst e3
  obtain ⟨oc, od, dt, sl⟩ := o
  simp only at h2 h3
  subst h2 h3
  exact PySem.W.kia_tup (PySem.W.handS_kitx_exc C.hg C.hk C.hs C.hd C.ha C.hn C.ht C.hm) I.kIn (inst_pin hp hz hf I) h1 e (fun z => nomatch z) fun tk => ⟨.bl b, H, I.tok tk, rfl, q⟩
/-- xs.count(y), flat values -/
def rCntF (K : PySem.W.Frag) : V → List V → Hp → VK → Prop := fun x xs H Q => ∃ (p : Addr) (ys : List V) (y : V), x = .ref p ∧ xs = [y] ∧ SqL K H p ys ∧ flatV y = true ∧ ys.all flatV = true ∧ Q (.int (ys.countP fun z => eqV z y : Nat)) H
theorem cnt_eqU {x : V} : ∀ {xs : List V} {us : List Value}, Vals xs us → xs.all flatV = true → us.countP (eqU x) = xs.countP fun y => eqV y x
  | _, _, .nil, _ => rfl
  | _, _, .cons r rs, h => by
    rw [List.all_cons, Bool.and_eq_true] at h
    rw [List.countP_cons, List.countP_cons, cnt_eqU rs h.2, eqU_of r h.1]
theorem mt_countF : MtR X "list.count" (rCntF X.K) := by
  intro pins s σ H x xs v us Q I rx rxs h
  obtain ⟨p, ys, y, rfl, rfl, hs, fy, fys, q⟩ := h
  cases rx
  obtain ⟨u, rfl, ru⟩ := rxs.one
  obtain ⟨its, rv, ⟨⟨cls, dd, data, sl⟩, n, ho, hc, hdn, hd⟩, hlen⟩ := I.list hs
  simp only at hc hd
  subst hc hd
  refine call_meets PySem.F.slot_list_count ⟨_, ho, rfl⟩ PySem.F.entry_list_count (PySem.F.args_list_count_2 _ _)
    (SeqAt.list_countAt p its.toArray n dd sl u (eqU y)) ⟨ho, fun u' hu' => mem_eqAt ru fy rv fys u' (by simpa using hu'), ?_⟩
  refine ⟨.int (ys.countP fun z => eqV z y : Nat), H, I.tok _, ⟨s.toks, ?_⟩, q⟩
  have e := cnt_eqU (x := y) rv fys
  show Value.int ((its.toArray.toList.countP (eqU y) : Nat) : Int) s.toks = Value.int ((ys.countP fun z => eqV z y : Nat) : Int) s.toks
  rw [← e]
end
end G
namespace G
open PySem PySem.Spec PyProof.Rows L2
section
variable {X : Cx}
theorem call_typeA : CallR X (.type "type") (fun xs H Q => rTyp X.K xs H Q ∨ ∃ a C dx fs, xs = [V.ref a] ∧ H a = some (.ins C dx fs) ∧ Q (.ref C) H) := CallR.or call_type1 cr_type
/-- type(x) is not T, T a built-in type -/
def rNTA : R2 := fun x y H Q => ∃ b, y = .ty b ∧ ((∃ a, x = .ty a ∧ Q (.bl (!decide (a = b))) H) ∨ ∃ C, x = .ref C ∧ Q (.bl true) H)
theorem op_notTyA : OpR X (compareOp .IsNot) rNTA := by
  intro pins s σ H x y v u Q I rx ry h
  obtain ⟨b, rfl, h⟩ := h
  rcases h with ⟨a, rfl, q⟩ | ⟨C, rfl, q⟩
  · exact op_notTyB pins s σ H (.ty a) (.ty b) v u Q I rx ry ⟨a, b, rfl, rfl, q⟩
  · cases (show v = Value.ref C from rx)
    cases (show u = Value.type b from ry)
    exact wpAny_isNot_plain rfl (fin_bl I q rfl)
theorem takes0N {X : Cx} : L2N.Takes X (fun _ _ _ _ => False) := fun _ _ x => by
  obtain ⟨_, _, _, _, _, _, _, _, _, _, _, _, _, _, _, _, z⟩ := x
  exact z.elim
end
/-! ### values that are no integers, no ratios -/
def NW (K : PySem.W.Frag) (H : Hp) (x : V) : Prop := ∃ t b1 b2, TyX K H x t ∧ PySem.W.kitOne K t (.type "int") = some b1 ∧ PySem.W.kitOne K t (.type "bool") = some b2 ∧ (b1 && !b2) = false
def NR (K : PySem.W.Frag) (C : Addr) (H : Hp) (x : V) : Prop := ∃ t, TyX K H x t ∧ PySem.W.kitOne K t (.ref C) = some false
def spWholeG (K : PySem.W.Frag) : Sp := fun vs H Q _ => ∃ x t b1 b2, vs = [x] ∧ TyX K H x t ∧ PySem.W.kitOne K t (.type "int") = some b1 ∧ PySem.W.kitOne K t (.type "bool") = some b2 ∧ Q (.bl (b1 && !b2)) H
theorem Pl.nw {K : PySem.W.Frag} {H : Hp} {x : V} {T : String} (h : Pl H x T) (n : T ≠ "int") : NW K H x := by
  cases h with
  | non => exact ⟨_, false, false, (Pl.non (H := H)).ty, kit_ty (by decide +kernel), kit_ty (by decide +kernel), rfl⟩
  | bl x => exact ⟨_, true, true, (Pl.bl (H := H) x).ty, kit_ty (by decide +kernel), kit_ty (by decide +kernel), rfl⟩
  | int i => exact absurd rfl n
  | str x => exact ⟨_, false, false, (Pl.str (H := H) x).ty, kit_ty (by decide +kernel), kit_ty (by decide +kernel), rfl⟩
  | lst e => exact ⟨_, false, false, (Pl.lst e).ty, kit_ty (by decide +kernel), kit_ty (by decide +kernel), rfl⟩
  | tup e => exact ⟨_, false, false, (Pl.tup e).ty, kit_ty (by decide +kernel), kit_ty (by decide +kernel), rfl⟩
  | dK e => exact ⟨_, false, false, (Pl.dK e).ty, kit_ty (by decide +kernel), kit_ty (by decide +kernel), rfl⟩
/-- the promises of the raising defs: the error's class R, Z -/
def spInitN (K : PySem.W.Frag) (C R : Addr) : Sp := fun vs H Q E => ∃ (p dx : Addr) (x y : V), vs = [.ref p, x, y] ∧ H p = some (.ins C dx []) ∧
  ((NW K H x ∧ E (.ref R) none H) ∨ ∃ i, x = .int i ∧ ((NW K H y ∧ E (.ref R) none H) ∨ ∃ j, y = .int j ∧ ((j < 1 ∧ E (.ref R) none H) ∨
    (0 < j ∧ Bt 8000 j ∧ Q .non (upd H p (.ins C dx (rf (i / (Int.gcd i j : Int)) (j / (Int.gcd i j : Int)))))))))
def spOverN (K : PySem.W.Frag) (C R Z : Addr) : Sp := fun vs H Q E => ∃ (p : Addr) (v : V) (x : Int × Int) (n : Nat), vs = [.ref p, v] ∧ Rat C H p x.1 x.2 ∧ Lp n x ∧ n ≤ 3500 ∧
  ((NR K C H v ∧ E (.ref R) none H) ∨ ∃ q y, v = .ref q ∧ Rat C H q y.1 y.2 ∧ Lp n y ∧ ((y.1 = 0 ∧ E (.ref Z) none H) ∨ (y.1 ≠ 0 ∧ ∀ r H', H r = none → Same H H' → Rat C H' r (qt x y).1 (qt x y).2 → Q (.ref r) H')))
def spLessN (K : PySem.W.Frag) (C R : Addr) : Sp := fun vs H Q E => ∃ (p : Addr) (v : V) (x : Int × Int) (n : Nat), vs = [.ref p, v] ∧ Rat C H p x.1 x.2 ∧ Lp n x ∧ n ≤ 3500 ∧
  ((NR K C H v ∧ E (.ref R) none H) ∨ ∃ q y, v = .ref q ∧ Rat C H q y.1 y.2 ∧ Lp n y ∧ ∀ b, Q (.bl b) H)
/-- no list -/
inductive NL (K : PySem.W.Frag) (H : Hp) : V → Prop
  | pl {x : V} {T : String} : Pl H x T → T ≠ "list" → NL K H x
  | ins {a C dx : Addr} {fs : List (Str × V)} : H a = some (.ins C dx fs) → NL K H (.ref a)
def spTotalN (K : PySem.W.Frag) (C R : Addr) : Sp := fun vs H Q E => ∃ v, vs = [v] ∧ ((NL K H v ∧ E (.ref R) none H) ∨ ∃ l rs ws xs, v = .ref l ∧ H l = some (.lst (rs ++ ws)) ∧ Rats C H rs xs ∧ (rs ++ ws).length ≤ 1000 ∧ (∀ x ∈ xs, Lp 3500 x) ∧ (∀ k, k ≤ xs.length → Lp 3500 (tot (xs.take k))) ∧
  ((∃ w wr, ws = w :: wr ∧ NR K C H w ∧ ∀ H', Same H H' → E (.ref R) none H') ∨ (ws = [] ∧ ∀ r H', H r = none → Same H H' → Rat C H' r (tot xs).1 (tot xs).2 → Q (.ref r) H')))
end G
namespace G
open PySem PySem.Spec PyProof.Rows L2
theorem Pl.tb {K : PySem.W.Frag} {H : Hp} {x : V} {T : String} (h : Pl H x T) : TyB K H x T := by
  cases h with
  | non => exact .non
  | bl x => exact .bl x
  | int i => exact .int i
  | str x => exact .str x
  | lst e => exact .lst (SqL.of e)
  | tup e => exact .tup (SqT.of e)
  | dK e => exact .dK e
theorem Pl.nr {K : PySem.W.Frag} {C : Addr} {H : Hp} {x : V} {T : String} (h : Pl H x T) (k : PySem.W.kitOne K (.type T) (.ref C) = some false) : NR K C H x := ⟨_, h.ty, k⟩
/-- what the caught exception is -/
def spName (R Z a : Addr) (cls : Value) (d : Option Addr) : Sp := fun vs H Q _ => vs = [.ref a] ∧ d = none ∧
  ((cls = .ref R ∧ ∀ H', Same H H' → Q (.str "ratio") H') ∨ (cls = .ref Z ∧ ∀ H', Same H H' → Q (.str "zero") H'))
def spNameP (R Z : Addr) (p : Addr × Obj) : Sp := fun vs H Q E => ∃ cls d, L2N.Zn cls d p.2 ∧ (∃ vs, p.2.data = .fields vs) ∧ spName R Z p.1 cls d vs H Q E
theorem clsOwn (C : Addr) : ∀ u, RelV (.ref C) u → u = .ref C := fun u h => h
theorem clsTy (T : String) : ∀ u, RelV (.ty T) u → u = .type T := fun u h => h
end G
namespace G
open PySem PySem.Spec PyProof.Rows L2
theorem tyX_same {K : PySem.W.Frag} {H H' : Hp} {x : V} {t : Value} (h : TyX K H x t) (e : Same H H') : TyX K H' x t := by
  cases h with
  | base b =>
    refine .base ?_
    cases b with
    | non => exact .non
    | bl x => exact .bl x
    | int x => exact .int x
    | str x => exact .str x
    | flt x => exact .flt x
    | lst h => exact .lst (e _ _ h)
    | frz h => exact .frz (e _ _ h)
    | tup h => exact .tup (e _ _ h)
    | dK h => exact .dK (e _ _ h)
    | dT h => exact .dT (e _ _ h)
    | ins h a b c d f => exact .ins (e _ _ h) a b c d f
  | byt x => exact .byt x
  | set h => exact .set (e _ _ h)
  | kList a b => exact .kList a b
  | kTuple a b => exact .kTuple a b
  | kDict a b => exact .kDict a b
  | fTuple h => exact .fTuple (e _ _ h)
  | fDict h => exact .fDict (e _ _ h)
theorem NW.same {K : PySem.W.Frag} {H H' : Hp} {x : V} (h : NW K H x) (e : Same H H') : NW K H' x := let ⟨t, b1, b2, ty, k1, k2, k⟩ := h; ⟨t, b1, b2, tyX_same ty e, k1, k2, k⟩
theorem NR.same {K : PySem.W.Frag} {C : Addr} {H H' : Hp} {x : V} (h : NR K C H x) (e : Same H H') : NR K C H' x := let ⟨t, ty, k⟩ := h; ⟨t, tyX_same ty e, k⟩
theorem NL.same {K : PySem.W.Frag} {H H' : Hp} {x : V} (h : NL K H x) (e : Same H H') : NL K H' x := by
  cases h with
  | pl p n => exact .pl (p.same e) n
  | ins h => exact .ins (e _ _ h)
end G
namespace G
open PySem PySem.Spec PyProof.Rows L2
theorem kany_cons {K : PySem.W.Frag} {t c : Value} {cs : List Value} (h : PySem.W.kitOne K t c = some false) (hr : PySem.W.kitAny K t cs = some false) : PySem.W.kitAny K t (c :: cs) = some false := kitAny_cons h (fun _ => hr) (fun q => nomatch q)
theorem kany_nil {K : PySem.W.Frag} {t : Value} : PySem.W.kitAny K t [] = some false := rfl
end G
namespace G
open PySem PySem.Spec PyProof.Rows L2
theorem mkN {K : PySem.W.Frag} {C R : Addr} {H : Hp} {x y : V} {Q : Hp → Prop} {E : XK} (h : (NW K H x ∧ ∀ H', Same H H' → E (.ref R) none H') ∨ ∃ i, x = .int i ∧ ((NW K H y ∧ ∀ H', Same H H' → E (.ref R) none H') ∨ ∃ j, y = .int j ∧ ((j < 1 ∧ ∀ H', Same H H' → E (.ref R) none H') ∨ (0 < j ∧ Bt 8000 j ∧ ∀ (r : Addr) (H2 : Hp), Same H H2 → Q H2)))) :
    ∀ r dx, H r = none → H dx = none → dx ≠ r → spInitN K C R [.ref r, x, y] (upd (upd H dx (.own r)) r (.ins C dx [])) (fun v H2 => v = .non ∧ Q H2) E := by
  intro r dx hr hd hne
  have sm : ∀ o, Same H (upd (upd H dx (.own r)) r o) := fun o c u e => by
    rw [upd_ne (ne_of_none e hr), upd_ne (ne_of_none e hd)]
    exact e
  refine ⟨r, dx, x, y, rfl, upd_same, ?_⟩
  rcases h with ⟨nw, e⟩ | ⟨i, rfl, h⟩
  · exact .inl ⟨nw.same (sm _), e _ (sm _)⟩
  · refine .inr ⟨i, rfl, ?_⟩
    rcases h with ⟨nw, e⟩ | ⟨j, rfl, h⟩
    · exact .inl ⟨nw.same (sm _), e _ (sm _)⟩
    · refine .inr ⟨j, rfl, ?_⟩
      rcases h with ⟨hj, e⟩ | ⟨hj, hb, q⟩
      · exact .inl ⟨hj, e _ (sm _)⟩
      · refine .inr ⟨hj, hb, rfl, ?_⟩
        rw [upd_twice]
        exact q r _ (sm _)
theorem w_caught {K : PySem.W.Frag} {c cls : Value} {i : Nat} {ts : Addr → Value → Option Addr → TS} {Wout : WX} {D : Ends} {d : Option Addr} {σ : L2.St} {H : Hp} (e : PySem.W.exmOne K cls c = some true)
    (q : ∀ a, H a = none → ts a cls d { nx := fun σ' H' => D.nx (σ'.set i none) H', rt := D.rt, bk := fun σ' H' => D.bk (σ'.set i none) H', ct := fun σ' H' => D.ct (σ'.set i none) H' } (σ.set i (some (.ref a))) H) : wAs K c i ts Wout D cls d σ H := ⟨true, e, fun _ => q, fun z => nomatch z⟩
/-- how a try ends -/
inductive Out (K : PySem.W.Frag) (C : Addr) (H : Hp) : Int → V → V → Str → Prop
  | i0a {x y : V} : NW K H x → Out K C H 0 x y "ratio"
  | i0b {i : Int} {y : V} : NW K H y → Out K C H 0 (.int i) y "ratio"
  | i0c {i j : Int} : j < 1 → Out K C H 0 (.int i) (.int j) "ratio"
  | i0 {i j : Int} : 0 < j → Bt 8000 j → Out K C H 0 (.int i) (.int j) "returned"
  | i1a {x y : V} : NW K H x → Out K C H 1 x y "ratio"
  | i1 {i : Int} {y : V} : Out K C H 1 (.int i) y "returned"
  | o2a {p : Addr} {x : Int × Int} {n : Nat} {v : V} : Rat C H p x.1 x.2 → Lp n x → n ≤ 3500 → NR K C H v → Out K C H 2 (.ref p) v "ratio"
  | o2z {p q : Addr} {x y : Int × Int} {n : Nat} : Rat C H p x.1 x.2 → Lp n x → n ≤ 3500 → Rat C H q y.1 y.2 → Lp n y → y.1 = 0 → Out K C H 2 (.ref p) (.ref q) "zero"
  | o2 {p q : Addr} {x y : Int × Int} {n : Nat} : Rat C H p x.1 x.2 → Lp n x → n ≤ 3500 → Rat C H q y.1 y.2 → Lp n y → y.1 ≠ 0 → Out K C H 2 (.ref p) (.ref q) "returned"
  | l4a {p : Addr} {x : Int × Int} {n : Nat} {v : V} : Rat C H p x.1 x.2 → Lp n x → n ≤ 3500 → NR K C H v → Out K C H 4 (.ref p) v "ratio"
  | l4 {p q : Addr} {x y : Int × Int} {n : Nat} : Rat C H p x.1 x.2 → Lp n x → n ≤ 3500 → Rat C H q y.1 y.2 → Lp n y → Out K C H 4 (.ref p) (.ref q) "returned"
  | t3a {v y : V} : NL K H v → Out K C H 3 v y "ratio"
  | t3b {l : Addr} {rs wr : List V} {w y : V} {xs : List (Int × Int)} : H l = some (.lst (rs ++ w :: wr)) → Rats C H rs xs → (rs ++ w :: wr).length ≤ 1000 → (∀ x ∈ xs, Lp 3500 x) → (∀ k, k ≤ xs.length → Lp 3500 (tot (xs.take k))) → NR K C H w → Out K C H 3 (.ref l) y "ratio"
  | t3 {l : Addr} {rs : List V} {y : V} {xs : List (Int × Int)} : H l = some (.lst rs) → Rats C H rs xs → rs.length ≤ 1000 → (∀ x ∈ xs, Lp 3500 x) → (∀ k, k ≤ xs.length → Lp 3500 (tot (xs.take k))) → Out K C H 3 (.ref l) y "returned"
def spOut (K : PySem.W.Frag) (C : Addr) : Sp := fun vs H Q _ => ∃ n x y r, vs = [.int n, x, y] ∧ Out K C H n x y r ∧ ∀ H', Same H H' → Q (.str r) H'
end G
namespace G
open PySem PySem.Spec PyProof.Rows L2
section
variable {σ : L2.St} {H : Hp} {Q : VK} {ta : TE} {tr : TA} {sp : Sp} {dvs : List V} {E : L2.St → XK} {C : Addr} {m : Str}
theorem w_makeS (q : tr σ H fun vs H1 => ∀ x dx, H1 x = none → H1 dx = none → dx ≠ x → sp (.ref x :: (vs ++ dvs)) (upd (upd H1 dx (.own x)) x (.ins C dx [])) (fun v H2 => v = .non ∧ Q (.ref x) H2) (E σ)) : tMakeS C sp dvs E tr σ H Q := q
theorem w_methS (q : ta σ H fun x H1 => ∃ a dx fs, x = .ref a ∧ H1 a = some (.ins C dx fs) ∧ fs.lookup m = none ∧ tr σ H1 fun vs H2 => sp (x :: (vs ++ dvs)) H2 Q (E σ)) : tMethS C m sp dvs E ta tr σ H Q := q
theorem w_callS (q : tr σ H fun vs H1 => sp vs H1 Q (E σ)) : tCallS sp E tr σ H Q := q
end
end G
namespace G
open PySem PySem.Spec PyProof.Rows L2
/-- [te for x in range(n)]: the items are those of ys -/
theorem w_lcRange {β : Type} {O : Hp → V → β → Prop} (KO : Kept O) {te : TE} {σ : L2.St} {Q : VK} {H1 : Hp} {j n : Nat} (ys : List β) (ly : ys.length = n) (hn : n ≤ 1000)
    (step : ∀ (k : Nat) y H' (R : VK), k < n → ys[k]? = some y → Same H1 H' → (∀ u H2, Same H' H2 → O H2 u y → R u H2) → te ((σ.set j none).set j (some (.int (k : Int)))) H' R)
    (q : ∀ L acc H', H1 L = none → Same H1 H' → H' L = some (.lst acc) → PL (O H') acc ys → Q (.ref L) H') : LcW (Itr 0 n) (gName j) tYes te [j] σ Q H1 := by
  intro L nL
  refine lc_range (fun i H' => Fills (fun L k acc H' => Same H1 H' ∧ PL (O H') acc (ys.take k) ∧ acc.length = k) L i H') ⟨[], upd_same, same_new nL, .nil, rfl⟩ ?_ ?_
  · rintro k H' hk ⟨acc, hL, e, ps, lk⟩
    obtain ⟨y, hy⟩ : ∃ y, ys[k]? = some y := ⟨ys[k]'(by omega), by rw [List.getElem?_eq_getElem]⟩
    refine ⟨?_, ?_⟩
    · show ((σ.set j none).set j (some (.int (0 + (k : Int))))).set j none = σ.set j none
      rw [List.set_set, List.set_set]
    · refine w_yes ?_
      refine w_iteT rfl ?_
      rw [Int.zero_add]
      refine step k y H' _ hk hy e fun u H2 e2 o2 => ?_
      refine fills_more (Pv := fun L k acc H' => Same H1 H' ∧ PL (O H') acc (ys.take k) ∧ acc.length = k) (e2 _ _ hL) (by omega) fun H5 f5 h5 => ⟨Fr.unseen nL (e.trans e2) f5, ?_, by rw [List.length_append, lk]; rfl⟩
      rw [take_snoc hy]
      exact (ps.imp fun v y o => KO.fill (KO.same o e2) (e2 _ _ hL) f5).snoc (KO.fill o2 (e2 _ _ hL) f5)
  · rintro H' ⟨acc, hL, e, ps, _⟩
    rw [← ly, List.take_length] at ps
    exact q L acc H' nL e hL ps
theorem w_disp1 {k : Int} {i : Nat} {v : V} {σ : L2.St} {H : Hp} {Q : VK} (hv : σ[i]? = some (some v)) (q : ∀ p H', H p = none → Same H H' → H' p = some (.dK [(Sum.inl k, v)]) → Q (.ref p) H') : tDisp [(tC (.int k), tVar i)] σ H Q := fun p np =>
  ⟨v, hv, upd_same, [(Sum.inl k, v)], rfl, by show (1 : Nat) ≤ 15; decide, q p _ np (by rw [upd_twice]; exact same_new np) upd_same⟩
section
variable {X : Cx} {k : Nat} {f C : Addr} {fd : FuncData} {ps : List Str} {sp : Sp} {E : XK}
/-- x == y, y of one's own class, x that or of a built-in kind -/
def rEqA (K : PySem.W.Frag) (C : Addr) (sp : Sp) (E : XK) : R2 := fun x y H Q => rEqR C sp E x y H Q ∨ rEqO K C sp E x y H Q
theorem op_eqA {CX : CXT} (F : FnOk X.prog X.w X.K X.mg X.base CX k f fd ps sp) (hr : Room k X.A) (hb : Binds X.K fd ps []) (hx : Passes CX X E) (m : OpM X.K C "__eq__" f) (far : Far X.K C) :
    OpR X (compareOp .Eq) (rEqA X.K C sp E) := by
  intro pins s σ H x y v u Q I rx ry h
  rcases h with h | h
  · exact op_eqR F hr hb hx m far pins s σ H x y v u Q I rx ry h
  · exact op_eqO F hr hb hx m pins s σ H x y v u Q I rx ry h
end
end G
namespace G
open PySem PySem.Spec PyProof.Rows L2
theorem Pl.fr {H H' : Hp} {a : Addr} {x : V} {T : String} (h : Pl H x T) (n : x ≠ .ref a) (f : Fr a H H') : Pl H' x T := by
  cases h with
  | non => exact .non
  | bl x => exact .bl x
  | int i => exact .int i
  | str x => exact .str x
  | lst h => exact .lst (f _ _ (fun z => n (by rw [z])) h)
  | tup h => exact .tup (f _ _ (fun z => n (by rw [z])) h)
  | dK h => exact .dK (f _ _ (fun z => n (by rw [z])) h)
/-- the ratio at r, or something of a built-in kind that is no int; not the source -/
def OD (H : Hp) (r a : Addr) (z : V) : Prop := z = .ref r ∨ ∃ T, Pl H z T ∧ T ≠ "int" ∧ z ≠ .ref a
theorem OD.same {H H' : Hp} {r a : Addr} {z : V} (h : OD H r a z) (e : Same H H') : OD H' r a z := h.imp id fun ⟨T, p, n, m⟩ => ⟨T, p.same e, n, m⟩
theorem OD.fr {H H' : Hp} {r a : Addr} {z : V} (h : OD H r a z) (f : Fr a H H') : OD H' r a z := h.imp id fun ⟨T, p, n, m⟩ => ⟨T, p.fr m f, n, m⟩
end G

/-! Exceptions as values: made by position and by name, read. -/
namespace PySem
namespace HandSPX
open PySem.W PySem.Calls PyProof.Rows
section
variable {M : Model} {A : Around} {E : Value → Shared → Prop} {h : Heap} {g : Array GenState} {d : Drawn} {t : Nat} {os : OsState}
variable {nm q : Str} {C N : Addr} {bs bm bmB : List Value} {hdct : Bool} {sn : List Str} {sub : List Value} {ab : Bool} {col : Option Bool} {dd : Option Addr} {k0 k1 k2 k3 k5 : Option Value} {B newId initId : String}
theorem check_new_kw (F : ExcBaseFacts B newId initId bmB) (hT : ∀ X : String, bm.contains (.type X) = bmB.contains (.type X)) {kw : List (Str × Value)} {Q : Unit → Shared → Prop}
    (hC : h.get? C = some (excClassObj nm q C N bs bm hdct sn sub ab col dd k0 k1 k2 k3 k5 newId)) (hq : Q () ⟨h, g, d, t, os⟩) : wpAny M A (checkBuiltinCall newId ⟨[.ref C], kw⟩) Q E ⟨h, g, d, t, os⟩ := by
  have hcont : (Value.ref C :: bm).contains (.type B) = true := by rw [List.contains_cons, hT, F.hasB, Bool.or_true]
  have hstar := F.noStar
  simp only [checkBuiltinCall, F.newKind, F.newSplit, F.newRow]
  repeat (first | refine wpAny_loadPart_at hC ?_ | (refine wpAny_isSubtype_exc hC ?_; rw [hcont]) | refine wpAny_staticBase_exc hC ?_ | refine wpAny_madeBy_exc hC ?_ | simp only [bne_self_eq_false, Bool.false_eq_true, if_false] | wp_step)
  exact hq
end
section
variable {prog : Program} {w : World} {A : Around} {E : Value → Shared → Prop} {R : Result → Shared → Prop} {h : Heap} {g : Array GenState} {d : Drawn} {t : Nat} {os : OsState}
variable {nm q : Str} {C N : Addr} {bs bm bmB : List Value} {hdct : Bool} {sn : List Str} {sub : List Value} {ab : Bool} {col : Option Bool} {dd : Option Addr} {k0 k1 k2 k3 k5 : Option Value} {B newId initId : String}
theorem new_kw (F : ExcBaseFacts B newId initId bmB) (hT : ∀ X : String, bm.contains (.type X) = bmB.contains (.type X)) {kw : List (Str × Value)}
    (hC : h.get? C = some (excClassObj nm q C N bs bm hdct sn sub ab col dd k0 k1 k2 k3 k5 newId))
    (hq : R (.ok (.ret (.ref (h.objs.size + 1)))) ⟨(h.push { cls := .type "tuple", data := .seq ([] : List Value).toArray }).push
      { cls := .ref C, data := .fields #[.ref h.objs.size, .none, .none, .none, .bool false, .none] }, g, d, t, os⟩) :
    codeAny (model prog w) A (.builtin newId ⟨[.ref C], kw⟩) R ⟨h, g, d, t, os⟩ := by
  have hends := F.ends
  have hcB : (Value.ref C :: bm).contains (.type B) = true := by rw [List.contains_cons, hT, F.hasB, Bool.or_true]
  have hcA : (Value.ref C :: bm).contains (.type "AttributeError") = false := by rw [List.contains_cons, hT, F.noAttr]; rfl
  have hcN : (Value.ref C :: bm).contains (.type "NameError") = false := by rw [List.contains_cons, hT, F.noName]; rfl
  have hrest : ([] : List Value).length ≤ sizeLine := by rw [sizeLine_eq]; decide
  refine codeAny_builtinAt F.entry ?_
  unfold Builtin.«BaseException.__new__»
  refine wpAt_bind ?_
  show wpAt _ _ _ (stack >>= _) _ _ _
  refine wpAt_bind (wpAt_stack fun p below => wpAt_of_wpAny ?_)
  wp_walk
  refine wpAt_of_wpAny ?_
  rw [F.owner]
  repeat (first | with_reducible refine wpAny_madeHere_exc F.canon hC ?_ | with_reducible refine wpAny_loadPart_at hC ?_ | (with_reducible refine wpAny_isSubtype_exc hC ?_; first | rw [hcB] | rw [hcA] | rw [hcN]) | wp_step)
  show R _ _
  rw [Heap.size_push]
  exact hq
theorem type_call_kw (F : ExcBaseFacts B newId initId bmB) (hT : ∀ X : String, bm.contains (.type X) = bmB.contains (.type X)) {kw : List (Str × Value)} {fI : Addr} {Q : Fin → Shared → Prop}
    (hC : h.get? C = some (excClassObj nm q C N bs bm hdct sn sub ab col dd k0 k1 k2 k3 k5 newId))
    (hi : W.Looks (model prog w) h (typeLookup (.ref C) "__init__") (some (.ref fI))) (hb : ∀ self, W.Looks (model prog w) h (bindSpecial (.ref fI) self) (.ref fI, [self]))
    (hq : codeAny (model prog w) A (.call (.ref fI) ⟨[.ref (h.objs.size + 1)], kw⟩)
      (fun r s' => match r with | .ok (.ret v) => v = .none ∧ Q (.done (.ret (.ref (h.objs.size + 1)))) s' | .ok _ => False | .error e => E e s')
      ⟨(h.push (W.kdv_tup [])).push (excO C h.objs.size), g, d, t, os⟩) :
    wpAny (model prog w) A (Builtin.«type.__call__» ⟨[.ref C], kw⟩) Q E ⟨h, g, d, t, os⟩ := by
  repeat (first | with_reducible refine wpAny_loadPart_at hC ?_ | with_reducible refine wpAny_madeBy_exc hC ?_ | wp_step)
  refine codeAny_call_builtin_code (Code.quiet_builtin _ F.quiet) (check_new_kw F hT hC ?_)
  refine new_kw F hT hC ?_
  show wpAny _ _ _ _ _ _
  have k : ∀ b o, h.get? b = some o → ((h.push (W.kdv_tup [])).push (excO C h.objs.size)).get? b = some o := fun b o e => Heap.get?_push_of_some _ (Heap.get?_push_of_some _ e)
  have hC₁ := k _ _ hC
  have hget : ((h.push (W.kdv_tup [])).push (excO C h.objs.size)).get? (h.objs.size + 1) = some (excO C h.objs.size) := by heap_get
  have hcC : (Value.ref C :: bm).contains (.ref C) = true := by simp
  have i1 := hi.keeps k
  have b1 := (hb (.ref (h.objs.size + 1))).keeps k
  unfold isInstance
  repeat (first | with_reducible refine wpAny_loadPart_at hget ?_ | (with_reducible refine wpAny_isSubtype_exc hC₁ ?_; rw [hcC]) | wp_step)
  show wpAny _ _ (typeLookup (.ref C) _) _ _ _
  refine i1.at ?_
  refine wpAny_holding (wpAny_bind (b1.at ?_))
  refine wpAny_bind (wpAny_call (codeAny_mono hq fun r s' z => ?_))
  rcases r with e | (v | _ | _ | _) <;> first | exact z | exact z.elim | skip
  obtain ⟨rfl, z⟩ := z
  first
    | exact wpAny_pure (wpAny_pure z)
    | (wp_walk; exact z)
theorem call_kw (F : ExcBaseFacts B newId initId bmB) (hT : ∀ X : String, bm.contains (.type X) = bmB.contains (.type X)) {kw : List (Str × Value)} {fI : Addr}
    (hC : h.get? C = some (excClassObj nm q C N bs bm hdct sn sub ab col dd k0 k1 k2 k3 k5 newId))
    (hi : W.Looks (model prog w) h (typeLookup (.ref C) "__init__") (some (.ref fI))) (hb : ∀ self, W.Looks (model prog w) h (bindSpecial (.ref fI) self) (.ref fI, [self]))
    (hq : codeAny (model prog w) (A.under (.builtin "type.__call__" ⟨[.ref C], kw⟩)) (.call (.ref fI) ⟨[.ref (h.objs.size + 1)], kw⟩) (W.InitBack (h.objs.size + 1) R)
      ⟨(h.push (W.kdv_tup [])).push (excO C h.objs.size), g, d, t, os⟩) :
    codeAny (model prog w) A (.call (.ref C) ⟨[], kw⟩) R ⟨h, g, d, t, os⟩ := by
  have f1 := tc_lookup
  have f2 := tc_bind (.ref C)
  have hTy : (⟨h, g, d, t, os⟩ : Shared).TypeIs (.ref C) "type" := ⟨_, hC, rfl⟩
  refine codeAny_of_tree ?_
  show wpAny _ _ (callAny (.ref C) _) _ _ _
  repeat (any_goals (first | assumption | with_reducible refine wpAny_loadPart_at hC ?_ | wp_step))
  refine ⟨rfl, ?_⟩
  refine codeAny_call_builtin_at (Code.quiet_builtin _ (by decide +kernel)) entry_typeCall (wpAny_check_type_call_sub hC (type_call_kw F hT hC hi hb ?_))
  refine codeAny_mono hq fun r s' z => ?_
  rcases r with e | (v | _ | _ | _) <;> exact z
end
end HandSPX
end PySem
namespace PySem.W
open PySem PySem.Spec PySem.Calls PyProof.Rows
section
variable {prog : Program} {w : World} {A : Around} {E : Value → Shared → Prop} {s : Shared} {K : Frag} {x D : Addr} {ox od : Obj}
theorem findObj_dataO {C : Addr} {name : Str} {a g : Value} (hc : (clsIn K C).isSome = true) (ha : findIn K (.ref C) name = some (some a)) (hg : specialIn K a "__get__" = some (some g)) (ht : takesIn K a = some true) : findObj K C (some od) name = some (.bind g a) := by
  obtain ⟨cd, hc⟩ := Option.isSome_iff_exists.mp hc
  unfold findObj
  rw [hc, Option.bind_some, ha, Option.bind_some]
  simp [hg, ht]
theorem kin_classO {Q : Option Value → Shared → Prop} (hga : findIn K (.ref D) "__getattribute__" = some (some (.builtin "BaseException.__getattribute__"))) (hgt : findIn K (.ref D) "__getattr__" = some none) (hsub : subIn K (.ref D) (.type "BaseException") = some true)
    (hdct : hasDictIn K D = true) (ha : findIn K (.ref D) "__class__" = some (some (.builtin "object.__class__")))
    (hn : specialIn K (.builtin "object.__class__") "__get__" = some (some (.builtin "getset_descriptor.__get__"))) (htk : takesIn K (.builtin "object.__class__") = some true) (hm : mroIn K D (.type "object") = some true)
    (X : K.In s.heap) (I : InstAt s.heap x ox D (some od)) (h : Q (some (.ref D)) { s with toks := s.toks + 1 }) : wpAny (model prog w) A (getAttr? (.ref x) "__class__") Q E s := by
  have hf : findObj K D (some od) "__class__" = some (.bind (.builtin "getset_descriptor.__get__") (.builtin "object.__class__")) := findObj_dataO (by obtain ⟨cd, hc, _⟩ := any_some hdct; rw [hc]; rfl) ha hn htk
  obtain ⟨hp, g, d, t, os⟩ := s
  have L0 := I.type (M := model prog w)
  have L1 := looks_findIn (M := model prog w) X hga
  have L2 := looks_findIn (M := model prog w) X hgt
  have L3 := looks_find (M := model prog w) X I hf
  have sub : Looks (model prog w) hp (isInstance (.ref x) (.type "BaseException")) true := L0.andThen (looks_subIn X hsub)
  have hx0 : (false && onTheHeap (Value.builtin "BaseException.__getattribute__")) = false := rfl
  have hx2 : (Value.builtin "BaseException.__getattribute__" == Value.builtin "object.__getattribute__") = false := by decide +kernel
  have hx1 : (onTheHeap (Value.ref D) && Value.builtin "BaseException.__getattribute__" == Value.builtin "object.__getattribute__") = false := by rw [hx2]; rfl
  unfold getAttr? getAttrBy? getAttrBy
  refine wpAny_bind (wpAny_mkText (wpAny_bind (wpAny_attempt (wpAny_holding (wpAny_bind (L0.at (wpAny_bind (L1.at ?_))))))))
  show wpAny _ _ (if (onTheHeap (Value.ref D) && Value.builtin "BaseException.__getattribute__" == Value.builtin "object.__getattribute__") = true then _ else _) _ _ _
  rw [hx1, if_neg Bool.false_ne_true]
  unfold getAttrByItsOwn hookBefore
  refine wpAny_bind ?_
  rw [if_pos (show onTheHeap (Value.ref D) = true from rfl)]
  refine L2.at ?_
  refine wpAny_bind (wpAny_attempt (wpAny_holding ?_))
  unfold callGetattribute
  rw [hx0, if_neg Bool.false_ne_true]
  unfold boundAndCalled
  rw [PySem.F.excAttr_ValueError.ga.bind (.ref x)]
  refine wpAny_bind (wpAny_pure ?_)
  show wpAny _ _ (call (.builtin "BaseException.__getattribute__") [.ref x, .str "__class__" t]) _ _ _
  refine wpAny_call (codeAny_call_builtin PySem.F.excAttr_ValueError.ga.plain PySem.F.entry_bexc_ga ?_)
  refine @check_slot (model prog w) _ _ ⟨hp, g, d, t + 1, os⟩ "BaseException.__getattribute__" "BaseException" "__getattribute__" (.ref x) [.str "__class__" t] [] _ (by decide +kernel) (by decide +kernel) sub (PySem.F.args_bexc_ga (.ref x) (.str "__class__" t)) ?_
  unfold Builtin.«object.__getattribute__»
  refine wpAny_bind (wpAny_of_eq (a := ((Value.ref x : Value), [Value.str "__class__" t])) (by first | rfl | (simp only [slotArgs]; rfl)) ?_)
  refine wpAny_bind (wpAny_pure (wpAny_bind (L0.at (wpAny_bind (L3.at ?_)))))
  show wpAny _ _ (holding [Value.builtin "object.__class__"] (call (.builtin "getset_descriptor.__get__") [.builtin "object.__class__", .ref x, .ref D]) >>= ret) _ _ _
  refine wpAny_bind (wpAny_holding (wpAny_call (class_get (s := ⟨hp, g, d, t + 1, os⟩) (ox := ox) (od := some od) X I hm ?_)))
  refine wpAny_pure ?_
  show wpAny _ _ (handedOut (.ref D)) _ _ _
  rw [handedOut_of (v := .ref D) rfl]
  first
    | exact wpAny_pure (wpAny_pure h)
    | exact wpAny_pure h
    | exact wpAny_pure (wpAny_bind (wpAny_pure (wpAny_pure h)))
theorem kitx_excO (hga : findIn K (.ref D) "__getattribute__" = some (some (.builtin "BaseException.__getattribute__"))) (hgt : findIn K (.ref D) "__getattr__" = some none) (hsub : subIn K (.ref D) (.type "BaseException") = some true) (hdct : hasDictIn K D = true) (ha : findIn K (.ref D) "__class__" = some (some (.builtin "object.__class__")))
    (hn : specialIn K (.builtin "object.__class__") "__get__" = some (some (.builtin "getset_descriptor.__get__"))) (htk : takesIn K (.builtin "object.__class__") = some true) (hm : mroIn K D (.type "object") = some true) :
    KitX K (.ref x) (.ref D) (fun h => InstAt h x ox D (some od)) where
  ty := fun _ _ _ I => I.type
  it := fun _ _ X _ => by
    obtain ⟨cdD, hcD, _⟩ := any_some hdct
    unfold clsIn at hcD
    split at hcD
    · rename_i c' d' cd' sl' ho
      intro A' Q' E' s' k q
      unfold isType loadHead
      exact wpAny_bind (wpAny_loadPart (k _ _ (X _ _ ho)) (wpAny_pure q))
    · cases hcD
  ne := fun h tp dd its n sl X htp => by
    obtain ⟨cdD, hcD, _⟩ := any_some hdct
    refine Bool.eq_false_iff.mpr fun q => ?_
    have e : D = tp := Value.ref.inj (beq_iff_eq.mp q)
    subst e
    unfold clsIn at hcD
    split at hcD
    · rename_i c' d' cd' sl' ho
      have z := (X _ _ ho).symm.trans htp
      cases z
    · cases hcD
  ca := fun X I k => kin_classO hga hgt hsub hdct ha hn htk hm X I k
end
end PySem.W

namespace G
open PySem PySem.Spec PyProof.Rows L2
section
variable {X : Cx} {CX : CXT} {x : Str} {C fI : Addr} {k : Nat} {fd : FuncData} {ps ks : List Str} {sp : Sp} {ds : List Value} {dvs : List V} {e : Expr} {es : List Expr} {ta : TA} {p pos : Pos} {kws : List Keyword} {tk : TA} {g : List Value → List Value → List Value} {gV : List V → List V → List V}
def New1 (C : Addr) (Q : VK) (H1 : Hp) : Prop := ∀ a, H1 a = none → Q (.ref a) (upd H1 a (exo a C none))
def NewS (C : Addr) (sp : Sp) (g : V → List V) (Q : VK) (H1 : Hp) : Prop := ∀ a, H1 a = none → sp (g (.ref a)) (upd H1 a (exo a C none)) (fun v H2 => v = .non ∧ Q (.ref a) H2) E0
/-- X(e), an own exception class without own __init__, as a value -/
def tExo1 (C : Addr) (ta : TE) : TE := fun σ H Q => ta σ H fun _ H1 => New1 C Q H1
theorem pe_exo1 {te : TE} {bmB : List Value} {B newId initId : String} (F : ExcBaseFacts B newId initId bmB) (q : PySem.W.excIn X.K C bmB newId = true) (gC : X.mg x = some (.ref C)) (kC : PySem.W.keepIn X.K (.ref C) = true) (hg : Gl X x)
    (he : PE X e te) (hs : starEach [e] X.env = (false, eval e X.env) :: starEach [] X.env := by rfl) (hdb : (x == ("__debug__" : Str)) = false := by decide) : PE X (.Call (.Name x p) [e] [] pos) (tExo1 C te) := by
  refine ⟨fun pins s σ H Q I h => ?_⟩
  refine wpAny_Call_Name_kw (ld_glob I hg gC ?_ hdb)
  refine PySem.W.callWith_K (h₀ := X.base) I.ok.mod.kin kC ?_ hs (by rfl)
  rw [hs]
  show wpAny _ _ (spliced ((false, eval e X.env) :: backTo pos (starEach [] X.env))) _ _ s
  refine Calls.spliced_cons (thn (he.run pins s σ H _ I h) fun u s1 ⟨v, H1, I1, r1, q1⟩ => ?_)
  refine Calls.spliced_nil ⟨I1.kIn, ?_⟩
  show wpAny _ _ (call (.ref C) [u]) _ _ _
  obtain ⟨bm, N, nm, qn, bs, hdct, sn, sub, ab, col, dd, k0, k1, k2, k3, k5, mN, hC, hN, hni, T⟩ := exc_obj I1.kIn q
  refine wpAny_call_exc_subT F T hC hN hni (fun h' a hm => ?_) (by show 1 ≤ sizeLine; rw [sizeLine_eq]; omega)
  have hn : H1 a = none := I1.hok.gone hm.new
  obtain ⟨t, ht, _, _⟩ := hm.there
  exact ⟨.ref a, upd H1 a (exo a C none), I1.laidN hm.keeps hm.new hn (exo_ok ht), rfl, q1 a hn⟩
/-- X(e, ..), X with an __init__ of its own, as a value -/
theorem run_exo {pins : List (Addr × Obj)} {σ : L2.St} {H1 : Hp} {s1 : Shared} {Q : VK} {us : List Value} {vs : List V} (T : OexC X.K C) (iC : PySem.W.findIn X.K (.ref C) "__init__" = some (some (.ref fI))) (tI : PySem.W.typeIn X.K (.ref fI) = some (.type "function"))
    (F1 : FnOk X.prog X.w X.K X.mg X.base CX k fI fd ps sp) (hr : Room (k + 1) X.A) (hb : Binds X.K fd ps ds) (hd : Vals dvs ds) (hx : Passes CX X E0) (I1 : Inv X pins σ H1 s1) (r1 : Vals vs us) (hz : vs.length ≤ 1000)
    (q1 : ∀ a, H1 a = none → sp (.ref a :: (vs ++ dvs)) (upd H1 a (exo a C none)) (fun v H2 => v = .non ∧ Q (.ref a) H2) E0) : wpAny (model X.prog X.w) X.A (call (.ref C) us) (EP X pins σ Q) X.xe s1 := by
  obtain ⟨nm, q, N, bs, bm, sn, sub, ab, col, dd, k0, k1, k2, k3, k5, hC, hbm⟩ := T.cls
  obtain ⟨hp, gg, dr, tk, os⟩ := s1
  have hsz : hp.objs.size ≤ hp.objs.size + 1 := Nat.le_succ _
  have hn : H1 (hp.objs.size + 1) = none := I1.hok.fresh hsz
  have hq := q1 (hp.objs.size + 1) hn
  have kk : ∀ b o, hp.get? b = some o → ((hp.push (PySem.W.kdv_tup us)).push (PySem.HandSPX.excO C hp.objs.size)).get? b = some o := fun b o e => Heap.get?_push_of_some _ (Heap.get?_push_of_some _ e)
  have hget : ((hp.push (PySem.W.kdv_tup us)).push (PySem.HandSPX.excO C hp.objs.size)).get? (hp.objs.size + 1) = some (PySem.HandSPX.excO C hp.objs.size) := by heap_get
  have I2 : Inv X pins σ (upd H1 (hp.objs.size + 1) (exo (hp.objs.size + 1) C none)) ⟨(hp.push (PySem.W.kdv_tup us)).push (PySem.HandSPX.excO C hp.objs.size), gg, dr, tk, os⟩ :=
    I1.laid (t' := tk) (a := hp.objs.size + 1) (o := exo (hp.objs.size + 1) C none) (h' := (hp.push (PySem.W.kdv_tup us)).push (PySem.HandSPX.excO C hp.objs.size)) kk hsz (exo_ok hget)
  have r2 : Vals (V.ref (hp.objs.size + 1) :: (vs ++ dvs)) (Value.ref (hp.objs.size + 1) :: (us ++ ds)) := .cons rfl (r1.append hd)
  have hl : (Value.ref (hp.objs.size + 1) :: us ++ ds).length = ps.length := by
    have e := r2.length
    rw [F1.len _ _ _ _ hq] at e
    exact e.symm
  have hus : us.length ≤ sizeLine := by
    rw [← Paired.length r1, sizeLine_eq]
    omega
  refine wpAny_call (PySem.HandSPX.call_own F.excBase_ValueError (fun Y => PySem.HandSPX.refsVE_contains Y bm hbm) (I1.kIn _ _ hC) (PySem.W.looks_findIn I1.kIn iC) (fun self => PySem.W.bind_fn I1.kIn self tI) hus
    (codeAny_mono (F1.run _ X.stack _ _ ⟨Value.ref (hp.objs.size + 1) :: us, []⟩ (Value.ref (hp.objs.size + 1) :: (us ++ ds)) _ _ E0 (hr.make C us []) (I2.env0.make C us []) (hb _ (Value.ref (hp.objs.size + 1) :: us) I2.kIn hl) r2 hq) fun r s' hq' => ?_))
  cases r with
  | error er => exact hx pins σ _ _ er s' I2 hq'
  | ok fl =>
    cases fl with
    | ret u =>
      obtain ⟨v, H2, I3, rv, ev, q2⟩ := I2.after hq'
      subst ev
      exact ⟨rv, ⟨V.ref (hp.objs.size + 1), H2, I3, rfl, q2⟩⟩
    | next => exact False.elim hq'
    | brk => exact False.elim hq'
    | cont => exact False.elim hq'
def tExoI (C : Addr) (sp : Sp) (dvs : List V) (ta : TA) : TE := fun σ H Q => ta σ H fun vs H1 => vs.length ≤ 1000 ∧ NewS C sp (fun a => a :: (vs ++ dvs)) Q H1
theorem pe_exoI (T : OexC X.K C) (iC : PySem.W.findIn X.K (.ref C) "__init__" = some (some (.ref fI))) (tI : PySem.W.typeIn X.K (.ref fI) = some (.type "function"))
    (F1 : FnOk X.prog X.w X.K X.mg X.base CX k fI fd ps sp) (hr : Room (k + 1) X.A) (hb : Binds X.K fd ps ds) (hd : Vals dvs ds) (hx : Passes CX X E0) (hg : Gl X x) (hm : X.mg x = some (.ref C)) (ha : PA X (e :: es) ta)
    (hdb : (x == ("__debug__" : Str)) = false := by decide) (he : starEach (e :: es) X.env = (false, eval e X.env) :: starEach es X.env := by rfl) (hpl : (backTo pos (starEach es X.env)).any (·.1) = false := by rfl) :
    PE X (.Call (.Name x p) (e :: es) [] pos) (tExoI C sp dvs ta) := by
  refine ⟨fun pins s σ H Q I h => ?_⟩
  refine wpAny_Call_Name_kw (ld_glob I hg hm ?_ hdb)
  refine PySem.W.callWith_K (h₀ := X.base) I.ok.mod.kin T.kC (thn (ha.run pos pins s σ H _ I h) fun us s1 ⟨vs, H1, I1, r1, hz, q1⟩ => ⟨I1.kIn, ?_⟩) he hpl
  exact run_exo T iC tI F1 hr hb hd hx I1 r1 hz q1
/-- X(k = v, ..) -/
def tExoK (C : Addr) (n : Nat) (sp : Sp) (gV : List V → List V → List V) (tk : TA) : TE := fun σ H Q => tk σ H fun zs H1 => zs.length = n ∧ NewS C sp (fun a => gV [a] zs) Q H1
theorem pe_exoK (T : OexC X.K C) (iC : PySem.W.findIn X.K (.ref C) "__init__" = some (some (.ref fI))) (tI : PySem.W.typeIn X.K (.ref fI) = some (.type "function"))
    (F1 : FnOk X.prog X.w X.K X.mg X.base CX k fI fd ps sp) (hr : Room (k + 1) X.A) (hb : KBn X.K fd ps 1 ks g gV) (hx : Passes CX X E0) (hg : Gl X x) (hm : X.mg x = some (.ref C)) (hkw : PK X kws tk)
    (hall : (backToKw pos (keywordEach kws X.env)).all (·.1.isSome) = true := by rfl) (hks : (backToKw pos (keywordEach kws X.env)).filterMap (·.1) = ks := by rfl) (hdb : (x == ("__debug__" : Str)) = false := by decide)
    (hpl : ((backTo pos (starEach [] X.env)).any (·.1) || (backToKw pos (keywordEach kws X.env)).any (·.1.isNone)) = false := by rfl) :
    PE X (.Call (.Name x p) [] kws pos) (tExoK C ks.length sp gV tk) := by
  refine ⟨fun pins s σ H Q I h => wpAny_Call_Name_kw (ld_glob I hg hm ?_ hdb)⟩
  refine PySem.W.callWith_KW0 (h₀ := X.base) I.ok.mod.kin T.kC hall ?_ hpl
  refine thn (hkw.run pos pins s σ H _ I h) fun ws s1 ⟨zs, H1, I1, rz, l2, q1⟩ => ⟨I1.kIn, ?_⟩
  rw [hks]
  show wpAny _ _ (call (.ref C) [] (ks.zip ws)) _ _ _
  obtain ⟨nm, q, N, bs, bm, sn, sub, ab, col, dd, k0, k1, k2, k3, k5, hC, hbm⟩ := T.cls
  obtain ⟨hp, gg, dr, tk, os⟩ := s1
  have hsz : hp.objs.size ≤ hp.objs.size + 1 := Nat.le_succ _
  have hn : H1 (hp.objs.size + 1) = none := I1.hok.fresh hsz
  have hq := q1 (hp.objs.size + 1) hn
  have kk : ∀ b o, hp.get? b = some o → ((hp.push (PySem.W.kdv_tup [])).push (PySem.HandSPX.excO C hp.objs.size)).get? b = some o := fun b o e => Heap.get?_push_of_some _ (Heap.get?_push_of_some _ e)
  have hget : ((hp.push (PySem.W.kdv_tup [])).push (PySem.HandSPX.excO C hp.objs.size)).get? (hp.objs.size + 1) = some (PySem.HandSPX.excO C hp.objs.size) := by heap_get
  have I2 : Inv X pins σ (upd H1 (hp.objs.size + 1) (exo (hp.objs.size + 1) C none)) ⟨(hp.push (PySem.W.kdv_tup [])).push (PySem.HandSPX.excO C hp.objs.size), gg, dr, tk, os⟩ :=
    I1.laid (t' := tk) (a := hp.objs.size + 1) (o := exo (hp.objs.size + 1) C none) (h' := (hp.push (PySem.W.kdv_tup [])).push (PySem.HandSPX.excO C hp.objs.size)) kk hsz (exo_ok hget)
  have r1 : Vals [V.ref (hp.objs.size + 1)] [Value.ref (hp.objs.size + 1)] := .cons rfl .nil
  have r2 := hb.rel r1 rz
  have e2 : ws.length = ks.length := rz.length.symm.trans l2
  refine wpAny_call (PySem.HandSPX.call_kw F.excBase_ValueError (fun Y => PySem.HandSPX.refsVE_contains Y bm hbm) (I1.kIn _ _ hC) (PySem.W.looks_findIn I1.kIn iC) (fun self => PySem.W.bind_fn I1.kIn self tI)
    (codeAny_mono (F1.run _ X.stack _ _ ⟨[Value.ref (hp.objs.size + 1)], ks.zip ws⟩ (g [Value.ref (hp.objs.size + 1)] ws) _ _ E0 (hr.make C [] (ks.zip ws)) (I2.env0.make C [] (ks.zip ws)) (hb.to _ [Value.ref (hp.objs.size + 1)] ws I2.kIn rfl e2) r2 hq) fun r s' hq' => ?_))
  cases r with
  | error er => exact hx pins σ _ _ er s' I2 hq'
  | ok fl =>
    cases fl with
    | ret u =>
      obtain ⟨v, H2, I3, rv, ev, q2⟩ := I2.after hq'
      subst ev
      exact ⟨rv, ⟨V.ref (hp.objs.size + 1), H2, I3, rfl, q2⟩⟩
    | next => exact False.elim hq'
    | brk => exact False.elim hq'
    | cont => exact False.elim hq'
/-- an exception of the class at D stands at a -/
def ExV (H : Hp) (a D : Addr) : Prop := H a = some (exo a D none) ∨ ∃ dx fs, H a = some (exo a D (some dx)) ∧ H dx = some (exd dx fs)
theorem ExV.same {H H' : Hp} {a D : Addr} (h : ExV H a D) (e : Same H H') : ExV H' a D := h.imp (e _ _) fun ⟨dx, fs, h1, h2⟩ => ⟨dx, fs, e _ _ h1, e _ _ h2⟩
/-- isinstance(e, c), e an exception as a value -/
def rIsV (K : PySem.W.Frag) : List V → Hp → VK → Prop := fun xs H Q => ∃ (a D : Addr) (c : V) (cv : Value) (b : Bool), xs = [.ref a, c] ∧ ExV H a D ∧ ExcC K D ∧ (∀ u, RelV c u → u = cv) ∧ PySem.W.kitOne K (.ref D) cv = some b ∧ Q (.bl b) H
theorem call_isV : CallR X (.builtin "isinstance") (rIsV X.K) := by
  intro pins s σ H xs us Q I r h
  obtain ⟨a, D, c, cv, b, rfl, hx, C, hcv, e, q⟩ := h
  obtain ⟨u1, u2, rfl, r1, r2⟩ := vals2 r
  cases (show u1 = Value.ref a from r1)
  have ec := hcv _ r2
  subst ec
  rcases hx with h | ⟨dx, fs, h1, h2⟩
  · obtain ⟨t1, ho⟩ := exo_at I.hok h
    exact PySem.W.kia_one (PySem.W.handS_kitx_exc C.hg C.hk C.hs C.hd C.ha C.hn C.ht C.hm) I.kIn (⟨ho, rfl, rfl, trivial⟩ : PySem.W.InstAt s.heap a _ D none) e (fun z => nomatch z) fun tk => ⟨.bl b, H, I.kept (t' := tk) fun _ _ z => z, rfl, q⟩
  · obtain ⟨t1, ho⟩ := exo_at I.hok h1
    obtain ⟨mA, hns, _⟩ := exd_at I.hok h2
    obtain ⟨od, hod, _⟩ := lookIn_ns hns
    exact PySem.W.kia_one (PySem.W.kitx_excO C.hg C.hk C.hs C.hd C.ha C.hn C.ht C.hm) I.kIn (⟨ho, rfl, rfl, hod⟩ : PySem.W.InstAt s.heap a _ D (some od)) e (fun z => nomatch z) fun tk => ⟨.bl b, H, I.kept (t' := tk) fun _ _ z => z, rfl, q⟩
/-- e.f, e an exception as a value -/
def tFldE (K : PySem.W.Frag) (f : Str) (te : TE) : TE := fun σ H Q => te σ H fun x H1 => ∃ a D dx fs v, x = .ref a ∧ XfC K D ∧ PySem.W.findIn K (.ref D) f = some none ∧ H1 a = some (exo a D (some dx)) ∧ H1 dx = some (exd dx fs) ∧ fs.lookup f = some v ∧ Q v H1
theorem pe_fldE {te : TE} {n : Str} (he : PE X e te) (hb : attributeBase e n X.env (eval e X.env) = eval e X.env := by rfl) : PE X (.Attribute e n pos) (tFldE X.K n te) := by
  refine ⟨fun pins s σ H Q I h => ?_⟩
  refine attr_of hb (thn (he.run pins s σ H _ I h) fun u s1 hh => ?_)
  obtain ⟨x, H1, I1, rx, a, D, dx, fs, v, ex, T, hno, ea, ed, l, q⟩ := hh
  subst ex
  obtain rfl : u = Value.ref a := rx
  obtain ⟨t1, ho⟩ := exo_at I1.hok ea
  obtain ⟨mA, hns, hr⟩ := exd_at I1.hok ed
  obtain ⟨od, hod, hl⟩ := lookIn_ns hns
  obtain ⟨u, hu, ru⟩ := RelO.some_of (v := v) (o := mA n) (by rw [← l]; exact hr n)
  have J : PySem.W.InstAt s1.heap a _ D (some od) := ⟨ho, rfl, rfl, hod⟩
  exact HandSPX.exc_get I1.kIn J T.ga T.gg T.exC (PySem.W.findObj_own T.hdC hno rfl (by rw [hl, hu])) (handed_of ru) ⟨v, H1, I1.tok _, ru, q⟩
end
end G
namespace G
open PySem PySem.Spec PyProof.Rows L2
theorem join_size (xs : Array Nat) : ∀ (n : Nat) (acc : Array Nat), ((List.replicate n xs).foldl (· ++ ·) acc).size = acc.size + n * xs.size
  | 0, acc => by simp
  | n + 1, acc => by
    rw [List.replicate_succ, List.foldl_cons, join_size xs n, Array.size_append, Nat.succ_mul]
    omega
section
variable {X : Cx}
/-- a text, so many times -/
def rMulS : R2 := fun x y H Q => ∃ (z : Str) (n : Int), x = .str z ∧ y = .int n ∧ z.length ≤ 1000 ∧ 0 ≤ n ∧ n ≤ 1000 ∧ ∀ u : Str, Q (.str u) H
theorem op_mulS : OpR X (binaryOp .Mult) rMulS := by
  intro pins s σ H x y v u Q I rx ry h
  obtain ⟨z, n, rfl, rfl, hz, h0, h1, q⟩ := h
  obtain ⟨t, rfl⟩ := (show ∃ t, v = Value.str z t from rx)
  obtain ⟨t2, rfl⟩ := (show ∃ t, u = Value.int n t from ry)
  have hm : z.length * n.toNat ≤ 1000 * 1000 := Nat.mul_le_mul hz (by omega)
  have short : Builtin.Str.tooLong (z.length * n.toNat) = false := by
    unfold Builtin.Str.tooLong
    rw [decide_eq_false_iff_not, sizeLine_eq]
    omega
  refine P.mul_str ?_ ?_ ?_ ?_
  · rw [decide_eq_false (by omega), decide_eq_false (by omega)]
    rfl
  · intro hn _ hc
    have : (1000 : Int) ≤ (2 ^ 63 - 1) / n := Int.le_ediv_of_mul_le (by omega) (by omega)
    omega
  · intro _ _
    exact short
  · split
    · exact ⟨by decide, .str Str.empty, H, I.tok _, ⟨_, rfl⟩, q _⟩
    · split
      · exact ⟨.str z, H, I, ⟨_, rfl⟩, q _⟩
      · refine ⟨?_, .str _, H, I.tok _, ⟨_, rfl⟩, q _⟩
        rw [sizeLine_eq]
        have e : (List.foldl (· ++ ·) #[] (List.replicate n.toNat z.cps)).size = 0 + n.toNat * z.cps.size := join_size z.cps n.toNat #[]
        show (List.foldl (· ++ ·) #[] (List.replicate n.toNat z.cps)).size ≤ _
        rw [e, Nat.mul_comm]
        have : z.cps.size * n.toNat ≤ 1000 * 1000 := hm
        omega
/-- a[i] for an update -/
theorem pget_list : PGet X (rIxL X.K) := by
  intro pins s σ H o i ov iv Q I ro ri h
  obtain ⟨p, xs, i, z, rfl, rfl, hq, he, q⟩ := h
  cases ro
  obtain ⟨t, rfl⟩ := ri
  obtain ⟨its, r, pl, hz⟩ := I.list hq
  obtain ⟨j, h1, h2, h3, h4, h5⟩ := atI_get he
  obtain ⟨w, ew, rw'⟩ := r.get h2
  have hl := r.length
  have hn := line63
  have fin : EP X pins σ Q w s := ⟨z, H, I, rw', q⟩
  by_cases h0 : 0 ≤ i
  · have hj : i.toNat = j := by
      rw [seqIndex_of h0 h5] at h1
      exact Option.some.inj h1
    exact wpAny_getItem_list pl.isList h0 (by omega) (by rw [hj]; simpa using ew) fin
  · have hj : (i + (its.toArray.size : Int)).toNat = j := by
      rw [seqIndex_neg (by omega) h4] at h1
      rw [List.size_toArray, ← hl]
      exact Option.some.inj h1
    exact wpAny_getItem_list_neg pl.isList (by omega) (by rw [List.size_toArray] <;> omega) (by omega) (by rw [hj]; simpa using ew) fin
end
end G
namespace G
open PySem PySem.Spec PyProof.Rows L2
/-- isinstance of a class, for the classes cs -/
def RowK (K : PySem.W.Frag) (c : Value) : List Addr → Nat → (Nat → Bool) → Prop
  | [], _, _ => True
  | d :: ds, k, b => PySem.W.kitOne K c (.ref d) = some (b k) ∧ RowK K c ds (k + 1) b
end G
namespace G
open PySem PySem.Spec PyProof.Rows L2
section
variable {σ : L2.St} {H : Hp} {Q : VK} {D : Ends} {to ti te : TE} {ta : TA} {tget : V → V → Hp → VK → Prop} {tip : TIp} {tset : TSet} {C : Addr} {sp : Sp} {dvs : List V} {n : Nat} {gV : List V → List V → List V} {K : PySem.W.Frag} {f : Str}
theorem w_augS (q : to σ H fun o H1 => ti σ H1 fun i H2 => tget o i H2 fun x H3 => te σ H3 fun y H4 => tip x y H4 fun z H5 => tset o i z H5 fun H6 => D.nx σ H6) : tAugS to ti te tget tip tset D σ H := q
theorem w_ipI {g : Int → Int → Int} {i j : Int} (q : Q (.int (g i j)) H) : ipI g (.int i) (.int j) H Q := ⟨i, j, rfl, rfl, q⟩
theorem w_exo1 (q : te σ H fun _ H1 => New1 C Q H1) : tExo1 C te σ H Q := q
theorem w_exoI (q : ta σ H fun vs H1 => vs.length ≤ 1000 ∧ NewS C sp (fun a => a :: (vs ++ dvs)) Q H1) : tExoI C sp dvs ta σ H Q := q
theorem w_exoK (q : ta σ H fun zs H1 => zs.length = n ∧ NewS C sp (fun a => gV [a] zs) Q H1) : tExoK C n sp gV ta σ H Q := q
theorem w_fldE (q : te σ H fun x H1 => ∃ a D dx fs v, x = .ref a ∧ XfC K D ∧ PySem.W.findIn K (.ref D) f = some none ∧ H1 a = some (exo a D (some dx)) ∧ H1 dx = some (exd dx fs) ∧ fs.lookup f = some v ∧ Q v H1) : tFldE K f te σ H Q := q
theorem w_ost (q : te σ H fun y H1 => to σ H1 fun x H2 => ∃ a C : Addr, x = .ref a ∧ OexC K C ∧ PySem.W.findIn K (.ref C) f = some none ∧
  ((H2 a = some (exo a C none) ∧ ∀ dx, H2 dx = none → dx ≠ a → D.nx σ (upd (upd H2 dx (exd dx [(f, y)])) a (exo a C (some dx)))) ∨
    ∃ (dx : Addr) (fs : List (Str × V)), H2 a = some (exo a C (some dx)) ∧ H2 dx = some (exd dx fs) ∧ fs.length ≤ 900 ∧ D.nx σ (upd H2 dx (exd dx ((f, y) :: fs))))) : tOst K f to te D σ H := q
/-- a new plain one: the heap is a letter again -/
theorem new_exo (q : ∀ a H', H a = none → Same H H' → H' a = some (exo a C none) → Q (.ref a) H') : New1 C Q H := fun a n => q a _ n (same_new n) upd_same
/-- what an __init__ that keeps one field leaves -/
def spKeep (K : PySem.W.Frag) (C : Addr) (f : Str) : Sp := fun vs H Q _ => ∃ a v, vs = [.ref a, v] ∧ H a = some (exo a C none) ∧ ∀ dx, H dx = none → dx ≠ a → Q .non (upd (upd H dx (exd dx [(f, v)])) a (exo a C (some dx)))
theorem new_keep {v : V} {g : V → List V} (hg : ∀ a, g a = [a, v]) (q : ∀ a dx H', H a = none → Same H H' → H' a = some (exo a C (some dx)) → H' dx = some (exd dx [(f, v)]) → Q (.ref a) H') :
    NewS C (spKeep K C f) g Q H := fun a n => by
  rw [hg]
  refine ⟨a, v, rfl, upd_same, fun dx nd ne => ⟨rfl, ?_⟩⟩
  rw [upd_ne ne] at nd
  refine q a dx _ n (fun c o e => ?_) upd_same ?_
  · rw [upd_ne (ne_of_none e n), upd_ne (ne_of_none e nd), upd_ne (ne_of_none e n)]
    exact e
  · rw [upd_ne ne, upd_same]
end
end G

namespace K72
open PySem L2 G
def top (i : Nat) : Stmt := PySem.Challenge.pw_stirred_k72_errors_are_distinct.main.body.getD i (.Pass ⟨0, 0, 0, 0⟩)
abbrev s_TooMuchError_init : Stmt := (inClass (top 22) 0)
abbrev N_TooMuchError_init : List Str := ["self", "index"]
theorem sc_TooMuchError_init : FnScope N_TooMuchError_init ["self", "index"] (defScope s_TooMuchError_init) := ⟨rfl, rfl, rfl, by decide +kernel, rfl, by decide +kernel, by decide +kernel⟩
abbrev s_TooManyError_init : Stmt := (inClass (top 23) 0)
abbrev N_TooManyError_init : List Str := ["self", "limit"]
theorem sc_TooManyError_init : FnScope N_TooManyError_init ["self", "limit"] (defScope s_TooManyError_init) := ⟨rfl, rfl, rfl, by decide +kernel, rfl, by decide +kernel, by decide +kernel⟩
abbrev s_law_bag : Stmt := (top 25)
abbrev N_law_bag : List Str := ["cell", "k"]
theorem sc_law_bag : FnScope N_law_bag ["cell", "k"] (defScope s_law_bag) := ⟨rfl, rfl, rfl, by decide +kernel, rfl, by decide +kernel, by decide +kernel⟩
abbrev s_law_draw : Stmt := (top 26)
abbrev N_law_draw : List Str := ["bag", "many", "digit", "one"]
theorem sc_law_draw : FnScope N_law_draw ["bag", "many"] (defScope s_law_draw) := ⟨rfl, rfl, rfl, by decide +kernel, rfl, by decide +kernel, by decide +kernel⟩
abbrev s_law_marks : Stmt := (top 27)
abbrev N_law_marks : List Str := ["e", "marks"]
theorem sc_law_marks : FnScope N_law_marks ["e"] (defScope s_law_marks) := ⟨rfl, rfl, rfl, by decide +kernel, rfl, by decide +kernel, by decide +kernel⟩
abbrev s_law_right : Stmt := (top 28)
abbrev N_law_right : List Str := ["message", "number", "some", "k", "values", "j"]
theorem sc_law_right : FnScope N_law_right ["message", "number"] (defScope s_law_right) := ⟨rfl, rfl, rfl, by decide +kernel, rfl, by decide +kernel, by decide +kernel⟩
abbrev s_law : Stmt := (top 29)
abbrev N_law : List Str := ["script", "cells", "k", "bag", "message"]
theorem sc_law : FnScope N_law ["script"] (defScope s_law) := ⟨rfl, rfl, rfl, by decide +kernel, rfl, by decide +kernel, by decide +kernel⟩
structure Ad where
  a_TooMuchError_init : Addr
  d_TooMuchError_init : FuncData
  a_TooManyError_init : Addr
  d_TooManyError_init : FuncData
  a_law_bag : Addr
  d_law_bag : FuncData
  a_law_draw : Addr
  d_law_draw : FuncData
  a_law_marks : Addr
  d_law_marks : FuncData
  a_law_right : Addr
  d_law_right : FuncData
  a_law : Addr
  d_law : FuncData
  c_StirError : Addr
  c_EmptyHistoryError : Addr
  c_FullError : Addr
  c_InvalidContentsError : Addr
  c_InvalidFormatError : Addr
  c_InvalidGroupError : Addr
  c_InvalidMixtureError : Addr
  c_InvalidNumberError : Addr
  c_InvalidRatioError : Addr
  c_InvalidRowsError : Addr
  c_InvalidSubstanceError : Addr
  c_InvalidTransfersError : Addr
  c_InvalidVesselError : Addr
  c_InvalidVolumesError : Addr
  c_NotClosedError : Addr
  c_NotStartedError : Addr
  c_OverfullError : Addr
  c_SealedError : Addr
  c_StartedError : Addr
  c_TooManyError : Addr
  c_TooMuchError : Addr
  c_TooSmallError : Addr
  c_ZeroRatioError : Addr
structure Txt (K : PySem.W.Frag) (mg : Str → Option Value) (A : Ad) : Prop where
  mgc_StirError : mg "StirError" = some (.ref A.c_StirError)
  eb_StirError : PySem.W.subIn K (.ref A.c_StirError) (.type "BaseException") = some true
  et_StirError : PySem.W.typeIn K (.ref A.c_StirError) = some (.type "type")
  eh_StirError : PySem.W.hasDictIn K A.c_StirError = true
  ex_StirError : PySem.W.excIn K A.c_StirError [.type "ValueError", .type "Exception", .type "BaseException", .type "object"] "ValueError.__new__" = true
  ke_StirError : PySem.W.keepIn K (.ref A.c_StirError) = true
  exc_StirError : ExcC K A.c_StirError
  mgc_EmptyHistoryError : mg "EmptyHistoryError" = some (.ref A.c_EmptyHistoryError)
  eb_EmptyHistoryError : PySem.W.subIn K (.ref A.c_EmptyHistoryError) (.type "BaseException") = some true
  et_EmptyHistoryError : PySem.W.typeIn K (.ref A.c_EmptyHistoryError) = some (.type "type")
  eh_EmptyHistoryError : PySem.W.hasDictIn K A.c_EmptyHistoryError = true
  ex_EmptyHistoryError : PySem.W.excIn K A.c_EmptyHistoryError [.type "ValueError", .type "Exception", .type "BaseException", .type "object"] "ValueError.__new__" = true
  ke_EmptyHistoryError : PySem.W.keepIn K (.ref A.c_EmptyHistoryError) = true
  exc_EmptyHistoryError : ExcC K A.c_EmptyHistoryError
  mgc_FullError : mg "FullError" = some (.ref A.c_FullError)
  eb_FullError : PySem.W.subIn K (.ref A.c_FullError) (.type "BaseException") = some true
  et_FullError : PySem.W.typeIn K (.ref A.c_FullError) = some (.type "type")
  eh_FullError : PySem.W.hasDictIn K A.c_FullError = true
  ex_FullError : PySem.W.excIn K A.c_FullError [.type "ValueError", .type "Exception", .type "BaseException", .type "object"] "ValueError.__new__" = true
  ke_FullError : PySem.W.keepIn K (.ref A.c_FullError) = true
  exc_FullError : ExcC K A.c_FullError
  mgc_InvalidContentsError : mg "InvalidContentsError" = some (.ref A.c_InvalidContentsError)
  eb_InvalidContentsError : PySem.W.subIn K (.ref A.c_InvalidContentsError) (.type "BaseException") = some true
  et_InvalidContentsError : PySem.W.typeIn K (.ref A.c_InvalidContentsError) = some (.type "type")
  eh_InvalidContentsError : PySem.W.hasDictIn K A.c_InvalidContentsError = true
  ex_InvalidContentsError : PySem.W.excIn K A.c_InvalidContentsError [.type "ValueError", .type "Exception", .type "BaseException", .type "object"] "ValueError.__new__" = true
  ke_InvalidContentsError : PySem.W.keepIn K (.ref A.c_InvalidContentsError) = true
  exc_InvalidContentsError : ExcC K A.c_InvalidContentsError
  mgc_InvalidFormatError : mg "InvalidFormatError" = some (.ref A.c_InvalidFormatError)
  eb_InvalidFormatError : PySem.W.subIn K (.ref A.c_InvalidFormatError) (.type "BaseException") = some true
  et_InvalidFormatError : PySem.W.typeIn K (.ref A.c_InvalidFormatError) = some (.type "type")
  eh_InvalidFormatError : PySem.W.hasDictIn K A.c_InvalidFormatError = true
  ex_InvalidFormatError : PySem.W.excIn K A.c_InvalidFormatError [.type "ValueError", .type "Exception", .type "BaseException", .type "object"] "ValueError.__new__" = true
  ke_InvalidFormatError : PySem.W.keepIn K (.ref A.c_InvalidFormatError) = true
  exc_InvalidFormatError : ExcC K A.c_InvalidFormatError
  mgc_InvalidGroupError : mg "InvalidGroupError" = some (.ref A.c_InvalidGroupError)
  eb_InvalidGroupError : PySem.W.subIn K (.ref A.c_InvalidGroupError) (.type "BaseException") = some true
  et_InvalidGroupError : PySem.W.typeIn K (.ref A.c_InvalidGroupError) = some (.type "type")
  eh_InvalidGroupError : PySem.W.hasDictIn K A.c_InvalidGroupError = true
  ex_InvalidGroupError : PySem.W.excIn K A.c_InvalidGroupError [.type "ValueError", .type "Exception", .type "BaseException", .type "object"] "ValueError.__new__" = true
  ke_InvalidGroupError : PySem.W.keepIn K (.ref A.c_InvalidGroupError) = true
  exc_InvalidGroupError : ExcC K A.c_InvalidGroupError
  mgc_InvalidMixtureError : mg "InvalidMixtureError" = some (.ref A.c_InvalidMixtureError)
  eb_InvalidMixtureError : PySem.W.subIn K (.ref A.c_InvalidMixtureError) (.type "BaseException") = some true
  et_InvalidMixtureError : PySem.W.typeIn K (.ref A.c_InvalidMixtureError) = some (.type "type")
  eh_InvalidMixtureError : PySem.W.hasDictIn K A.c_InvalidMixtureError = true
  ex_InvalidMixtureError : PySem.W.excIn K A.c_InvalidMixtureError [.type "ValueError", .type "Exception", .type "BaseException", .type "object"] "ValueError.__new__" = true
  ke_InvalidMixtureError : PySem.W.keepIn K (.ref A.c_InvalidMixtureError) = true
  exc_InvalidMixtureError : ExcC K A.c_InvalidMixtureError
  mgc_InvalidNumberError : mg "InvalidNumberError" = some (.ref A.c_InvalidNumberError)
  eb_InvalidNumberError : PySem.W.subIn K (.ref A.c_InvalidNumberError) (.type "BaseException") = some true
  et_InvalidNumberError : PySem.W.typeIn K (.ref A.c_InvalidNumberError) = some (.type "type")
  eh_InvalidNumberError : PySem.W.hasDictIn K A.c_InvalidNumberError = true
  ex_InvalidNumberError : PySem.W.excIn K A.c_InvalidNumberError [.type "ValueError", .type "Exception", .type "BaseException", .type "object"] "ValueError.__new__" = true
  ke_InvalidNumberError : PySem.W.keepIn K (.ref A.c_InvalidNumberError) = true
  exc_InvalidNumberError : ExcC K A.c_InvalidNumberError
  mgc_InvalidRatioError : mg "InvalidRatioError" = some (.ref A.c_InvalidRatioError)
  eb_InvalidRatioError : PySem.W.subIn K (.ref A.c_InvalidRatioError) (.type "BaseException") = some true
  et_InvalidRatioError : PySem.W.typeIn K (.ref A.c_InvalidRatioError) = some (.type "type")
  eh_InvalidRatioError : PySem.W.hasDictIn K A.c_InvalidRatioError = true
  ex_InvalidRatioError : PySem.W.excIn K A.c_InvalidRatioError [.type "ValueError", .type "Exception", .type "BaseException", .type "object"] "ValueError.__new__" = true
  ke_InvalidRatioError : PySem.W.keepIn K (.ref A.c_InvalidRatioError) = true
  exc_InvalidRatioError : ExcC K A.c_InvalidRatioError
  mgc_InvalidRowsError : mg "InvalidRowsError" = some (.ref A.c_InvalidRowsError)
  eb_InvalidRowsError : PySem.W.subIn K (.ref A.c_InvalidRowsError) (.type "BaseException") = some true
  et_InvalidRowsError : PySem.W.typeIn K (.ref A.c_InvalidRowsError) = some (.type "type")
  eh_InvalidRowsError : PySem.W.hasDictIn K A.c_InvalidRowsError = true
  ex_InvalidRowsError : PySem.W.excIn K A.c_InvalidRowsError [.type "ValueError", .type "Exception", .type "BaseException", .type "object"] "ValueError.__new__" = true
  ke_InvalidRowsError : PySem.W.keepIn K (.ref A.c_InvalidRowsError) = true
  exc_InvalidRowsError : ExcC K A.c_InvalidRowsError
  mgc_InvalidSubstanceError : mg "InvalidSubstanceError" = some (.ref A.c_InvalidSubstanceError)
  eb_InvalidSubstanceError : PySem.W.subIn K (.ref A.c_InvalidSubstanceError) (.type "BaseException") = some true
  et_InvalidSubstanceError : PySem.W.typeIn K (.ref A.c_InvalidSubstanceError) = some (.type "type")
  eh_InvalidSubstanceError : PySem.W.hasDictIn K A.c_InvalidSubstanceError = true
  ex_InvalidSubstanceError : PySem.W.excIn K A.c_InvalidSubstanceError [.type "ValueError", .type "Exception", .type "BaseException", .type "object"] "ValueError.__new__" = true
  ke_InvalidSubstanceError : PySem.W.keepIn K (.ref A.c_InvalidSubstanceError) = true
  exc_InvalidSubstanceError : ExcC K A.c_InvalidSubstanceError
  mgc_InvalidTransfersError : mg "InvalidTransfersError" = some (.ref A.c_InvalidTransfersError)
  eb_InvalidTransfersError : PySem.W.subIn K (.ref A.c_InvalidTransfersError) (.type "BaseException") = some true
  et_InvalidTransfersError : PySem.W.typeIn K (.ref A.c_InvalidTransfersError) = some (.type "type")
  eh_InvalidTransfersError : PySem.W.hasDictIn K A.c_InvalidTransfersError = true
  ex_InvalidTransfersError : PySem.W.excIn K A.c_InvalidTransfersError [.type "ValueError", .type "Exception", .type "BaseException", .type "object"] "ValueError.__new__" = true
  ke_InvalidTransfersError : PySem.W.keepIn K (.ref A.c_InvalidTransfersError) = true
  exc_InvalidTransfersError : ExcC K A.c_InvalidTransfersError
  mgc_InvalidVesselError : mg "InvalidVesselError" = some (.ref A.c_InvalidVesselError)
  eb_InvalidVesselError : PySem.W.subIn K (.ref A.c_InvalidVesselError) (.type "BaseException") = some true
  et_InvalidVesselError : PySem.W.typeIn K (.ref A.c_InvalidVesselError) = some (.type "type")
  eh_InvalidVesselError : PySem.W.hasDictIn K A.c_InvalidVesselError = true
  ex_InvalidVesselError : PySem.W.excIn K A.c_InvalidVesselError [.type "ValueError", .type "Exception", .type "BaseException", .type "object"] "ValueError.__new__" = true
  ke_InvalidVesselError : PySem.W.keepIn K (.ref A.c_InvalidVesselError) = true
  exc_InvalidVesselError : ExcC K A.c_InvalidVesselError
  mgc_InvalidVolumesError : mg "InvalidVolumesError" = some (.ref A.c_InvalidVolumesError)
  eb_InvalidVolumesError : PySem.W.subIn K (.ref A.c_InvalidVolumesError) (.type "BaseException") = some true
  et_InvalidVolumesError : PySem.W.typeIn K (.ref A.c_InvalidVolumesError) = some (.type "type")
  eh_InvalidVolumesError : PySem.W.hasDictIn K A.c_InvalidVolumesError = true
  ex_InvalidVolumesError : PySem.W.excIn K A.c_InvalidVolumesError [.type "ValueError", .type "Exception", .type "BaseException", .type "object"] "ValueError.__new__" = true
  ke_InvalidVolumesError : PySem.W.keepIn K (.ref A.c_InvalidVolumesError) = true
  exc_InvalidVolumesError : ExcC K A.c_InvalidVolumesError
  mgc_NotClosedError : mg "NotClosedError" = some (.ref A.c_NotClosedError)
  eb_NotClosedError : PySem.W.subIn K (.ref A.c_NotClosedError) (.type "BaseException") = some true
  et_NotClosedError : PySem.W.typeIn K (.ref A.c_NotClosedError) = some (.type "type")
  eh_NotClosedError : PySem.W.hasDictIn K A.c_NotClosedError = true
  ex_NotClosedError : PySem.W.excIn K A.c_NotClosedError [.type "ValueError", .type "Exception", .type "BaseException", .type "object"] "ValueError.__new__" = true
  ke_NotClosedError : PySem.W.keepIn K (.ref A.c_NotClosedError) = true
  exc_NotClosedError : ExcC K A.c_NotClosedError
  mgc_NotStartedError : mg "NotStartedError" = some (.ref A.c_NotStartedError)
  eb_NotStartedError : PySem.W.subIn K (.ref A.c_NotStartedError) (.type "BaseException") = some true
  et_NotStartedError : PySem.W.typeIn K (.ref A.c_NotStartedError) = some (.type "type")
  eh_NotStartedError : PySem.W.hasDictIn K A.c_NotStartedError = true
  ex_NotStartedError : PySem.W.excIn K A.c_NotStartedError [.type "ValueError", .type "Exception", .type "BaseException", .type "object"] "ValueError.__new__" = true
  ke_NotStartedError : PySem.W.keepIn K (.ref A.c_NotStartedError) = true
  exc_NotStartedError : ExcC K A.c_NotStartedError
  mgc_OverfullError : mg "OverfullError" = some (.ref A.c_OverfullError)
  eb_OverfullError : PySem.W.subIn K (.ref A.c_OverfullError) (.type "BaseException") = some true
  et_OverfullError : PySem.W.typeIn K (.ref A.c_OverfullError) = some (.type "type")
  eh_OverfullError : PySem.W.hasDictIn K A.c_OverfullError = true
  ex_OverfullError : PySem.W.excIn K A.c_OverfullError [.type "ValueError", .type "Exception", .type "BaseException", .type "object"] "ValueError.__new__" = true
  ke_OverfullError : PySem.W.keepIn K (.ref A.c_OverfullError) = true
  exc_OverfullError : ExcC K A.c_OverfullError
  mgc_SealedError : mg "SealedError" = some (.ref A.c_SealedError)
  eb_SealedError : PySem.W.subIn K (.ref A.c_SealedError) (.type "BaseException") = some true
  et_SealedError : PySem.W.typeIn K (.ref A.c_SealedError) = some (.type "type")
  eh_SealedError : PySem.W.hasDictIn K A.c_SealedError = true
  ex_SealedError : PySem.W.excIn K A.c_SealedError [.type "ValueError", .type "Exception", .type "BaseException", .type "object"] "ValueError.__new__" = true
  ke_SealedError : PySem.W.keepIn K (.ref A.c_SealedError) = true
  exc_SealedError : ExcC K A.c_SealedError
  mgc_StartedError : mg "StartedError" = some (.ref A.c_StartedError)
  eb_StartedError : PySem.W.subIn K (.ref A.c_StartedError) (.type "BaseException") = some true
  et_StartedError : PySem.W.typeIn K (.ref A.c_StartedError) = some (.type "type")
  eh_StartedError : PySem.W.hasDictIn K A.c_StartedError = true
  ex_StartedError : PySem.W.excIn K A.c_StartedError [.type "ValueError", .type "Exception", .type "BaseException", .type "object"] "ValueError.__new__" = true
  ke_StartedError : PySem.W.keepIn K (.ref A.c_StartedError) = true
  exc_StartedError : ExcC K A.c_StartedError
  mgc_TooManyError : mg "TooManyError" = some (.ref A.c_TooManyError)
  eb_TooManyError : PySem.W.subIn K (.ref A.c_TooManyError) (.type "BaseException") = some true
  et_TooManyError : PySem.W.typeIn K (.ref A.c_TooManyError) = some (.type "type")
  eh_TooManyError : PySem.W.hasDictIn K A.c_TooManyError = true
  xn_TooManyError : PySem.W.findIn K (.ref A.c_TooManyError) "limit" = some none
  ox_TooManyError : OexC K A.c_TooManyError
  ke_TooManyError : PySem.W.keepIn K (.ref A.c_TooManyError) = true
  exc_TooManyError : ExcC K A.c_TooManyError
  mgc_TooMuchError : mg "TooMuchError" = some (.ref A.c_TooMuchError)
  eb_TooMuchError : PySem.W.subIn K (.ref A.c_TooMuchError) (.type "BaseException") = some true
  et_TooMuchError : PySem.W.typeIn K (.ref A.c_TooMuchError) = some (.type "type")
  eh_TooMuchError : PySem.W.hasDictIn K A.c_TooMuchError = true
  xn_TooMuchError : PySem.W.findIn K (.ref A.c_TooMuchError) "index" = some none
  ox_TooMuchError : OexC K A.c_TooMuchError
  ke_TooMuchError : PySem.W.keepIn K (.ref A.c_TooMuchError) = true
  exc_TooMuchError : ExcC K A.c_TooMuchError
  mgc_TooSmallError : mg "TooSmallError" = some (.ref A.c_TooSmallError)
  eb_TooSmallError : PySem.W.subIn K (.ref A.c_TooSmallError) (.type "BaseException") = some true
  et_TooSmallError : PySem.W.typeIn K (.ref A.c_TooSmallError) = some (.type "type")
  eh_TooSmallError : PySem.W.hasDictIn K A.c_TooSmallError = true
  ex_TooSmallError : PySem.W.excIn K A.c_TooSmallError [.type "ValueError", .type "Exception", .type "BaseException", .type "object"] "ValueError.__new__" = true
  ke_TooSmallError : PySem.W.keepIn K (.ref A.c_TooSmallError) = true
  exc_TooSmallError : ExcC K A.c_TooSmallError
  mgc_ZeroRatioError : mg "ZeroRatioError" = some (.ref A.c_ZeroRatioError)
  eb_ZeroRatioError : PySem.W.subIn K (.ref A.c_ZeroRatioError) (.type "BaseException") = some true
  et_ZeroRatioError : PySem.W.typeIn K (.ref A.c_ZeroRatioError) = some (.type "type")
  eh_ZeroRatioError : PySem.W.hasDictIn K A.c_ZeroRatioError = true
  ex_ZeroRatioError : PySem.W.excIn K A.c_ZeroRatioError [.type "ValueError", .type "Exception", .type "BaseException", .type "object"] "ValueError.__new__" = true
  ke_ZeroRatioError : PySem.W.keepIn K (.ref A.c_ZeroRatioError) = true
  exc_ZeroRatioError : ExcC K A.c_ZeroRatioError
  fun_TooMuchError_init : Fun K "__init__" "TooMuchError.__init__" s_TooMuchError_init A.a_TooMuchError_init A.d_TooMuchError_init
  bd_TooMuchError_init : Binds K A.d_TooMuchError_init ["self", "index"] []
  ii_TooMuchError : PySem.W.findIn K (.ref A.c_TooMuchError) "__init__" = some (some (.ref A.a_TooMuchError_init))
  fi_TooMuchError : PySem.W.typeIn K (.ref A.a_TooMuchError_init) = some (.type "function")
  fun_TooManyError_init : Fun K "__init__" "TooManyError.__init__" s_TooManyError_init A.a_TooManyError_init A.d_TooManyError_init
  bd_TooManyError_init : Binds K A.d_TooManyError_init ["self", "limit"] []
  ii_TooManyError : PySem.W.findIn K (.ref A.c_TooManyError) "__init__" = some (some (.ref A.a_TooManyError_init))
  fi_TooManyError : PySem.W.typeIn K (.ref A.a_TooManyError_init) = some (.type "function")
  fun_law_bag : Fun K "_law_bag" "_law_bag" s_law_bag A.a_law_bag A.d_law_bag
  bd_law_bag : Binds K A.d_law_bag ["cell", "k"] []
  mg_law_bag : mg "_law_bag" = some (.ref A.a_law_bag)
  fun_law_draw : Fun K "_law_draw" "_law_draw" s_law_draw A.a_law_draw A.d_law_draw
  bd_law_draw : Binds K A.d_law_draw ["bag", "many"] []
  mg_law_draw : mg "_law_draw" = some (.ref A.a_law_draw)
  fun_law_marks : Fun K "_law_marks" "_law_marks" s_law_marks A.a_law_marks A.d_law_marks
  bd_law_marks : Binds K A.d_law_marks ["e"] []
  mg_law_marks : mg "_law_marks" = some (.ref A.a_law_marks)
  fun_law_right : Fun K "_law_right" "_law_right" s_law_right A.a_law_right A.d_law_right
  bd_law_right : Binds K A.d_law_right ["message", "number"] []
  mg_law_right : mg "_law_right" = some (.ref A.a_law_right)
  fun_law : Fun K "law" "law" s_law A.a_law A.d_law
  bd_law : Binds K A.d_law ["script"] []
  mg_law : mg "law" = some (.ref A.a_law)
  sg_ : PySem.W.specialIn K (.builtin "object.__class__") "__get__" = some (some (.builtin "getset_descriptor.__get__"))
  st_ : PySem.W.takesIn K (.builtin "object.__class__") = some true
  ki_EmptyHistoryError_StirError : PySem.W.kitOne K (.ref A.c_EmptyHistoryError) (.ref A.c_StirError) = some true
  ki_FullError_StirError : PySem.W.kitOne K (.ref A.c_FullError) (.ref A.c_StirError) = some true
  ki_InvalidContentsError_StirError : PySem.W.kitOne K (.ref A.c_InvalidContentsError) (.ref A.c_StirError) = some true
  ki_InvalidFormatError_StirError : PySem.W.kitOne K (.ref A.c_InvalidFormatError) (.ref A.c_StirError) = some true
  ki_InvalidGroupError_StirError : PySem.W.kitOne K (.ref A.c_InvalidGroupError) (.ref A.c_StirError) = some true
  ki_InvalidMixtureError_StirError : PySem.W.kitOne K (.ref A.c_InvalidMixtureError) (.ref A.c_StirError) = some true
  ki_InvalidNumberError_StirError : PySem.W.kitOne K (.ref A.c_InvalidNumberError) (.ref A.c_StirError) = some true
  ki_InvalidRatioError_StirError : PySem.W.kitOne K (.ref A.c_InvalidRatioError) (.ref A.c_StirError) = some true
  ki_InvalidRowsError_StirError : PySem.W.kitOne K (.ref A.c_InvalidRowsError) (.ref A.c_StirError) = some true
  ki_InvalidSubstanceError_StirError : PySem.W.kitOne K (.ref A.c_InvalidSubstanceError) (.ref A.c_StirError) = some true
  ki_InvalidTransfersError_StirError : PySem.W.kitOne K (.ref A.c_InvalidTransfersError) (.ref A.c_StirError) = some true
  ki_InvalidVesselError_StirError : PySem.W.kitOne K (.ref A.c_InvalidVesselError) (.ref A.c_StirError) = some true
  ki_InvalidVolumesError_StirError : PySem.W.kitOne K (.ref A.c_InvalidVolumesError) (.ref A.c_StirError) = some true
  ki_NotClosedError_StirError : PySem.W.kitOne K (.ref A.c_NotClosedError) (.ref A.c_StirError) = some true
  ki_NotStartedError_StirError : PySem.W.kitOne K (.ref A.c_NotStartedError) (.ref A.c_StirError) = some true
  ki_OverfullError_StirError : PySem.W.kitOne K (.ref A.c_OverfullError) (.ref A.c_StirError) = some true
  ki_SealedError_StirError : PySem.W.kitOne K (.ref A.c_SealedError) (.ref A.c_StirError) = some true
  ki_StartedError_StirError : PySem.W.kitOne K (.ref A.c_StartedError) (.ref A.c_StirError) = some true
  ki_TooManyError_StirError : PySem.W.kitOne K (.ref A.c_TooManyError) (.ref A.c_StirError) = some true
  ki_TooMuchError_StirError : PySem.W.kitOne K (.ref A.c_TooMuchError) (.ref A.c_StirError) = some true
  ki_TooSmallError_StirError : PySem.W.kitOne K (.ref A.c_TooSmallError) (.ref A.c_StirError) = some true
  ki_ZeroRatioError_StirError : PySem.W.kitOne K (.ref A.c_ZeroRatioError) (.ref A.c_StirError) = some true
  ki_EmptyHistoryError_ValueError : PySem.W.kitOne K (.ref A.c_EmptyHistoryError) (.type "ValueError") = some true
  ki_FullError_ValueError : PySem.W.kitOne K (.ref A.c_FullError) (.type "ValueError") = some true
  ki_InvalidContentsError_ValueError : PySem.W.kitOne K (.ref A.c_InvalidContentsError) (.type "ValueError") = some true
  ki_InvalidFormatError_ValueError : PySem.W.kitOne K (.ref A.c_InvalidFormatError) (.type "ValueError") = some true
  ki_InvalidGroupError_ValueError : PySem.W.kitOne K (.ref A.c_InvalidGroupError) (.type "ValueError") = some true
  ki_InvalidMixtureError_ValueError : PySem.W.kitOne K (.ref A.c_InvalidMixtureError) (.type "ValueError") = some true
  ki_InvalidNumberError_ValueError : PySem.W.kitOne K (.ref A.c_InvalidNumberError) (.type "ValueError") = some true
  ki_InvalidRatioError_ValueError : PySem.W.kitOne K (.ref A.c_InvalidRatioError) (.type "ValueError") = some true
  ki_InvalidRowsError_ValueError : PySem.W.kitOne K (.ref A.c_InvalidRowsError) (.type "ValueError") = some true
  ki_InvalidSubstanceError_ValueError : PySem.W.kitOne K (.ref A.c_InvalidSubstanceError) (.type "ValueError") = some true
  ki_InvalidTransfersError_ValueError : PySem.W.kitOne K (.ref A.c_InvalidTransfersError) (.type "ValueError") = some true
  ki_InvalidVesselError_ValueError : PySem.W.kitOne K (.ref A.c_InvalidVesselError) (.type "ValueError") = some true
  ki_InvalidVolumesError_ValueError : PySem.W.kitOne K (.ref A.c_InvalidVolumesError) (.type "ValueError") = some true
  ki_NotClosedError_ValueError : PySem.W.kitOne K (.ref A.c_NotClosedError) (.type "ValueError") = some true
  ki_NotStartedError_ValueError : PySem.W.kitOne K (.ref A.c_NotStartedError) (.type "ValueError") = some true
  ki_OverfullError_ValueError : PySem.W.kitOne K (.ref A.c_OverfullError) (.type "ValueError") = some true
  ki_SealedError_ValueError : PySem.W.kitOne K (.ref A.c_SealedError) (.type "ValueError") = some true
  ki_StartedError_ValueError : PySem.W.kitOne K (.ref A.c_StartedError) (.type "ValueError") = some true
  ki_TooManyError_ValueError : PySem.W.kitOne K (.ref A.c_TooManyError) (.type "ValueError") = some true
  ki_TooMuchError_ValueError : PySem.W.kitOne K (.ref A.c_TooMuchError) (.type "ValueError") = some true
  ki_TooSmallError_ValueError : PySem.W.kitOne K (.ref A.c_TooSmallError) (.type "ValueError") = some true
  ki_ZeroRatioError_ValueError : PySem.W.kitOne K (.ref A.c_ZeroRatioError) (.type "ValueError") = some true
  row_EmptyHistoryError : _root_.G.RowK K (.ref A.c_EmptyHistoryError) [A.c_EmptyHistoryError, A.c_FullError, A.c_InvalidContentsError, A.c_InvalidFormatError, A.c_InvalidGroupError, A.c_InvalidMixtureError, A.c_InvalidNumberError, A.c_InvalidRatioError, A.c_InvalidRowsError, A.c_InvalidSubstanceError, A.c_InvalidTransfersError, A.c_InvalidVesselError, A.c_InvalidVolumesError, A.c_NotClosedError, A.c_NotStartedError, A.c_OverfullError, A.c_SealedError, A.c_StartedError, A.c_TooManyError, A.c_TooMuchError, A.c_TooSmallError, A.c_ZeroRatioError] 0 (fun j => decide (j = 0))
  row_FullError : _root_.G.RowK K (.ref A.c_FullError) [A.c_EmptyHistoryError, A.c_FullError, A.c_InvalidContentsError, A.c_InvalidFormatError, A.c_InvalidGroupError, A.c_InvalidMixtureError, A.c_InvalidNumberError, A.c_InvalidRatioError, A.c_InvalidRowsError, A.c_InvalidSubstanceError, A.c_InvalidTransfersError, A.c_InvalidVesselError, A.c_InvalidVolumesError, A.c_NotClosedError, A.c_NotStartedError, A.c_OverfullError, A.c_SealedError, A.c_StartedError, A.c_TooManyError, A.c_TooMuchError, A.c_TooSmallError, A.c_ZeroRatioError] 0 (fun j => decide (j = 1))
  row_InvalidContentsError : _root_.G.RowK K (.ref A.c_InvalidContentsError) [A.c_EmptyHistoryError, A.c_FullError, A.c_InvalidContentsError, A.c_InvalidFormatError, A.c_InvalidGroupError, A.c_InvalidMixtureError, A.c_InvalidNumberError, A.c_InvalidRatioError, A.c_InvalidRowsError, A.c_InvalidSubstanceError, A.c_InvalidTransfersError, A.c_InvalidVesselError, A.c_InvalidVolumesError, A.c_NotClosedError, A.c_NotStartedError, A.c_OverfullError, A.c_SealedError, A.c_StartedError, A.c_TooManyError, A.c_TooMuchError, A.c_TooSmallError, A.c_ZeroRatioError] 0 (fun j => decide (j = 2))
  row_InvalidFormatError : _root_.G.RowK K (.ref A.c_InvalidFormatError) [A.c_EmptyHistoryError, A.c_FullError, A.c_InvalidContentsError, A.c_InvalidFormatError, A.c_InvalidGroupError, A.c_InvalidMixtureError, A.c_InvalidNumberError, A.c_InvalidRatioError, A.c_InvalidRowsError, A.c_InvalidSubstanceError, A.c_InvalidTransfersError, A.c_InvalidVesselError, A.c_InvalidVolumesError, A.c_NotClosedError, A.c_NotStartedError, A.c_OverfullError, A.c_SealedError, A.c_StartedError, A.c_TooManyError, A.c_TooMuchError, A.c_TooSmallError, A.c_ZeroRatioError] 0 (fun j => decide (j = 3))
  row_InvalidGroupError : _root_.G.RowK K (.ref A.c_InvalidGroupError) [A.c_EmptyHistoryError, A.c_FullError, A.c_InvalidContentsError, A.c_InvalidFormatError, A.c_InvalidGroupError, A.c_InvalidMixtureError, A.c_InvalidNumberError, A.c_InvalidRatioError, A.c_InvalidRowsError, A.c_InvalidSubstanceError, A.c_InvalidTransfersError, A.c_InvalidVesselError, A.c_InvalidVolumesError, A.c_NotClosedError, A.c_NotStartedError, A.c_OverfullError, A.c_SealedError, A.c_StartedError, A.c_TooManyError, A.c_TooMuchError, A.c_TooSmallError, A.c_ZeroRatioError] 0 (fun j => decide (j = 4))
  row_InvalidMixtureError : _root_.G.RowK K (.ref A.c_InvalidMixtureError) [A.c_EmptyHistoryError, A.c_FullError, A.c_InvalidContentsError, A.c_InvalidFormatError, A.c_InvalidGroupError, A.c_InvalidMixtureError, A.c_InvalidNumberError, A.c_InvalidRatioError, A.c_InvalidRowsError, A.c_InvalidSubstanceError, A.c_InvalidTransfersError, A.c_InvalidVesselError, A.c_InvalidVolumesError, A.c_NotClosedError, A.c_NotStartedError, A.c_OverfullError, A.c_SealedError, A.c_StartedError, A.c_TooManyError, A.c_TooMuchError, A.c_TooSmallError, A.c_ZeroRatioError] 0 (fun j => decide (j = 5))
  row_InvalidNumberError : _root_.G.RowK K (.ref A.c_InvalidNumberError) [A.c_EmptyHistoryError, A.c_FullError, A.c_InvalidContentsError, A.c_InvalidFormatError, A.c_InvalidGroupError, A.c_InvalidMixtureError, A.c_InvalidNumberError, A.c_InvalidRatioError, A.c_InvalidRowsError, A.c_InvalidSubstanceError, A.c_InvalidTransfersError, A.c_InvalidVesselError, A.c_InvalidVolumesError, A.c_NotClosedError, A.c_NotStartedError, A.c_OverfullError, A.c_SealedError, A.c_StartedError, A.c_TooManyError, A.c_TooMuchError, A.c_TooSmallError, A.c_ZeroRatioError] 0 (fun j => decide (j = 6))
  row_InvalidRatioError : _root_.G.RowK K (.ref A.c_InvalidRatioError) [A.c_EmptyHistoryError, A.c_FullError, A.c_InvalidContentsError, A.c_InvalidFormatError, A.c_InvalidGroupError, A.c_InvalidMixtureError, A.c_InvalidNumberError, A.c_InvalidRatioError, A.c_InvalidRowsError, A.c_InvalidSubstanceError, A.c_InvalidTransfersError, A.c_InvalidVesselError, A.c_InvalidVolumesError, A.c_NotClosedError, A.c_NotStartedError, A.c_OverfullError, A.c_SealedError, A.c_StartedError, A.c_TooManyError, A.c_TooMuchError, A.c_TooSmallError, A.c_ZeroRatioError] 0 (fun j => decide (j = 7))
  row_InvalidRowsError : _root_.G.RowK K (.ref A.c_InvalidRowsError) [A.c_EmptyHistoryError, A.c_FullError, A.c_InvalidContentsError, A.c_InvalidFormatError, A.c_InvalidGroupError, A.c_InvalidMixtureError, A.c_InvalidNumberError, A.c_InvalidRatioError, A.c_InvalidRowsError, A.c_InvalidSubstanceError, A.c_InvalidTransfersError, A.c_InvalidVesselError, A.c_InvalidVolumesError, A.c_NotClosedError, A.c_NotStartedError, A.c_OverfullError, A.c_SealedError, A.c_StartedError, A.c_TooManyError, A.c_TooMuchError, A.c_TooSmallError, A.c_ZeroRatioError] 0 (fun j => decide (j = 8))
  row_InvalidSubstanceError : _root_.G.RowK K (.ref A.c_InvalidSubstanceError) [A.c_EmptyHistoryError, A.c_FullError, A.c_InvalidContentsError, A.c_InvalidFormatError, A.c_InvalidGroupError, A.c_InvalidMixtureError, A.c_InvalidNumberError, A.c_InvalidRatioError, A.c_InvalidRowsError, A.c_InvalidSubstanceError, A.c_InvalidTransfersError, A.c_InvalidVesselError, A.c_InvalidVolumesError, A.c_NotClosedError, A.c_NotStartedError, A.c_OverfullError, A.c_SealedError, A.c_StartedError, A.c_TooManyError, A.c_TooMuchError, A.c_TooSmallError, A.c_ZeroRatioError] 0 (fun j => decide (j = 9))
  row_InvalidTransfersError : _root_.G.RowK K (.ref A.c_InvalidTransfersError) [A.c_EmptyHistoryError, A.c_FullError, A.c_InvalidContentsError, A.c_InvalidFormatError, A.c_InvalidGroupError, A.c_InvalidMixtureError, A.c_InvalidNumberError, A.c_InvalidRatioError, A.c_InvalidRowsError, A.c_InvalidSubstanceError, A.c_InvalidTransfersError, A.c_InvalidVesselError, A.c_InvalidVolumesError, A.c_NotClosedError, A.c_NotStartedError, A.c_OverfullError, A.c_SealedError, A.c_StartedError, A.c_TooManyError, A.c_TooMuchError, A.c_TooSmallError, A.c_ZeroRatioError] 0 (fun j => decide (j = 10))
  row_InvalidVesselError : _root_.G.RowK K (.ref A.c_InvalidVesselError) [A.c_EmptyHistoryError, A.c_FullError, A.c_InvalidContentsError, A.c_InvalidFormatError, A.c_InvalidGroupError, A.c_InvalidMixtureError, A.c_InvalidNumberError, A.c_InvalidRatioError, A.c_InvalidRowsError, A.c_InvalidSubstanceError, A.c_InvalidTransfersError, A.c_InvalidVesselError, A.c_InvalidVolumesError, A.c_NotClosedError, A.c_NotStartedError, A.c_OverfullError, A.c_SealedError, A.c_StartedError, A.c_TooManyError, A.c_TooMuchError, A.c_TooSmallError, A.c_ZeroRatioError] 0 (fun j => decide (j = 11))
  row_InvalidVolumesError : _root_.G.RowK K (.ref A.c_InvalidVolumesError) [A.c_EmptyHistoryError, A.c_FullError, A.c_InvalidContentsError, A.c_InvalidFormatError, A.c_InvalidGroupError, A.c_InvalidMixtureError, A.c_InvalidNumberError, A.c_InvalidRatioError, A.c_InvalidRowsError, A.c_InvalidSubstanceError, A.c_InvalidTransfersError, A.c_InvalidVesselError, A.c_InvalidVolumesError, A.c_NotClosedError, A.c_NotStartedError, A.c_OverfullError, A.c_SealedError, A.c_StartedError, A.c_TooManyError, A.c_TooMuchError, A.c_TooSmallError, A.c_ZeroRatioError] 0 (fun j => decide (j = 12))
  row_NotClosedError : _root_.G.RowK K (.ref A.c_NotClosedError) [A.c_EmptyHistoryError, A.c_FullError, A.c_InvalidContentsError, A.c_InvalidFormatError, A.c_InvalidGroupError, A.c_InvalidMixtureError, A.c_InvalidNumberError, A.c_InvalidRatioError, A.c_InvalidRowsError, A.c_InvalidSubstanceError, A.c_InvalidTransfersError, A.c_InvalidVesselError, A.c_InvalidVolumesError, A.c_NotClosedError, A.c_NotStartedError, A.c_OverfullError, A.c_SealedError, A.c_StartedError, A.c_TooManyError, A.c_TooMuchError, A.c_TooSmallError, A.c_ZeroRatioError] 0 (fun j => decide (j = 13))
  row_NotStartedError : _root_.G.RowK K (.ref A.c_NotStartedError) [A.c_EmptyHistoryError, A.c_FullError, A.c_InvalidContentsError, A.c_InvalidFormatError, A.c_InvalidGroupError, A.c_InvalidMixtureError, A.c_InvalidNumberError, A.c_InvalidRatioError, A.c_InvalidRowsError, A.c_InvalidSubstanceError, A.c_InvalidTransfersError, A.c_InvalidVesselError, A.c_InvalidVolumesError, A.c_NotClosedError, A.c_NotStartedError, A.c_OverfullError, A.c_SealedError, A.c_StartedError, A.c_TooManyError, A.c_TooMuchError, A.c_TooSmallError, A.c_ZeroRatioError] 0 (fun j => decide (j = 14))
  row_OverfullError : _root_.G.RowK K (.ref A.c_OverfullError) [A.c_EmptyHistoryError, A.c_FullError, A.c_InvalidContentsError, A.c_InvalidFormatError, A.c_InvalidGroupError, A.c_InvalidMixtureError, A.c_InvalidNumberError, A.c_InvalidRatioError, A.c_InvalidRowsError, A.c_InvalidSubstanceError, A.c_InvalidTransfersError, A.c_InvalidVesselError, A.c_InvalidVolumesError, A.c_NotClosedError, A.c_NotStartedError, A.c_OverfullError, A.c_SealedError, A.c_StartedError, A.c_TooManyError, A.c_TooMuchError, A.c_TooSmallError, A.c_ZeroRatioError] 0 (fun j => decide (j = 15))
  row_SealedError : _root_.G.RowK K (.ref A.c_SealedError) [A.c_EmptyHistoryError, A.c_FullError, A.c_InvalidContentsError, A.c_InvalidFormatError, A.c_InvalidGroupError, A.c_InvalidMixtureError, A.c_InvalidNumberError, A.c_InvalidRatioError, A.c_InvalidRowsError, A.c_InvalidSubstanceError, A.c_InvalidTransfersError, A.c_InvalidVesselError, A.c_InvalidVolumesError, A.c_NotClosedError, A.c_NotStartedError, A.c_OverfullError, A.c_SealedError, A.c_StartedError, A.c_TooManyError, A.c_TooMuchError, A.c_TooSmallError, A.c_ZeroRatioError] 0 (fun j => decide (j = 16))
  row_StartedError : _root_.G.RowK K (.ref A.c_StartedError) [A.c_EmptyHistoryError, A.c_FullError, A.c_InvalidContentsError, A.c_InvalidFormatError, A.c_InvalidGroupError, A.c_InvalidMixtureError, A.c_InvalidNumberError, A.c_InvalidRatioError, A.c_InvalidRowsError, A.c_InvalidSubstanceError, A.c_InvalidTransfersError, A.c_InvalidVesselError, A.c_InvalidVolumesError, A.c_NotClosedError, A.c_NotStartedError, A.c_OverfullError, A.c_SealedError, A.c_StartedError, A.c_TooManyError, A.c_TooMuchError, A.c_TooSmallError, A.c_ZeroRatioError] 0 (fun j => decide (j = 17))
  row_TooManyError : _root_.G.RowK K (.ref A.c_TooManyError) [A.c_EmptyHistoryError, A.c_FullError, A.c_InvalidContentsError, A.c_InvalidFormatError, A.c_InvalidGroupError, A.c_InvalidMixtureError, A.c_InvalidNumberError, A.c_InvalidRatioError, A.c_InvalidRowsError, A.c_InvalidSubstanceError, A.c_InvalidTransfersError, A.c_InvalidVesselError, A.c_InvalidVolumesError, A.c_NotClosedError, A.c_NotStartedError, A.c_OverfullError, A.c_SealedError, A.c_StartedError, A.c_TooManyError, A.c_TooMuchError, A.c_TooSmallError, A.c_ZeroRatioError] 0 (fun j => decide (j = 18))
  row_TooMuchError : _root_.G.RowK K (.ref A.c_TooMuchError) [A.c_EmptyHistoryError, A.c_FullError, A.c_InvalidContentsError, A.c_InvalidFormatError, A.c_InvalidGroupError, A.c_InvalidMixtureError, A.c_InvalidNumberError, A.c_InvalidRatioError, A.c_InvalidRowsError, A.c_InvalidSubstanceError, A.c_InvalidTransfersError, A.c_InvalidVesselError, A.c_InvalidVolumesError, A.c_NotClosedError, A.c_NotStartedError, A.c_OverfullError, A.c_SealedError, A.c_StartedError, A.c_TooManyError, A.c_TooMuchError, A.c_TooSmallError, A.c_ZeroRatioError] 0 (fun j => decide (j = 19))
  row_TooSmallError : _root_.G.RowK K (.ref A.c_TooSmallError) [A.c_EmptyHistoryError, A.c_FullError, A.c_InvalidContentsError, A.c_InvalidFormatError, A.c_InvalidGroupError, A.c_InvalidMixtureError, A.c_InvalidNumberError, A.c_InvalidRatioError, A.c_InvalidRowsError, A.c_InvalidSubstanceError, A.c_InvalidTransfersError, A.c_InvalidVesselError, A.c_InvalidVolumesError, A.c_NotClosedError, A.c_NotStartedError, A.c_OverfullError, A.c_SealedError, A.c_StartedError, A.c_TooManyError, A.c_TooMuchError, A.c_TooSmallError, A.c_ZeroRatioError] 0 (fun j => decide (j = 20))
  row_ZeroRatioError : _root_.G.RowK K (.ref A.c_ZeroRatioError) [A.c_EmptyHistoryError, A.c_FullError, A.c_InvalidContentsError, A.c_InvalidFormatError, A.c_InvalidGroupError, A.c_InvalidMixtureError, A.c_InvalidNumberError, A.c_InvalidRatioError, A.c_InvalidRowsError, A.c_InvalidSubstanceError, A.c_InvalidTransfersError, A.c_InvalidVesselError, A.c_InvalidVolumesError, A.c_NotClosedError, A.c_NotStartedError, A.c_OverfullError, A.c_SealedError, A.c_StartedError, A.c_TooManyError, A.c_TooMuchError, A.c_TooSmallError, A.c_ZeroRatioError] 0 (fun j => decide (j = 21))
  row_StirError : _root_.G.RowK K (.ref A.c_StirError) [A.c_EmptyHistoryError, A.c_FullError, A.c_InvalidContentsError, A.c_InvalidFormatError, A.c_InvalidGroupError, A.c_InvalidMixtureError, A.c_InvalidNumberError, A.c_InvalidRatioError, A.c_InvalidRowsError, A.c_InvalidSubstanceError, A.c_InvalidTransfersError, A.c_InvalidVesselError, A.c_InvalidVolumesError, A.c_NotClosedError, A.c_NotStartedError, A.c_OverfullError, A.c_SealedError, A.c_StartedError, A.c_TooManyError, A.c_TooMuchError, A.c_TooSmallError, A.c_ZeroRatioError] 0 (fun j => decide (j = 99))
  z_isinstance : mg "isinstance" = none
  z_int : mg "int" = none
  z_len : mg "len" = none
  z_range : mg "range" = none
  z_ValueError : mg "ValueError" = none
theorem txt_mk {K : PySem.W.Frag} {h : Heap} {mg : Str → Option Value} (X : K.In h) (G : h.Ns mainGlobals mg)
  {a_law : Addr} {oc_law kV_law dc_law pm_law cd_law ct_law : Value} {od_law an_law : Option Addr} {sl_law : Array (Option Value)}
  {a_law_right : Addr} {oc_law_right kV_law_right dc_law_right pm_law_right cd_law_right ct_law_right : Value} {od_law_right an_law_right : Option Addr} {sl_law_right : Array (Option Value)}
  {a_law_marks : Addr} {oc_law_marks kV_law_marks dc_law_marks pm_law_marks cd_law_marks ct_law_marks : Value} {od_law_marks an_law_marks : Option Addr} {sl_law_marks : Array (Option Value)}
  {a_law_draw : Addr} {oc_law_draw kV_law_draw dc_law_draw pm_law_draw cd_law_draw ct_law_draw : Value} {od_law_draw an_law_draw : Option Addr} {sl_law_draw : Array (Option Value)}
  {a_law_bag : Addr} {oc_law_bag kV_law_bag dc_law_bag pm_law_bag cd_law_bag ct_law_bag : Value} {od_law_bag an_law_bag : Option Addr} {sl_law_bag : Array (Option Value)}
  {a_TooManyError_init : Addr} {oc_TooManyError_init kV_TooManyError_init dc_TooManyError_init pm_TooManyError_init cd_TooManyError_init ct_TooManyError_init : Value} {od_TooManyError_init an_TooManyError_init : Option Addr} {sl_TooManyError_init : Array (Option Value)}
  {a_TooMuchError_init : Addr} {oc_TooMuchError_init kV_TooMuchError_init dc_TooMuchError_init pm_TooMuchError_init cd_TooMuchError_init ct_TooMuchError_init : Value} {od_TooMuchError_init an_TooMuchError_init : Option Addr} {sl_TooMuchError_init : Array (Option Value)}
  {c_ZeroRatioError : Addr}
  {c_TooSmallError : Addr}
  {xq1_TooMuchError xq2_TooMuchError : Str} {xN_TooMuchError : Addr} {xbs_TooMuchError : List Value} {xsn_TooMuchError : List Str} {xsub_TooMuchError : List Value} {xab_TooMuchError : Bool} {xcol_TooMuchError : Option Bool} {xdd_TooMuchError : Option Addr} {x0_TooMuchError x1_TooMuchError x2_TooMuchError x3_TooMuchError x5_TooMuchError : Option Value}
  {c_TooMuchError : Addr}
  {xq1_TooManyError xq2_TooManyError : Str} {xN_TooManyError : Addr} {xbs_TooManyError : List Value} {xsn_TooManyError : List Str} {xsub_TooManyError : List Value} {xab_TooManyError : Bool} {xcol_TooManyError : Option Bool} {xdd_TooManyError : Option Addr} {x0_TooManyError x1_TooManyError x2_TooManyError x3_TooManyError x5_TooManyError : Option Value}
  {c_TooManyError : Addr}
  {c_StartedError : Addr}
  {c_SealedError : Addr}
  {c_OverfullError : Addr}
  {c_NotStartedError : Addr}
  {c_NotClosedError : Addr}
  {c_InvalidVolumesError : Addr}
  {c_InvalidVesselError : Addr}
  {c_InvalidTransfersError : Addr}
  {c_InvalidSubstanceError : Addr}
  {c_InvalidRowsError : Addr}
  {c_InvalidRatioError : Addr}
  {c_InvalidNumberError : Addr}
  {c_InvalidMixtureError : Addr}
  {c_InvalidGroupError : Addr}
  {c_InvalidFormatError : Addr}
  {c_InvalidContentsError : Addr}
  {c_FullError : Addr}
  {c_EmptyHistoryError : Addr}
  {c_StirError : Addr}
  (m_StirError : PySem.W.nsIn K mainGlobals "StirError" = some (some (.ref c_StirError)))
  (kc_StirError : PySem.W.keepIn K (.ref c_StirError) = true)
  (eb_StirError : PySem.W.subIn K (.ref c_StirError) (.type "BaseException") = some true)
  (et_StirError : PySem.W.typeIn K (.ref c_StirError) = some (.type "type"))
  (eh_StirError : PySem.W.hasDictIn K c_StirError = true)
  (ex_StirError : PySem.W.excIn K c_StirError [.type "ValueError", .type "Exception", .type "BaseException", .type "object"] "ValueError.__new__" = true)
  (eg_StirError : PySem.W.findIn K (.ref c_StirError) "__getattribute__" = some (some (.builtin "BaseException.__getattribute__")))
  (ek_StirError : PySem.W.findIn K (.ref c_StirError) "__getattr__" = some none)
  (ec_StirError : PySem.W.findIn K (.ref c_StirError) "__class__" = some (some (.builtin "object.__class__")))
  (em_StirError : PySem.W.mroIn K c_StirError (.type "object") = some true)
  (m_EmptyHistoryError : PySem.W.nsIn K mainGlobals "EmptyHistoryError" = some (some (.ref c_EmptyHistoryError)))
  (kc_EmptyHistoryError : PySem.W.keepIn K (.ref c_EmptyHistoryError) = true)
  (eb_EmptyHistoryError : PySem.W.subIn K (.ref c_EmptyHistoryError) (.type "BaseException") = some true)
  (et_EmptyHistoryError : PySem.W.typeIn K (.ref c_EmptyHistoryError) = some (.type "type"))
  (eh_EmptyHistoryError : PySem.W.hasDictIn K c_EmptyHistoryError = true)
  (ex_EmptyHistoryError : PySem.W.excIn K c_EmptyHistoryError [.type "ValueError", .type "Exception", .type "BaseException", .type "object"] "ValueError.__new__" = true)
  (eg_EmptyHistoryError : PySem.W.findIn K (.ref c_EmptyHistoryError) "__getattribute__" = some (some (.builtin "BaseException.__getattribute__")))
  (ek_EmptyHistoryError : PySem.W.findIn K (.ref c_EmptyHistoryError) "__getattr__" = some none)
  (ec_EmptyHistoryError : PySem.W.findIn K (.ref c_EmptyHistoryError) "__class__" = some (some (.builtin "object.__class__")))
  (em_EmptyHistoryError : PySem.W.mroIn K c_EmptyHistoryError (.type "object") = some true)
  (m_FullError : PySem.W.nsIn K mainGlobals "FullError" = some (some (.ref c_FullError)))
  (kc_FullError : PySem.W.keepIn K (.ref c_FullError) = true)
  (eb_FullError : PySem.W.subIn K (.ref c_FullError) (.type "BaseException") = some true)
  (et_FullError : PySem.W.typeIn K (.ref c_FullError) = some (.type "type"))
  (eh_FullError : PySem.W.hasDictIn K c_FullError = true)
  (ex_FullError : PySem.W.excIn K c_FullError [.type "ValueError", .type "Exception", .type "BaseException", .type "object"] "ValueError.__new__" = true)
  (eg_FullError : PySem.W.findIn K (.ref c_FullError) "__getattribute__" = some (some (.builtin "BaseException.__getattribute__")))
  (ek_FullError : PySem.W.findIn K (.ref c_FullError) "__getattr__" = some none)
  (ec_FullError : PySem.W.findIn K (.ref c_FullError) "__class__" = some (some (.builtin "object.__class__")))
  (em_FullError : PySem.W.mroIn K c_FullError (.type "object") = some true)
  (m_InvalidContentsError : PySem.W.nsIn K mainGlobals "InvalidContentsError" = some (some (.ref c_InvalidContentsError)))
  (kc_InvalidContentsError : PySem.W.keepIn K (.ref c_InvalidContentsError) = true)
  (eb_InvalidContentsError : PySem.W.subIn K (.ref c_InvalidContentsError) (.type "BaseException") = some true)
  (et_InvalidContentsError : PySem.W.typeIn K (.ref c_InvalidContentsError) = some (.type "type"))
  (eh_InvalidContentsError : PySem.W.hasDictIn K c_InvalidContentsError = true)
  (ex_InvalidContentsError : PySem.W.excIn K c_InvalidContentsError [.type "ValueError", .type "Exception", .type "BaseException", .type "object"] "ValueError.__new__" = true)
  (eg_InvalidContentsError : PySem.W.findIn K (.ref c_InvalidContentsError) "__getattribute__" = some (some (.builtin "BaseException.__getattribute__")))
  (ek_InvalidContentsError : PySem.W.findIn K (.ref c_InvalidContentsError) "__getattr__" = some none)
  (ec_InvalidContentsError : PySem.W.findIn K (.ref c_InvalidContentsError) "__class__" = some (some (.builtin "object.__class__")))
  (em_InvalidContentsError : PySem.W.mroIn K c_InvalidContentsError (.type "object") = some true)
  (m_InvalidFormatError : PySem.W.nsIn K mainGlobals "InvalidFormatError" = some (some (.ref c_InvalidFormatError)))
  (kc_InvalidFormatError : PySem.W.keepIn K (.ref c_InvalidFormatError) = true)
  (eb_InvalidFormatError : PySem.W.subIn K (.ref c_InvalidFormatError) (.type "BaseException") = some true)
  (et_InvalidFormatError : PySem.W.typeIn K (.ref c_InvalidFormatError) = some (.type "type"))
  (eh_InvalidFormatError : PySem.W.hasDictIn K c_InvalidFormatError = true)
  (ex_InvalidFormatError : PySem.W.excIn K c_InvalidFormatError [.type "ValueError", .type "Exception", .type "BaseException", .type "object"] "ValueError.__new__" = true)
  (eg_InvalidFormatError : PySem.W.findIn K (.ref c_InvalidFormatError) "__getattribute__" = some (some (.builtin "BaseException.__getattribute__")))
  (ek_InvalidFormatError : PySem.W.findIn K (.ref c_InvalidFormatError) "__getattr__" = some none)
  (ec_InvalidFormatError : PySem.W.findIn K (.ref c_InvalidFormatError) "__class__" = some (some (.builtin "object.__class__")))
  (em_InvalidFormatError : PySem.W.mroIn K c_InvalidFormatError (.type "object") = some true)
  (m_InvalidGroupError : PySem.W.nsIn K mainGlobals "InvalidGroupError" = some (some (.ref c_InvalidGroupError)))
  (kc_InvalidGroupError : PySem.W.keepIn K (.ref c_InvalidGroupError) = true)
  (eb_InvalidGroupError : PySem.W.subIn K (.ref c_InvalidGroupError) (.type "BaseException") = some true)
  (et_InvalidGroupError : PySem.W.typeIn K (.ref c_InvalidGroupError) = some (.type "type"))
  (eh_InvalidGroupError : PySem.W.hasDictIn K c_InvalidGroupError = true)
  (ex_InvalidGroupError : PySem.W.excIn K c_InvalidGroupError [.type "ValueError", .type "Exception", .type "BaseException", .type "object"] "ValueError.__new__" = true)
  (eg_InvalidGroupError : PySem.W.findIn K (.ref c_InvalidGroupError) "__getattribute__" = some (some (.builtin "BaseException.__getattribute__")))
  (ek_InvalidGroupError : PySem.W.findIn K (.ref c_InvalidGroupError) "__getattr__" = some none)
  (ec_InvalidGroupError : PySem.W.findIn K (.ref c_InvalidGroupError) "__class__" = some (some (.builtin "object.__class__")))
  (em_InvalidGroupError : PySem.W.mroIn K c_InvalidGroupError (.type "object") = some true)
  (m_InvalidMixtureError : PySem.W.nsIn K mainGlobals "InvalidMixtureError" = some (some (.ref c_InvalidMixtureError)))
  (kc_InvalidMixtureError : PySem.W.keepIn K (.ref c_InvalidMixtureError) = true)
  (eb_InvalidMixtureError : PySem.W.subIn K (.ref c_InvalidMixtureError) (.type "BaseException") = some true)
  (et_InvalidMixtureError : PySem.W.typeIn K (.ref c_InvalidMixtureError) = some (.type "type"))
  (eh_InvalidMixtureError : PySem.W.hasDictIn K c_InvalidMixtureError = true)
  (ex_InvalidMixtureError : PySem.W.excIn K c_InvalidMixtureError [.type "ValueError", .type "Exception", .type "BaseException", .type "object"] "ValueError.__new__" = true)
  (eg_InvalidMixtureError : PySem.W.findIn K (.ref c_InvalidMixtureError) "__getattribute__" = some (some (.builtin "BaseException.__getattribute__")))
  (ek_InvalidMixtureError : PySem.W.findIn K (.ref c_InvalidMixtureError) "__getattr__" = some none)
  (ec_InvalidMixtureError : PySem.W.findIn K (.ref c_InvalidMixtureError) "__class__" = some (some (.builtin "object.__class__")))
  (em_InvalidMixtureError : PySem.W.mroIn K c_InvalidMixtureError (.type "object") = some true)
  (m_InvalidNumberError : PySem.W.nsIn K mainGlobals "InvalidNumberError" = some (some (.ref c_InvalidNumberError)))
  (kc_InvalidNumberError : PySem.W.keepIn K (.ref c_InvalidNumberError) = true)
  (eb_InvalidNumberError : PySem.W.subIn K (.ref c_InvalidNumberError) (.type "BaseException") = some true)
  (et_InvalidNumberError : PySem.W.typeIn K (.ref c_InvalidNumberError) = some (.type "type"))
  (eh_InvalidNumberError : PySem.W.hasDictIn K c_InvalidNumberError = true)
  (ex_InvalidNumberError : PySem.W.excIn K c_InvalidNumberError [.type "ValueError", .type "Exception", .type "BaseException", .type "object"] "ValueError.__new__" = true)
  (eg_InvalidNumberError : PySem.W.findIn K (.ref c_InvalidNumberError) "__getattribute__" = some (some (.builtin "BaseException.__getattribute__")))
  (ek_InvalidNumberError : PySem.W.findIn K (.ref c_InvalidNumberError) "__getattr__" = some none)
  (ec_InvalidNumberError : PySem.W.findIn K (.ref c_InvalidNumberError) "__class__" = some (some (.builtin "object.__class__")))
  (em_InvalidNumberError : PySem.W.mroIn K c_InvalidNumberError (.type "object") = some true)
  (m_InvalidRatioError : PySem.W.nsIn K mainGlobals "InvalidRatioError" = some (some (.ref c_InvalidRatioError)))
  (kc_InvalidRatioError : PySem.W.keepIn K (.ref c_InvalidRatioError) = true)
  (eb_InvalidRatioError : PySem.W.subIn K (.ref c_InvalidRatioError) (.type "BaseException") = some true)
  (et_InvalidRatioError : PySem.W.typeIn K (.ref c_InvalidRatioError) = some (.type "type"))
  (eh_InvalidRatioError : PySem.W.hasDictIn K c_InvalidRatioError = true)
  (ex_InvalidRatioError : PySem.W.excIn K c_InvalidRatioError [.type "ValueError", .type "Exception", .type "BaseException", .type "object"] "ValueError.__new__" = true)
  (eg_InvalidRatioError : PySem.W.findIn K (.ref c_InvalidRatioError) "__getattribute__" = some (some (.builtin "BaseException.__getattribute__")))
  (ek_InvalidRatioError : PySem.W.findIn K (.ref c_InvalidRatioError) "__getattr__" = some none)
  (ec_InvalidRatioError : PySem.W.findIn K (.ref c_InvalidRatioError) "__class__" = some (some (.builtin "object.__class__")))
  (em_InvalidRatioError : PySem.W.mroIn K c_InvalidRatioError (.type "object") = some true)
  (m_InvalidRowsError : PySem.W.nsIn K mainGlobals "InvalidRowsError" = some (some (.ref c_InvalidRowsError)))
  (kc_InvalidRowsError : PySem.W.keepIn K (.ref c_InvalidRowsError) = true)
  (eb_InvalidRowsError : PySem.W.subIn K (.ref c_InvalidRowsError) (.type "BaseException") = some true)
  (et_InvalidRowsError : PySem.W.typeIn K (.ref c_InvalidRowsError) = some (.type "type"))
  (eh_InvalidRowsError : PySem.W.hasDictIn K c_InvalidRowsError = true)
  (ex_InvalidRowsError : PySem.W.excIn K c_InvalidRowsError [.type "ValueError", .type "Exception", .type "BaseException", .type "object"] "ValueError.__new__" = true)
  (eg_InvalidRowsError : PySem.W.findIn K (.ref c_InvalidRowsError) "__getattribute__" = some (some (.builtin "BaseException.__getattribute__")))
  (ek_InvalidRowsError : PySem.W.findIn K (.ref c_InvalidRowsError) "__getattr__" = some none)
  (ec_InvalidRowsError : PySem.W.findIn K (.ref c_InvalidRowsError) "__class__" = some (some (.builtin "object.__class__")))
  (em_InvalidRowsError : PySem.W.mroIn K c_InvalidRowsError (.type "object") = some true)
  (m_InvalidSubstanceError : PySem.W.nsIn K mainGlobals "InvalidSubstanceError" = some (some (.ref c_InvalidSubstanceError)))
  (kc_InvalidSubstanceError : PySem.W.keepIn K (.ref c_InvalidSubstanceError) = true)
  (eb_InvalidSubstanceError : PySem.W.subIn K (.ref c_InvalidSubstanceError) (.type "BaseException") = some true)
  (et_InvalidSubstanceError : PySem.W.typeIn K (.ref c_InvalidSubstanceError) = some (.type "type"))
  (eh_InvalidSubstanceError : PySem.W.hasDictIn K c_InvalidSubstanceError = true)
  (ex_InvalidSubstanceError : PySem.W.excIn K c_InvalidSubstanceError [.type "ValueError", .type "Exception", .type "BaseException", .type "object"] "ValueError.__new__" = true)
  (eg_InvalidSubstanceError : PySem.W.findIn K (.ref c_InvalidSubstanceError) "__getattribute__" = some (some (.builtin "BaseException.__getattribute__")))
  (ek_InvalidSubstanceError : PySem.W.findIn K (.ref c_InvalidSubstanceError) "__getattr__" = some none)
  (ec_InvalidSubstanceError : PySem.W.findIn K (.ref c_InvalidSubstanceError) "__class__" = some (some (.builtin "object.__class__")))
  (em_InvalidSubstanceError : PySem.W.mroIn K c_InvalidSubstanceError (.type "object") = some true)
  (m_InvalidTransfersError : PySem.W.nsIn K mainGlobals "InvalidTransfersError" = some (some (.ref c_InvalidTransfersError)))
  (kc_InvalidTransfersError : PySem.W.keepIn K (.ref c_InvalidTransfersError) = true)
  (eb_InvalidTransfersError : PySem.W.subIn K (.ref c_InvalidTransfersError) (.type "BaseException") = some true)
  (et_InvalidTransfersError : PySem.W.typeIn K (.ref c_InvalidTransfersError) = some (.type "type"))
  (eh_InvalidTransfersError : PySem.W.hasDictIn K c_InvalidTransfersError = true)
  (ex_InvalidTransfersError : PySem.W.excIn K c_InvalidTransfersError [.type "ValueError", .type "Exception", .type "BaseException", .type "object"] "ValueError.__new__" = true)
  (eg_InvalidTransfersError : PySem.W.findIn K (.ref c_InvalidTransfersError) "__getattribute__" = some (some (.builtin "BaseException.__getattribute__")))
  (ek_InvalidTransfersError : PySem.W.findIn K (.ref c_InvalidTransfersError) "__getattr__" = some none)
  (ec_InvalidTransfersError : PySem.W.findIn K (.ref c_InvalidTransfersError) "__class__" = some (some (.builtin "object.__class__")))
  (em_InvalidTransfersError : PySem.W.mroIn K c_InvalidTransfersError (.type "object") = some true)
  (m_InvalidVesselError : PySem.W.nsIn K mainGlobals "InvalidVesselError" = some (some (.ref c_InvalidVesselError)))
  (kc_InvalidVesselError : PySem.W.keepIn K (.ref c_InvalidVesselError) = true)
  (eb_InvalidVesselError : PySem.W.subIn K (.ref c_InvalidVesselError) (.type "BaseException") = some true)
  (et_InvalidVesselError : PySem.W.typeIn K (.ref c_InvalidVesselError) = some (.type "type"))
  (eh_InvalidVesselError : PySem.W.hasDictIn K c_InvalidVesselError = true)
  (ex_InvalidVesselError : PySem.W.excIn K c_InvalidVesselError [.type "ValueError", .type "Exception", .type "BaseException", .type "object"] "ValueError.__new__" = true)
  (eg_InvalidVesselError : PySem.W.findIn K (.ref c_InvalidVesselError) "__getattribute__" = some (some (.builtin "BaseException.__getattribute__")))
  (ek_InvalidVesselError : PySem.W.findIn K (.ref c_InvalidVesselError) "__getattr__" = some none)
  (ec_InvalidVesselError : PySem.W.findIn K (.ref c_InvalidVesselError) "__class__" = some (some (.builtin "object.__class__")))
  (em_InvalidVesselError : PySem.W.mroIn K c_InvalidVesselError (.type "object") = some true)
  (m_InvalidVolumesError : PySem.W.nsIn K mainGlobals "InvalidVolumesError" = some (some (.ref c_InvalidVolumesError)))
  (kc_InvalidVolumesError : PySem.W.keepIn K (.ref c_InvalidVolumesError) = true)
  (eb_InvalidVolumesError : PySem.W.subIn K (.ref c_InvalidVolumesError) (.type "BaseException") = some true)
  (et_InvalidVolumesError : PySem.W.typeIn K (.ref c_InvalidVolumesError) = some (.type "type"))
  (eh_InvalidVolumesError : PySem.W.hasDictIn K c_InvalidVolumesError = true)
  (ex_InvalidVolumesError : PySem.W.excIn K c_InvalidVolumesError [.type "ValueError", .type "Exception", .type "BaseException", .type "object"] "ValueError.__new__" = true)
  (eg_InvalidVolumesError : PySem.W.findIn K (.ref c_InvalidVolumesError) "__getattribute__" = some (some (.builtin "BaseException.__getattribute__")))
  (ek_InvalidVolumesError : PySem.W.findIn K (.ref c_InvalidVolumesError) "__getattr__" = some none)
  (ec_InvalidVolumesError : PySem.W.findIn K (.ref c_InvalidVolumesError) "__class__" = some (some (.builtin "object.__class__")))
  (em_InvalidVolumesError : PySem.W.mroIn K c_InvalidVolumesError (.type "object") = some true)
  (m_NotClosedError : PySem.W.nsIn K mainGlobals "NotClosedError" = some (some (.ref c_NotClosedError)))
  (kc_NotClosedError : PySem.W.keepIn K (.ref c_NotClosedError) = true)
  (eb_NotClosedError : PySem.W.subIn K (.ref c_NotClosedError) (.type "BaseException") = some true)
  (et_NotClosedError : PySem.W.typeIn K (.ref c_NotClosedError) = some (.type "type"))
  (eh_NotClosedError : PySem.W.hasDictIn K c_NotClosedError = true)
  (ex_NotClosedError : PySem.W.excIn K c_NotClosedError [.type "ValueError", .type "Exception", .type "BaseException", .type "object"] "ValueError.__new__" = true)
  (eg_NotClosedError : PySem.W.findIn K (.ref c_NotClosedError) "__getattribute__" = some (some (.builtin "BaseException.__getattribute__")))
  (ek_NotClosedError : PySem.W.findIn K (.ref c_NotClosedError) "__getattr__" = some none)
  (ec_NotClosedError : PySem.W.findIn K (.ref c_NotClosedError) "__class__" = some (some (.builtin "object.__class__")))
  (em_NotClosedError : PySem.W.mroIn K c_NotClosedError (.type "object") = some true)
  (m_NotStartedError : PySem.W.nsIn K mainGlobals "NotStartedError" = some (some (.ref c_NotStartedError)))
  (kc_NotStartedError : PySem.W.keepIn K (.ref c_NotStartedError) = true)
  (eb_NotStartedError : PySem.W.subIn K (.ref c_NotStartedError) (.type "BaseException") = some true)
  (et_NotStartedError : PySem.W.typeIn K (.ref c_NotStartedError) = some (.type "type"))
  (eh_NotStartedError : PySem.W.hasDictIn K c_NotStartedError = true)
  (ex_NotStartedError : PySem.W.excIn K c_NotStartedError [.type "ValueError", .type "Exception", .type "BaseException", .type "object"] "ValueError.__new__" = true)
  (eg_NotStartedError : PySem.W.findIn K (.ref c_NotStartedError) "__getattribute__" = some (some (.builtin "BaseException.__getattribute__")))
  (ek_NotStartedError : PySem.W.findIn K (.ref c_NotStartedError) "__getattr__" = some none)
  (ec_NotStartedError : PySem.W.findIn K (.ref c_NotStartedError) "__class__" = some (some (.builtin "object.__class__")))
  (em_NotStartedError : PySem.W.mroIn K c_NotStartedError (.type "object") = some true)
  (m_OverfullError : PySem.W.nsIn K mainGlobals "OverfullError" = some (some (.ref c_OverfullError)))
  (kc_OverfullError : PySem.W.keepIn K (.ref c_OverfullError) = true)
  (eb_OverfullError : PySem.W.subIn K (.ref c_OverfullError) (.type "BaseException") = some true)
  (et_OverfullError : PySem.W.typeIn K (.ref c_OverfullError) = some (.type "type"))
  (eh_OverfullError : PySem.W.hasDictIn K c_OverfullError = true)
  (ex_OverfullError : PySem.W.excIn K c_OverfullError [.type "ValueError", .type "Exception", .type "BaseException", .type "object"] "ValueError.__new__" = true)
  (eg_OverfullError : PySem.W.findIn K (.ref c_OverfullError) "__getattribute__" = some (some (.builtin "BaseException.__getattribute__")))
  (ek_OverfullError : PySem.W.findIn K (.ref c_OverfullError) "__getattr__" = some none)
  (ec_OverfullError : PySem.W.findIn K (.ref c_OverfullError) "__class__" = some (some (.builtin "object.__class__")))
  (em_OverfullError : PySem.W.mroIn K c_OverfullError (.type "object") = some true)
  (m_SealedError : PySem.W.nsIn K mainGlobals "SealedError" = some (some (.ref c_SealedError)))
  (kc_SealedError : PySem.W.keepIn K (.ref c_SealedError) = true)
  (eb_SealedError : PySem.W.subIn K (.ref c_SealedError) (.type "BaseException") = some true)
  (et_SealedError : PySem.W.typeIn K (.ref c_SealedError) = some (.type "type"))
  (eh_SealedError : PySem.W.hasDictIn K c_SealedError = true)
  (ex_SealedError : PySem.W.excIn K c_SealedError [.type "ValueError", .type "Exception", .type "BaseException", .type "object"] "ValueError.__new__" = true)
  (eg_SealedError : PySem.W.findIn K (.ref c_SealedError) "__getattribute__" = some (some (.builtin "BaseException.__getattribute__")))
  (ek_SealedError : PySem.W.findIn K (.ref c_SealedError) "__getattr__" = some none)
  (ec_SealedError : PySem.W.findIn K (.ref c_SealedError) "__class__" = some (some (.builtin "object.__class__")))
  (em_SealedError : PySem.W.mroIn K c_SealedError (.type "object") = some true)
  (m_StartedError : PySem.W.nsIn K mainGlobals "StartedError" = some (some (.ref c_StartedError)))
  (kc_StartedError : PySem.W.keepIn K (.ref c_StartedError) = true)
  (eb_StartedError : PySem.W.subIn K (.ref c_StartedError) (.type "BaseException") = some true)
  (et_StartedError : PySem.W.typeIn K (.ref c_StartedError) = some (.type "type"))
  (eh_StartedError : PySem.W.hasDictIn K c_StartedError = true)
  (ex_StartedError : PySem.W.excIn K c_StartedError [.type "ValueError", .type "Exception", .type "BaseException", .type "object"] "ValueError.__new__" = true)
  (eg_StartedError : PySem.W.findIn K (.ref c_StartedError) "__getattribute__" = some (some (.builtin "BaseException.__getattribute__")))
  (ek_StartedError : PySem.W.findIn K (.ref c_StartedError) "__getattr__" = some none)
  (ec_StartedError : PySem.W.findIn K (.ref c_StartedError) "__class__" = some (some (.builtin "object.__class__")))
  (em_StartedError : PySem.W.mroIn K c_StartedError (.type "object") = some true)
  (m_TooManyError : PySem.W.nsIn K mainGlobals "TooManyError" = some (some (.ref c_TooManyError)))
  (kc_TooManyError : PySem.W.keepIn K (.ref c_TooManyError) = true)
  (eb_TooManyError : PySem.W.subIn K (.ref c_TooManyError) (.type "BaseException") = some true)
  (et_TooManyError : PySem.W.typeIn K (.ref c_TooManyError) = some (.type "type"))
  (eh_TooManyError : PySem.W.hasDictIn K c_TooManyError = true)
  (xl_TooManyError : K.lookup c_TooManyError = some (excClassObj xq1_TooManyError xq2_TooManyError c_TooManyError xN_TooManyError xbs_TooManyError [.ref c_StirError, .type "ValueError", .type "Exception", .type "BaseException", .type "object"] true xsn_TooManyError xsub_TooManyError xab_TooManyError xcol_TooManyError xdd_TooManyError x0_TooManyError x1_TooManyError x2_TooManyError x3_TooManyError x5_TooManyError "ValueError.__new__"))
  (xs_TooManyError : PySem.W.findIn K (.ref c_TooManyError) "__setattr__" = some (some (.builtin "object.__setattr__")))
  (xn_TooManyError : PySem.W.findIn K (.ref c_TooManyError) "limit" = some none)
  (eg_TooManyError : PySem.W.findIn K (.ref c_TooManyError) "__getattribute__" = some (some (.builtin "BaseException.__getattribute__")))
  (ek_TooManyError : PySem.W.findIn K (.ref c_TooManyError) "__getattr__" = some none)
  (ec_TooManyError : PySem.W.findIn K (.ref c_TooManyError) "__class__" = some (some (.builtin "object.__class__")))
  (em_TooManyError : PySem.W.mroIn K c_TooManyError (.type "object") = some true)
  (m_TooMuchError : PySem.W.nsIn K mainGlobals "TooMuchError" = some (some (.ref c_TooMuchError)))
  (kc_TooMuchError : PySem.W.keepIn K (.ref c_TooMuchError) = true)
  (eb_TooMuchError : PySem.W.subIn K (.ref c_TooMuchError) (.type "BaseException") = some true)
  (et_TooMuchError : PySem.W.typeIn K (.ref c_TooMuchError) = some (.type "type"))
  (eh_TooMuchError : PySem.W.hasDictIn K c_TooMuchError = true)
  (xl_TooMuchError : K.lookup c_TooMuchError = some (excClassObj xq1_TooMuchError xq2_TooMuchError c_TooMuchError xN_TooMuchError xbs_TooMuchError [.ref c_StirError, .type "ValueError", .type "Exception", .type "BaseException", .type "object"] true xsn_TooMuchError xsub_TooMuchError xab_TooMuchError xcol_TooMuchError xdd_TooMuchError x0_TooMuchError x1_TooMuchError x2_TooMuchError x3_TooMuchError x5_TooMuchError "ValueError.__new__"))
  (xs_TooMuchError : PySem.W.findIn K (.ref c_TooMuchError) "__setattr__" = some (some (.builtin "object.__setattr__")))
  (xn_TooMuchError : PySem.W.findIn K (.ref c_TooMuchError) "index" = some none)
  (eg_TooMuchError : PySem.W.findIn K (.ref c_TooMuchError) "__getattribute__" = some (some (.builtin "BaseException.__getattribute__")))
  (ek_TooMuchError : PySem.W.findIn K (.ref c_TooMuchError) "__getattr__" = some none)
  (ec_TooMuchError : PySem.W.findIn K (.ref c_TooMuchError) "__class__" = some (some (.builtin "object.__class__")))
  (em_TooMuchError : PySem.W.mroIn K c_TooMuchError (.type "object") = some true)
  (m_TooSmallError : PySem.W.nsIn K mainGlobals "TooSmallError" = some (some (.ref c_TooSmallError)))
  (kc_TooSmallError : PySem.W.keepIn K (.ref c_TooSmallError) = true)
  (eb_TooSmallError : PySem.W.subIn K (.ref c_TooSmallError) (.type "BaseException") = some true)
  (et_TooSmallError : PySem.W.typeIn K (.ref c_TooSmallError) = some (.type "type"))
  (eh_TooSmallError : PySem.W.hasDictIn K c_TooSmallError = true)
  (ex_TooSmallError : PySem.W.excIn K c_TooSmallError [.type "ValueError", .type "Exception", .type "BaseException", .type "object"] "ValueError.__new__" = true)
  (eg_TooSmallError : PySem.W.findIn K (.ref c_TooSmallError) "__getattribute__" = some (some (.builtin "BaseException.__getattribute__")))
  (ek_TooSmallError : PySem.W.findIn K (.ref c_TooSmallError) "__getattr__" = some none)
  (ec_TooSmallError : PySem.W.findIn K (.ref c_TooSmallError) "__class__" = some (some (.builtin "object.__class__")))
  (em_TooSmallError : PySem.W.mroIn K c_TooSmallError (.type "object") = some true)
  (m_ZeroRatioError : PySem.W.nsIn K mainGlobals "ZeroRatioError" = some (some (.ref c_ZeroRatioError)))
  (kc_ZeroRatioError : PySem.W.keepIn K (.ref c_ZeroRatioError) = true)
  (eb_ZeroRatioError : PySem.W.subIn K (.ref c_ZeroRatioError) (.type "BaseException") = some true)
  (et_ZeroRatioError : PySem.W.typeIn K (.ref c_ZeroRatioError) = some (.type "type"))
  (eh_ZeroRatioError : PySem.W.hasDictIn K c_ZeroRatioError = true)
  (ex_ZeroRatioError : PySem.W.excIn K c_ZeroRatioError [.type "ValueError", .type "Exception", .type "BaseException", .type "object"] "ValueError.__new__" = true)
  (eg_ZeroRatioError : PySem.W.findIn K (.ref c_ZeroRatioError) "__getattribute__" = some (some (.builtin "BaseException.__getattribute__")))
  (ek_ZeroRatioError : PySem.W.findIn K (.ref c_ZeroRatioError) "__getattr__" = some none)
  (ec_ZeroRatioError : PySem.W.findIn K (.ref c_ZeroRatioError) "__class__" = some (some (.builtin "object.__class__")))
  (em_ZeroRatioError : PySem.W.mroIn K c_ZeroRatioError (.type "object") = some true)
  (i_TooMuchError_init : PySem.W.findIn K (.ref c_TooMuchError) "__init__" = some (some (.ref a_TooMuchError_init)))
  (f_TooMuchError_init : PySem.W.isFn K (.ref a_TooMuchError_init) = true)
  (l_TooMuchError_init : K.lookup a_TooMuchError_init = some ⟨oc_TooMuchError_init, od_TooMuchError_init, .func (PySem.W.fnOf "__init__" "TooMuchError.__init__" (defArgs s_TooMuchError_init) (defBody s_TooMuchError_init) (defScope s_TooMuchError_init) (.none) kV_TooMuchError_init dc_TooMuchError_init pm_TooMuchError_init an_TooMuchError_init cd_TooMuchError_init ct_TooMuchError_init), sl_TooMuchError_init⟩)
  (k_TooMuchError_init : PySem.W.codeIn K cd_TooMuchError_init "TooMuchError.__init__" = true)
  (e_TooMuchError_init : PySem.W.keepIn K (.ref a_TooMuchError_init) = true)
  (i_TooManyError_init : PySem.W.findIn K (.ref c_TooManyError) "__init__" = some (some (.ref a_TooManyError_init)))
  (f_TooManyError_init : PySem.W.isFn K (.ref a_TooManyError_init) = true)
  (l_TooManyError_init : K.lookup a_TooManyError_init = some ⟨oc_TooManyError_init, od_TooManyError_init, .func (PySem.W.fnOf "__init__" "TooManyError.__init__" (defArgs s_TooManyError_init) (defBody s_TooManyError_init) (defScope s_TooManyError_init) (.none) kV_TooManyError_init dc_TooManyError_init pm_TooManyError_init an_TooManyError_init cd_TooManyError_init ct_TooManyError_init), sl_TooManyError_init⟩)
  (k_TooManyError_init : PySem.W.codeIn K cd_TooManyError_init "TooManyError.__init__" = true)
  (e_TooManyError_init : PySem.W.keepIn K (.ref a_TooManyError_init) = true)
  (m_law_bag : PySem.W.nsIn K mainGlobals "_law_bag" = some (some (.ref a_law_bag)))
  (l_law_bag : K.lookup a_law_bag = some ⟨oc_law_bag, od_law_bag, .func (PySem.W.fnOf "_law_bag" "_law_bag" (defArgs s_law_bag) (defBody s_law_bag) (defScope s_law_bag) (.none) kV_law_bag dc_law_bag pm_law_bag an_law_bag cd_law_bag ct_law_bag), sl_law_bag⟩)
  (k_law_bag : PySem.W.codeIn K cd_law_bag "_law_bag" = true)
  (e_law_bag : PySem.W.keepIn K (.ref a_law_bag) = true)
  (m_law_draw : PySem.W.nsIn K mainGlobals "_law_draw" = some (some (.ref a_law_draw)))
  (l_law_draw : K.lookup a_law_draw = some ⟨oc_law_draw, od_law_draw, .func (PySem.W.fnOf "_law_draw" "_law_draw" (defArgs s_law_draw) (defBody s_law_draw) (defScope s_law_draw) (.none) kV_law_draw dc_law_draw pm_law_draw an_law_draw cd_law_draw ct_law_draw), sl_law_draw⟩)
  (k_law_draw : PySem.W.codeIn K cd_law_draw "_law_draw" = true)
  (e_law_draw : PySem.W.keepIn K (.ref a_law_draw) = true)
  (m_law_marks : PySem.W.nsIn K mainGlobals "_law_marks" = some (some (.ref a_law_marks)))
  (l_law_marks : K.lookup a_law_marks = some ⟨oc_law_marks, od_law_marks, .func (PySem.W.fnOf "_law_marks" "_law_marks" (defArgs s_law_marks) (defBody s_law_marks) (defScope s_law_marks) (.none) kV_law_marks dc_law_marks pm_law_marks an_law_marks cd_law_marks ct_law_marks), sl_law_marks⟩)
  (k_law_marks : PySem.W.codeIn K cd_law_marks "_law_marks" = true)
  (e_law_marks : PySem.W.keepIn K (.ref a_law_marks) = true)
  (m_law_right : PySem.W.nsIn K mainGlobals "_law_right" = some (some (.ref a_law_right)))
  (l_law_right : K.lookup a_law_right = some ⟨oc_law_right, od_law_right, .func (PySem.W.fnOf "_law_right" "_law_right" (defArgs s_law_right) (defBody s_law_right) (defScope s_law_right) (.none) kV_law_right dc_law_right pm_law_right an_law_right cd_law_right ct_law_right), sl_law_right⟩)
  (k_law_right : PySem.W.codeIn K cd_law_right "_law_right" = true)
  (e_law_right : PySem.W.keepIn K (.ref a_law_right) = true)
  (m_law : PySem.W.nsIn K mainGlobals "law" = some (some (.ref a_law)))
  (l_law : K.lookup a_law = some ⟨oc_law, od_law, .func (PySem.W.fnOf "law" "law" (defArgs s_law) (defBody s_law) (defScope s_law) (.none) kV_law dc_law pm_law an_law cd_law ct_law), sl_law⟩)
  (k_law : PySem.W.codeIn K cd_law "law" = true)
  (e_law : PySem.W.keepIn K (.ref a_law) = true)
  (sg_ : PySem.W.specialIn K (.builtin "object.__class__") "__get__" = some (some (.builtin "getset_descriptor.__get__")))
  (st_ : PySem.W.takesIn K (.builtin "object.__class__") = some true)
  (ki_EmptyHistoryError_StirError : PySem.W.kitOne K (.ref c_EmptyHistoryError) (.ref c_StirError) = some true)
  (ki_FullError_StirError : PySem.W.kitOne K (.ref c_FullError) (.ref c_StirError) = some true)
  (ki_InvalidContentsError_StirError : PySem.W.kitOne K (.ref c_InvalidContentsError) (.ref c_StirError) = some true)
  (ki_InvalidFormatError_StirError : PySem.W.kitOne K (.ref c_InvalidFormatError) (.ref c_StirError) = some true)
  (ki_InvalidGroupError_StirError : PySem.W.kitOne K (.ref c_InvalidGroupError) (.ref c_StirError) = some true)
  (ki_InvalidMixtureError_StirError : PySem.W.kitOne K (.ref c_InvalidMixtureError) (.ref c_StirError) = some true)
  (ki_InvalidNumberError_StirError : PySem.W.kitOne K (.ref c_InvalidNumberError) (.ref c_StirError) = some true)
  (ki_InvalidRatioError_StirError : PySem.W.kitOne K (.ref c_InvalidRatioError) (.ref c_StirError) = some true)
  (ki_InvalidRowsError_StirError : PySem.W.kitOne K (.ref c_InvalidRowsError) (.ref c_StirError) = some true)
  (ki_InvalidSubstanceError_StirError : PySem.W.kitOne K (.ref c_InvalidSubstanceError) (.ref c_StirError) = some true)
  (ki_InvalidTransfersError_StirError : PySem.W.kitOne K (.ref c_InvalidTransfersError) (.ref c_StirError) = some true)
  (ki_InvalidVesselError_StirError : PySem.W.kitOne K (.ref c_InvalidVesselError) (.ref c_StirError) = some true)
  (ki_InvalidVolumesError_StirError : PySem.W.kitOne K (.ref c_InvalidVolumesError) (.ref c_StirError) = some true)
  (ki_NotClosedError_StirError : PySem.W.kitOne K (.ref c_NotClosedError) (.ref c_StirError) = some true)
  (ki_NotStartedError_StirError : PySem.W.kitOne K (.ref c_NotStartedError) (.ref c_StirError) = some true)
  (ki_OverfullError_StirError : PySem.W.kitOne K (.ref c_OverfullError) (.ref c_StirError) = some true)
  (ki_SealedError_StirError : PySem.W.kitOne K (.ref c_SealedError) (.ref c_StirError) = some true)
  (ki_StartedError_StirError : PySem.W.kitOne K (.ref c_StartedError) (.ref c_StirError) = some true)
  (ki_TooManyError_StirError : PySem.W.kitOne K (.ref c_TooManyError) (.ref c_StirError) = some true)
  (ki_TooMuchError_StirError : PySem.W.kitOne K (.ref c_TooMuchError) (.ref c_StirError) = some true)
  (ki_TooSmallError_StirError : PySem.W.kitOne K (.ref c_TooSmallError) (.ref c_StirError) = some true)
  (ki_ZeroRatioError_StirError : PySem.W.kitOne K (.ref c_ZeroRatioError) (.ref c_StirError) = some true)
  (ki_EmptyHistoryError_ValueError : PySem.W.kitOne K (.ref c_EmptyHistoryError) (.type "ValueError") = some true)
  (ki_FullError_ValueError : PySem.W.kitOne K (.ref c_FullError) (.type "ValueError") = some true)
  (ki_InvalidContentsError_ValueError : PySem.W.kitOne K (.ref c_InvalidContentsError) (.type "ValueError") = some true)
  (ki_InvalidFormatError_ValueError : PySem.W.kitOne K (.ref c_InvalidFormatError) (.type "ValueError") = some true)
  (ki_InvalidGroupError_ValueError : PySem.W.kitOne K (.ref c_InvalidGroupError) (.type "ValueError") = some true)
  (ki_InvalidMixtureError_ValueError : PySem.W.kitOne K (.ref c_InvalidMixtureError) (.type "ValueError") = some true)
  (ki_InvalidNumberError_ValueError : PySem.W.kitOne K (.ref c_InvalidNumberError) (.type "ValueError") = some true)
  (ki_InvalidRatioError_ValueError : PySem.W.kitOne K (.ref c_InvalidRatioError) (.type "ValueError") = some true)
  (ki_InvalidRowsError_ValueError : PySem.W.kitOne K (.ref c_InvalidRowsError) (.type "ValueError") = some true)
  (ki_InvalidSubstanceError_ValueError : PySem.W.kitOne K (.ref c_InvalidSubstanceError) (.type "ValueError") = some true)
  (ki_InvalidTransfersError_ValueError : PySem.W.kitOne K (.ref c_InvalidTransfersError) (.type "ValueError") = some true)
  (ki_InvalidVesselError_ValueError : PySem.W.kitOne K (.ref c_InvalidVesselError) (.type "ValueError") = some true)
  (ki_InvalidVolumesError_ValueError : PySem.W.kitOne K (.ref c_InvalidVolumesError) (.type "ValueError") = some true)
  (ki_NotClosedError_ValueError : PySem.W.kitOne K (.ref c_NotClosedError) (.type "ValueError") = some true)
  (ki_NotStartedError_ValueError : PySem.W.kitOne K (.ref c_NotStartedError) (.type "ValueError") = some true)
  (ki_OverfullError_ValueError : PySem.W.kitOne K (.ref c_OverfullError) (.type "ValueError") = some true)
  (ki_SealedError_ValueError : PySem.W.kitOne K (.ref c_SealedError) (.type "ValueError") = some true)
  (ki_StartedError_ValueError : PySem.W.kitOne K (.ref c_StartedError) (.type "ValueError") = some true)
  (ki_TooManyError_ValueError : PySem.W.kitOne K (.ref c_TooManyError) (.type "ValueError") = some true)
  (ki_TooMuchError_ValueError : PySem.W.kitOne K (.ref c_TooMuchError) (.type "ValueError") = some true)
  (ki_TooSmallError_ValueError : PySem.W.kitOne K (.ref c_TooSmallError) (.type "ValueError") = some true)
  (ki_ZeroRatioError_ValueError : PySem.W.kitOne K (.ref c_ZeroRatioError) (.type "ValueError") = some true)
  (row_EmptyHistoryError : _root_.G.RowK K (.ref c_EmptyHistoryError) [c_EmptyHistoryError, c_FullError, c_InvalidContentsError, c_InvalidFormatError, c_InvalidGroupError, c_InvalidMixtureError, c_InvalidNumberError, c_InvalidRatioError, c_InvalidRowsError, c_InvalidSubstanceError, c_InvalidTransfersError, c_InvalidVesselError, c_InvalidVolumesError, c_NotClosedError, c_NotStartedError, c_OverfullError, c_SealedError, c_StartedError, c_TooManyError, c_TooMuchError, c_TooSmallError, c_ZeroRatioError] 0 (fun j => decide (j = 0)))
  (row_FullError : _root_.G.RowK K (.ref c_FullError) [c_EmptyHistoryError, c_FullError, c_InvalidContentsError, c_InvalidFormatError, c_InvalidGroupError, c_InvalidMixtureError, c_InvalidNumberError, c_InvalidRatioError, c_InvalidRowsError, c_InvalidSubstanceError, c_InvalidTransfersError, c_InvalidVesselError, c_InvalidVolumesError, c_NotClosedError, c_NotStartedError, c_OverfullError, c_SealedError, c_StartedError, c_TooManyError, c_TooMuchError, c_TooSmallError, c_ZeroRatioError] 0 (fun j => decide (j = 1)))
  (row_InvalidContentsError : _root_.G.RowK K (.ref c_InvalidContentsError) [c_EmptyHistoryError, c_FullError, c_InvalidContentsError, c_InvalidFormatError, c_InvalidGroupError, c_InvalidMixtureError, c_InvalidNumberError, c_InvalidRatioError, c_InvalidRowsError, c_InvalidSubstanceError, c_InvalidTransfersError, c_InvalidVesselError, c_InvalidVolumesError, c_NotClosedError, c_NotStartedError, c_OverfullError, c_SealedError, c_StartedError, c_TooManyError, c_TooMuchError, c_TooSmallError, c_ZeroRatioError] 0 (fun j => decide (j = 2)))
  (row_InvalidFormatError : _root_.G.RowK K (.ref c_InvalidFormatError) [c_EmptyHistoryError, c_FullError, c_InvalidContentsError, c_InvalidFormatError, c_InvalidGroupError, c_InvalidMixtureError, c_InvalidNumberError, c_InvalidRatioError, c_InvalidRowsError, c_InvalidSubstanceError, c_InvalidTransfersError, c_InvalidVesselError, c_InvalidVolumesError, c_NotClosedError, c_NotStartedError, c_OverfullError, c_SealedError, c_StartedError, c_TooManyError, c_TooMuchError, c_TooSmallError, c_ZeroRatioError] 0 (fun j => decide (j = 3)))
  (row_InvalidGroupError : _root_.G.RowK K (.ref c_InvalidGroupError) [c_EmptyHistoryError, c_FullError, c_InvalidContentsError, c_InvalidFormatError, c_InvalidGroupError, c_InvalidMixtureError, c_InvalidNumberError, c_InvalidRatioError, c_InvalidRowsError, c_InvalidSubstanceError, c_InvalidTransfersError, c_InvalidVesselError, c_InvalidVolumesError, c_NotClosedError, c_NotStartedError, c_OverfullError, c_SealedError, c_StartedError, c_TooManyError, c_TooMuchError, c_TooSmallError, c_ZeroRatioError] 0 (fun j => decide (j = 4)))
  (row_InvalidMixtureError : _root_.G.RowK K (.ref c_InvalidMixtureError) [c_EmptyHistoryError, c_FullError, c_InvalidContentsError, c_InvalidFormatError, c_InvalidGroupError, c_InvalidMixtureError, c_InvalidNumberError, c_InvalidRatioError, c_InvalidRowsError, c_InvalidSubstanceError, c_InvalidTransfersError, c_InvalidVesselError, c_InvalidVolumesError, c_NotClosedError, c_NotStartedError, c_OverfullError, c_SealedError, c_StartedError, c_TooManyError, c_TooMuchError, c_TooSmallError, c_ZeroRatioError] 0 (fun j => decide (j = 5)))
  (row_InvalidNumberError : _root_.G.RowK K (.ref c_InvalidNumberError) [c_EmptyHistoryError, c_FullError, c_InvalidContentsError, c_InvalidFormatError, c_InvalidGroupError, c_InvalidMixtureError, c_InvalidNumberError, c_InvalidRatioError, c_InvalidRowsError, c_InvalidSubstanceError, c_InvalidTransfersError, c_InvalidVesselError, c_InvalidVolumesError, c_NotClosedError, c_NotStartedError, c_OverfullError, c_SealedError, c_StartedError, c_TooManyError, c_TooMuchError, c_TooSmallError, c_ZeroRatioError] 0 (fun j => decide (j = 6)))
  (row_InvalidRatioError : _root_.G.RowK K (.ref c_InvalidRatioError) [c_EmptyHistoryError, c_FullError, c_InvalidContentsError, c_InvalidFormatError, c_InvalidGroupError, c_InvalidMixtureError, c_InvalidNumberError, c_InvalidRatioError, c_InvalidRowsError, c_InvalidSubstanceError, c_InvalidTransfersError, c_InvalidVesselError, c_InvalidVolumesError, c_NotClosedError, c_NotStartedError, c_OverfullError, c_SealedError, c_StartedError, c_TooManyError, c_TooMuchError, c_TooSmallError, c_ZeroRatioError] 0 (fun j => decide (j = 7)))
  (row_InvalidRowsError : _root_.G.RowK K (.ref c_InvalidRowsError) [c_EmptyHistoryError, c_FullError, c_InvalidContentsError, c_InvalidFormatError, c_InvalidGroupError, c_InvalidMixtureError, c_InvalidNumberError, c_InvalidRatioError, c_InvalidRowsError, c_InvalidSubstanceError, c_InvalidTransfersError, c_InvalidVesselError, c_InvalidVolumesError, c_NotClosedError, c_NotStartedError, c_OverfullError, c_SealedError, c_StartedError, c_TooManyError, c_TooMuchError, c_TooSmallError, c_ZeroRatioError] 0 (fun j => decide (j = 8)))
  (row_InvalidSubstanceError : _root_.G.RowK K (.ref c_InvalidSubstanceError) [c_EmptyHistoryError, c_FullError, c_InvalidContentsError, c_InvalidFormatError, c_InvalidGroupError, c_InvalidMixtureError, c_InvalidNumberError, c_InvalidRatioError, c_InvalidRowsError, c_InvalidSubstanceError, c_InvalidTransfersError, c_InvalidVesselError, c_InvalidVolumesError, c_NotClosedError, c_NotStartedError, c_OverfullError, c_SealedError, c_StartedError, c_TooManyError, c_TooMuchError, c_TooSmallError, c_ZeroRatioError] 0 (fun j => decide (j = 9)))
  (row_InvalidTransfersError : _root_.G.RowK K (.ref c_InvalidTransfersError) [c_EmptyHistoryError, c_FullError, c_InvalidContentsError, c_InvalidFormatError, c_InvalidGroupError, c_InvalidMixtureError, c_InvalidNumberError, c_InvalidRatioError, c_InvalidRowsError, c_InvalidSubstanceError, c_InvalidTransfersError, c_InvalidVesselError, c_InvalidVolumesError, c_NotClosedError, c_NotStartedError, c_OverfullError, c_SealedError, c_StartedError, c_TooManyError, c_TooMuchError, c_TooSmallError, c_ZeroRatioError] 0 (fun j => decide (j = 10)))
  (row_InvalidVesselError : _root_.G.RowK K (.ref c_InvalidVesselError) [c_EmptyHistoryError, c_FullError, c_InvalidContentsError, c_InvalidFormatError, c_InvalidGroupError, c_InvalidMixtureError, c_InvalidNumberError, c_InvalidRatioError, c_InvalidRowsError, c_InvalidSubstanceError, c_InvalidTransfersError, c_InvalidVesselError, c_InvalidVolumesError, c_NotClosedError, c_NotStartedError, c_OverfullError, c_SealedError, c_StartedError, c_TooManyError, c_TooMuchError, c_TooSmallError, c_ZeroRatioError] 0 (fun j => decide (j = 11)))
  (row_InvalidVolumesError : _root_.G.RowK K (.ref c_InvalidVolumesError) [c_EmptyHistoryError, c_FullError, c_InvalidContentsError, c_InvalidFormatError, c_InvalidGroupError, c_InvalidMixtureError, c_InvalidNumberError, c_InvalidRatioError, c_InvalidRowsError, c_InvalidSubstanceError, c_InvalidTransfersError, c_InvalidVesselError, c_InvalidVolumesError, c_NotClosedError, c_NotStartedError, c_OverfullError, c_SealedError, c_StartedError, c_TooManyError, c_TooMuchError, c_TooSmallError, c_ZeroRatioError] 0 (fun j => decide (j = 12)))
  (row_NotClosedError : _root_.G.RowK K (.ref c_NotClosedError) [c_EmptyHistoryError, c_FullError, c_InvalidContentsError, c_InvalidFormatError, c_InvalidGroupError, c_InvalidMixtureError, c_InvalidNumberError, c_InvalidRatioError, c_InvalidRowsError, c_InvalidSubstanceError, c_InvalidTransfersError, c_InvalidVesselError, c_InvalidVolumesError, c_NotClosedError, c_NotStartedError, c_OverfullError, c_SealedError, c_StartedError, c_TooManyError, c_TooMuchError, c_TooSmallError, c_ZeroRatioError] 0 (fun j => decide (j = 13)))
  (row_NotStartedError : _root_.G.RowK K (.ref c_NotStartedError) [c_EmptyHistoryError, c_FullError, c_InvalidContentsError, c_InvalidFormatError, c_InvalidGroupError, c_InvalidMixtureError, c_InvalidNumberError, c_InvalidRatioError, c_InvalidRowsError, c_InvalidSubstanceError, c_InvalidTransfersError, c_InvalidVesselError, c_InvalidVolumesError, c_NotClosedError, c_NotStartedError, c_OverfullError, c_SealedError, c_StartedError, c_TooManyError, c_TooMuchError, c_TooSmallError, c_ZeroRatioError] 0 (fun j => decide (j = 14)))
  (row_OverfullError : _root_.G.RowK K (.ref c_OverfullError) [c_EmptyHistoryError, c_FullError, c_InvalidContentsError, c_InvalidFormatError, c_InvalidGroupError, c_InvalidMixtureError, c_InvalidNumberError, c_InvalidRatioError, c_InvalidRowsError, c_InvalidSubstanceError, c_InvalidTransfersError, c_InvalidVesselError, c_InvalidVolumesError, c_NotClosedError, c_NotStartedError, c_OverfullError, c_SealedError, c_StartedError, c_TooManyError, c_TooMuchError, c_TooSmallError, c_ZeroRatioError] 0 (fun j => decide (j = 15)))
  (row_SealedError : _root_.G.RowK K (.ref c_SealedError) [c_EmptyHistoryError, c_FullError, c_InvalidContentsError, c_InvalidFormatError, c_InvalidGroupError, c_InvalidMixtureError, c_InvalidNumberError, c_InvalidRatioError, c_InvalidRowsError, c_InvalidSubstanceError, c_InvalidTransfersError, c_InvalidVesselError, c_InvalidVolumesError, c_NotClosedError, c_NotStartedError, c_OverfullError, c_SealedError, c_StartedError, c_TooManyError, c_TooMuchError, c_TooSmallError, c_ZeroRatioError] 0 (fun j => decide (j = 16)))
  (row_StartedError : _root_.G.RowK K (.ref c_StartedError) [c_EmptyHistoryError, c_FullError, c_InvalidContentsError, c_InvalidFormatError, c_InvalidGroupError, c_InvalidMixtureError, c_InvalidNumberError, c_InvalidRatioError, c_InvalidRowsError, c_InvalidSubstanceError, c_InvalidTransfersError, c_InvalidVesselError, c_InvalidVolumesError, c_NotClosedError, c_NotStartedError, c_OverfullError, c_SealedError, c_StartedError, c_TooManyError, c_TooMuchError, c_TooSmallError, c_ZeroRatioError] 0 (fun j => decide (j = 17)))
  (row_TooManyError : _root_.G.RowK K (.ref c_TooManyError) [c_EmptyHistoryError, c_FullError, c_InvalidContentsError, c_InvalidFormatError, c_InvalidGroupError, c_InvalidMixtureError, c_InvalidNumberError, c_InvalidRatioError, c_InvalidRowsError, c_InvalidSubstanceError, c_InvalidTransfersError, c_InvalidVesselError, c_InvalidVolumesError, c_NotClosedError, c_NotStartedError, c_OverfullError, c_SealedError, c_StartedError, c_TooManyError, c_TooMuchError, c_TooSmallError, c_ZeroRatioError] 0 (fun j => decide (j = 18)))
  (row_TooMuchError : _root_.G.RowK K (.ref c_TooMuchError) [c_EmptyHistoryError, c_FullError, c_InvalidContentsError, c_InvalidFormatError, c_InvalidGroupError, c_InvalidMixtureError, c_InvalidNumberError, c_InvalidRatioError, c_InvalidRowsError, c_InvalidSubstanceError, c_InvalidTransfersError, c_InvalidVesselError, c_InvalidVolumesError, c_NotClosedError, c_NotStartedError, c_OverfullError, c_SealedError, c_StartedError, c_TooManyError, c_TooMuchError, c_TooSmallError, c_ZeroRatioError] 0 (fun j => decide (j = 19)))
  (row_TooSmallError : _root_.G.RowK K (.ref c_TooSmallError) [c_EmptyHistoryError, c_FullError, c_InvalidContentsError, c_InvalidFormatError, c_InvalidGroupError, c_InvalidMixtureError, c_InvalidNumberError, c_InvalidRatioError, c_InvalidRowsError, c_InvalidSubstanceError, c_InvalidTransfersError, c_InvalidVesselError, c_InvalidVolumesError, c_NotClosedError, c_NotStartedError, c_OverfullError, c_SealedError, c_StartedError, c_TooManyError, c_TooMuchError, c_TooSmallError, c_ZeroRatioError] 0 (fun j => decide (j = 20)))
  (row_ZeroRatioError : _root_.G.RowK K (.ref c_ZeroRatioError) [c_EmptyHistoryError, c_FullError, c_InvalidContentsError, c_InvalidFormatError, c_InvalidGroupError, c_InvalidMixtureError, c_InvalidNumberError, c_InvalidRatioError, c_InvalidRowsError, c_InvalidSubstanceError, c_InvalidTransfersError, c_InvalidVesselError, c_InvalidVolumesError, c_NotClosedError, c_NotStartedError, c_OverfullError, c_SealedError, c_StartedError, c_TooManyError, c_TooMuchError, c_TooSmallError, c_ZeroRatioError] 0 (fun j => decide (j = 21)))
  (row_StirError : _root_.G.RowK K (.ref c_StirError) [c_EmptyHistoryError, c_FullError, c_InvalidContentsError, c_InvalidFormatError, c_InvalidGroupError, c_InvalidMixtureError, c_InvalidNumberError, c_InvalidRatioError, c_InvalidRowsError, c_InvalidSubstanceError, c_InvalidTransfersError, c_InvalidVesselError, c_InvalidVolumesError, c_NotClosedError, c_NotStartedError, c_OverfullError, c_SealedError, c_StartedError, c_TooManyError, c_TooMuchError, c_TooSmallError, c_ZeroRatioError] 0 (fun j => decide (j = 99)))
  (z_isinstance : PySem.W.nsIn K mainGlobals "isinstance" = some none)
  (z_int : PySem.W.nsIn K mainGlobals "int" = some none)
  (z_len : PySem.W.nsIn K mainGlobals "len" = some none)
  (z_range : PySem.W.nsIn K mainGlobals "range" = some none)
  (z_ValueError : PySem.W.nsIn K mainGlobals "ValueError" = some none) :
  Txt K mg ⟨a_TooMuchError_init, (PySem.W.fnOf "__init__" "TooMuchError.__init__" (defArgs s_TooMuchError_init) (defBody s_TooMuchError_init) (defScope s_TooMuchError_init) (.none) kV_TooMuchError_init dc_TooMuchError_init pm_TooMuchError_init an_TooMuchError_init cd_TooMuchError_init ct_TooMuchError_init), a_TooManyError_init, (PySem.W.fnOf "__init__" "TooManyError.__init__" (defArgs s_TooManyError_init) (defBody s_TooManyError_init) (defScope s_TooManyError_init) (.none) kV_TooManyError_init dc_TooManyError_init pm_TooManyError_init an_TooManyError_init cd_TooManyError_init ct_TooManyError_init), a_law_bag, (PySem.W.fnOf "_law_bag" "_law_bag" (defArgs s_law_bag) (defBody s_law_bag) (defScope s_law_bag) (.none) kV_law_bag dc_law_bag pm_law_bag an_law_bag cd_law_bag ct_law_bag), a_law_draw, (PySem.W.fnOf "_law_draw" "_law_draw" (defArgs s_law_draw) (defBody s_law_draw) (defScope s_law_draw) (.none) kV_law_draw dc_law_draw pm_law_draw an_law_draw cd_law_draw ct_law_draw), a_law_marks, (PySem.W.fnOf "_law_marks" "_law_marks" (defArgs s_law_marks) (defBody s_law_marks) (defScope s_law_marks) (.none) kV_law_marks dc_law_marks pm_law_marks an_law_marks cd_law_marks ct_law_marks), a_law_right, (PySem.W.fnOf "_law_right" "_law_right" (defArgs s_law_right) (defBody s_law_right) (defScope s_law_right) (.none) kV_law_right dc_law_right pm_law_right an_law_right cd_law_right ct_law_right), a_law, (PySem.W.fnOf "law" "law" (defArgs s_law) (defBody s_law) (defScope s_law) (.none) kV_law dc_law pm_law an_law cd_law ct_law), c_StirError, c_EmptyHistoryError, c_FullError, c_InvalidContentsError, c_InvalidFormatError, c_InvalidGroupError, c_InvalidMixtureError, c_InvalidNumberError, c_InvalidRatioError, c_InvalidRowsError, c_InvalidSubstanceError, c_InvalidTransfersError, c_InvalidVesselError, c_InvalidVolumesError, c_NotClosedError, c_NotStartedError, c_OverfullError, c_SealedError, c_StartedError, c_TooManyError, c_TooMuchError, c_TooSmallError, c_ZeroRatioError⟩ := by
  refine ⟨?g_mgc_StirError, ?g_eb_StirError, ?g_et_StirError, ?g_eh_StirError, ?g_ex_StirError, ?g_ke_StirError, ?g_exc_StirError, ?g_mgc_EmptyHistoryError, ?g_eb_EmptyHistoryError, ?g_et_EmptyHistoryError, ?g_eh_EmptyHistoryError, ?g_ex_EmptyHistoryError, ?g_ke_EmptyHistoryError, ?g_exc_EmptyHistoryError, ?g_mgc_FullError, ?g_eb_FullError, ?g_et_FullError, ?g_eh_FullError, ?g_ex_FullError, ?g_ke_FullError, ?g_exc_FullError, ?g_mgc_InvalidContentsError, ?g_eb_InvalidContentsError, ?g_et_InvalidContentsError, ?g_eh_InvalidContentsError, ?g_ex_InvalidContentsError, ?g_ke_InvalidContentsError, ?g_exc_InvalidContentsError, ?g_mgc_InvalidFormatError, ?g_eb_InvalidFormatError, ?g_et_InvalidFormatError, ?g_eh_InvalidFormatError, ?g_ex_InvalidFormatError, ?g_ke_InvalidFormatError, ?g_exc_InvalidFormatError, ?g_mgc_InvalidGroupError, ?g_eb_InvalidGroupError, ?g_et_InvalidGroupError, ?g_eh_InvalidGroupError, ?g_ex_InvalidGroupError, ?g_ke_InvalidGroupError, ?g_exc_InvalidGroupError, ?g_mgc_InvalidMixtureError, ?g_eb_InvalidMixtureError, ?g_et_InvalidMixtureError, ?g_eh_InvalidMixtureError, ?g_ex_InvalidMixtureError, ?g_ke_InvalidMixtureError, ?g_exc_InvalidMixtureError, ?g_mgc_InvalidNumberError, ?g_eb_InvalidNumberError, ?g_et_InvalidNumberError, ?g_eh_InvalidNumberError, ?g_ex_InvalidNumberError, ?g_ke_InvalidNumberError, ?g_exc_InvalidNumberError, ?g_mgc_InvalidRatioError, ?g_eb_InvalidRatioError, ?g_et_InvalidRatioError, ?g_eh_InvalidRatioError, ?g_ex_InvalidRatioError, ?g_ke_InvalidRatioError, ?g_exc_InvalidRatioError, ?g_mgc_InvalidRowsError, ?g_eb_InvalidRowsError, ?g_et_InvalidRowsError, ?g_eh_InvalidRowsError, ?g_ex_InvalidRowsError, ?g_ke_InvalidRowsError, ?g_exc_InvalidRowsError, ?g_mgc_InvalidSubstanceError, ?g_eb_InvalidSubstanceError, ?g_et_InvalidSubstanceError, ?g_eh_InvalidSubstanceError, ?g_ex_InvalidSubstanceError, ?g_ke_InvalidSubstanceError, ?g_exc_InvalidSubstanceError, ?g_mgc_InvalidTransfersError, ?g_eb_InvalidTransfersError, ?g_et_InvalidTransfersError, ?g_eh_InvalidTransfersError, ?g_ex_InvalidTransfersError, ?g_ke_InvalidTransfersError, ?g_exc_InvalidTransfersError, ?g_mgc_InvalidVesselError, ?g_eb_InvalidVesselError, ?g_et_InvalidVesselError, ?g_eh_InvalidVesselError, ?g_ex_InvalidVesselError, ?g_ke_InvalidVesselError, ?g_exc_InvalidVesselError, ?g_mgc_InvalidVolumesError, ?g_eb_InvalidVolumesError, ?g_et_InvalidVolumesError, ?g_eh_InvalidVolumesError, ?g_ex_InvalidVolumesError, ?g_ke_InvalidVolumesError, ?g_exc_InvalidVolumesError, ?g_mgc_NotClosedError, ?g_eb_NotClosedError, ?g_et_NotClosedError, ?g_eh_NotClosedError, ?g_ex_NotClosedError, ?g_ke_NotClosedError, ?g_exc_NotClosedError, ?g_mgc_NotStartedError, ?g_eb_NotStartedError, ?g_et_NotStartedError, ?g_eh_NotStartedError, ?g_ex_NotStartedError, ?g_ke_NotStartedError, ?g_exc_NotStartedError, ?g_mgc_OverfullError, ?g_eb_OverfullError, ?g_et_OverfullError, ?g_eh_OverfullError, ?g_ex_OverfullError, ?g_ke_OverfullError, ?g_exc_OverfullError, ?g_mgc_SealedError, ?g_eb_SealedError, ?g_et_SealedError, ?g_eh_SealedError, ?g_ex_SealedError, ?g_ke_SealedError, ?g_exc_SealedError, ?g_mgc_StartedError, ?g_eb_StartedError, ?g_et_StartedError, ?g_eh_StartedError, ?g_ex_StartedError, ?g_ke_StartedError, ?g_exc_StartedError, ?g_mgc_TooManyError, ?g_eb_TooManyError, ?g_et_TooManyError, ?g_eh_TooManyError, ?g_xn_TooManyError, ?g_ox_TooManyError, ?g_ke_TooManyError, ?g_exc_TooManyError, ?g_mgc_TooMuchError, ?g_eb_TooMuchError, ?g_et_TooMuchError, ?g_eh_TooMuchError, ?g_xn_TooMuchError, ?g_ox_TooMuchError, ?g_ke_TooMuchError, ?g_exc_TooMuchError, ?g_mgc_TooSmallError, ?g_eb_TooSmallError, ?g_et_TooSmallError, ?g_eh_TooSmallError, ?g_ex_TooSmallError, ?g_ke_TooSmallError, ?g_exc_TooSmallError, ?g_mgc_ZeroRatioError, ?g_eb_ZeroRatioError, ?g_et_ZeroRatioError, ?g_eh_ZeroRatioError, ?g_ex_ZeroRatioError, ?g_ke_ZeroRatioError, ?g_exc_ZeroRatioError, ?g_fun_TooMuchError_init, ?g_bd_TooMuchError_init, ?g_ii_TooMuchError, ?g_fi_TooMuchError, ?g_fun_TooManyError_init, ?g_bd_TooManyError_init, ?g_ii_TooManyError, ?g_fi_TooManyError, ?g_fun_law_bag, ?g_bd_law_bag, ?g_mg_law_bag, ?g_fun_law_draw, ?g_bd_law_draw, ?g_mg_law_draw, ?g_fun_law_marks, ?g_bd_law_marks, ?g_mg_law_marks, ?g_fun_law_right, ?g_bd_law_right, ?g_mg_law_right, ?g_fun_law, ?g_bd_law, ?g_mg_law, ?g_sg_, ?g_st_, ?g_ki_EmptyHistoryError_StirError, ?g_ki_FullError_StirError, ?g_ki_InvalidContentsError_StirError, ?g_ki_InvalidFormatError_StirError, ?g_ki_InvalidGroupError_StirError, ?g_ki_InvalidMixtureError_StirError, ?g_ki_InvalidNumberError_StirError, ?g_ki_InvalidRatioError_StirError, ?g_ki_InvalidRowsError_StirError, ?g_ki_InvalidSubstanceError_StirError, ?g_ki_InvalidTransfersError_StirError, ?g_ki_InvalidVesselError_StirError, ?g_ki_InvalidVolumesError_StirError, ?g_ki_NotClosedError_StirError, ?g_ki_NotStartedError_StirError, ?g_ki_OverfullError_StirError, ?g_ki_SealedError_StirError, ?g_ki_StartedError_StirError, ?g_ki_TooManyError_StirError, ?g_ki_TooMuchError_StirError, ?g_ki_TooSmallError_StirError, ?g_ki_ZeroRatioError_StirError, ?g_ki_EmptyHistoryError_ValueError, ?g_ki_FullError_ValueError, ?g_ki_InvalidContentsError_ValueError, ?g_ki_InvalidFormatError_ValueError, ?g_ki_InvalidGroupError_ValueError, ?g_ki_InvalidMixtureError_ValueError, ?g_ki_InvalidNumberError_ValueError, ?g_ki_InvalidRatioError_ValueError, ?g_ki_InvalidRowsError_ValueError, ?g_ki_InvalidSubstanceError_ValueError, ?g_ki_InvalidTransfersError_ValueError, ?g_ki_InvalidVesselError_ValueError, ?g_ki_InvalidVolumesError_ValueError, ?g_ki_NotClosedError_ValueError, ?g_ki_NotStartedError_ValueError, ?g_ki_OverfullError_ValueError, ?g_ki_SealedError_ValueError, ?g_ki_StartedError_ValueError, ?g_ki_TooManyError_ValueError, ?g_ki_TooMuchError_ValueError, ?g_ki_TooSmallError_ValueError, ?g_ki_ZeroRatioError_ValueError, ?g_row_EmptyHistoryError, ?g_row_FullError, ?g_row_InvalidContentsError, ?g_row_InvalidFormatError, ?g_row_InvalidGroupError, ?g_row_InvalidMixtureError, ?g_row_InvalidNumberError, ?g_row_InvalidRatioError, ?g_row_InvalidRowsError, ?g_row_InvalidSubstanceError, ?g_row_InvalidTransfersError, ?g_row_InvalidVesselError, ?g_row_InvalidVolumesError, ?g_row_NotClosedError, ?g_row_NotStartedError, ?g_row_OverfullError, ?g_row_SealedError, ?g_row_StartedError, ?g_row_TooManyError, ?g_row_TooMuchError, ?g_row_TooSmallError, ?g_row_ZeroRatioError, ?g_row_StirError, ?g_z_isinstance, ?g_z_int, ?g_z_len, ?g_z_range, ?g_z_ValueError⟩
  (case g_mgc_StirError => exact PySem.W.mg_of X G m_StirError)
  (case g_eb_StirError => exact eb_StirError)
  (case g_et_StirError => exact et_StirError)
  (case g_eh_StirError => exact eh_StirError)
  (case g_ex_StirError => exact ex_StirError)
  (case g_ke_StirError => exact kc_StirError)
  (case g_exc_StirError => exact ⟨eg_StirError, ek_StirError, eb_StirError, eh_StirError, ec_StirError, sg_, st_, em_StirError⟩)
  (case g_mgc_EmptyHistoryError => exact PySem.W.mg_of X G m_EmptyHistoryError)
  (case g_eb_EmptyHistoryError => exact eb_EmptyHistoryError)
  (case g_et_EmptyHistoryError => exact et_EmptyHistoryError)
  (case g_eh_EmptyHistoryError => exact eh_EmptyHistoryError)
  (case g_ex_EmptyHistoryError => exact ex_EmptyHistoryError)
  (case g_ke_EmptyHistoryError => exact kc_EmptyHistoryError)
  (case g_exc_EmptyHistoryError => exact ⟨eg_EmptyHistoryError, ek_EmptyHistoryError, eb_EmptyHistoryError, eh_EmptyHistoryError, ec_EmptyHistoryError, sg_, st_, em_EmptyHistoryError⟩)
  (case g_mgc_FullError => exact PySem.W.mg_of X G m_FullError)
  (case g_eb_FullError => exact eb_FullError)
  (case g_et_FullError => exact et_FullError)
  (case g_eh_FullError => exact eh_FullError)
  (case g_ex_FullError => exact ex_FullError)
  (case g_ke_FullError => exact kc_FullError)
  (case g_exc_FullError => exact ⟨eg_FullError, ek_FullError, eb_FullError, eh_FullError, ec_FullError, sg_, st_, em_FullError⟩)
  (case g_mgc_InvalidContentsError => exact PySem.W.mg_of X G m_InvalidContentsError)
  (case g_eb_InvalidContentsError => exact eb_InvalidContentsError)
  (case g_et_InvalidContentsError => exact et_InvalidContentsError)
  (case g_eh_InvalidContentsError => exact eh_InvalidContentsError)
  (case g_ex_InvalidContentsError => exact ex_InvalidContentsError)
  (case g_ke_InvalidContentsError => exact kc_InvalidContentsError)
  (case g_exc_InvalidContentsError => exact ⟨eg_InvalidContentsError, ek_InvalidContentsError, eb_InvalidContentsError, eh_InvalidContentsError, ec_InvalidContentsError, sg_, st_, em_InvalidContentsError⟩)
  (case g_mgc_InvalidFormatError => exact PySem.W.mg_of X G m_InvalidFormatError)
  (case g_eb_InvalidFormatError => exact eb_InvalidFormatError)
  (case g_et_InvalidFormatError => exact et_InvalidFormatError)
  (case g_eh_InvalidFormatError => exact eh_InvalidFormatError)
  (case g_ex_InvalidFormatError => exact ex_InvalidFormatError)
  (case g_ke_InvalidFormatError => exact kc_InvalidFormatError)
  (case g_exc_InvalidFormatError => exact ⟨eg_InvalidFormatError, ek_InvalidFormatError, eb_InvalidFormatError, eh_InvalidFormatError, ec_InvalidFormatError, sg_, st_, em_InvalidFormatError⟩)
  (case g_mgc_InvalidGroupError => exact PySem.W.mg_of X G m_InvalidGroupError)
  (case g_eb_InvalidGroupError => exact eb_InvalidGroupError)
  (case g_et_InvalidGroupError => exact et_InvalidGroupError)
  (case g_eh_InvalidGroupError => exact eh_InvalidGroupError)
  (case g_ex_InvalidGroupError => exact ex_InvalidGroupError)
  (case g_ke_InvalidGroupError => exact kc_InvalidGroupError)
  (case g_exc_InvalidGroupError => exact ⟨eg_InvalidGroupError, ek_InvalidGroupError, eb_InvalidGroupError, eh_InvalidGroupError, ec_InvalidGroupError, sg_, st_, em_InvalidGroupError⟩)
  (case g_mgc_InvalidMixtureError => exact PySem.W.mg_of X G m_InvalidMixtureError)
  (case g_eb_InvalidMixtureError => exact eb_InvalidMixtureError)
  (case g_et_InvalidMixtureError => exact et_InvalidMixtureError)
  (case g_eh_InvalidMixtureError => exact eh_InvalidMixtureError)
  (case g_ex_InvalidMixtureError => exact ex_InvalidMixtureError)
  (case g_ke_InvalidMixtureError => exact kc_InvalidMixtureError)
  (case g_exc_InvalidMixtureError => exact ⟨eg_InvalidMixtureError, ek_InvalidMixtureError, eb_InvalidMixtureError, eh_InvalidMixtureError, ec_InvalidMixtureError, sg_, st_, em_InvalidMixtureError⟩)
  (case g_mgc_InvalidNumberError => exact PySem.W.mg_of X G m_InvalidNumberError)
  (case g_eb_InvalidNumberError => exact eb_InvalidNumberError)
  (case g_et_InvalidNumberError => exact et_InvalidNumberError)
  (case g_eh_InvalidNumberError => exact eh_InvalidNumberError)
  (case g_ex_InvalidNumberError => exact ex_InvalidNumberError)
  (case g_ke_InvalidNumberError => exact kc_InvalidNumberError)
  (case g_exc_InvalidNumberError => exact ⟨eg_InvalidNumberError, ek_InvalidNumberError, eb_InvalidNumberError, eh_InvalidNumberError, ec_InvalidNumberError, sg_, st_, em_InvalidNumberError⟩)
  (case g_mgc_InvalidRatioError => exact PySem.W.mg_of X G m_InvalidRatioError)
  (case g_eb_InvalidRatioError => exact eb_InvalidRatioError)
  (case g_et_InvalidRatioError => exact et_InvalidRatioError)
  (case g_eh_InvalidRatioError => exact eh_InvalidRatioError)
  (case g_ex_InvalidRatioError => exact ex_InvalidRatioError)
  (case g_ke_InvalidRatioError => exact kc_InvalidRatioError)
  (case g_exc_InvalidRatioError => exact ⟨eg_InvalidRatioError, ek_InvalidRatioError, eb_InvalidRatioError, eh_InvalidRatioError, ec_InvalidRatioError, sg_, st_, em_InvalidRatioError⟩)
  (case g_mgc_InvalidRowsError => exact PySem.W.mg_of X G m_InvalidRowsError)
  (case g_eb_InvalidRowsError => exact eb_InvalidRowsError)
  (case g_et_InvalidRowsError => exact et_InvalidRowsError)
  (case g_eh_InvalidRowsError => exact eh_InvalidRowsError)
  (case g_ex_InvalidRowsError => exact ex_InvalidRowsError)
  (case g_ke_InvalidRowsError => exact kc_InvalidRowsError)
  (case g_exc_InvalidRowsError => exact ⟨eg_InvalidRowsError, ek_InvalidRowsError, eb_InvalidRowsError, eh_InvalidRowsError, ec_InvalidRowsError, sg_, st_, em_InvalidRowsError⟩)
  (case g_mgc_InvalidSubstanceError => exact PySem.W.mg_of X G m_InvalidSubstanceError)
  (case g_eb_InvalidSubstanceError => exact eb_InvalidSubstanceError)
  (case g_et_InvalidSubstanceError => exact et_InvalidSubstanceError)
  (case g_eh_InvalidSubstanceError => exact eh_InvalidSubstanceError)
  (case g_ex_InvalidSubstanceError => exact ex_InvalidSubstanceError)
  (case g_ke_InvalidSubstanceError => exact kc_InvalidSubstanceError)
  (case g_exc_InvalidSubstanceError => exact ⟨eg_InvalidSubstanceError, ek_InvalidSubstanceError, eb_InvalidSubstanceError, eh_InvalidSubstanceError, ec_InvalidSubstanceError, sg_, st_, em_InvalidSubstanceError⟩)
  (case g_mgc_InvalidTransfersError => exact PySem.W.mg_of X G m_InvalidTransfersError)
  (case g_eb_InvalidTransfersError => exact eb_InvalidTransfersError)
  (case g_et_InvalidTransfersError => exact et_InvalidTransfersError)
  (case g_eh_InvalidTransfersError => exact eh_InvalidTransfersError)
  (case g_ex_InvalidTransfersError => exact ex_InvalidTransfersError)
  (case g_ke_InvalidTransfersError => exact kc_InvalidTransfersError)
  (case g_exc_InvalidTransfersError => exact ⟨eg_InvalidTransfersError, ek_InvalidTransfersError, eb_InvalidTransfersError, eh_InvalidTransfersError, ec_InvalidTransfersError, sg_, st_, em_InvalidTransfersError⟩)
  (case g_mgc_InvalidVesselError => exact PySem.W.mg_of X G m_InvalidVesselError)
  (case g_eb_InvalidVesselError => exact eb_InvalidVesselError)
  (case g_et_InvalidVesselError => exact et_InvalidVesselError)
  (case g_eh_InvalidVesselError => exact eh_InvalidVesselError)
  (case g_ex_InvalidVesselError => exact ex_InvalidVesselError)
  (case g_ke_InvalidVesselError => exact kc_InvalidVesselError)
  (case g_exc_InvalidVesselError => exact ⟨eg_InvalidVesselError, ek_InvalidVesselError, eb_InvalidVesselError, eh_InvalidVesselError, ec_InvalidVesselError, sg_, st_, em_InvalidVesselError⟩)
  (case g_mgc_InvalidVolumesError => exact PySem.W.mg_of X G m_InvalidVolumesError)
  (case g_eb_InvalidVolumesError => exact eb_InvalidVolumesError)
  (case g_et_InvalidVolumesError => exact et_InvalidVolumesError)
  (case g_eh_InvalidVolumesError => exact eh_InvalidVolumesError)
  (case g_ex_InvalidVolumesError => exact ex_InvalidVolumesError)
  (case g_ke_InvalidVolumesError => exact kc_InvalidVolumesError)
  (case g_exc_InvalidVolumesError => exact ⟨eg_InvalidVolumesError, ek_InvalidVolumesError, eb_InvalidVolumesError, eh_InvalidVolumesError, ec_InvalidVolumesError, sg_, st_, em_InvalidVolumesError⟩)
  (case g_mgc_NotClosedError => exact PySem.W.mg_of X G m_NotClosedError)
  (case g_eb_NotClosedError => exact eb_NotClosedError)
  (case g_et_NotClosedError => exact et_NotClosedError)
  (case g_eh_NotClosedError => exact eh_NotClosedError)
  (case g_ex_NotClosedError => exact ex_NotClosedError)
  (case g_ke_NotClosedError => exact kc_NotClosedError)
  (case g_exc_NotClosedError => exact ⟨eg_NotClosedError, ek_NotClosedError, eb_NotClosedError, eh_NotClosedError, ec_NotClosedError, sg_, st_, em_NotClosedError⟩)
  (case g_mgc_NotStartedError => exact PySem.W.mg_of X G m_NotStartedError)
  (case g_eb_NotStartedError => exact eb_NotStartedError)
  (case g_et_NotStartedError => exact et_NotStartedError)
  (case g_eh_NotStartedError => exact eh_NotStartedError)
  (case g_ex_NotStartedError => exact ex_NotStartedError)
  (case g_ke_NotStartedError => exact kc_NotStartedError)
  (case g_exc_NotStartedError => exact ⟨eg_NotStartedError, ek_NotStartedError, eb_NotStartedError, eh_NotStartedError, ec_NotStartedError, sg_, st_, em_NotStartedError⟩)
  (case g_mgc_OverfullError => exact PySem.W.mg_of X G m_OverfullError)
  (case g_eb_OverfullError => exact eb_OverfullError)
  (case g_et_OverfullError => exact et_OverfullError)
  (case g_eh_OverfullError => exact eh_OverfullError)
  (case g_ex_OverfullError => exact ex_OverfullError)
  (case g_ke_OverfullError => exact kc_OverfullError)
  (case g_exc_OverfullError => exact ⟨eg_OverfullError, ek_OverfullError, eb_OverfullError, eh_OverfullError, ec_OverfullError, sg_, st_, em_OverfullError⟩)
  (case g_mgc_SealedError => exact PySem.W.mg_of X G m_SealedError)
  (case g_eb_SealedError => exact eb_SealedError)
  (case g_et_SealedError => exact et_SealedError)
  (case g_eh_SealedError => exact eh_SealedError)
  (case g_ex_SealedError => exact ex_SealedError)
  (case g_ke_SealedError => exact kc_SealedError)
  (case g_exc_SealedError => exact ⟨eg_SealedError, ek_SealedError, eb_SealedError, eh_SealedError, ec_SealedError, sg_, st_, em_SealedError⟩)
  (case g_mgc_StartedError => exact PySem.W.mg_of X G m_StartedError)
  (case g_eb_StartedError => exact eb_StartedError)
  (case g_et_StartedError => exact et_StartedError)
  (case g_eh_StartedError => exact eh_StartedError)
  (case g_ex_StartedError => exact ex_StartedError)
  (case g_ke_StartedError => exact kc_StartedError)
  (case g_exc_StartedError => exact ⟨eg_StartedError, ek_StartedError, eb_StartedError, eh_StartedError, ec_StartedError, sg_, st_, em_StartedError⟩)
  (case g_mgc_TooManyError => exact PySem.W.mg_of X G m_TooManyError)
  (case g_eb_TooManyError => exact eb_TooManyError)
  (case g_et_TooManyError => exact et_TooManyError)
  (case g_eh_TooManyError => exact eh_TooManyError)
  (case g_xn_TooManyError => exact xn_TooManyError)
  (case g_ox_TooManyError => exact ⟨⟨_, _, _, _, _, _, _, _, _, _, _, _, _, _, _, xl_TooManyError, rfl⟩, xs_TooManyError, eb_TooManyError, et_TooManyError, kc_TooManyError⟩)
  (case g_ke_TooManyError => exact kc_TooManyError)
  (case g_exc_TooManyError => exact ⟨eg_TooManyError, ek_TooManyError, eb_TooManyError, eh_TooManyError, ec_TooManyError, sg_, st_, em_TooManyError⟩)
  (case g_mgc_TooMuchError => exact PySem.W.mg_of X G m_TooMuchError)
  (case g_eb_TooMuchError => exact eb_TooMuchError)
  (case g_et_TooMuchError => exact et_TooMuchError)
  (case g_eh_TooMuchError => exact eh_TooMuchError)
  (case g_xn_TooMuchError => exact xn_TooMuchError)
  (case g_ox_TooMuchError => exact ⟨⟨_, _, _, _, _, _, _, _, _, _, _, _, _, _, _, xl_TooMuchError, rfl⟩, xs_TooMuchError, eb_TooMuchError, et_TooMuchError, kc_TooMuchError⟩)
  (case g_ke_TooMuchError => exact kc_TooMuchError)
  (case g_exc_TooMuchError => exact ⟨eg_TooMuchError, ek_TooMuchError, eb_TooMuchError, eh_TooMuchError, ec_TooMuchError, sg_, st_, em_TooMuchError⟩)
  (case g_mgc_TooSmallError => exact PySem.W.mg_of X G m_TooSmallError)
  (case g_eb_TooSmallError => exact eb_TooSmallError)
  (case g_et_TooSmallError => exact et_TooSmallError)
  (case g_eh_TooSmallError => exact eh_TooSmallError)
  (case g_ex_TooSmallError => exact ex_TooSmallError)
  (case g_ke_TooSmallError => exact kc_TooSmallError)
  (case g_exc_TooSmallError => exact ⟨eg_TooSmallError, ek_TooSmallError, eb_TooSmallError, eh_TooSmallError, ec_TooSmallError, sg_, st_, em_TooSmallError⟩)
  (case g_mgc_ZeroRatioError => exact PySem.W.mg_of X G m_ZeroRatioError)
  (case g_eb_ZeroRatioError => exact eb_ZeroRatioError)
  (case g_et_ZeroRatioError => exact et_ZeroRatioError)
  (case g_eh_ZeroRatioError => exact eh_ZeroRatioError)
  (case g_ex_ZeroRatioError => exact ex_ZeroRatioError)
  (case g_ke_ZeroRatioError => exact kc_ZeroRatioError)
  (case g_exc_ZeroRatioError => exact ⟨eg_ZeroRatioError, ek_ZeroRatioError, eb_ZeroRatioError, eh_ZeroRatioError, ec_ZeroRatioError, sg_, st_, em_ZeroRatioError⟩)
  (case g_fun_TooMuchError_init => exact fun_mk (st := s_TooMuchError_init) l_TooMuchError_init k_TooMuchError_init e_TooMuchError_init)
  (case g_bd_TooMuchError_init => exact (fun_mk (st := s_TooMuchError_init) l_TooMuchError_init k_TooMuchError_init e_TooMuchError_init).binds (ps := ["self", "index"]) fun _ _ _ _ _ _ us hl => match us, hl with | [_, _], _ => rfl)
  (case g_ii_TooMuchError => exact i_TooMuchError_init)
  (case g_fi_TooMuchError => exact beq_iff_eq.mp f_TooMuchError_init)
  (case g_fun_TooManyError_init => exact fun_mk (st := s_TooManyError_init) l_TooManyError_init k_TooManyError_init e_TooManyError_init)
  (case g_bd_TooManyError_init => exact (fun_mk (st := s_TooManyError_init) l_TooManyError_init k_TooManyError_init e_TooManyError_init).binds (ps := ["self", "limit"]) fun _ _ _ _ _ _ us hl => match us, hl with | [_, _], _ => rfl)
  (case g_ii_TooManyError => exact i_TooManyError_init)
  (case g_fi_TooManyError => exact beq_iff_eq.mp f_TooManyError_init)
  (case g_fun_law_bag => exact fun_mk (st := s_law_bag) l_law_bag k_law_bag e_law_bag)
  (case g_bd_law_bag => exact (fun_mk (st := s_law_bag) l_law_bag k_law_bag e_law_bag).binds (ps := ["cell", "k"]) fun _ _ _ _ _ _ us hl => match us, hl with | [_, _], _ => rfl)
  (case g_mg_law_bag => exact PySem.W.mg_of X G m_law_bag)
  (case g_fun_law_draw => exact fun_mk (st := s_law_draw) l_law_draw k_law_draw e_law_draw)
  (case g_bd_law_draw => exact (fun_mk (st := s_law_draw) l_law_draw k_law_draw e_law_draw).binds (ps := ["bag", "many"]) fun _ _ _ _ _ _ us hl => match us, hl with | [_, _], _ => rfl)
  (case g_mg_law_draw => exact PySem.W.mg_of X G m_law_draw)
  (case g_fun_law_marks => exact fun_mk (st := s_law_marks) l_law_marks k_law_marks e_law_marks)
  (case g_bd_law_marks => exact (fun_mk (st := s_law_marks) l_law_marks k_law_marks e_law_marks).binds (ps := ["e"]) fun _ _ _ _ _ _ us hl => match us, hl with | [_], _ => rfl)
  (case g_mg_law_marks => exact PySem.W.mg_of X G m_law_marks)
  (case g_fun_law_right => exact fun_mk (st := s_law_right) l_law_right k_law_right e_law_right)
  (case g_bd_law_right => exact (fun_mk (st := s_law_right) l_law_right k_law_right e_law_right).binds (ps := ["message", "number"]) fun _ _ _ _ _ _ us hl => match us, hl with | [_, _], _ => rfl)
  (case g_mg_law_right => exact PySem.W.mg_of X G m_law_right)
  (case g_fun_law => exact fun_mk (st := s_law) l_law k_law e_law)
  (case g_bd_law => exact (fun_mk (st := s_law) l_law k_law e_law).binds (ps := ["script"]) fun _ _ _ _ _ _ us hl => match us, hl with | [_], _ => rfl)
  (case g_mg_law => exact PySem.W.mg_of X G m_law)
  (case g_sg_ => exact sg_)
  (case g_st_ => exact st_)
  (case g_ki_EmptyHistoryError_StirError => exact ki_EmptyHistoryError_StirError)
  (case g_ki_FullError_StirError => exact ki_FullError_StirError)
  (case g_ki_InvalidContentsError_StirError => exact ki_InvalidContentsError_StirError)
  (case g_ki_InvalidFormatError_StirError => exact ki_InvalidFormatError_StirError)
  (case g_ki_InvalidGroupError_StirError => exact ki_InvalidGroupError_StirError)
  (case g_ki_InvalidMixtureError_StirError => exact ki_InvalidMixtureError_StirError)
  (case g_ki_InvalidNumberError_StirError => exact ki_InvalidNumberError_StirError)
  (case g_ki_InvalidRatioError_StirError => exact ki_InvalidRatioError_StirError)
  (case g_ki_InvalidRowsError_StirError => exact ki_InvalidRowsError_StirError)
  (case g_ki_InvalidSubstanceError_StirError => exact ki_InvalidSubstanceError_StirError)
  (case g_ki_InvalidTransfersError_StirError => exact ki_InvalidTransfersError_StirError)
  (case g_ki_InvalidVesselError_StirError => exact ki_InvalidVesselError_StirError)
  (case g_ki_InvalidVolumesError_StirError => exact ki_InvalidVolumesError_StirError)
  (case g_ki_NotClosedError_StirError => exact ki_NotClosedError_StirError)
  (case g_ki_NotStartedError_StirError => exact ki_NotStartedError_StirError)
  (case g_ki_OverfullError_StirError => exact ki_OverfullError_StirError)
  (case g_ki_SealedError_StirError => exact ki_SealedError_StirError)
  (case g_ki_StartedError_StirError => exact ki_StartedError_StirError)
  (case g_ki_TooManyError_StirError => exact ki_TooManyError_StirError)
  (case g_ki_TooMuchError_StirError => exact ki_TooMuchError_StirError)
  (case g_ki_TooSmallError_StirError => exact ki_TooSmallError_StirError)
  (case g_ki_ZeroRatioError_StirError => exact ki_ZeroRatioError_StirError)
  (case g_ki_EmptyHistoryError_ValueError => exact ki_EmptyHistoryError_ValueError)
  (case g_ki_FullError_ValueError => exact ki_FullError_ValueError)
  (case g_ki_InvalidContentsError_ValueError => exact ki_InvalidContentsError_ValueError)
  (case g_ki_InvalidFormatError_ValueError => exact ki_InvalidFormatError_ValueError)
  (case g_ki_InvalidGroupError_ValueError => exact ki_InvalidGroupError_ValueError)
  (case g_ki_InvalidMixtureError_ValueError => exact ki_InvalidMixtureError_ValueError)
  (case g_ki_InvalidNumberError_ValueError => exact ki_InvalidNumberError_ValueError)
  (case g_ki_InvalidRatioError_ValueError => exact ki_InvalidRatioError_ValueError)
  (case g_ki_InvalidRowsError_ValueError => exact ki_InvalidRowsError_ValueError)
  (case g_ki_InvalidSubstanceError_ValueError => exact ki_InvalidSubstanceError_ValueError)
  (case g_ki_InvalidTransfersError_ValueError => exact ki_InvalidTransfersError_ValueError)
  (case g_ki_InvalidVesselError_ValueError => exact ki_InvalidVesselError_ValueError)
  (case g_ki_InvalidVolumesError_ValueError => exact ki_InvalidVolumesError_ValueError)
  (case g_ki_NotClosedError_ValueError => exact ki_NotClosedError_ValueError)
  (case g_ki_NotStartedError_ValueError => exact ki_NotStartedError_ValueError)
  (case g_ki_OverfullError_ValueError => exact ki_OverfullError_ValueError)
  (case g_ki_SealedError_ValueError => exact ki_SealedError_ValueError)
  (case g_ki_StartedError_ValueError => exact ki_StartedError_ValueError)
  (case g_ki_TooManyError_ValueError => exact ki_TooManyError_ValueError)
  (case g_ki_TooMuchError_ValueError => exact ki_TooMuchError_ValueError)
  (case g_ki_TooSmallError_ValueError => exact ki_TooSmallError_ValueError)
  (case g_ki_ZeroRatioError_ValueError => exact ki_ZeroRatioError_ValueError)
  (case g_row_EmptyHistoryError => exact row_EmptyHistoryError)
  (case g_row_FullError => exact row_FullError)
  (case g_row_InvalidContentsError => exact row_InvalidContentsError)
  (case g_row_InvalidFormatError => exact row_InvalidFormatError)
  (case g_row_InvalidGroupError => exact row_InvalidGroupError)
  (case g_row_InvalidMixtureError => exact row_InvalidMixtureError)
  (case g_row_InvalidNumberError => exact row_InvalidNumberError)
  (case g_row_InvalidRatioError => exact row_InvalidRatioError)
  (case g_row_InvalidRowsError => exact row_InvalidRowsError)
  (case g_row_InvalidSubstanceError => exact row_InvalidSubstanceError)
  (case g_row_InvalidTransfersError => exact row_InvalidTransfersError)
  (case g_row_InvalidVesselError => exact row_InvalidVesselError)
  (case g_row_InvalidVolumesError => exact row_InvalidVolumesError)
  (case g_row_NotClosedError => exact row_NotClosedError)
  (case g_row_NotStartedError => exact row_NotStartedError)
  (case g_row_OverfullError => exact row_OverfullError)
  (case g_row_SealedError => exact row_SealedError)
  (case g_row_StartedError => exact row_StartedError)
  (case g_row_TooManyError => exact row_TooManyError)
  (case g_row_TooMuchError => exact row_TooMuchError)
  (case g_row_TooSmallError => exact row_TooSmallError)
  (case g_row_ZeroRatioError => exact row_ZeroRatioError)
  (case g_row_StirError => exact row_StirError)
  (case g_z_isinstance => exact PySem.W.mg_none_of X G z_isinstance)
  (case g_z_int => exact PySem.W.mg_none_of X G z_int)
  (case g_z_len => exact PySem.W.mg_none_of X G z_len)
  (case g_z_range => exact PySem.W.mg_none_of X G z_range)
  (case g_z_ValueError => exact PySem.W.mg_none_of X G z_ValueError)
local macro_rules | `(tactic| walk_at "pos") => `(tactic| first | assumption | (decide +kernel) | omega)
local macro_rules | `(tactic| walk_at "bt") => `(tactic| first
  | assumption
  | (decide +kernel)
  | exact Bt.mono (by assumption) (by decide)
  | (refine' Bt.add ?b1 ?b2; (case b1 => walk_at "bt"); (case b2 => walk_at "bt"))
  | (refine' Bt.sub ?b1 ?b2; (case b1 => walk_at "bt"); (case b2 => walk_at "bt"))
  | (refine' Bt.mul ?b1 ?b2; (case b1 => walk_at "bt"); (case b2 => walk_at "bt"))
  | (refine' Bt.mod ?b1 ?b2; (case b2 => walk_at "bt"); (case b1 => walk_at "pos"))
  | (refine' Bt.div ?b1 ?b2; (case b2 => walk_at "bt"); (case b1 => walk_at "pos"))
  | (refine' Bt.pow3 ?b1; (case b1 => walk_at "bt"))
  | (refine' Bt.neg ?b1; (case b1 => walk_at "bt"))
  | exact Bt.any)
local macro_rules | `(tactic| walk_at "btm") => `(tactic| ((refine' Bt.mono ?m1 ?m2); (case m1 => walk_at "bt"); (case m2 => (decide +kernel))))
local macro_rules | `(tactic| walk_at "ne") => `(tactic| first
  | assumption
  | (refine' Ne.symm ?q1; (case q1 => assumption))
  | (refine' ne_of_none (by assumption) ?q1; (case q1 => assumption))
  | (refine' Ne.symm (ne_of_none (by assumption) ?q1); (case q1 => assumption)))
local macro_rules | `(tactic| walk_at "hp") => `(tactic| first
  | assumption
  | exact upd_same
  | ((refine' lst_same ?q1 (by assumption : Same _ _)); (case q1 => walk_at "hp"))
  | ((refine' (by assumption : Fr _ _ _) _ _ ?n ?h); (case n => walk_at "ne"); (case h => walk_at "hp"))
  | ((refine (upd_ne (by assumption)).trans ?_); walk_at "hp")
  | ((refine (upd_ne (Ne.symm (by assumption))).trans ?_); walk_at "hp"))
local macro_rules | `(tactic| walk_at "sr") => `(tactic| first
  | assumption
  | ((refine' Src.same ?q1 (by assumption : Same _ _)); (case q1 => walk_at "sr")))
local macro_rules | `(tactic| walk_at "rt") => `(tactic| first
  | assumption
  | ((refine' Rat.same ?q1 (by assumption : Same _ _)); (case q1 => walk_at "rt"))
  | ((refine' Rat.fr ?q1 ?q2 (by assumption : Fr _ _ _)); (case q2 => walk_at "sr"); (case q1 => walk_at "rt")))
local macro_rules | `(tactic| walk_at "tp") => `(tactic| first
  | assumption
  | ((refine' tup_same ?q1 (by assumption : Same _ _)); (case q1 => walk_at "tp"))
  | ((refine' tup_fr ?q1 ?q2 (by assumption : Fr _ _ _)); (case q2 => walk_at "sr"); (case q1 => walk_at "tp")))
local macro_rules | `(tactic| walk_at "ls") => `(tactic| first
  | assumption
  | ((refine' lst_same ?q1 (by assumption : Same _ _)); (case q1 => walk_at "ls"))
  | ((refine' lst_fr ?q1 ?q2 (by assumption : Fr _ _ _)); (case q2 => assumption); (case q1 => walk_at "ls")))
local macro_rules | `(tactic| walk_at "sm") => `(tactic| first
  | exact Same.refl _
  | assumption
  | ((refine Same.trans ?_ (by assumption : Same _ _)); walk_at "sm"))
local macro_rules | `(tactic| walk_at "fr") => `(tactic| first
  | exact Fr.refl _ _
  | assumption
  | ((refine Fr.trans ?_ (Fr.same (by assumption : Same _ _))); walk_at "fr")
  | ((refine Fr.trans ?_ (by assumption : Fr _ _ _)); walk_at "fr"))
local macro_rules | `(tactic| walk_at "wp1") => `(tactic| first
  | (with_reducible refine w_seq ?_) | (with_reducible refine w_next ?_) | (with_reducible refine w_ret ?_) | (with_reducible refine w_asg ?_) | (with_reducible refine w_gn ?_) | (with_reducible refine w_if ?_)
  | (with_reducible refine w_cons ?_) | (with_reducible refine w_nil ?_) | (with_reducible refine w_c ?_) | (with_reducible refine w_op ?_) | (with_reducible refine w_cb ?_)
  | ((with_reducible refine' w_var ?h ?_); (case h => exact rfl))
  | (with_reducible refine w_I0 ?_) | (with_reducible refine w_eqI ?_) | (with_reducible refine w_neI ?_) | (with_reducible refine w_test ?_) | (with_reducible refine w_tB ?_) | (with_reducible refine w_bl ?_) | (with_reducible refine w_par ?_) | (with_reducible refine w_par2 ?_)
  | (with_reducible refine w_not ?_) | (with_reducible refine w_and ?_) | (with_reducible refine w_or ?_) | (with_reducible refine w_andV ?_) | (with_reducible refine w_orV ?_) | (with_reducible refine w_notV ?_) | (with_reducible refine w_tif ?_)
  | (with_reducible refine w_tup ?_) | (with_reducible refine w_lst ?_) | (with_reducible refine w_un ?_) | (with_reducible refine w_U ?_) | (with_reducible refine w_drop ?_) | (with_reducible refine w_brk ?_) | (with_reducible refine w_cont ?_) | (with_reducible refine w_retN ?_)
  | (with_reducible refine w_call ?_) | (with_reducible refine w_fld ?_) | (with_reducible refine w_sfld ?_) | (with_reducible refine w_prop ?_) | (with_reducible refine w_make ?_) | (with_reducible refine w_meth ?_) | (with_reducible refine w_methN ?_) | (with_reducible refine w_revL ?_) | (with_reducible refine w_gsub ?_)
  | ((with_reducible refine' w_powN ?c1 ?c2 ?_); (case c2 => (decide +kernel)); (case c1 => exact rfl))
  | ((with_reducible refine' w_powV ?c1 ?c2 ?c3 ?c4 ?_); (case c2 => walk_at "bt"); (case c3 => (decide +kernel)); (case c4 => (decide +kernel)); (case c1 => exact rfl))
  | ((with_reducible refine' w_I (C := CMulW) ?c1 ?_); (case c1 => (refine' mulOk ?k1 ?k2 ?k3; (case k1 => walk_at "bt"); (case k2 => walk_at "bt"); (case k3 => decide +kernel))))
  | ((with_reducible refine' w_I (C := CDivW) ?c1 ?_); (case c1 => (refine' divOk ?k1 ?k2 ?k3; (case k1 => walk_at "pos"); (case k2 => walk_at "bt"); (case k3 => decide +kernel))))
  | ((with_reducible refine' w_I (C := fun _ j => 0 < j) ?c1 ?_); (case c1 => walk_at "pos"))
  | (with_reducible refine w_isB ?_) | (with_reducible refine w_notB ?_) | (with_reducible refine w_neS ?_) | (with_reducible refine w_eqS ?_)
  | (with_reducible refine w_iRng1 ?_) | (with_reducible refine w_for ?_) | (with_reducible refine w_iEnum ?_) | (with_reducible refine w_iList ?_) | (with_reducible refine w_iTup ?_) | (with_reducible refine w_noPart ?_) | (with_reducible refine w_part ?_) | (with_reducible refine w_int ?_)
  | (with_reducible refine w_sl ?_)
  | (with_reducible refine w_two ?_) | (with_reducible refine w_one ?_)
  | ((with_reducible refine' w_ixL ?hs ?he ?_); (case hs => first | (refine' SqL.of ?q0; (case q0 => walk_at "hp")) | assumption); (case he => exact rfl))
  | ((with_reducible refine' w_ixT ?hs ?he ?_); (case hs => first | (refine' SqT.of ?q0; (case q0 => walk_at "tp")) | assumption); (case he => exact rfl))
  | ((with_reducible refine' w_setL ?hs ?he ?_); (case hs => walk_at "hp"); (case he => exact rfl))
  | (with_reducible refine w_iteT rfl ?_) | (with_reducible refine w_iteF rfl ?_) | ((with_reducible refine w_alloc ?h ?_); (case h => exact rfl))
  | (with_reducible refine w_augS ?_) | (with_reducible refine w_ipI ?_) | (with_reducible refine w_exo1 ?_) | (with_reducible refine w_exoI ?_) | (with_reducible refine w_exoK ?_) | (with_reducible refine w_fldE ?_) | (with_reducible refine w_ost ?_) | (with_reducible refine w_makeS ?_) | (with_reducible refine w_methS ?_) | (with_reducible refine w_callS ?_) | (with_reducible refine w_bm ?_) | (with_reducible refine w_makeK ?_) | (with_reducible refine w_callN ?_))
local macro_rules | `(tactic| walk_at "wp") => `(tactic| repeat (walk_at "wp1"))

section
variable {P : Program} {w : World} {K : PySem.W.Frag} {mg : Str → Option Value} {base : Heap} {A : Ad}
end
end K72

namespace K72
open PySem L2 G
local macro_rules | `(tactic| walk_at "pos") => `(tactic| first | assumption | (decide +kernel) | omega)
local macro_rules | `(tactic| walk_at "bt") => `(tactic| first
  | assumption
  | (decide +kernel)
  | exact Bt.mono (by assumption) (by decide)
  | (refine' Bt.add ?b1 ?b2; (case b1 => walk_at "bt"); (case b2 => walk_at "bt"))
  | (refine' Bt.sub ?b1 ?b2; (case b1 => walk_at "bt"); (case b2 => walk_at "bt"))
  | (refine' Bt.mul ?b1 ?b2; (case b1 => walk_at "bt"); (case b2 => walk_at "bt"))
  | (refine' Bt.mod ?b1 ?b2; (case b2 => walk_at "bt"); (case b1 => walk_at "pos"))
  | (refine' Bt.div ?b1 ?b2; (case b2 => walk_at "bt"); (case b1 => walk_at "pos"))
  | (refine' Bt.pow3 ?b1; (case b1 => walk_at "bt"))
  | (refine' Bt.neg ?b1; (case b1 => walk_at "bt"))
  | exact Bt.any)
local macro_rules | `(tactic| walk_at "btm") => `(tactic| ((refine' Bt.mono ?m1 ?m2); (case m1 => walk_at "bt"); (case m2 => (decide +kernel))))
local macro_rules | `(tactic| walk_at "ne") => `(tactic| first
  | assumption
  | (refine' Ne.symm ?q1; (case q1 => assumption))
  | (refine' ne_of_none (by assumption) ?q1; (case q1 => assumption))
  | (refine' Ne.symm (ne_of_none (by assumption) ?q1); (case q1 => assumption)))
local macro_rules | `(tactic| walk_at "hp") => `(tactic| first
  | assumption
  | exact upd_same
  | ((refine' lst_same ?q1 (by assumption : Same _ _)); (case q1 => walk_at "hp"))
  | ((refine' (by assumption : Fr _ _ _) _ _ ?n ?h); (case n => walk_at "ne"); (case h => walk_at "hp"))
  | ((refine (upd_ne (by assumption)).trans ?_); walk_at "hp")
  | ((refine (upd_ne (Ne.symm (by assumption))).trans ?_); walk_at "hp"))
local macro_rules | `(tactic| walk_at "sr") => `(tactic| first
  | assumption
  | ((refine' Src.same ?q1 (by assumption : Same _ _)); (case q1 => walk_at "sr")))
local macro_rules | `(tactic| walk_at "rt") => `(tactic| first
  | assumption
  | ((refine' Rat.same ?q1 (by assumption : Same _ _)); (case q1 => walk_at "rt"))
  | ((refine' Rat.fr ?q1 ?q2 (by assumption : Fr _ _ _)); (case q2 => walk_at "sr"); (case q1 => walk_at "rt")))
local macro_rules | `(tactic| walk_at "tp") => `(tactic| first
  | assumption
  | ((refine' tup_same ?q1 (by assumption : Same _ _)); (case q1 => walk_at "tp"))
  | ((refine' tup_fr ?q1 ?q2 (by assumption : Fr _ _ _)); (case q2 => walk_at "sr"); (case q1 => walk_at "tp")))
local macro_rules | `(tactic| walk_at "ls") => `(tactic| first
  | assumption
  | ((refine' lst_same ?q1 (by assumption : Same _ _)); (case q1 => walk_at "ls"))
  | ((refine' lst_fr ?q1 ?q2 (by assumption : Fr _ _ _)); (case q2 => assumption); (case q1 => walk_at "ls")))
local macro_rules | `(tactic| walk_at "sm") => `(tactic| first
  | exact Same.refl _
  | assumption
  | ((refine Same.trans ?_ (by assumption : Same _ _)); walk_at "sm"))
local macro_rules | `(tactic| walk_at "fr") => `(tactic| first
  | exact Fr.refl _ _
  | assumption
  | ((refine Fr.trans ?_ (Fr.same (by assumption : Same _ _))); walk_at "fr")
  | ((refine Fr.trans ?_ (by assumption : Fr _ _ _)); walk_at "fr"))
local macro_rules | `(tactic| walk_at "wp1") => `(tactic| first
  | (with_reducible refine w_seq ?_) | (with_reducible refine w_next ?_) | (with_reducible refine w_ret ?_) | (with_reducible refine w_asg ?_) | (with_reducible refine w_gn ?_) | (with_reducible refine w_if ?_)
  | (with_reducible refine w_cons ?_) | (with_reducible refine w_nil ?_) | (with_reducible refine w_c ?_) | (with_reducible refine w_op ?_) | (with_reducible refine w_cb ?_)
  | ((with_reducible refine' w_var ?h ?_); (case h => exact rfl))
  | (with_reducible refine w_I0 ?_) | (with_reducible refine w_eqI ?_) | (with_reducible refine w_neI ?_) | (with_reducible refine w_test ?_) | (with_reducible refine w_tB ?_) | (with_reducible refine w_bl ?_) | (with_reducible refine w_par ?_) | (with_reducible refine w_par2 ?_)
  | (with_reducible refine w_not ?_) | (with_reducible refine w_and ?_) | (with_reducible refine w_or ?_) | (with_reducible refine w_andV ?_) | (with_reducible refine w_orV ?_) | (with_reducible refine w_notV ?_) | (with_reducible refine w_tif ?_)
  | (with_reducible refine w_tup ?_) | (with_reducible refine w_lst ?_) | (with_reducible refine w_un ?_) | (with_reducible refine w_U ?_) | (with_reducible refine w_drop ?_) | (with_reducible refine w_brk ?_) | (with_reducible refine w_cont ?_) | (with_reducible refine w_retN ?_)
  | (with_reducible refine w_call ?_) | (with_reducible refine w_fld ?_) | (with_reducible refine w_sfld ?_) | (with_reducible refine w_prop ?_) | (with_reducible refine w_make ?_) | (with_reducible refine w_meth ?_) | (with_reducible refine w_methN ?_) | (with_reducible refine w_revL ?_) | (with_reducible refine w_gsub ?_)
  | ((with_reducible refine' w_powN ?c1 ?c2 ?_); (case c2 => (decide +kernel)); (case c1 => exact rfl))
  | ((with_reducible refine' w_powV ?c1 ?c2 ?c3 ?c4 ?_); (case c2 => walk_at "bt"); (case c3 => (decide +kernel)); (case c4 => (decide +kernel)); (case c1 => exact rfl))
  | ((with_reducible refine' w_I (C := CMulW) ?c1 ?_); (case c1 => (refine' mulOk ?k1 ?k2 ?k3; (case k1 => walk_at "bt"); (case k2 => walk_at "bt"); (case k3 => decide +kernel))))
  | ((with_reducible refine' w_I (C := CDivW) ?c1 ?_); (case c1 => (refine' divOk ?k1 ?k2 ?k3; (case k1 => walk_at "pos"); (case k2 => walk_at "bt"); (case k3 => decide +kernel))))
  | ((with_reducible refine' w_I (C := fun _ j => 0 < j) ?c1 ?_); (case c1 => walk_at "pos"))
  | (with_reducible refine w_isB ?_) | (with_reducible refine w_notB ?_) | (with_reducible refine w_neS ?_) | (with_reducible refine w_eqS ?_)
  | (with_reducible refine w_iRng1 ?_) | (with_reducible refine w_for ?_) | (with_reducible refine w_iEnum ?_) | (with_reducible refine w_iList ?_) | (with_reducible refine w_iTup ?_) | (with_reducible refine w_noPart ?_) | (with_reducible refine w_part ?_) | (with_reducible refine w_int ?_)
  | (with_reducible refine w_sl ?_)
  | (with_reducible refine w_two ?_) | (with_reducible refine w_one ?_)
  | ((with_reducible refine' w_ixL ?hs ?he ?_); (case hs => first | (refine' SqL.of ?q0; (case q0 => walk_at "hp")) | assumption); (case he => exact rfl))
  | ((with_reducible refine' w_ixT ?hs ?he ?_); (case hs => first | (refine' SqT.of ?q0; (case q0 => walk_at "tp")) | assumption); (case he => exact rfl))
  | ((with_reducible refine' w_setL ?hs ?he ?_); (case hs => walk_at "hp"); (case he => exact rfl))
  | (with_reducible refine w_iteT rfl ?_) | (with_reducible refine w_iteF rfl ?_) | ((with_reducible refine w_alloc ?h ?_); (case h => exact rfl))
  | (with_reducible refine w_augS ?_) | (with_reducible refine w_ipI ?_) | (with_reducible refine w_exo1 ?_) | (with_reducible refine w_exoI ?_) | (with_reducible refine w_exoK ?_) | (with_reducible refine w_fldE ?_) | (with_reducible refine w_ost ?_) | (with_reducible refine w_makeS ?_) | (with_reducible refine w_methS ?_) | (with_reducible refine w_callS ?_) | (with_reducible refine w_bm ?_) | (with_reducible refine w_makeK ?_) | (with_reducible refine w_callN ?_))
local macro_rules | `(tactic| walk_at "wp") => `(tactic| repeat (walk_at "wp1"))

section
variable {P : Program} {w : World} {K : PySem.W.Frag} {mg : Str → Option Value} {base : Heap} {A : Ad}
def Bag (b : Int) (H : Hp) (a : Addr) : Prop := ∃ x z : Int, H a = some (.lst [.int x, .int z]) ∧ 0 ≤ x ∧ 0 ≤ z ∧ z ≤ b
theorem Bag.same {b : Int} {H H' : Hp} {a : Addr} (h : Bag b H a) (e : Same H H') : Bag b H' a := let ⟨x, z, h, r⟩ := h; ⟨x, z, e _ _ h, r⟩
def spBag : Sp := fun vs H Q _ => ∃ c k : Int, vs = [.int c, .int k] ∧ 0 ≤ k ∧ k ≤ 20 ∧ ∀ p H', H p = none → Same H H' → Bag 800 H' p → Q (.ref p) H'
def spDraw72 : Sp := fun vs H Q _ => ∃ a n b, vs = [.ref a, .int n] ∧ Bag b H a ∧ b ≤ 1000 ∧ 0 < n ∧ n ≤ 1000000000 ∧ ∀ d H', 0 ≤ d → d < n → Bag (b + 1) H' a → Fr a H H' → Q (.int d) H'
theorem ok_law_bag (T : Txt K mg A) : FnOk P w K mg base CX0 1 A.a_law_bag A.d_law_bag ["cell", "k"] spBag := by
  refine T.fun_law_bag.ok sc_law_bag (fun vs H Q E h => ?_) (fun cdv B outer s H vs Q E hr h => ?_)
  · obtain ⟨c, k, rfl, _⟩ := h
    rfl
  · obtain ⟨c, k, rfl, h0, h1, q⟩ := h
    refine ⟨_, (pss_cons (ps_if (pt_cmpR op_lt (pv 0) pe_int (nomark _)) (pss_one (ps_ret (pe_lst (pa_cons (pe_un un_neg (pv 0)) (pa_cons (pe_op op_add (pe_op op_mulW pe_int (pv 1)) pe_int) pa_nil))))) pss_nil)
 (pss_one (ps_ret (pe_lst (pa_cons (pv 0) (pa_cons (pe_op op_mulW pe_int (pv 1)) pa_nil)))))), ?_⟩
    walk_at "wp"
    have bk : Bt 10 k := by unfold Bt; omega
    refine w_ite (fun c => ?_) fun c => ?_
    · have c := of_decide_eq_true c
      walk_at "wp"
      intro p H1 n1 e1 h1
      exact q p H1 n1 e1 ⟨_, _, h1, by omega, by omega, by omega⟩
    · have c := of_decide_eq_false c
      walk_at "wp"
      intro p H1 n1 e1 h1
      exact q p H1 n1 e1 ⟨_, _, h1, by omega, by omega, by omega⟩
theorem ok_law_draw (T : Txt K mg A) : FnOk P w K mg base CX0 1 A.a_law_draw A.d_law_draw ["bag", "many"] spDraw72 := by
  refine T.fun_law_draw.ok sc_law_draw (fun vs H Q E h => ?_) (fun cdv B outer s H vs Q E hr h => ?_)
  · obtain ⟨a, n, b, rfl, _⟩ := h
    rfl
  · obtain ⟨a, n, b, rfl, ⟨x, z, ha, hx, hz, hzb⟩, hb, hn, bn, q⟩ := h
    refine ⟨_, (pss_cons (ps_augS (pv 0) pe_int G.pget_list pe_int ip_add set_list)
 (pss_cons (ps_if (pt_cmpR op_ge (pe_ix ix_list (pv 0) pe_int (fun _ _ => rfl)) (G.pe_powc (c := 1000000000000000000) (by decide +kernel) (by decide +kernel)) (nomark _)) (pss_cons (ps_set (i := 2) (sc_law_draw).nd rfl (Or.inl rfl) (pe_op op_modW (pe_ix ix_list (pv 0) pe_int (fun _ _ => rfl)) (pv 1)))
 (pss_cons (ps_asg (pe_op op_fdivW (pe_ix ix_list (pv 0) pe_int (fun _ _ => rfl)) (pv 1)) (pg_sub (pv 0) pe_int set_list))
 (pss_one (ps_ret (pv 2))))) pss_nil)
 (pss_cons (ps_set (i := 3) (sc_law_draw).nd rfl (Or.inl rfl) (pe_op op_modW (pe_op op_add (pe_op op_add (pe_op op_modW (pe_ix ix_list (pv 0) pe_int (fun _ _ => rfl)) pe_int) (pe_op op_mulW pe_int (pe_ix ix_list (pv 0) pe_int (fun _ _ => rfl)))) pe_int) pe_int))
 (pss_cons (ps_set (i := 3) (sc_law_draw).nd rfl (Or.inl rfl) (pe_op op_modW (pe_op op_mulW (pv 3) (pv 3)) pe_int))
 (pss_cons (ps_set (i := 3) (sc_law_draw).nd rfl (Or.inl rfl) (pe_op op_modW (pe_op op_add (pv 3) (pe_op op_mulW pe_int (pe_ix ix_list (pv 0) pe_int (fun _ _ => rfl)))) pe_int))
 (pss_cons (ps_set (i := 3) (sc_law_draw).nd rfl (Or.inl rfl) (pe_op op_modW (pe_op op_mulW (pv 3) (pv 3)) pe_int))
 (pss_one (ps_ret (pe_op op_modW (pe_op op_fdivW (pv 3) pe_int) (pv 1)))))))))), ?_⟩
    have bn' : Bt 31 n := by unfold Bt; omega
    walk_at "wp"
    refine w_ite (fun c => ?_) fun c => ?_
    · walk_at "wp"
      exact q _ _ (Int.emod_nonneg x (by omega)) (Int.emod_lt_of_pos x hn) (by exact ⟨x / n, z + 1, upd_same, Int.ediv_nonneg hx (by omega), by omega, by omega⟩) (by exact Fr.at_.trans Fr.at_)
    · have b0 : Bt 20 z := by unfold Bt; omega
      walk_at "wp"
      exact q _ _ (Int.emod_nonneg _ (by omega)) (Int.emod_lt_of_pos _ hn) (by exact ⟨x, z + 1, upd_same, hx, by omega, by omega⟩) (by exact Fr.at_)
theorem ok_TooMuchError_init (T : Txt K mg A) : FnOk P w K mg base CX0 1 A.a_TooMuchError_init A.d_TooMuchError_init ["self", "index"] (spKeep K A.c_TooMuchError "index") := by
  refine T.fun_TooMuchError_init.ok sc_TooMuchError_init (fun vs H Q E h => ?_) (fun cdv B outer s H vs Q E hr h => ?_)
  · obtain ⟨a, v, rfl, _⟩ := h
    rfl
  · obtain ⟨a, v, rfl, ha, q⟩ := h
    refine ⟨_, (pss_one (ps_ost (pv 0) (pv 1))), ?_⟩
    walk_at "wp"
    exact ⟨a, _, rfl, T.ox_TooMuchError, T.xn_TooMuchError, .inl ⟨ha, q⟩⟩
theorem ok_TooManyError_init (T : Txt K mg A) : FnOk P w K mg base CX0 1 A.a_TooManyError_init A.d_TooManyError_init ["self", "limit"] (spKeep K A.c_TooManyError "limit") := by
  refine T.fun_TooManyError_init.ok sc_TooManyError_init (fun vs H Q E h => ?_) (fun cdv B outer s H vs Q E hr h => ?_)
  · obtain ⟨a, v, rfl, _⟩ := h
    rfl
  · obtain ⟨a, v, rfl, ha, q⟩ := h
    refine ⟨_, (pss_one (ps_ost (pv 0) (pv 1))), ?_⟩
    walk_at "wp"
    exact ⟨a, _, rfl, T.ox_TooManyError, T.xn_TooManyError, .inl ⟨ha, q⟩⟩
theorem kb_TooMuchError (T : Txt K mg A) : KBn K A.d_TooMuchError_init ["self", "index"] 1 ["index"] (fun us ws => us ++ ws) (fun vs zs => vs ++ zs) := by
  obtain ⟨oc, od, kV, doc, pm, an, cdv, ct, osl, e, _⟩ := T.fun_TooMuchError_init.ex
  rw [e]
  exact kbn_self fun us ws h1 h2 => match us, ws, h1, h2 with | [_], [_], _, _ => rfl
theorem kb_TooManyError (T : Txt K mg A) : KBn K A.d_TooManyError_init ["self", "limit"] 1 ["limit"] (fun us ws => us ++ ws) (fun vs zs => vs ++ zs) := by
  obtain ⟨oc, od, kV, doc, pm, an, cdv, ct, osl, e, _⟩ := T.fun_TooManyError_init.ex
  rw [e]
  exact kbn_self fun us ws h1 h2 => match us, ws, h1, h2 with | [_], [_], _, _ => rfl
/-- the classes in the law's order -/
abbrev CS (A : Ad) : List Addr := [A.c_EmptyHistoryError, A.c_FullError, A.c_InvalidContentsError, A.c_InvalidFormatError, A.c_InvalidGroupError, A.c_InvalidMixtureError, A.c_InvalidNumberError, A.c_InvalidRatioError, A.c_InvalidRowsError, A.c_InvalidSubstanceError, A.c_InvalidTransfersError, A.c_InvalidVesselError, A.c_InvalidVolumesError, A.c_NotClosedError, A.c_NotStartedError, A.c_OverfullError, A.c_SealedError, A.c_StartedError, A.c_TooManyError, A.c_TooMuchError, A.c_TooSmallError, A.c_ZeroRatioError]
def marksOf (b : Nat → Bool) : List V := (List.range 22).map fun j => .bl (b j)
def spMarks (K : PySem.W.Frag) (A : Ad) : Sp := fun vs H Q _ => ∃ a D b, vs = [.ref a] ∧ ExV H a D ∧ ExcC K D ∧ RowK K (.ref D) (CS A) 0 b ∧ ∀ p H', H p = none → Same H H' → H' p = some (.lst (marksOf b)) → Q (.ref p) H'
theorem ok_law_marks (T : Txt K mg A) : FnOk P w K mg base CX0 1 A.a_law_marks A.d_law_marks ["e"] (spMarks K A) := by
  refine T.fun_law_marks.ok sc_law_marks (fun vs H Q E h => ?_) (fun cdv B outer s H vs Q E hr h => ?_)
  · obtain ⟨a, D, b, rfl, _⟩ := h
    rfl
  · obtain ⟨a, D, b, rfl, hx, hC, ⟨r0, r1, r2, r3, r4, r5, r6, r7, r8, r9, r10, r11, r12, r13, r14, r15, r16, r17, r18, r19, r20, r21, _⟩, q⟩ := h
    refine ⟨_, (pss_cons (ps_set (i := 1) (sc_law_marks).nd rfl (Or.inl rfl) (pe_lst pa_nil))
 (pss_cons (ps_set (i := 1) (sc_law_marks).nd rfl (Or.inl rfl) (pe_op G.op_catL (pv 1) (pe_lst (pa_cons (pe_callB G.call_isV (by rfl) T.z_isinstance (by decide +kernel) (pa_cons (pv 0) (pa_cons (pe_glob (v := .ref A.c_EmptyHistoryError) rfl T.mgc_EmptyHistoryError rfl) pa_nil))) (pa_cons (pe_callB G.call_isV (by rfl) T.z_isinstance (by decide +kernel) (pa_cons (pv 0) (pa_cons (pe_glob (v := .ref A.c_FullError) rfl T.mgc_FullError rfl) pa_nil))) pa_nil)))))
 (pss_cons (ps_set (i := 1) (sc_law_marks).nd rfl (Or.inl rfl) (pe_op G.op_catL (pv 1) (pe_lst (pa_cons (pe_callB G.call_isV (by rfl) T.z_isinstance (by decide +kernel) (pa_cons (pv 0) (pa_cons (pe_glob (v := .ref A.c_InvalidContentsError) rfl T.mgc_InvalidContentsError rfl) pa_nil))) (pa_cons (pe_callB G.call_isV (by rfl) T.z_isinstance (by decide +kernel) (pa_cons (pv 0) (pa_cons (pe_glob (v := .ref A.c_InvalidFormatError) rfl T.mgc_InvalidFormatError rfl) pa_nil))) pa_nil)))))
 (pss_cons (ps_set (i := 1) (sc_law_marks).nd rfl (Or.inl rfl) (pe_op G.op_catL (pv 1) (pe_lst (pa_cons (pe_callB G.call_isV (by rfl) T.z_isinstance (by decide +kernel) (pa_cons (pv 0) (pa_cons (pe_glob (v := .ref A.c_InvalidGroupError) rfl T.mgc_InvalidGroupError rfl) pa_nil))) (pa_cons (pe_callB G.call_isV (by rfl) T.z_isinstance (by decide +kernel) (pa_cons (pv 0) (pa_cons (pe_glob (v := .ref A.c_InvalidMixtureError) rfl T.mgc_InvalidMixtureError rfl) pa_nil))) pa_nil)))))
 (pss_cons (ps_set (i := 1) (sc_law_marks).nd rfl (Or.inl rfl) (pe_op G.op_catL (pv 1) (pe_lst (pa_cons (pe_callB G.call_isV (by rfl) T.z_isinstance (by decide +kernel) (pa_cons (pv 0) (pa_cons (pe_glob (v := .ref A.c_InvalidNumberError) rfl T.mgc_InvalidNumberError rfl) pa_nil))) (pa_cons (pe_callB G.call_isV (by rfl) T.z_isinstance (by decide +kernel) (pa_cons (pv 0) (pa_cons (pe_glob (v := .ref A.c_InvalidRatioError) rfl T.mgc_InvalidRatioError rfl) pa_nil))) pa_nil)))))
 (pss_cons (ps_set (i := 1) (sc_law_marks).nd rfl (Or.inl rfl) (pe_op G.op_catL (pv 1) (pe_lst (pa_cons (pe_callB G.call_isV (by rfl) T.z_isinstance (by decide +kernel) (pa_cons (pv 0) (pa_cons (pe_glob (v := .ref A.c_InvalidRowsError) rfl T.mgc_InvalidRowsError rfl) pa_nil))) (pa_cons (pe_callB G.call_isV (by rfl) T.z_isinstance (by decide +kernel) (pa_cons (pv 0) (pa_cons (pe_glob (v := .ref A.c_InvalidSubstanceError) rfl T.mgc_InvalidSubstanceError rfl) pa_nil))) pa_nil)))))
 (pss_cons (ps_set (i := 1) (sc_law_marks).nd rfl (Or.inl rfl) (pe_op G.op_catL (pv 1) (pe_lst (pa_cons (pe_callB G.call_isV (by rfl) T.z_isinstance (by decide +kernel) (pa_cons (pv 0) (pa_cons (pe_glob (v := .ref A.c_InvalidTransfersError) rfl T.mgc_InvalidTransfersError rfl) pa_nil))) (pa_cons (pe_callB G.call_isV (by rfl) T.z_isinstance (by decide +kernel) (pa_cons (pv 0) (pa_cons (pe_glob (v := .ref A.c_InvalidVesselError) rfl T.mgc_InvalidVesselError rfl) pa_nil))) pa_nil)))))
 (pss_cons (ps_set (i := 1) (sc_law_marks).nd rfl (Or.inl rfl) (pe_op G.op_catL (pv 1) (pe_lst (pa_cons (pe_callB G.call_isV (by rfl) T.z_isinstance (by decide +kernel) (pa_cons (pv 0) (pa_cons (pe_glob (v := .ref A.c_InvalidVolumesError) rfl T.mgc_InvalidVolumesError rfl) pa_nil))) (pa_cons (pe_callB G.call_isV (by rfl) T.z_isinstance (by decide +kernel) (pa_cons (pv 0) (pa_cons (pe_glob (v := .ref A.c_NotClosedError) rfl T.mgc_NotClosedError rfl) pa_nil))) pa_nil)))))
 (pss_cons (ps_set (i := 1) (sc_law_marks).nd rfl (Or.inl rfl) (pe_op G.op_catL (pv 1) (pe_lst (pa_cons (pe_callB G.call_isV (by rfl) T.z_isinstance (by decide +kernel) (pa_cons (pv 0) (pa_cons (pe_glob (v := .ref A.c_NotStartedError) rfl T.mgc_NotStartedError rfl) pa_nil))) (pa_cons (pe_callB G.call_isV (by rfl) T.z_isinstance (by decide +kernel) (pa_cons (pv 0) (pa_cons (pe_glob (v := .ref A.c_OverfullError) rfl T.mgc_OverfullError rfl) pa_nil))) pa_nil)))))
 (pss_cons (ps_set (i := 1) (sc_law_marks).nd rfl (Or.inl rfl) (pe_op G.op_catL (pv 1) (pe_lst (pa_cons (pe_callB G.call_isV (by rfl) T.z_isinstance (by decide +kernel) (pa_cons (pv 0) (pa_cons (pe_glob (v := .ref A.c_SealedError) rfl T.mgc_SealedError rfl) pa_nil))) (pa_cons (pe_callB G.call_isV (by rfl) T.z_isinstance (by decide +kernel) (pa_cons (pv 0) (pa_cons (pe_glob (v := .ref A.c_StartedError) rfl T.mgc_StartedError rfl) pa_nil))) pa_nil)))))
 (pss_cons (ps_set (i := 1) (sc_law_marks).nd rfl (Or.inl rfl) (pe_op G.op_catL (pv 1) (pe_lst (pa_cons (pe_callB G.call_isV (by rfl) T.z_isinstance (by decide +kernel) (pa_cons (pv 0) (pa_cons (pe_glob (v := .ref A.c_TooManyError) rfl T.mgc_TooManyError rfl) pa_nil))) (pa_cons (pe_callB G.call_isV (by rfl) T.z_isinstance (by decide +kernel) (pa_cons (pv 0) (pa_cons (pe_glob (v := .ref A.c_TooMuchError) rfl T.mgc_TooMuchError rfl) pa_nil))) pa_nil)))))
 (pss_cons (ps_set (i := 1) (sc_law_marks).nd rfl (Or.inl rfl) (pe_op G.op_catL (pv 1) (pe_lst (pa_cons (pe_callB G.call_isV (by rfl) T.z_isinstance (by decide +kernel) (pa_cons (pv 0) (pa_cons (pe_glob (v := .ref A.c_TooSmallError) rfl T.mgc_TooSmallError rfl) pa_nil))) (pa_cons (pe_callB G.call_isV (by rfl) T.z_isinstance (by decide +kernel) (pa_cons (pv 0) (pa_cons (pe_glob (v := .ref A.c_ZeroRatioError) rfl T.mgc_ZeroRatioError rfl) pa_nil))) pa_nil)))))
 (pss_one (ps_ret (pv 1))))))))))))))), ?_⟩
    walk_at "wp"
    intro p0 H0 n0 e0 h0
    walk_at "wp"
    refine ⟨a, D, _, _, b 0, rfl, hx.same (by walk_at "sm"), hC, fun u h => h, r0, ?_⟩
    walk_at "wp"
    refine ⟨a, D, _, _, b 1, rfl, hx.same (by walk_at "sm"), hC, fun u h => h, r1, ?_⟩
    walk_at "wp"
    intro p1 H1 n1 e1 h1
    refine ⟨p0, p1, _, _, rfl, rfl, SqL.of (by walk_at "ls"), SqL.of h1, (by show (2 : Nat) ≤ 1000000; decide), fun p2 H2 n2 e2 h2 => ?_⟩
    walk_at "wp"
    refine ⟨a, D, _, _, b 2, rfl, hx.same (by walk_at "sm"), hC, fun u h => h, r2, ?_⟩
    walk_at "wp"
    refine ⟨a, D, _, _, b 3, rfl, hx.same (by walk_at "sm"), hC, fun u h => h, r3, ?_⟩
    walk_at "wp"
    intro p3 H3 n3 e3 h3
    refine ⟨p2, p3, _, _, rfl, rfl, SqL.of (by walk_at "ls"), SqL.of h3, (by show (4 : Nat) ≤ 1000000; decide), fun p4 H4 n4 e4 h4 => ?_⟩
    walk_at "wp"
    refine ⟨a, D, _, _, b 4, rfl, hx.same (by walk_at "sm"), hC, fun u h => h, r4, ?_⟩
    walk_at "wp"
    refine ⟨a, D, _, _, b 5, rfl, hx.same (by walk_at "sm"), hC, fun u h => h, r5, ?_⟩
    walk_at "wp"
    intro p5 H5 n5 e5 h5
    refine ⟨p4, p5, _, _, rfl, rfl, SqL.of (by walk_at "ls"), SqL.of h5, (by show (6 : Nat) ≤ 1000000; decide), fun p6 H6 n6 e6 h6 => ?_⟩
    walk_at "wp"
    refine ⟨a, D, _, _, b 6, rfl, hx.same (by walk_at "sm"), hC, fun u h => h, r6, ?_⟩
    walk_at "wp"
    refine ⟨a, D, _, _, b 7, rfl, hx.same (by walk_at "sm"), hC, fun u h => h, r7, ?_⟩
    walk_at "wp"
    intro p7 H7 n7 e7 h7
    refine ⟨p6, p7, _, _, rfl, rfl, SqL.of (by walk_at "ls"), SqL.of h7, (by show (8 : Nat) ≤ 1000000; decide), fun p8 H8 n8 e8 h8 => ?_⟩
    walk_at "wp"
    refine ⟨a, D, _, _, b 8, rfl, hx.same (by walk_at "sm"), hC, fun u h => h, r8, ?_⟩
    walk_at "wp"
    refine ⟨a, D, _, _, b 9, rfl, hx.same (by walk_at "sm"), hC, fun u h => h, r9, ?_⟩
    walk_at "wp"
    intro p9 H9 n9 e9 h9
    refine ⟨p8, p9, _, _, rfl, rfl, SqL.of (by walk_at "ls"), SqL.of h9, (by show (10 : Nat) ≤ 1000000; decide), fun p10 H10 n10 e10 h10 => ?_⟩
    walk_at "wp"
    refine ⟨a, D, _, _, b 10, rfl, hx.same (by walk_at "sm"), hC, fun u h => h, r10, ?_⟩
    walk_at "wp"
    refine ⟨a, D, _, _, b 11, rfl, hx.same (by walk_at "sm"), hC, fun u h => h, r11, ?_⟩
    walk_at "wp"
    intro p11 H11 n11 e11 h11
    refine ⟨p10, p11, _, _, rfl, rfl, SqL.of (by walk_at "ls"), SqL.of h11, (by show (12 : Nat) ≤ 1000000; decide), fun p12 H12 n12 e12 h12 => ?_⟩
    walk_at "wp"
    refine ⟨a, D, _, _, b 12, rfl, hx.same (by walk_at "sm"), hC, fun u h => h, r12, ?_⟩
    walk_at "wp"
    refine ⟨a, D, _, _, b 13, rfl, hx.same (by walk_at "sm"), hC, fun u h => h, r13, ?_⟩
    walk_at "wp"
    intro p13 H13 n13 e13 h13
    refine ⟨p12, p13, _, _, rfl, rfl, SqL.of (by walk_at "ls"), SqL.of h13, (by show (14 : Nat) ≤ 1000000; decide), fun p14 H14 n14 e14 h14 => ?_⟩
    walk_at "wp"
    refine ⟨a, D, _, _, b 14, rfl, hx.same (by walk_at "sm"), hC, fun u h => h, r14, ?_⟩
    walk_at "wp"
    refine ⟨a, D, _, _, b 15, rfl, hx.same (by walk_at "sm"), hC, fun u h => h, r15, ?_⟩
    walk_at "wp"
    intro p15 H15 n15 e15 h15
    refine ⟨p14, p15, _, _, rfl, rfl, SqL.of (by walk_at "ls"), SqL.of h15, (by show (16 : Nat) ≤ 1000000; decide), fun p16 H16 n16 e16 h16 => ?_⟩
    walk_at "wp"
    refine ⟨a, D, _, _, b 16, rfl, hx.same (by walk_at "sm"), hC, fun u h => h, r16, ?_⟩
    walk_at "wp"
    refine ⟨a, D, _, _, b 17, rfl, hx.same (by walk_at "sm"), hC, fun u h => h, r17, ?_⟩
    walk_at "wp"
    intro p17 H17 n17 e17 h17
    refine ⟨p16, p17, _, _, rfl, rfl, SqL.of (by walk_at "ls"), SqL.of h17, (by show (18 : Nat) ≤ 1000000; decide), fun p18 H18 n18 e18 h18 => ?_⟩
    walk_at "wp"
    refine ⟨a, D, _, _, b 18, rfl, hx.same (by walk_at "sm"), hC, fun u h => h, r18, ?_⟩
    walk_at "wp"
    refine ⟨a, D, _, _, b 19, rfl, hx.same (by walk_at "sm"), hC, fun u h => h, r19, ?_⟩
    walk_at "wp"
    intro p19 H19 n19 e19 h19
    refine ⟨p18, p19, _, _, rfl, rfl, SqL.of (by walk_at "ls"), SqL.of h19, (by show (20 : Nat) ≤ 1000000; decide), fun p20 H20 n20 e20 h20 => ?_⟩
    walk_at "wp"
    refine ⟨a, D, _, _, b 20, rfl, hx.same (by walk_at "sm"), hC, fun u h => h, r20, ?_⟩
    walk_at "wp"
    refine ⟨a, D, _, _, b 21, rfl, hx.same (by walk_at "sm"), hC, fun u h => h, r21, ?_⟩
    walk_at "wp"
    intro p21 H21 n21 e21 h21
    refine ⟨p20, p21, _, _, rfl, rfl, SqL.of (by walk_at "ls"), SqL.of h21, (by show (22 : Nat) ≤ 1000000; decide), fun p22 H22 n22 e22 h22 => ?_⟩
    walk_at "wp"
    have sF : Same H H21 := by walk_at "sm"
    exact q _ _ (sF.free n22) (sF.trans e22) h22
end
end K72

namespace K72
open PySem L2 G
local macro_rules | `(tactic| walk_at "pos") => `(tactic| first | assumption | (decide +kernel) | omega)
local macro_rules | `(tactic| walk_at "bt") => `(tactic| first
  | assumption
  | (decide +kernel)
  | exact Bt.mono (by assumption) (by decide)
  | (refine' Bt.add ?b1 ?b2; (case b1 => walk_at "bt"); (case b2 => walk_at "bt"))
  | (refine' Bt.sub ?b1 ?b2; (case b1 => walk_at "bt"); (case b2 => walk_at "bt"))
  | (refine' Bt.mul ?b1 ?b2; (case b1 => walk_at "bt"); (case b2 => walk_at "bt"))
  | (refine' Bt.mod ?b1 ?b2; (case b2 => walk_at "bt"); (case b1 => walk_at "pos"))
  | (refine' Bt.div ?b1 ?b2; (case b2 => walk_at "bt"); (case b1 => walk_at "pos"))
  | (refine' Bt.pow3 ?b1; (case b1 => walk_at "bt"))
  | (refine' Bt.neg ?b1; (case b1 => walk_at "bt"))
  | exact Bt.any)
local macro_rules | `(tactic| walk_at "btm") => `(tactic| ((refine' Bt.mono ?m1 ?m2); (case m1 => walk_at "bt"); (case m2 => (decide +kernel))))
local macro_rules | `(tactic| walk_at "ne") => `(tactic| first
  | assumption
  | (refine' Ne.symm ?q1; (case q1 => assumption))
  | (refine' ne_of_none (by assumption) ?q1; (case q1 => assumption))
  | (refine' Ne.symm (ne_of_none (by assumption) ?q1); (case q1 => assumption)))
local macro_rules | `(tactic| walk_at "hp") => `(tactic| first
  | assumption
  | exact upd_same
  | ((refine' lst_same ?q1 (by assumption : Same _ _)); (case q1 => walk_at "hp"))
  | ((refine' (by assumption : Fr _ _ _) _ _ ?n ?h); (case n => walk_at "ne"); (case h => walk_at "hp"))
  | ((refine (upd_ne (by assumption)).trans ?_); walk_at "hp")
  | ((refine (upd_ne (Ne.symm (by assumption))).trans ?_); walk_at "hp"))
local macro_rules | `(tactic| walk_at "sr") => `(tactic| first
  | assumption
  | ((refine' Src.same ?q1 (by assumption : Same _ _)); (case q1 => walk_at "sr")))
local macro_rules | `(tactic| walk_at "rt") => `(tactic| first
  | assumption
  | ((refine' Rat.same ?q1 (by assumption : Same _ _)); (case q1 => walk_at "rt"))
  | ((refine' Rat.fr ?q1 ?q2 (by assumption : Fr _ _ _)); (case q2 => walk_at "sr"); (case q1 => walk_at "rt")))
local macro_rules | `(tactic| walk_at "tp") => `(tactic| first
  | assumption
  | ((refine' tup_same ?q1 (by assumption : Same _ _)); (case q1 => walk_at "tp"))
  | ((refine' tup_fr ?q1 ?q2 (by assumption : Fr _ _ _)); (case q2 => walk_at "sr"); (case q1 => walk_at "tp")))
local macro_rules | `(tactic| walk_at "ls") => `(tactic| first
  | assumption
  | ((refine' lst_same ?q1 (by assumption : Same _ _)); (case q1 => walk_at "ls"))
  | ((refine' lst_fr ?q1 ?q2 (by assumption : Fr _ _ _)); (case q2 => assumption); (case q1 => walk_at "ls")))
local macro_rules | `(tactic| walk_at "sm") => `(tactic| first
  | exact Same.refl _
  | assumption
  | ((refine Same.trans ?_ (by assumption : Same _ _)); walk_at "sm"))
local macro_rules | `(tactic| walk_at "fr") => `(tactic| first
  | exact Fr.refl _ _
  | assumption
  | ((refine Fr.trans ?_ (Fr.same (by assumption : Same _ _))); walk_at "fr")
  | ((refine Fr.trans ?_ (by assumption : Fr _ _ _)); walk_at "fr"))
local macro_rules | `(tactic| walk_at "wp1") => `(tactic| first
  | (with_reducible refine w_seq ?_) | (with_reducible refine w_next ?_) | (with_reducible refine w_ret ?_) | (with_reducible refine w_asg ?_) | (with_reducible refine w_gn ?_) | (with_reducible refine w_if ?_)
  | (with_reducible refine w_cons ?_) | (with_reducible refine w_nil ?_) | (with_reducible refine w_c ?_) | (with_reducible refine w_op ?_) | (with_reducible refine w_cb ?_)
  | ((with_reducible refine' w_var ?h ?_); (case h => exact rfl))
  | (with_reducible refine w_I0 ?_) | (with_reducible refine w_eqI ?_) | (with_reducible refine w_neI ?_) | (with_reducible refine w_test ?_) | (with_reducible refine w_tB ?_) | (with_reducible refine w_bl ?_) | (with_reducible refine w_par ?_) | (with_reducible refine w_par2 ?_)
  | (with_reducible refine w_not ?_) | (with_reducible refine w_and ?_) | (with_reducible refine w_or ?_) | (with_reducible refine w_andV ?_) | (with_reducible refine w_orV ?_) | (with_reducible refine w_notV ?_) | (with_reducible refine w_tif ?_)
  | (with_reducible refine w_tup ?_) | (with_reducible refine w_lst ?_) | (with_reducible refine w_un ?_) | (with_reducible refine w_U ?_) | (with_reducible refine w_drop ?_) | (with_reducible refine w_brk ?_) | (with_reducible refine w_cont ?_) | (with_reducible refine w_retN ?_)
  | (with_reducible refine w_call ?_) | (with_reducible refine w_fld ?_) | (with_reducible refine w_sfld ?_) | (with_reducible refine w_prop ?_) | (with_reducible refine w_make ?_) | (with_reducible refine w_meth ?_) | (with_reducible refine w_methN ?_) | (with_reducible refine w_revL ?_) | (with_reducible refine w_gsub ?_)
  | ((with_reducible refine' w_powN ?c1 ?c2 ?_); (case c2 => (decide +kernel)); (case c1 => exact rfl))
  | ((with_reducible refine' w_powV ?c1 ?c2 ?c3 ?c4 ?_); (case c2 => walk_at "bt"); (case c3 => (decide +kernel)); (case c4 => (decide +kernel)); (case c1 => exact rfl))
  | ((with_reducible refine' w_I (C := CMulW) ?c1 ?_); (case c1 => (refine' mulOk ?k1 ?k2 ?k3; (case k1 => walk_at "bt"); (case k2 => walk_at "bt"); (case k3 => decide +kernel))))
  | ((with_reducible refine' w_I (C := CDivW) ?c1 ?_); (case c1 => (refine' divOk ?k1 ?k2 ?k3; (case k1 => walk_at "pos"); (case k2 => walk_at "bt"); (case k3 => decide +kernel))))
  | ((with_reducible refine' w_I (C := fun _ j => 0 < j) ?c1 ?_); (case c1 => walk_at "pos"))
  | (with_reducible refine w_isB ?_) | (with_reducible refine w_notB ?_) | (with_reducible refine w_neS ?_) | (with_reducible refine w_eqS ?_)
  | (with_reducible refine w_iRng1 ?_) | (with_reducible refine w_for ?_) | (with_reducible refine w_iEnum ?_) | (with_reducible refine w_iList ?_) | (with_reducible refine w_iTup ?_) | (with_reducible refine w_noPart ?_) | (with_reducible refine w_part ?_) | (with_reducible refine w_int ?_)
  | (with_reducible refine w_sl ?_)
  | (with_reducible refine w_two ?_) | (with_reducible refine w_one ?_)
  | ((with_reducible refine' w_ixL ?hs ?he ?_); (case hs => first | (refine' SqL.of ?q0; (case q0 => walk_at "hp")) | assumption); (case he => exact rfl))
  | ((with_reducible refine' w_ixT ?hs ?he ?_); (case hs => first | (refine' SqT.of ?q0; (case q0 => walk_at "tp")) | assumption); (case he => exact rfl))
  | ((with_reducible refine' w_setL ?hs ?he ?_); (case hs => walk_at "hp"); (case he => exact rfl))
  | (with_reducible refine w_iteT rfl ?_) | (with_reducible refine w_iteF rfl ?_) | ((with_reducible refine w_alloc ?h ?_); (case h => exact rfl))
  | (with_reducible refine w_augS ?_) | (with_reducible refine w_ipI ?_) | (with_reducible refine w_exo1 ?_) | (with_reducible refine w_exoI ?_) | (with_reducible refine w_exoK ?_) | (with_reducible refine w_fldE ?_) | (with_reducible refine w_ost ?_) | (with_reducible refine w_makeS ?_) | (with_reducible refine w_methS ?_) | (with_reducible refine w_callS ?_) | (with_reducible refine w_bm ?_) | (with_reducible refine w_makeK ?_) | (with_reducible refine w_callN ?_))
local macro_rules | `(tactic| walk_at "wp") => `(tactic| repeat (walk_at "wp1"))

section
variable {P : Program} {w : World} {K : PySem.W.Frag} {mg : Str → Option Value} {base : Heap} {A : Ad}
def It1 (K : PySem.W.Frag) (A : Ad) (H : Hp) (i : Nat) (v : V) : Prop := ∃ a D, v = .ref a ∧ ExV H a D ∧ ExcC K D ∧ RowK K (.ref D) (CS A) 0 (fun j => decide (j = i)) ∧ PySem.W.kitOne K (.ref D) (.ref A.c_StirError) = some true ∧ PySem.W.kitOne K (.ref D) (.type "ValueError") = some true
inductive Its (K : PySem.W.Frag) (A : Ad) (H : Hp) : Nat → List V → Prop
  | nil {k : Nat} : Its K A H k []
  | cons {k : Nat} {v : V} {vs : List V} : It1 K A H k v → Its K A H (k + 1) vs → Its K A H k (v :: vs)
theorem Its.same {H H' : Hp} {k : Nat} {vs : List V} (h : Its K A H k vs) (e : Same H H') : Its K A H' k vs := by
  induction h with
  | nil => exact .nil
  | cons a _ ih =>
    obtain ⟨a, D, rfl, x, r⟩ := a
    exact .cons ⟨a, D, rfl, x.same e, r⟩ ih
theorem Its.app {H : Hp} {k : Nat} {vs ws : List V} (h : Its K A H k vs) (g : Its K A H (k + vs.length) ws) : Its K A H k (vs ++ ws) := by
  induction h with
  | nil => exact g
  | @cons k v vs a _ ih =>
    refine .cons a (ih ?_)
    have e : k + (v :: vs).length = k + 1 + vs.length := by rw [List.length_cons]; omega
    rw [e] at g
    exact g
theorem Its.get {H : Hp} {k i : Nat} {vs : List V} {v : V} (h : Its K A H k vs) (e : vs[i]? = some v) : It1 K A H (k + i) v := by
  induction h generalizing i with
  | nil => simp at e
  | cons a _ ih =>
    cases i with
    | zero =>
      have e := Option.some.inj e
      subst e
      exact a
    | succ i =>
      have z := ih (i := i) (by simpa using e)
      rw [show ∀ a b : Nat, a + 1 + b = a + (b + 1) from fun a b => by omega] at z
      exact z
theorem kept_bl : Kept (fun (_ : Hp) (v : V) (y : Bool) => v = .bl y) where
  same := fun h _ => h
  fill := fun h _ _ => h
theorem pl_bl {vs : List V} {ys : List Bool} (h : PL (fun v y => v = .bl y) vs ys) : vs = ys.map V.bl := by
  induction h with
  | nil => rfl
  | cons a _ ih => rw [a, ih]; rfl
theorem dps_bl {H : Hp} : ∀ ys : List Bool, DpAll K H (ys.map V.bl) (ys.map PyData.bool)
  | [] => .nil
  | y :: ys => .cons (.bl y) (dps_bl ys)
theorem lay_bl : ∀ ys : List Bool, PyData.canLayAll0 (ys.map PyData.bool) = true
  | [] => by simp only [List.map_nil, PyData.canLayAll0]
  | y :: ys => by simp only [List.map_cons, PyData.canLayAll0, PyData.canLay0, lay_bl ys, Bool.and_self]
theorem dep_bl : ∀ ys : List Bool, PyData.depthAll (ys.map PyData.bool) = 0
  | [] => by simp only [List.map_nil, PyData.depthAll]
  | y :: ys => by simp only [List.map_cons, PyData.depthAll, PyData.depth, dep_bl ys, Nat.max_self]
theorem shaped_bl (ys : List Bool) : SeqAt.shaped (.list (ys.map PyData.bool)) = true := by
  unfold SeqAt.shaped
  simp only [PyData.canLay0, PyData.depth, lay_bl ys, dep_bl ys, Bool.true_and]
  exact decide_eq_true (by omega)
theorem marks_is (i : Nat) : marksOf (fun j => decide (j = i)) = ((List.range 22).map fun (j : Nat) => decide (j = i)).map V.bl := by
  unfold marksOf
  rw [List.map_map]
  rfl
def spRight : Sp := fun vs H Q _ => ∃ (z : Str) (n : Int), vs = [.str z, .int n] ∧ ∀ H', Same H H' → Q (.bl true) H'
theorem xfc {D : Addr} (c : ExcC K D) : XfC K D := ⟨c.hg, c.hk, c.hs, c.hd⟩
theorem ok_law_right (T : Txt K mg A) : FnOk P w K mg base CX0 3 A.a_law_right A.d_law_right ["message", "number"] spRight := by
  refine T.fun_law_right.ok sc_law_right (fun vs H Q E h => ?_) (fun cdv B outer s H vs Q E hr h => ?_)
  · obtain ⟨z, n, rfl, _⟩ := h
    rfl
  · obtain ⟨z, n, rfl, q⟩ := h
    refine ⟨_, (pss_cons (ps_set (i := 2) (sc_law_right).nd rfl (Or.inl rfl) (pe_lst pa_nil))
 (pss_cons (ps_set (i := 2) (sc_law_right).nd rfl (Or.inl rfl) (pe_op G.op_catL (pv 2) (pe_lst (pa_cons (G.pe_exo1 PySem.F.excBase_ValueError T.ex_EmptyHistoryError T.mgc_EmptyHistoryError T.ke_EmptyHistoryError rfl (pv 0)) (pa_cons (G.pe_exo1 PySem.F.excBase_ValueError T.ex_FullError T.mgc_FullError T.ke_FullError rfl (pv 0)) (pa_cons (G.pe_exo1 PySem.F.excBase_ValueError T.ex_InvalidContentsError T.mgc_InvalidContentsError T.ke_InvalidContentsError rfl (pv 0)) pa_nil))))))
 (pss_cons (ps_set (i := 2) (sc_law_right).nd rfl (Or.inl rfl) (pe_op G.op_catL (pv 2) (pe_lst (pa_cons (G.pe_exo1 PySem.F.excBase_ValueError T.ex_InvalidFormatError T.mgc_InvalidFormatError T.ke_InvalidFormatError rfl (pv 0)) (pa_cons (G.pe_exo1 PySem.F.excBase_ValueError T.ex_InvalidGroupError T.mgc_InvalidGroupError T.ke_InvalidGroupError rfl (pv 0)) (pa_cons (G.pe_exo1 PySem.F.excBase_ValueError T.ex_InvalidMixtureError T.mgc_InvalidMixtureError T.ke_InvalidMixtureError rfl (pv 0)) pa_nil))))))
 (pss_cons (ps_set (i := 2) (sc_law_right).nd rfl (Or.inl rfl) (pe_op G.op_catL (pv 2) (pe_lst (pa_cons (G.pe_exo1 PySem.F.excBase_ValueError T.ex_InvalidNumberError T.mgc_InvalidNumberError T.ke_InvalidNumberError rfl (pv 0)) (pa_cons (G.pe_exo1 PySem.F.excBase_ValueError T.ex_InvalidRatioError T.mgc_InvalidRatioError T.ke_InvalidRatioError rfl (pv 0)) (pa_cons (G.pe_exo1 PySem.F.excBase_ValueError T.ex_InvalidRowsError T.mgc_InvalidRowsError T.ke_InvalidRowsError rfl (pv 0)) pa_nil))))))
 (pss_cons (ps_set (i := 2) (sc_law_right).nd rfl (Or.inl rfl) (pe_op G.op_catL (pv 2) (pe_lst (pa_cons (G.pe_exo1 PySem.F.excBase_ValueError T.ex_InvalidSubstanceError T.mgc_InvalidSubstanceError T.ke_InvalidSubstanceError rfl (pv 0)) (pa_cons (G.pe_exo1 PySem.F.excBase_ValueError T.ex_InvalidTransfersError T.mgc_InvalidTransfersError T.ke_InvalidTransfersError rfl (pv 0)) (pa_cons (G.pe_exo1 PySem.F.excBase_ValueError T.ex_InvalidVesselError T.mgc_InvalidVesselError T.ke_InvalidVesselError rfl (pv 0)) pa_nil))))))
 (pss_cons (ps_set (i := 2) (sc_law_right).nd rfl (Or.inl rfl) (pe_op G.op_catL (pv 2) (pe_lst (pa_cons (G.pe_exo1 PySem.F.excBase_ValueError T.ex_InvalidVolumesError T.mgc_InvalidVolumesError T.ke_InvalidVolumesError rfl (pv 0)) (pa_cons (G.pe_exo1 PySem.F.excBase_ValueError T.ex_NotClosedError T.mgc_NotClosedError T.ke_NotClosedError rfl (pv 0)) (pa_cons (G.pe_exo1 PySem.F.excBase_ValueError T.ex_NotStartedError T.mgc_NotStartedError T.ke_NotStartedError rfl (pv 0)) pa_nil))))))
 (pss_cons (ps_set (i := 2) (sc_law_right).nd rfl (Or.inl rfl) (pe_op G.op_catL (pv 2) (pe_lst (pa_cons (G.pe_exo1 PySem.F.excBase_ValueError T.ex_OverfullError T.mgc_OverfullError T.ke_OverfullError rfl (pv 0)) (pa_cons (G.pe_exo1 PySem.F.excBase_ValueError T.ex_SealedError T.mgc_SealedError T.ke_SealedError rfl (pv 0)) (pa_cons (G.pe_exo1 PySem.F.excBase_ValueError T.ex_StartedError T.mgc_StartedError T.ke_StartedError rfl (pv 0)) pa_nil))))))
 (pss_cons (ps_set (i := 2) (sc_law_right).nd rfl (Or.inl rfl) (pe_op G.op_catL (pv 2) (pe_lst (pa_cons (G.pe_exoI T.ox_TooManyError T.ii_TooManyError T.fi_TooManyError (ok_TooManyError_init T) (hr.mono (by decide)) T.bd_TooManyError_init .nil pass0 rfl T.mgc_TooManyError (pa_cons (pv 1) pa_nil)) (pa_cons (G.pe_exoI T.ox_TooMuchError T.ii_TooMuchError T.fi_TooMuchError (ok_TooMuchError_init T) (hr.mono (by decide)) T.bd_TooMuchError_init .nil pass0 rfl T.mgc_TooMuchError (pa_cons (pv 1) pa_nil)) (pa_cons (G.pe_exo1 PySem.F.excBase_ValueError T.ex_TooSmallError T.mgc_TooSmallError T.ke_TooSmallError rfl (pv 0)) pa_nil))))))
 (pss_cons (ps_set (i := 2) (sc_law_right).nd rfl (Or.inl rfl) (pe_op G.op_catL (pv 2) (pe_lst (pa_cons (G.pe_exo1 PySem.F.excBase_ValueError T.ex_ZeroRatioError T.mgc_ZeroRatioError T.ke_ZeroRatioError rfl (pv 0)) pa_nil))))
 (pss_cons (ps_for PassesOwn.never rfl (pi_range1 rfl T.z_range (pa_cons pe_int pa_nil)) (pg_name (i := 3) (sc_law_right).nd rfl (Or.inr rfl)) (pss_cons (ps_if (pt_cmpR (op_neD hr.units) (pe_call (ok_law_marks T) (hr.mono (by decide)) rfl T.mg_law_marks T.fun_law_marks.kp T.bd_law_marks .nil pass0 (pa_cons (pe_ix ix_list (pv 2) (pv 3) (fun _ _ => rfl)) pa_nil)) (pe_lc (own := [("j", 5)]) (g := gName 5) rfl (sc_law_right).nd (pi_range1 rfl T.z_range (pa_cons pe_int pa_nil)) (blkOk_by (own := [("j", 5)]) (N := N_law_right) (sc := defScope s_law_right) (by decide +kernel)) (fun _ _ _ _ _ => pg_name (i := 5) (sc_law_right).nd rfl (Or.inl rfl)) (fun _ _ _ _ _ => pts_nil) (fun _ _ _ _ _ => (pe_cmpR op_eq (pv 5) (pv 3) (nomark _)))) (nomark _)) (pss_one (ps_ret pe_bl)) pss_nil)
 (pss_one (ps_if (PW.pt (pw_or (pt_not (pt_val (pe_callB G.call_isV (by rfl) T.z_isinstance (by decide +kernel) (pa_cons (pe_ix ix_list (pv 2) (pv 3) (fun _ _ => rfl)) (pa_cons (pe_glob (v := .ref A.c_StirError) rfl T.mgc_StirError rfl) pa_nil))))) (pw_or1 (pt_not (pt_val (pe_callB G.call_isV (by rfl) T.z_isinstance (by decide +kernel) (pa_cons (pe_ix ix_list (pv 2) (pv 3) (fun _ _ => rfl)) (pa_cons (pe_bltn (by rfl) T.z_ValueError (by decide +kernel) (show RelV (.ty "ValueError") _ from rfl)) pa_nil)))))))) (pss_one (ps_ret pe_bl)) pss_nil))))
 (pss_cons (ps_set (i := 4) (sc_law_right).nd rfl (Or.inl rfl) (pe_lst (pa_cons (G.pe_fldE (G.pe_exoI T.ox_TooMuchError T.ii_TooMuchError T.fi_TooMuchError (ok_TooMuchError_init T) (hr.mono (by decide)) T.bd_TooMuchError_init .nil pass0 rfl T.mgc_TooMuchError (pa_cons (pv 1) pa_nil))) (pa_cons (G.pe_fldE (G.pe_exoK T.ox_TooMuchError T.ii_TooMuchError T.fi_TooMuchError (ok_TooMuchError_init T) (hr.mono (by decide)) (kb_TooMuchError T) pass0 rfl T.mgc_TooMuchError (pk_cons (pv 1) pk_nil))) pa_nil))))
 (pss_cons (ps_set (i := 4) (sc_law_right).nd rfl (Or.inl rfl) (pe_op G.op_catL (pv 4) (pe_lst (pa_cons (G.pe_fldE (G.pe_exoI T.ox_TooManyError T.ii_TooManyError T.fi_TooManyError (ok_TooManyError_init T) (hr.mono (by decide)) T.bd_TooManyError_init .nil pass0 rfl T.mgc_TooManyError (pa_cons (pv 1) pa_nil))) (pa_cons (G.pe_fldE (G.pe_exoK T.ox_TooManyError T.ii_TooManyError T.fi_TooManyError (ok_TooManyError_init T) (hr.mono (by decide)) (kb_TooManyError T) pass0 rfl T.mgc_TooManyError (pk_cons (pv 1) pk_nil))) pa_nil)))))
 (pss_one (ps_ret (pe_and (pe_cmpR (op_eqD hr.units) (pv 4) (pe_op op_rep (pe_lst (pa_cons (pv 1) pa_nil)) pe_int) (nomark _)) (pe_one (pe_cmpR op_notIn_seq pe_bl (pe_call (ok_law_marks T) (hr.mono (by decide)) rfl T.mg_law_marks T.fun_law_marks.kp T.bd_law_marks .nil pass0 (pa_cons (G.pe_exo1 PySem.F.excBase_ValueError T.ex_StirError T.mgc_StirError T.ke_StirError rfl (pv 0)) pa_nil)) (by with_unfolding_all rfl)))))))))))))))))), ?_⟩
    walk_at "wp"
    intro p0 H0 n0 e0 h0
    walk_at "wp"
    have I0 : Its K A H0 0 [] := .nil
    refine new_exo fun a1 H1 n1 e1 h1 => ?_
    walk_at "wp"
    refine new_exo fun a2 H2 n2 e2 h2 => ?_
    walk_at "wp"
    refine new_exo fun a3 H3 n3 e3 h3 => ?_
    walk_at "wp"
    intro p4 H4 n4 e4 h4
    walk_at "wp"
    refine ⟨p0, p4, _, _, rfl, rfl, SqL.of (by walk_at "ls"), SqL.of h4, (by show (3 : Nat) ≤ 1000000; decide), fun p5 H5 n5 e5 h5 => ?_⟩
    walk_at "wp"
    have I5 := Its.app (Its.same I0 (by walk_at "sm" : Same H0 H5)) (.cons ⟨_, _, rfl, (ExV.same (H := H1) (.inl h1) (by walk_at "sm" : Same H1 H5)), T.exc_EmptyHistoryError, T.row_EmptyHistoryError, T.ki_EmptyHistoryError_StirError, T.ki_EmptyHistoryError_ValueError⟩ (.cons ⟨_, _, rfl, (ExV.same (H := H2) (.inl h2) (by walk_at "sm" : Same H2 H5)), T.exc_FullError, T.row_FullError, T.ki_FullError_StirError, T.ki_FullError_ValueError⟩ (.cons ⟨_, _, rfl, (ExV.same (H := H3) (.inl h3) (by walk_at "sm" : Same H3 H5)), T.exc_InvalidContentsError, T.row_InvalidContentsError, T.ki_InvalidContentsError_StirError, T.ki_InvalidContentsError_ValueError⟩ .nil)))
    have S5 : Same H H5 := by walk_at "sm"
    clear I0 e0 e1 e2 e3 e4 e5 n1 n2 n3
    refine new_exo fun a6 H6 n6 e6 h6 => ?_
    walk_at "wp"
    refine new_exo fun a7 H7 n7 e7 h7 => ?_
    walk_at "wp"
    refine new_exo fun a8 H8 n8 e8 h8 => ?_
    walk_at "wp"
    intro p9 H9 n9 e9 h9
    walk_at "wp"
    refine ⟨p5, p9, _, _, rfl, rfl, SqL.of (by walk_at "ls"), SqL.of h9, (by show (6 : Nat) ≤ 1000000; decide), fun p10 H10 n10 e10 h10 => ?_⟩
    walk_at "wp"
    have I10 := Its.app (Its.same I5 (by walk_at "sm" : Same H5 H10)) (.cons ⟨_, _, rfl, (ExV.same (H := H6) (.inl h6) (by walk_at "sm" : Same H6 H10)), T.exc_InvalidFormatError, T.row_InvalidFormatError, T.ki_InvalidFormatError_StirError, T.ki_InvalidFormatError_ValueError⟩ (.cons ⟨_, _, rfl, (ExV.same (H := H7) (.inl h7) (by walk_at "sm" : Same H7 H10)), T.exc_InvalidGroupError, T.row_InvalidGroupError, T.ki_InvalidGroupError_StirError, T.ki_InvalidGroupError_ValueError⟩ (.cons ⟨_, _, rfl, (ExV.same (H := H8) (.inl h8) (by walk_at "sm" : Same H8 H10)), T.exc_InvalidMixtureError, T.row_InvalidMixtureError, T.ki_InvalidMixtureError_StirError, T.ki_InvalidMixtureError_ValueError⟩ .nil)))
    have S10 : Same H H10 := by walk_at "sm"
    clear I5 e6 e7 e8 e9 e10 n6 n7 n8
    refine new_exo fun a11 H11 n11 e11 h11 => ?_
    walk_at "wp"
    refine new_exo fun a12 H12 n12 e12 h12 => ?_
    walk_at "wp"
    refine new_exo fun a13 H13 n13 e13 h13 => ?_
    walk_at "wp"
    intro p14 H14 n14 e14 h14
    walk_at "wp"
    refine ⟨p10, p14, _, _, rfl, rfl, SqL.of (by walk_at "ls"), SqL.of h14, (by show (9 : Nat) ≤ 1000000; decide), fun p15 H15 n15 e15 h15 => ?_⟩
    walk_at "wp"
    have I15 := Its.app (Its.same I10 (by walk_at "sm" : Same H10 H15)) (.cons ⟨_, _, rfl, (ExV.same (H := H11) (.inl h11) (by walk_at "sm" : Same H11 H15)), T.exc_InvalidNumberError, T.row_InvalidNumberError, T.ki_InvalidNumberError_StirError, T.ki_InvalidNumberError_ValueError⟩ (.cons ⟨_, _, rfl, (ExV.same (H := H12) (.inl h12) (by walk_at "sm" : Same H12 H15)), T.exc_InvalidRatioError, T.row_InvalidRatioError, T.ki_InvalidRatioError_StirError, T.ki_InvalidRatioError_ValueError⟩ (.cons ⟨_, _, rfl, (ExV.same (H := H13) (.inl h13) (by walk_at "sm" : Same H13 H15)), T.exc_InvalidRowsError, T.row_InvalidRowsError, T.ki_InvalidRowsError_StirError, T.ki_InvalidRowsError_ValueError⟩ .nil)))
    have S15 : Same H H15 := by walk_at "sm"
    clear I10 e11 e12 e13 e14 e15 n11 n12 n13
    refine new_exo fun a16 H16 n16 e16 h16 => ?_
    walk_at "wp"
    refine new_exo fun a17 H17 n17 e17 h17 => ?_
    walk_at "wp"
    refine new_exo fun a18 H18 n18 e18 h18 => ?_
    walk_at "wp"
    intro p19 H19 n19 e19 h19
    walk_at "wp"
    refine ⟨p15, p19, _, _, rfl, rfl, SqL.of (by walk_at "ls"), SqL.of h19, (by show (12 : Nat) ≤ 1000000; decide), fun p20 H20 n20 e20 h20 => ?_⟩
    walk_at "wp"
    have I20 := Its.app (Its.same I15 (by walk_at "sm" : Same H15 H20)) (.cons ⟨_, _, rfl, (ExV.same (H := H16) (.inl h16) (by walk_at "sm" : Same H16 H20)), T.exc_InvalidSubstanceError, T.row_InvalidSubstanceError, T.ki_InvalidSubstanceError_StirError, T.ki_InvalidSubstanceError_ValueError⟩ (.cons ⟨_, _, rfl, (ExV.same (H := H17) (.inl h17) (by walk_at "sm" : Same H17 H20)), T.exc_InvalidTransfersError, T.row_InvalidTransfersError, T.ki_InvalidTransfersError_StirError, T.ki_InvalidTransfersError_ValueError⟩ (.cons ⟨_, _, rfl, (ExV.same (H := H18) (.inl h18) (by walk_at "sm" : Same H18 H20)), T.exc_InvalidVesselError, T.row_InvalidVesselError, T.ki_InvalidVesselError_StirError, T.ki_InvalidVesselError_ValueError⟩ .nil)))
    have S20 : Same H H20 := by walk_at "sm"
    clear I15 e16 e17 e18 e19 e20 n16 n17 n18
    refine new_exo fun a21 H21 n21 e21 h21 => ?_
    walk_at "wp"
    refine new_exo fun a22 H22 n22 e22 h22 => ?_
    walk_at "wp"
    refine new_exo fun a23 H23 n23 e23 h23 => ?_
    walk_at "wp"
    intro p24 H24 n24 e24 h24
    walk_at "wp"
    refine ⟨p20, p24, _, _, rfl, rfl, SqL.of (by walk_at "ls"), SqL.of h24, (by show (15 : Nat) ≤ 1000000; decide), fun p25 H25 n25 e25 h25 => ?_⟩
    walk_at "wp"
    have I25 := Its.app (Its.same I20 (by walk_at "sm" : Same H20 H25)) (.cons ⟨_, _, rfl, (ExV.same (H := H21) (.inl h21) (by walk_at "sm" : Same H21 H25)), T.exc_InvalidVolumesError, T.row_InvalidVolumesError, T.ki_InvalidVolumesError_StirError, T.ki_InvalidVolumesError_ValueError⟩ (.cons ⟨_, _, rfl, (ExV.same (H := H22) (.inl h22) (by walk_at "sm" : Same H22 H25)), T.exc_NotClosedError, T.row_NotClosedError, T.ki_NotClosedError_StirError, T.ki_NotClosedError_ValueError⟩ (.cons ⟨_, _, rfl, (ExV.same (H := H23) (.inl h23) (by walk_at "sm" : Same H23 H25)), T.exc_NotStartedError, T.row_NotStartedError, T.ki_NotStartedError_StirError, T.ki_NotStartedError_ValueError⟩ .nil)))
    have S25 : Same H H25 := by walk_at "sm"
    clear I20 e21 e22 e23 e24 e25 n21 n22 n23
    refine new_exo fun a26 H26 n26 e26 h26 => ?_
    walk_at "wp"
    refine new_exo fun a27 H27 n27 e27 h27 => ?_
    walk_at "wp"
    refine new_exo fun a28 H28 n28 e28 h28 => ?_
    walk_at "wp"
    intro p29 H29 n29 e29 h29
    walk_at "wp"
    refine ⟨p25, p29, _, _, rfl, rfl, SqL.of (by walk_at "ls"), SqL.of h29, (by show (18 : Nat) ≤ 1000000; decide), fun p30 H30 n30 e30 h30 => ?_⟩
    walk_at "wp"
    have I30 := Its.app (Its.same I25 (by walk_at "sm" : Same H25 H30)) (.cons ⟨_, _, rfl, (ExV.same (H := H26) (.inl h26) (by walk_at "sm" : Same H26 H30)), T.exc_OverfullError, T.row_OverfullError, T.ki_OverfullError_StirError, T.ki_OverfullError_ValueError⟩ (.cons ⟨_, _, rfl, (ExV.same (H := H27) (.inl h27) (by walk_at "sm" : Same H27 H30)), T.exc_SealedError, T.row_SealedError, T.ki_SealedError_StirError, T.ki_SealedError_ValueError⟩ (.cons ⟨_, _, rfl, (ExV.same (H := H28) (.inl h28) (by walk_at "sm" : Same H28 H30)), T.exc_StartedError, T.row_StartedError, T.ki_StartedError_StirError, T.ki_StartedError_ValueError⟩ .nil)))
    have S30 : Same H H30 := by walk_at "sm"
    clear I25 e26 e27 e28 e29 e30 n26 n27 n28
    refine ⟨(by show (1 : Nat) ≤ 1000; decide), new_keep (fun _ => rfl) fun a31 d31 H31 n31 e31 h31 g31 => ?_⟩
    walk_at "wp"
    refine ⟨(by show (1 : Nat) ≤ 1000; decide), new_keep (fun _ => rfl) fun a32 d32 H32 n32 e32 h32 g32 => ?_⟩
    walk_at "wp"
    refine new_exo fun a33 H33 n33 e33 h33 => ?_
    walk_at "wp"
    intro p34 H34 n34 e34 h34
    walk_at "wp"
    refine ⟨p30, p34, _, _, rfl, rfl, SqL.of (by walk_at "ls"), SqL.of h34, (by show (21 : Nat) ≤ 1000000; decide), fun p35 H35 n35 e35 h35 => ?_⟩
    walk_at "wp"
    have I35 := Its.app (Its.same I30 (by walk_at "sm" : Same H30 H35)) (.cons ⟨_, _, rfl, (ExV.same (H := H31) (.inr ⟨d31, _, h31, g31⟩) (by walk_at "sm" : Same H31 H35)), T.exc_TooManyError, T.row_TooManyError, T.ki_TooManyError_StirError, T.ki_TooManyError_ValueError⟩ (.cons ⟨_, _, rfl, (ExV.same (H := H32) (.inr ⟨d32, _, h32, g32⟩) (by walk_at "sm" : Same H32 H35)), T.exc_TooMuchError, T.row_TooMuchError, T.ki_TooMuchError_StirError, T.ki_TooMuchError_ValueError⟩ (.cons ⟨_, _, rfl, (ExV.same (H := H33) (.inl h33) (by walk_at "sm" : Same H33 H35)), T.exc_TooSmallError, T.row_TooSmallError, T.ki_TooSmallError_StirError, T.ki_TooSmallError_ValueError⟩ .nil)))
    have S35 : Same H H35 := by walk_at "sm"
    clear I30 e31 e32 e33 e34 e35 n31 n32 n33
    refine new_exo fun a36 H36 n36 e36 h36 => ?_
    walk_at "wp"
    intro p37 H37 n37 e37 h37
    walk_at "wp"
    refine ⟨p35, p37, _, _, rfl, rfl, SqL.of (by walk_at "ls"), SqL.of h37, (by show (22 : Nat) ≤ 1000000; decide), fun p38 H38 n38 e38 h38 => ?_⟩
    walk_at "wp"
    have I38 := Its.app (Its.same I35 (by walk_at "sm" : Same H35 H38)) (.cons ⟨_, _, rfl, (ExV.same (H := H36) (.inl h36) (by walk_at "sm" : Same H36 H38)), T.exc_ZeroRatioError, T.row_ZeroRatioError, T.ki_ZeroRatioError_StirError, T.ki_ZeroRatioError_ValueError⟩ .nil)
    have S38 : Same H H38 := by walk_at "sm"
    clear I35 e36 e37 e38 n36
    obtain ⟨its, hL, hI, lI⟩ : ∃ its, H38 p38 = some (.lst its) ∧ Its K A H38 0 its ∧ its.length = 22 := ⟨_, h38, I38, rfl⟩
    clear h38 I38
    refine w_walkR (n := 22) ⟨by decide, by decide⟩ (fun i σ' H' => ∃ v3 : Option V, σ' = [some (.str z), some (.int n), some (.ref p38), v3, none, none] ∧ Same H38 H') ⟨_, rfl, Same.refl _⟩ ?_ ?_
    · rintro i σ' H' hi ⟨v3, rfl, e⟩
      obtain ⟨v, hv⟩ : ∃ v, its[i]? = some v := ⟨its[i]'(by omega), by rw [List.getElem?_eq_getElem]⟩
      have it := hI.get hv
      rw [Nat.zero_add] at it
      obtain ⟨a, D, rfl, ex, exc, row, k1, k2⟩ := it
      walk_at "wp"
      refine w_ixL (SqL.of (e _ _ hL)) (atI_nat hv) ?_
      walk_at "wp"
      refine ⟨a, D, _, rfl, ex.same e, exc, row, fun p1 H1 n1 e1 h1 => ?_⟩
      rw [marks_is] at h1
      obtain ⟨ys, hys⟩ : ∃ ys, ys = (List.range 22).map fun (j : Nat) => decide (j = i) := ⟨_, rfl⟩
      rw [← hys] at h1
      walk_at "wp"
      refine w_lc ?_
      walk_at "wp"
      refine ⟨by decide, by decide, w_lcRange kept_bl ys (by rw [hys]; simp) (by decide) ?_ ?_⟩
      · intro j y H2 R hj hy e2 r
        have ey : y = decide (j = i) := by
          have hj' : j < 22 := hj
          rw [hys, List.getElem?_map, List.getElem?_range hj'] at hy
          exact (Option.some.inj hy).symm
        walk_at "wp"
        refine r _ _ (Same.refl _) ?_
        rw [ey]
        exact congrArg V.bl (decide_eq_decide.mpr (by omega))
      · intro L acc H2 nL e2 hL2 ps
        have ea := pl_bl ps
        subst ea
        refine w_neD (d := .list (ys.map PyData.bool)) (e := .list (ys.map PyData.bool)) (b := true) (.lst (SqL.of (e2 _ _ h1)) (dps_bl ys)) (.lst (SqL.of hL2) (dps_bl ys)) (shaped_bl ys) (shaped_bl ys) (PySem.SeqAt.eqv_refl _ (by simp only [PyData.canLay0, lay_bl ys])) ?_
        walk_at "wp"
        refine w_ixL (SqL.of (e2 _ _ (e1 _ _ (e _ _ hL)))) (atI_nat hv) ?_
        walk_at "wp"
        have ex2 := ((ex.same e).same e1).same e2
        refine ⟨a, D, _, _, true, rfl, ex2, exc, fun u h => h, k1, ?_⟩
        walk_at "wp"
        refine w_ixL (SqL.of (e2 _ _ (e1 _ _ (e _ _ hL)))) (atI_nat hv) ?_
        walk_at "wp"
        refine ⟨a, D, _, _, true, rfl, ex2, exc, fun u h => h, k2, ?_⟩
        walk_at "wp"
        exact ⟨_, rfl, e.trans (e1.trans e2)⟩
    · rintro σ' H' ⟨v3, rfl, e⟩
      clear hI hL
      walk_at "wp"
      refine ⟨(by show (1 : Nat) ≤ 1000; decide), new_keep (fun _ => rfl) fun a1 d1 H1 n1 e1 h1 g1 => ?_⟩
      walk_at "wp"
      refine ⟨a1, _, d1, _, .int n, rfl, xfc T.exc_TooMuchError, T.xn_TooMuchError, h1, g1, rfl, ?_⟩
      walk_at "wp"
      refine ⟨rfl, new_keep (fun _ => rfl) fun a2 d2 H2 n2 e2 h2 g2 => ?_⟩
      walk_at "wp"
      refine ⟨a2, _, d2, _, .int n, rfl, xfc T.exc_TooMuchError, T.xn_TooMuchError, h2, g2, rfl, ?_⟩
      walk_at "wp"
      intro l1 H3 n3 e3 h3
      walk_at "wp"
      refine ⟨(by show (1 : Nat) ≤ 1000; decide), new_keep (fun _ => rfl) fun a4 d4 H4 n4 e4 h4 g4 => ?_⟩
      walk_at "wp"
      refine ⟨a4, _, d4, _, .int n, rfl, xfc T.exc_TooManyError, T.xn_TooManyError, h4, g4, rfl, ?_⟩
      walk_at "wp"
      refine ⟨rfl, new_keep (fun _ => rfl) fun a5 d5 H5 n5 e5 h5 g5 => ?_⟩
      walk_at "wp"
      refine ⟨a5, _, d5, _, .int n, rfl, xfc T.exc_TooManyError, T.xn_TooManyError, h5, g5, rfl, ?_⟩
      walk_at "wp"
      intro l2 H6 n6 e6 h6
      refine ⟨l1, l2, _, _, rfl, rfl, SqL.of (by walk_at "ls"), SqL.of h6, (by show (4 : Nat) ≤ 1000000; decide), fun l3 H7 n7 e7 h7 => ?_⟩
      walk_at "wp"
      intro l4 H8 n8 e8 h8
      walk_at "wp"
      refine w_rep h8 rfl rfl rfl fun l5 H9 n9 e9 h9 => ?_
      refine w_eqD (d := .list [.int n, .int n, .int n, .int n]) (e := .list [.int n, .int n, .int n, .int n]) (b := true) (.lst (SqL.of (by walk_at "ls")) (.cons (.int _) (.cons (.int _) (.cons (.int _) (.cons (.int _) .nil))))) (.lst (SqL.of h9) (.cons (.int _) (.cons (.int _) (.cons (.int _) (.cons (.int _) .nil))))) rfl rfl (PySem.SeqAt.eqv_refl _ rfl) ?_
      walk_at "wp"
      refine new_exo fun a7 Ha na ea ha => ?_
      walk_at "wp"
      refine ⟨a7, _, _, rfl, .inl ha, T.exc_StirError, T.row_StirError, fun p9 Hb nb eb hb => ?_⟩
      walk_at "wp"
      refine ⟨p9, _, rfl, .inl (SqL.of hb), rfl, by decide +kernel, ?_⟩
      have no : inV (.bl true) (marksOf fun j => decide (j = 99)) = false := by decide +kernel
      rw [no]
      have sF : Same H' Hb := by walk_at "sm"
      exact q _ (S38.trans (e.trans sF))
end
end K72

namespace K72
open PySem L2 G
local macro_rules | `(tactic| walk_at "pos") => `(tactic| first | assumption | (decide +kernel) | omega)
local macro_rules | `(tactic| walk_at "bt") => `(tactic| first
  | assumption
  | (decide +kernel)
  | exact Bt.mono (by assumption) (by decide)
  | (refine' Bt.add ?b1 ?b2; (case b1 => walk_at "bt"); (case b2 => walk_at "bt"))
  | (refine' Bt.sub ?b1 ?b2; (case b1 => walk_at "bt"); (case b2 => walk_at "bt"))
  | (refine' Bt.mul ?b1 ?b2; (case b1 => walk_at "bt"); (case b2 => walk_at "bt"))
  | (refine' Bt.mod ?b1 ?b2; (case b2 => walk_at "bt"); (case b1 => walk_at "pos"))
  | (refine' Bt.div ?b1 ?b2; (case b2 => walk_at "bt"); (case b1 => walk_at "pos"))
  | (refine' Bt.pow3 ?b1; (case b1 => walk_at "bt"))
  | (refine' Bt.neg ?b1; (case b1 => walk_at "bt"))
  | exact Bt.any)
local macro_rules | `(tactic| walk_at "btm") => `(tactic| ((refine' Bt.mono ?m1 ?m2); (case m1 => walk_at "bt"); (case m2 => (decide +kernel))))
local macro_rules | `(tactic| walk_at "ne") => `(tactic| first
  | assumption
  | (refine' Ne.symm ?q1; (case q1 => assumption))
  | (refine' ne_of_none (by assumption) ?q1; (case q1 => assumption))
  | (refine' Ne.symm (ne_of_none (by assumption) ?q1); (case q1 => assumption)))
local macro_rules | `(tactic| walk_at "hp") => `(tactic| first
  | assumption
  | exact upd_same
  | ((refine' lst_same ?q1 (by assumption : Same _ _)); (case q1 => walk_at "hp"))
  | ((refine' (by assumption : Fr _ _ _) _ _ ?n ?h); (case n => walk_at "ne"); (case h => walk_at "hp"))
  | ((refine (upd_ne (by assumption)).trans ?_); walk_at "hp")
  | ((refine (upd_ne (Ne.symm (by assumption))).trans ?_); walk_at "hp"))
local macro_rules | `(tactic| walk_at "sr") => `(tactic| first
  | assumption
  | ((refine' Src.same ?q1 (by assumption : Same _ _)); (case q1 => walk_at "sr")))
local macro_rules | `(tactic| walk_at "rt") => `(tactic| first
  | assumption
  | ((refine' Rat.same ?q1 (by assumption : Same _ _)); (case q1 => walk_at "rt"))
  | ((refine' Rat.fr ?q1 ?q2 (by assumption : Fr _ _ _)); (case q2 => walk_at "sr"); (case q1 => walk_at "rt")))
local macro_rules | `(tactic| walk_at "tp") => `(tactic| first
  | assumption
  | ((refine' tup_same ?q1 (by assumption : Same _ _)); (case q1 => walk_at "tp"))
  | ((refine' tup_fr ?q1 ?q2 (by assumption : Fr _ _ _)); (case q2 => walk_at "sr"); (case q1 => walk_at "tp")))
local macro_rules | `(tactic| walk_at "ls") => `(tactic| first
  | assumption
  | ((refine' lst_same ?q1 (by assumption : Same _ _)); (case q1 => walk_at "ls"))
  | ((refine' lst_fr ?q1 ?q2 (by assumption : Fr _ _ _)); (case q2 => assumption); (case q1 => walk_at "ls")))
local macro_rules | `(tactic| walk_at "sm") => `(tactic| first
  | exact Same.refl _
  | assumption
  | ((refine Same.trans ?_ (by assumption : Same _ _)); walk_at "sm"))
local macro_rules | `(tactic| walk_at "fr") => `(tactic| first
  | exact Fr.refl _ _
  | assumption
  | ((refine Fr.trans ?_ (Fr.same (by assumption : Same _ _))); walk_at "fr")
  | ((refine Fr.trans ?_ (by assumption : Fr _ _ _)); walk_at "fr"))
local macro_rules | `(tactic| walk_at "wp1") => `(tactic| first
  | (with_reducible refine w_seq ?_) | (with_reducible refine w_next ?_) | (with_reducible refine w_ret ?_) | (with_reducible refine w_asg ?_) | (with_reducible refine w_gn ?_) | (with_reducible refine w_if ?_)
  | (with_reducible refine w_cons ?_) | (with_reducible refine w_nil ?_) | (with_reducible refine w_c ?_) | (with_reducible refine w_op ?_) | (with_reducible refine w_cb ?_)
  | ((with_reducible refine' w_var ?h ?_); (case h => exact rfl))
  | (with_reducible refine w_I0 ?_) | (with_reducible refine w_eqI ?_) | (with_reducible refine w_neI ?_) | (with_reducible refine w_test ?_) | (with_reducible refine w_tB ?_) | (with_reducible refine w_bl ?_) | (with_reducible refine w_par ?_) | (with_reducible refine w_par2 ?_)
  | (with_reducible refine w_not ?_) | (with_reducible refine w_and ?_) | (with_reducible refine w_or ?_) | (with_reducible refine w_andV ?_) | (with_reducible refine w_orV ?_) | (with_reducible refine w_notV ?_) | (with_reducible refine w_tif ?_)
  | (with_reducible refine w_tup ?_) | (with_reducible refine w_lst ?_) | (with_reducible refine w_un ?_) | (with_reducible refine w_U ?_) | (with_reducible refine w_drop ?_) | (with_reducible refine w_brk ?_) | (with_reducible refine w_cont ?_) | (with_reducible refine w_retN ?_)
  | (with_reducible refine w_call ?_) | (with_reducible refine w_fld ?_) | (with_reducible refine w_sfld ?_) | (with_reducible refine w_prop ?_) | (with_reducible refine w_make ?_) | (with_reducible refine w_meth ?_) | (with_reducible refine w_methN ?_) | (with_reducible refine w_revL ?_) | (with_reducible refine w_gsub ?_)
  | ((with_reducible refine' w_powN ?c1 ?c2 ?_); (case c2 => (decide +kernel)); (case c1 => exact rfl))
  | ((with_reducible refine' w_powV ?c1 ?c2 ?c3 ?c4 ?_); (case c2 => walk_at "bt"); (case c3 => (decide +kernel)); (case c4 => (decide +kernel)); (case c1 => exact rfl))
  | ((with_reducible refine' w_I (C := CMulW) ?c1 ?_); (case c1 => (refine' mulOk ?k1 ?k2 ?k3; (case k1 => walk_at "bt"); (case k2 => walk_at "bt"); (case k3 => decide +kernel))))
  | ((with_reducible refine' w_I (C := CDivW) ?c1 ?_); (case c1 => (refine' divOk ?k1 ?k2 ?k3; (case k1 => walk_at "pos"); (case k2 => walk_at "bt"); (case k3 => decide +kernel))))
  | ((with_reducible refine' w_I (C := fun _ j => 0 < j) ?c1 ?_); (case c1 => walk_at "pos"))
  | (with_reducible refine w_isB ?_) | (with_reducible refine w_notB ?_) | (with_reducible refine w_neS ?_) | (with_reducible refine w_eqS ?_)
  | (with_reducible refine w_iRng1 ?_) | (with_reducible refine w_for ?_) | (with_reducible refine w_iEnum ?_) | (with_reducible refine w_iList ?_) | (with_reducible refine w_iTup ?_) | (with_reducible refine w_noPart ?_) | (with_reducible refine w_part ?_) | (with_reducible refine w_int ?_)
  | (with_reducible refine w_sl ?_)
  | (with_reducible refine w_two ?_) | (with_reducible refine w_one ?_)
  | ((with_reducible refine' w_ixL ?hs ?he ?_); (case hs => first | (refine' SqL.of ?q0; (case q0 => walk_at "hp")) | assumption); (case he => exact rfl))
  | ((with_reducible refine' w_ixT ?hs ?he ?_); (case hs => first | (refine' SqT.of ?q0; (case q0 => walk_at "tp")) | assumption); (case he => exact rfl))
  | ((with_reducible refine' w_setL ?hs ?he ?_); (case hs => walk_at "hp"); (case he => exact rfl))
  | (with_reducible refine w_iteT rfl ?_) | (with_reducible refine w_iteF rfl ?_) | ((with_reducible refine w_alloc ?h ?_); (case h => exact rfl))
  | (with_reducible refine w_augS ?_) | (with_reducible refine w_ipI ?_) | (with_reducible refine w_exo1 ?_) | (with_reducible refine w_exoI ?_) | (with_reducible refine w_exoK ?_) | (with_reducible refine w_fldE ?_) | (with_reducible refine w_ost ?_) | (with_reducible refine w_makeS ?_) | (with_reducible refine w_methS ?_) | (with_reducible refine w_callS ?_) | (with_reducible refine w_bm ?_) | (with_reducible refine w_makeK ?_) | (with_reducible refine w_callN ?_))
local macro_rules | `(tactic| walk_at "wp") => `(tactic| repeat (walk_at "wp1"))

section
variable {P : Program} {w : World} {K : PySem.W.Frag} {mg : Str → Option Value} {base : Heap} {A : Ad}
def spLaw (K : PySem.W.Frag) : Sp := fun vs H Q _ => ∃ (a : Addr) (ns : List Int), vs = [.ref a] ∧ SqL K H a (ns.map V.int) ∧ ns.length ≤ 63 ∧ ∀ H', Q (.bl true) H'
theorem ok_law (T : Txt K mg A) : FnG P w K mg base 7 A.a_law A.d_law ["script"] (spLaw K) := by
  refine G.fun_ok T.fun_law sc_law (fun vs H Q E h => ?_) (fun cdv B outer s H vs Q E hgd hr h => ?_)
  · obtain ⟨a, ns, rfl, _⟩ := h
    rfl
  · obtain ⟨a, ns, rfl, hS, hl, q⟩ := h
    refine ⟨_, (C8.pss_cut (ps_set (i := 1) (sc_law).nd rfl (Or.inl rfl) (pe_op G.op_catL (pe_slice sl_list (pv 0) po_none (po_some pe_int)) (pe_op op_rep (pe_lst (pa_cons pe_int pa_nil)) (pe_callTy call_int1 (by rfl) T.z_int (by decide +kernel) (pa_cons (pe_cmpR (op_eqD hr.units) (pv 0) (pe_lst pa_nil) (nomark _)) pa_nil)))))
 (pss_cons (ps_for PassesOwn.never rfl (pi_range1 rfl T.z_range (pa_cons (pe_callB call_len (by rfl) T.z_len (by decide +kernel) (pa_cons (pv 1) pa_nil)) pa_nil)) (pg_name (i := 2) (sc_law).nd rfl (Or.inl rfl)) (pss_cons (ps_set (i := 3) (sc_law).nd rfl (Or.inl rfl) (pe_call (ok_law_bag T) (hr.mono (by decide)) rfl T.mg_law_bag T.fun_law_bag.kp T.bd_law_bag .nil pass0 (pa_cons (pe_ix ix_list (pv 1) (pv 2) (fun _ _ => rfl)) (pa_cons (pv 2) pa_nil))))
 (pss_cons (ps_set (i := 4) (sc_law).nd rfl (Or.inl rfl) (pe_op G.op_mulS (pe_ix ix_str pe_str (pe_call (ok_law_draw T) (hr.mono (by decide)) rfl T.mg_law_draw T.fun_law_draw.kp T.bd_law_draw .nil pass0 (pa_cons (pv 3) (pa_cons pe_int pa_nil))) (fun _ _ => rfl)) (pe_call (ok_law_draw T) (hr.mono (by decide)) rfl T.mg_law_draw T.fun_law_draw.kp T.bd_law_draw .nil pass0 (pa_cons (pv 3) (pa_cons pe_int pa_nil)))))
 (pss_one (ps_if (pt_not (pt_val (pe_call (ok_law_right T) (hr.mono (by decide)) rfl T.mg_law_right T.fun_law_right.kp T.bd_law_right .nil pass0 (pa_cons (pv 4) (pa_cons (pe_call (ok_law_draw T) (hr.mono (by decide)) rfl T.mg_law_draw T.fun_law_draw.kp T.bd_law_draw .nil pass0 (pa_cons (pv 3) (pa_cons (G.pe_powc (c := 1000000000) (by decide +kernel) (by decide +kernel)) pa_nil))) pa_nil))))) (pss_one (ps_ret pe_bl)) pss_nil)))))
 (pss_one (ps_ret pe_bl)))), ?_⟩
    refine w_cut (fun σ' H' => ∃ (c : Addr) (ms : List Int), σ' = [some (.ref a), some (.ref c), none, none, none] ∧ H' c = some (.lst (ms.map V.int)) ∧ ms.length ≤ 13) ?_ ?_
    · walk_at "wp"
      refine w_slL hS fun q1 H1 n1 e1 h1 => ?_
      have cutI : ∃ ms : List Int, cutV (ns.map V.int) none (some 12) = ms.map V.int ∧ ms.length ≤ 12 := by
        refine ⟨ns.take (min 12 ns.length), ?_, by rw [List.length_take]; omega⟩
        unfold cutV
        rw [show (12 : Int) = ((12 : Nat) : Int) from rfl, HT.sIx_nat, HT.sIx_none, List.drop_zero, Nat.sub_zero, List.length_map, List.map_take]
      obtain ⟨ms, hms, lms⟩ := cutI
      rw [hms] at h1
      walk_at "wp"
      intro q2 H2 n2 e2 h2
      walk_at "wp"
      intro q3 H3 n3 e3 h3
      walk_at "wp"
      refine ⟨_, .list [], dp_ints (e3.seq (e2.seq (e1.seq hS))), .lst (SqL.of h3) .nil, shaped_ints ns, rfl, ?_⟩
      generalize PyData.eqv (.list (ns.map PyData.int)) (.list []) = b
      walk_at "wp"
      refine .inr ⟨b, rfl, ?_⟩
      cases b with
      | true =>
        refine w_rep (by walk_at "ls" : H3 q2 = some (.lst [.int 0])) rfl rfl rfl fun q4 H4 n4 e4 h4 => ?_
        refine ⟨q1, q4, _, _, rfl, rfl, SqL.of (by walk_at "ls"), SqL.of h4, (by rw [List.length_map]; show ms.length + 1 ≤ 1000000; omega), fun q5 H5 n5 e5 h5 => ?_⟩
        walk_at "wp"
        exact ⟨q5, ms ++ [0], rfl, by rw [h5, List.map_append]; rfl, by rw [List.length_append]; show ms.length + 1 ≤ 13; omega⟩
      | false =>
        refine w_rep (by walk_at "ls" : H3 q2 = some (.lst [.int 0])) rfl rfl rfl fun q4 H4 n4 e4 h4 => ?_
        refine ⟨q1, q4, _, _, rfl, rfl, SqL.of (by walk_at "ls"), SqL.of h4, (by rw [List.length_map]; show ms.length + 0 ≤ 1000000; omega), fun q5 H5 n5 e5 h5 => ?_⟩
        walk_at "wp"
        exact ⟨q5, ms, rfl, by rw [h5]; show some (HO.lst (ms.map V.int ++ [])) = _; rw [List.append_nil], by omega⟩
    · rintro σ' H' ⟨c, ms, rfl, hc, lms⟩
      clear hS
      walk_at "wp"
      refine w_lenL (SqL.of hc) ?_
      walk_at "wp"
      refine w_walkR (n := ((ms.map V.int).length : Int)) ⟨by omega, by rw [List.length_map]; omega⟩ (fun i σ' H' => ∃ v2 v3 v4 : Option V, σ' = [some (.ref a), some (.ref c), v2, v3, v4] ∧ H' c = some (.lst (ms.map V.int))) ⟨_, _, _, rfl, hc⟩ ?_ ?_
      · rintro i σ' H0 hi ⟨v2, v3, v4, rfl, h0⟩
        rw [List.length_map] at hi
        obtain ⟨m, hm⟩ : ∃ m, ms[i]? = some m := ⟨ms[i]'(by omega), by rw [List.getElem?_eq_getElem]⟩
        have hm' : (ms.map V.int)[i]? = some (.int m) := by rw [List.getElem?_map, hm]; rfl
        walk_at "wp"
        refine w_ixL (SqL.of h0) (atI_nat hm') ?_
        walk_at "wp"
        refine ⟨m, i, rfl, by omega, by omega, fun bg H1 n1 e1 B1 => ?_⟩
        have cb : c ≠ bg := ne_of_none h0 n1
        walk_at "wp"
        refine ⟨bg, _, _, rfl, B1, by decide, by decide, by decide, fun d1 H2 a1 b1 B2 f2 => ?_⟩
        walk_at "wp"
        obtain ⟨x, hx⟩ : ∃ x, atI ("a| ~" : Str).cps.toList d1 = some x := by
          have cs : d1 = 0 ∨ d1 = 1 ∨ d1 = 2 ∨ d1 = 3 := by omega
          rcases cs with rfl | rfl | rfl | rfl <;> exact ⟨_, rfl⟩
        refine ⟨_, d1, x, rfl, rfl, by decide +kernel, hx, ?_⟩
        walk_at "wp"
        refine ⟨bg, _, _, rfl, B2, by decide, by decide, by decide, fun d2 H3 a2 b2 B3 f3 => ?_⟩
        walk_at "wp"
        refine ⟨_, d2, rfl, rfl, ?_, a2, by omega, fun u => ?_⟩
        · show (1 : Nat) ≤ 1000
          decide
        · walk_at "wp"
          refine ⟨bg, _, _, rfl, B3, by decide, by decide, by decide, fun d3 H4 a3 b3 B4 f4 => ?_⟩
          walk_at "wp"
          refine ⟨u, d3, rfl, fun H5 e5 => ?_⟩
          walk_at "wp"
          exact ⟨_, _, _, rfl, e5 _ _ (f4 _ _ cb (f3 _ _ cb (f2 _ _ cb (e1 _ _ h0))))⟩
      · rintro σ' H0 ⟨v2, v3, v4, rfl, h0⟩
        walk_at "wp"
        exact q _
end
end K72
namespace K72
open PySem L2 G
theorem fin {P : Program} {w : World} {K : PySem.W.Frag} {mg : Str → Option Value} {A : Ad} {fa : Addr} (hfa : mg "law" = some (.ref fa)) (T : Txt K mg A) :
    ∃ fd : FuncData, (∀ (s : Shared) (u : Value), BindsTo s fd ⟨[u], []⟩ [("script", u)]) ∧ ∀ base : Heap, K.In base → base.Ns mainGlobals mg → FnG P w K mg base 7 fa fd ["script"] (spLaw K) := by
  have e := hfa.symm.trans T.mg_law
  cases e
  refine ⟨A.d_law, ?_, fun base _ _ => ok_law T⟩
  obtain ⟨oc, od, kV, doc, pm, an, cdv, ct, osl, e, _⟩ := T.fun_law.ex
  rw [e]
  exact fun s u => .of_eq rfl
theorem walk {l : PySem.W.OpenLaw} {q : Program} {loose : List Str} {XP : (Str → Option Value) → Heap → Prop} {YP : World → Heap → Prop} {d : DefRec} {K : Params → PySem.W.Frag}
    (hn : l.most = some 63) (hdf : d.params.defaults = []) (hY : ∀ (w : World) (h : Heap), YP w h → (K w.params).In h)
    (F : ∀ (w : World) (mg : Str → Option Value) (fa : Addr) (h : Heap), (K w.params).In h → h.Ns mainGlobals mg → mg d.name = some (.ref fa) → ∃ fd : FuncData,
      (∀ (s : Shared) (u : Value), BindsTo s fd ⟨[u], []⟩ [("script", u)]) ∧ ∀ base : Heap, (K w.params).In base → base.Ns mainGlobals mg → FnG l.prog w (K w.params) mg base 7 fa fd ["script"] (spLaw (K w.params))) :
    PySem.W.WalkO q loose XP YP l.row.toRowW d [] (fun f vs => PySem.call f vs) :=
  G.walk_ofG (n := 63) (k := 7) (x := "script") (sp := fun w => spLaw (K w.params)) hn (by decide) hdf ⟨rfl, by decide, by decide⟩ hY F fun _ _ a ns hl _ hS => ⟨a, ns, rfl, hS, hl, fun _ => rfl⟩
end K72
open PySem PySem.W PyProof.Rows
set_option maxRecDepth 100000 in
set_option maxHeartbeats 0 in
theorem PySem.Challenge.cw_stirred_k72_errors_are_distinct_holds : PySem.Challenge.rw_stirred_k72_errors_are_distinct.Holds := by
  w_on; o_law; k_head; (case hw => w_witness2)
  k_fill
  refine K72.walk (l := PySem.Challenge.rw_stirred_k72_errors_are_distinct) rfl rfl (fun w h Y => PySem.W.kIn_of Y) ?F
  case F =>
    intro w mg fa h KX G hmg
    refine' K72.fin hmg ?T
    case T =>
      refine' K72.txt_mk KX G ?m_StirError ?kc_StirError ?eb_StirError ?et_StirError ?eh_StirError ?ex_StirError ?eg_StirError ?ek_StirError ?ec_StirError ?em_StirError ?m_EmptyHistoryError ?kc_EmptyHistoryError ?eb_EmptyHistoryError ?et_EmptyHistoryError ?eh_EmptyHistoryError ?ex_EmptyHistoryError ?eg_EmptyHistoryError ?ek_EmptyHistoryError ?ec_EmptyHistoryError ?em_EmptyHistoryError ?m_FullError ?kc_FullError ?eb_FullError ?et_FullError ?eh_FullError ?ex_FullError ?eg_FullError ?ek_FullError ?ec_FullError ?em_FullError ?m_InvalidContentsError ?kc_InvalidContentsError ?eb_InvalidContentsError ?et_InvalidContentsError ?eh_InvalidContentsError ?ex_InvalidContentsError ?eg_InvalidContentsError ?ek_InvalidContentsError ?ec_InvalidContentsError ?em_InvalidContentsError ?m_InvalidFormatError ?kc_InvalidFormatError ?eb_InvalidFormatError ?et_InvalidFormatError ?eh_InvalidFormatError ?ex_InvalidFormatError ?eg_InvalidFormatError ?ek_InvalidFormatError ?ec_InvalidFormatError ?em_InvalidFormatError ?m_InvalidGroupError ?kc_InvalidGroupError ?eb_InvalidGroupError ?et_InvalidGroupError ?eh_InvalidGroupError ?ex_InvalidGroupError ?eg_InvalidGroupError ?ek_InvalidGroupError ?ec_InvalidGroupError ?em_InvalidGroupError ?m_InvalidMixtureError ?kc_InvalidMixtureError ?eb_InvalidMixtureError ?et_InvalidMixtureError ?eh_InvalidMixtureError ?ex_InvalidMixtureError ?eg_InvalidMixtureError ?ek_InvalidMixtureError ?ec_InvalidMixtureError ?em_InvalidMixtureError ?m_InvalidNumberError ?kc_InvalidNumberError ?eb_InvalidNumberError ?et_InvalidNumberError ?eh_InvalidNumberError ?ex_InvalidNumberError ?eg_InvalidNumberError ?ek_InvalidNumberError ?ec_InvalidNumberError ?em_InvalidNumberError ?m_InvalidRatioError ?kc_InvalidRatioError ?eb_InvalidRatioError ?et_InvalidRatioError ?eh_InvalidRatioError ?ex_InvalidRatioError ?eg_InvalidRatioError ?ek_InvalidRatioError ?ec_InvalidRatioError ?em_InvalidRatioError ?m_InvalidRowsError ?kc_InvalidRowsError ?eb_InvalidRowsError ?et_InvalidRowsError ?eh_InvalidRowsError ?ex_InvalidRowsError ?eg_InvalidRowsError ?ek_InvalidRowsError ?ec_InvalidRowsError ?em_InvalidRowsError ?m_InvalidSubstanceError ?kc_InvalidSubstanceError ?eb_InvalidSubstanceError ?et_InvalidSubstanceError ?eh_InvalidSubstanceError ?ex_InvalidSubstanceError ?eg_InvalidSubstanceError ?ek_InvalidSubstanceError ?ec_InvalidSubstanceError ?em_InvalidSubstanceError ?m_InvalidTransfersError ?kc_InvalidTransfersError ?eb_InvalidTransfersError ?et_InvalidTransfersError ?eh_InvalidTransfersError ?ex_InvalidTransfersError ?eg_InvalidTransfersError ?ek_InvalidTransfersError ?ec_InvalidTransfersError ?em_InvalidTransfersError ?m_InvalidVesselError ?kc_InvalidVesselError ?eb_InvalidVesselError ?et_InvalidVesselError ?eh_InvalidVesselError ?ex_InvalidVesselError ?eg_InvalidVesselError ?ek_InvalidVesselError ?ec_InvalidVesselError ?em_InvalidVesselError ?m_InvalidVolumesError ?kc_InvalidVolumesError ?eb_InvalidVolumesError ?et_InvalidVolumesError ?eh_InvalidVolumesError ?ex_InvalidVolumesError ?eg_InvalidVolumesError ?ek_InvalidVolumesError ?ec_InvalidVolumesError ?em_InvalidVolumesError ?m_NotClosedError ?kc_NotClosedError ?eb_NotClosedError ?et_NotClosedError ?eh_NotClosedError ?ex_NotClosedError ?eg_NotClosedError ?ek_NotClosedError ?ec_NotClosedError ?em_NotClosedError ?m_NotStartedError ?kc_NotStartedError ?eb_NotStartedError ?et_NotStartedError ?eh_NotStartedError ?ex_NotStartedError ?eg_NotStartedError ?ek_NotStartedError ?ec_NotStartedError ?em_NotStartedError ?m_OverfullError ?kc_OverfullError ?eb_OverfullError ?et_OverfullError ?eh_OverfullError ?ex_OverfullError ?eg_OverfullError ?ek_OverfullError ?ec_OverfullError ?em_OverfullError ?m_SealedError ?kc_SealedError ?eb_SealedError ?et_SealedError ?eh_SealedError ?ex_SealedError ?eg_SealedError ?ek_SealedError ?ec_SealedError ?em_SealedError ?m_StartedError ?kc_StartedError ?eb_StartedError ?et_StartedError ?eh_StartedError ?ex_StartedError ?eg_StartedError ?ek_StartedError ?ec_StartedError ?em_StartedError ?m_TooManyError ?kc_TooManyError ?eb_TooManyError ?et_TooManyError ?eh_TooManyError ?xl_TooManyError ?xs_TooManyError ?xn_TooManyError ?eg_TooManyError ?ek_TooManyError ?ec_TooManyError ?em_TooManyError ?m_TooMuchError ?kc_TooMuchError ?eb_TooMuchError ?et_TooMuchError ?eh_TooMuchError ?xl_TooMuchError ?xs_TooMuchError ?xn_TooMuchError ?eg_TooMuchError ?ek_TooMuchError ?ec_TooMuchError ?em_TooMuchError ?m_TooSmallError ?kc_TooSmallError ?eb_TooSmallError ?et_TooSmallError ?eh_TooSmallError ?ex_TooSmallError ?eg_TooSmallError ?ek_TooSmallError ?ec_TooSmallError ?em_TooSmallError ?m_ZeroRatioError ?kc_ZeroRatioError ?eb_ZeroRatioError ?et_ZeroRatioError ?eh_ZeroRatioError ?ex_ZeroRatioError ?eg_ZeroRatioError ?ek_ZeroRatioError ?ec_ZeroRatioError ?em_ZeroRatioError ?i_TooMuchError_init ?f_TooMuchError_init ?l_TooMuchError_init ?k_TooMuchError_init ?e_TooMuchError_init ?i_TooManyError_init ?f_TooManyError_init ?l_TooManyError_init ?k_TooManyError_init ?e_TooManyError_init ?m_law_bag ?l_law_bag ?k_law_bag ?e_law_bag ?m_law_draw ?l_law_draw ?k_law_draw ?e_law_draw ?m_law_marks ?l_law_marks ?k_law_marks ?e_law_marks ?m_law_right ?l_law_right ?k_law_right ?e_law_right ?m_law ?l_law ?k_law ?e_law ?sg_ ?st_ ?ki_EmptyHistoryError_StirError ?ki_FullError_StirError ?ki_InvalidContentsError_StirError ?ki_InvalidFormatError_StirError ?ki_InvalidGroupError_StirError ?ki_InvalidMixtureError_StirError ?ki_InvalidNumberError_StirError ?ki_InvalidRatioError_StirError ?ki_InvalidRowsError_StirError ?ki_InvalidSubstanceError_StirError ?ki_InvalidTransfersError_StirError ?ki_InvalidVesselError_StirError ?ki_InvalidVolumesError_StirError ?ki_NotClosedError_StirError ?ki_NotStartedError_StirError ?ki_OverfullError_StirError ?ki_SealedError_StirError ?ki_StartedError_StirError ?ki_TooManyError_StirError ?ki_TooMuchError_StirError ?ki_TooSmallError_StirError ?ki_ZeroRatioError_StirError ?ki_EmptyHistoryError_ValueError ?ki_FullError_ValueError ?ki_InvalidContentsError_ValueError ?ki_InvalidFormatError_ValueError ?ki_InvalidGroupError_ValueError ?ki_InvalidMixtureError_ValueError ?ki_InvalidNumberError_ValueError ?ki_InvalidRatioError_ValueError ?ki_InvalidRowsError_ValueError ?ki_InvalidSubstanceError_ValueError ?ki_InvalidTransfersError_ValueError ?ki_InvalidVesselError_ValueError ?ki_InvalidVolumesError_ValueError ?ki_NotClosedError_ValueError ?ki_NotStartedError_ValueError ?ki_OverfullError_ValueError ?ki_SealedError_ValueError ?ki_StartedError_ValueError ?ki_TooManyError_ValueError ?ki_TooMuchError_ValueError ?ki_TooSmallError_ValueError ?ki_ZeroRatioError_ValueError ?row_EmptyHistoryError ?row_FullError ?row_InvalidContentsError ?row_InvalidFormatError ?row_InvalidGroupError ?row_InvalidMixtureError ?row_InvalidNumberError ?row_InvalidRatioError ?row_InvalidRowsError ?row_InvalidSubstanceError ?row_InvalidTransfersError ?row_InvalidVesselError ?row_InvalidVolumesError ?row_NotClosedError ?row_NotStartedError ?row_OverfullError ?row_SealedError ?row_StartedError ?row_TooManyError ?row_TooMuchError ?row_TooSmallError ?row_ZeroRatioError ?row_StirError ?z_isinstance ?z_int ?z_len ?z_range ?z_ValueError
      (case m_StirError => k_is)
      (case kc_StirError => k_is)
      (case eb_StirError => k_is)
      (case et_StirError => k_is)
      (case eh_StirError => k_is)
      (case ex_StirError => k_exc)
      (case eg_StirError => k_is)
      (case ek_StirError => k_is)
      (case ec_StirError => k_is)
      (case em_StirError => k_is)
      (case m_EmptyHistoryError => k_is)
      (case kc_EmptyHistoryError => k_is)
      (case eb_EmptyHistoryError => k_is)
      (case et_EmptyHistoryError => k_is)
      (case eh_EmptyHistoryError => k_is)
      (case ex_EmptyHistoryError => k_exc)
      (case eg_EmptyHistoryError => k_is)
      (case ek_EmptyHistoryError => k_is)
      (case ec_EmptyHistoryError => k_is)
      (case em_EmptyHistoryError => k_is)
      (case m_FullError => k_is)
      (case kc_FullError => k_is)
      (case eb_FullError => k_is)
      (case et_FullError => k_is)
      (case eh_FullError => k_is)
      (case ex_FullError => k_exc)
      (case eg_FullError => k_is)
      (case ek_FullError => k_is)
      (case ec_FullError => k_is)
      (case em_FullError => k_is)
      (case m_InvalidContentsError => k_is)
      (case kc_InvalidContentsError => k_is)
      (case eb_InvalidContentsError => k_is)
      (case et_InvalidContentsError => k_is)
      (case eh_InvalidContentsError => k_is)
      (case ex_InvalidContentsError => k_exc)
      (case eg_InvalidContentsError => k_is)
      (case ek_InvalidContentsError => k_is)
      (case ec_InvalidContentsError => k_is)
      (case em_InvalidContentsError => k_is)
      (case m_InvalidFormatError => k_is)
      (case kc_InvalidFormatError => k_is)
      (case eb_InvalidFormatError => k_is)
      (case et_InvalidFormatError => k_is)
      (case eh_InvalidFormatError => k_is)
      (case ex_InvalidFormatError => k_exc)
      (case eg_InvalidFormatError => k_is)
      (case ek_InvalidFormatError => k_is)
      (case ec_InvalidFormatError => k_is)
      (case em_InvalidFormatError => k_is)
      (case m_InvalidGroupError => k_is)
      (case kc_InvalidGroupError => k_is)
      (case eb_InvalidGroupError => k_is)
      (case et_InvalidGroupError => k_is)
      (case eh_InvalidGroupError => k_is)
      (case ex_InvalidGroupError => k_exc)
      (case eg_InvalidGroupError => k_is)
      (case ek_InvalidGroupError => k_is)
      (case ec_InvalidGroupError => k_is)
      (case em_InvalidGroupError => k_is)
      (case m_InvalidMixtureError => k_is)
      (case kc_InvalidMixtureError => k_is)
      (case eb_InvalidMixtureError => k_is)
      (case et_InvalidMixtureError => k_is)
      (case eh_InvalidMixtureError => k_is)
      (case ex_InvalidMixtureError => k_exc)
      (case eg_InvalidMixtureError => k_is)
      (case ek_InvalidMixtureError => k_is)
      (case ec_InvalidMixtureError => k_is)
      (case em_InvalidMixtureError => k_is)
      (case m_InvalidNumberError => k_is)
      (case kc_InvalidNumberError => k_is)
      (case eb_InvalidNumberError => k_is)
      (case et_InvalidNumberError => k_is)
      (case eh_InvalidNumberError => k_is)
      (case ex_InvalidNumberError => k_exc)
      (case eg_InvalidNumberError => k_is)
      (case ek_InvalidNumberError => k_is)
      (case ec_InvalidNumberError => k_is)
      (case em_InvalidNumberError => k_is)
      (case m_InvalidRatioError => k_is)
      (case kc_InvalidRatioError => k_is)
      (case eb_InvalidRatioError => k_is)
      (case et_InvalidRatioError => k_is)
      (case eh_InvalidRatioError => k_is)
      (case ex_InvalidRatioError => k_exc)
      (case eg_InvalidRatioError => k_is)
      (case ek_InvalidRatioError => k_is)
      (case ec_InvalidRatioError => k_is)
      (case em_InvalidRatioError => k_is)
      (case m_InvalidRowsError => k_is)
      (case kc_InvalidRowsError => k_is)
      (case eb_InvalidRowsError => k_is)
      (case et_InvalidRowsError => k_is)
      (case eh_InvalidRowsError => k_is)
      (case ex_InvalidRowsError => k_exc)
      (case eg_InvalidRowsError => k_is)
      (case ek_InvalidRowsError => k_is)
      (case ec_InvalidRowsError => k_is)
      (case em_InvalidRowsError => k_is)
      (case m_InvalidSubstanceError => k_is)
      (case kc_InvalidSubstanceError => k_is)
      (case eb_InvalidSubstanceError => k_is)
      (case et_InvalidSubstanceError => k_is)
      (case eh_InvalidSubstanceError => k_is)
      (case ex_InvalidSubstanceError => k_exc)
      (case eg_InvalidSubstanceError => k_is)
      (case ek_InvalidSubstanceError => k_is)
      (case ec_InvalidSubstanceError => k_is)
      (case em_InvalidSubstanceError => k_is)
      (case m_InvalidTransfersError => k_is)
      (case kc_InvalidTransfersError => k_is)
      (case eb_InvalidTransfersError => k_is)
      (case et_InvalidTransfersError => k_is)
      (case eh_InvalidTransfersError => k_is)
      (case ex_InvalidTransfersError => k_exc)
      (case eg_InvalidTransfersError => k_is)
      (case ek_InvalidTransfersError => k_is)
      (case ec_InvalidTransfersError => k_is)
      (case em_InvalidTransfersError => k_is)
      (case m_InvalidVesselError => k_is)
      (case kc_InvalidVesselError => k_is)
      (case eb_InvalidVesselError => k_is)
      (case et_InvalidVesselError => k_is)
      (case eh_InvalidVesselError => k_is)
      (case ex_InvalidVesselError => k_exc)
      (case eg_InvalidVesselError => k_is)
      (case ek_InvalidVesselError => k_is)
      (case ec_InvalidVesselError => k_is)
      (case em_InvalidVesselError => k_is)
      (case m_InvalidVolumesError => k_is)
      (case kc_InvalidVolumesError => k_is)
      (case eb_InvalidVolumesError => k_is)
      (case et_InvalidVolumesError => k_is)
      (case eh_InvalidVolumesError => k_is)
      (case ex_InvalidVolumesError => k_exc)
      (case eg_InvalidVolumesError => k_is)
      (case ek_InvalidVolumesError => k_is)
      (case ec_InvalidVolumesError => k_is)
      (case em_InvalidVolumesError => k_is)
      (case m_NotClosedError => k_is)
      (case kc_NotClosedError => k_is)
      (case eb_NotClosedError => k_is)
      (case et_NotClosedError => k_is)
      (case eh_NotClosedError => k_is)
      (case ex_NotClosedError => k_exc)
      (case eg_NotClosedError => k_is)
      (case ek_NotClosedError => k_is)
      (case ec_NotClosedError => k_is)
      (case em_NotClosedError => k_is)
      (case m_NotStartedError => k_is)
      (case kc_NotStartedError => k_is)
      (case eb_NotStartedError => k_is)
      (case et_NotStartedError => k_is)
      (case eh_NotStartedError => k_is)
      (case ex_NotStartedError => k_exc)
      (case eg_NotStartedError => k_is)
      (case ek_NotStartedError => k_is)
      (case ec_NotStartedError => k_is)
      (case em_NotStartedError => k_is)
      (case m_OverfullError => k_is)
      (case kc_OverfullError => k_is)
      (case eb_OverfullError => k_is)
      (case et_OverfullError => k_is)
      (case eh_OverfullError => k_is)
      (case ex_OverfullError => k_exc)
      (case eg_OverfullError => k_is)
      (case ek_OverfullError => k_is)
      (case ec_OverfullError => k_is)
      (case em_OverfullError => k_is)
      (case m_SealedError => k_is)
      (case kc_SealedError => k_is)
      (case eb_SealedError => k_is)
      (case et_SealedError => k_is)
      (case eh_SealedError => k_is)
      (case ex_SealedError => k_exc)
      (case eg_SealedError => k_is)
      (case ek_SealedError => k_is)
      (case ec_SealedError => k_is)
      (case em_SealedError => k_is)
      (case m_StartedError => k_is)
      (case kc_StartedError => k_is)
      (case eb_StartedError => k_is)
      (case et_StartedError => k_is)
      (case eh_StartedError => k_is)
      (case ex_StartedError => k_exc)
      (case eg_StartedError => k_is)
      (case ek_StartedError => k_is)
      (case ec_StartedError => k_is)
      (case em_StartedError => k_is)
      (case m_TooManyError => k_is)
      (case kc_TooManyError => k_is)
      (case eb_TooManyError => k_is)
      (case et_TooManyError => k_is)
      (case eh_TooManyError => k_is)
      (case xl_TooManyError => k_is)
      (case xs_TooManyError => k_is)
      (case xn_TooManyError => k_is)
      (case eg_TooManyError => k_is)
      (case ek_TooManyError => k_is)
      (case ec_TooManyError => k_is)
      (case em_TooManyError => k_is)
      (case m_TooMuchError => k_is)
      (case kc_TooMuchError => k_is)
      (case eb_TooMuchError => k_is)
      (case et_TooMuchError => k_is)
      (case eh_TooMuchError => k_is)
      (case xl_TooMuchError => k_is)
      (case xs_TooMuchError => k_is)
      (case xn_TooMuchError => k_is)
      (case eg_TooMuchError => k_is)
      (case ek_TooMuchError => k_is)
      (case ec_TooMuchError => k_is)
      (case em_TooMuchError => k_is)
      (case m_TooSmallError => k_is)
      (case kc_TooSmallError => k_is)
      (case eb_TooSmallError => k_is)
      (case et_TooSmallError => k_is)
      (case eh_TooSmallError => k_is)
      (case ex_TooSmallError => k_exc)
      (case eg_TooSmallError => k_is)
      (case ek_TooSmallError => k_is)
      (case ec_TooSmallError => k_is)
      (case em_TooSmallError => k_is)
      (case m_ZeroRatioError => k_is)
      (case kc_ZeroRatioError => k_is)
      (case eb_ZeroRatioError => k_is)
      (case et_ZeroRatioError => k_is)
      (case eh_ZeroRatioError => k_is)
      (case ex_ZeroRatioError => k_exc)
      (case eg_ZeroRatioError => k_is)
      (case ek_ZeroRatioError => k_is)
      (case ec_ZeroRatioError => k_is)
      (case em_ZeroRatioError => k_is)
      (case i_TooMuchError_init => k_is)
      (case f_TooMuchError_init => k_is)
      (case l_TooMuchError_init => k_is)
      (case k_TooMuchError_init => k_is)
      (case e_TooMuchError_init => k_is)
      (case i_TooManyError_init => k_is)
      (case f_TooManyError_init => k_is)
      (case l_TooManyError_init => k_is)
      (case k_TooManyError_init => k_is)
      (case e_TooManyError_init => k_is)
      (case m_law_bag => k_is)
      (case l_law_bag => k_is)
      (case k_law_bag => k_is)
      (case e_law_bag => k_is)
      (case m_law_draw => k_is)
      (case l_law_draw => k_is)
      (case k_law_draw => k_is)
      (case e_law_draw => k_is)
      (case m_law_marks => k_is)
      (case l_law_marks => k_is)
      (case k_law_marks => k_is)
      (case e_law_marks => k_is)
      (case m_law_right => k_is)
      (case l_law_right => k_is)
      (case k_law_right => k_is)
      (case e_law_right => k_is)
      (case m_law => k_is)
      (case l_law => k_is)
      (case k_law => k_is)
      (case e_law => k_is)
      (case sg_ => k_is)
      (case st_ => k_is)
      (case ki_EmptyHistoryError_StirError => kit_is)
      (case ki_FullError_StirError => kit_is)
      (case ki_InvalidContentsError_StirError => kit_is)
      (case ki_InvalidFormatError_StirError => kit_is)
      (case ki_InvalidGroupError_StirError => kit_is)
      (case ki_InvalidMixtureError_StirError => kit_is)
      (case ki_InvalidNumberError_StirError => kit_is)
      (case ki_InvalidRatioError_StirError => kit_is)
      (case ki_InvalidRowsError_StirError => kit_is)
      (case ki_InvalidSubstanceError_StirError => kit_is)
      (case ki_InvalidTransfersError_StirError => kit_is)
      (case ki_InvalidVesselError_StirError => kit_is)
      (case ki_InvalidVolumesError_StirError => kit_is)
      (case ki_NotClosedError_StirError => kit_is)
      (case ki_NotStartedError_StirError => kit_is)
      (case ki_OverfullError_StirError => kit_is)
      (case ki_SealedError_StirError => kit_is)
      (case ki_StartedError_StirError => kit_is)
      (case ki_TooManyError_StirError => kit_is)
      (case ki_TooMuchError_StirError => kit_is)
      (case ki_TooSmallError_StirError => kit_is)
      (case ki_ZeroRatioError_StirError => kit_is)
      (case ki_EmptyHistoryError_ValueError => kit_is)
      (case ki_FullError_ValueError => kit_is)
      (case ki_InvalidContentsError_ValueError => kit_is)
      (case ki_InvalidFormatError_ValueError => kit_is)
      (case ki_InvalidGroupError_ValueError => kit_is)
      (case ki_InvalidMixtureError_ValueError => kit_is)
      (case ki_InvalidNumberError_ValueError => kit_is)
      (case ki_InvalidRatioError_ValueError => kit_is)
      (case ki_InvalidRowsError_ValueError => kit_is)
      (case ki_InvalidSubstanceError_ValueError => kit_is)
      (case ki_InvalidTransfersError_ValueError => kit_is)
      (case ki_InvalidVesselError_ValueError => kit_is)
      (case ki_InvalidVolumesError_ValueError => kit_is)
      (case ki_NotClosedError_ValueError => kit_is)
      (case ki_NotStartedError_ValueError => kit_is)
      (case ki_OverfullError_ValueError => kit_is)
      (case ki_SealedError_ValueError => kit_is)
      (case ki_StartedError_ValueError => kit_is)
      (case ki_TooManyError_ValueError => kit_is)
      (case ki_TooMuchError_ValueError => kit_is)
      (case ki_TooSmallError_ValueError => kit_is)
      (case ki_ZeroRatioError_ValueError => kit_is)
      (case row_EmptyHistoryError => (repeat' (first | exact trivial | refine And.intro ?_ ?_ | kit_is)))
      (case row_FullError => (repeat' (first | exact trivial | refine And.intro ?_ ?_ | kit_is)))
      (case row_InvalidContentsError => (repeat' (first | exact trivial | refine And.intro ?_ ?_ | kit_is)))
      (case row_InvalidFormatError => (repeat' (first | exact trivial | refine And.intro ?_ ?_ | kit_is)))
      (case row_InvalidGroupError => (repeat' (first | exact trivial | refine And.intro ?_ ?_ | kit_is)))
      (case row_InvalidMixtureError => (repeat' (first | exact trivial | refine And.intro ?_ ?_ | kit_is)))
      (case row_InvalidNumberError => (repeat' (first | exact trivial | refine And.intro ?_ ?_ | kit_is)))
      (case row_InvalidRatioError => (repeat' (first | exact trivial | refine And.intro ?_ ?_ | kit_is)))
      (case row_InvalidRowsError => (repeat' (first | exact trivial | refine And.intro ?_ ?_ | kit_is)))
      (case row_InvalidSubstanceError => (repeat' (first | exact trivial | refine And.intro ?_ ?_ | kit_is)))
      (case row_InvalidTransfersError => (repeat' (first | exact trivial | refine And.intro ?_ ?_ | kit_is)))
      (case row_InvalidVesselError => (repeat' (first | exact trivial | refine And.intro ?_ ?_ | kit_is)))
      (case row_InvalidVolumesError => (repeat' (first | exact trivial | refine And.intro ?_ ?_ | kit_is)))
      (case row_NotClosedError => (repeat' (first | exact trivial | refine And.intro ?_ ?_ | kit_is)))
      (case row_NotStartedError => (repeat' (first | exact trivial | refine And.intro ?_ ?_ | kit_is)))
      (case row_OverfullError => (repeat' (first | exact trivial | refine And.intro ?_ ?_ | kit_is)))
      (case row_SealedError => (repeat' (first | exact trivial | refine And.intro ?_ ?_ | kit_is)))
      (case row_StartedError => (repeat' (first | exact trivial | refine And.intro ?_ ?_ | kit_is)))
      (case row_TooManyError => (repeat' (first | exact trivial | refine And.intro ?_ ?_ | kit_is)))
      (case row_TooMuchError => (repeat' (first | exact trivial | refine And.intro ?_ ?_ | kit_is)))
      (case row_TooSmallError => (repeat' (first | exact trivial | refine And.intro ?_ ?_ | kit_is)))
      (case row_ZeroRatioError => (repeat' (first | exact trivial | refine And.intro ?_ ?_ | kit_is)))
      (case row_StirError => (repeat' (first | exact trivial | refine And.intro ?_ ?_ | kit_is)))
      (case z_isinstance => k_is)
      (case z_int => k_is)
      (case z_len => k_is)
      (case z_range => k_is)
      (case z_ValueError => k_is)
