import PyProof.Rows.All
import Wide.All
import OpenK.AllK
import Wide.FinOn
import PyProof.EqAt
import PyProof.EqKinds
import PyProof.TupleCall
import HandS.ForMost
import HandS.Exc
import HandS.TryOnly
import HandS.ExcOwn
import HandS.WordsExc
import HandS.Wide
import HandS.Gcd
import HandS.Property
import HandS.Defaults
import HandS.MakeKw
import HandS.IsInst
import HandS.Style
import HandS.MakeKwOnly
import HandS.Walk
import HandS.Codes
import HandS.More
import KE.KRevSl
import HandS.ExcCtx
import HandS.HotCalls
import HandS.ExcIs
import KE.RegKIsAll
import PySem.Challenge.RW_stirred_k06_errors_of_ratios
set_option Elab.async false
set_option linter.all false
set_option maxRecDepth 100000
set_option maxHeartbeats 4000000
/-! Defs that are run where no display is under way: their promise may use repr. -/
namespace G
open PySem PySem.Spec PyProof.Rows L2
section
variable {P : Program} {w : World} {K : PySem.W.Frag} {mg : Str → Option Value} {base : Heap}
/-- as FnOk, for callers where no display is under way -/
structure FnG (P : Program) (w : World) (K : PySem.W.Frag) (mg : Str → Option Value) (base : Heap)
    (k : Nat) (f : Addr) (fd : FuncData) (ps : List Str) (sp : Sp) : Prop where
  len : ∀ vs H Q E, sp vs H Q E →
    vs.length = ps.length
  run : ∀ (A : Around) (outer : List Env) (s : Shared) (H : Hp) (args : Args) (us : List Value) (vs : List V) (Q : VK) (E : XK),
    A.guards = some [] → Room k A → Env0 P w K mg base A outer s H → BindsTo s fd args (ps.zip us) → Vals vs us → sp vs H Q E →
    codeAny (model P w) A (.call (.ref f) args) (CR CX0 outer P w H s Q E) s

theorem of_ok {k : Nat} {f : Addr} {fd : FuncData} {ps : List Str} {sp : Sp} (F : FnOk P w K mg base CX0 k f fd ps sp) :
    FnG P w K mg base k f fd ps sp :=
  ⟨F.len, fun A outer s H args us vs Q E _ r e b v h => F.run A outer s H args us vs Q E r e b v h⟩

/-- a def by its body, no display under way -/
theorem fun_ok {x qual : Str} {st : Stmt} {f : Addr} {fd : FuncData} {N ps : List Str} {k : Nat} {sp : Sp} (F : Fun K x qual st f fd)
    (S : FnScope N ps (defScope st)) (len : ∀ vs H Q E, sp vs H Q E → vs.length = ps.length)
    (body : ∀ (cdv : Value) (A : Around) (outer : List Env) (s : Shared) (H : Hp) (vs : List V) (Q : VK) (E : XK), A.guards = some [] →
      Room k (A.deeper (envOfC qual (defScope st) s.heap.objs.size f cdv)) → sp vs H Q E →
      ∃ t, PSs (cxOf CX0 P w K mg base N qual (defScope st) f cdv A outer s H E).nox (defBody st) t ∧
        t { nx := fun _ H' => Q .non H', rt := Q } (start N vs) H) :
    FnG P w K mg base (k + 1) f fd ps sp := by
  obtain ⟨oc, od, kV, doc, pm, an, cdv, ct, osl, rfl, lk, hcd⟩ := F.ex
  refine ⟨len, fun A outer s H args us vs Q E hgd hr e0 hb r hsp => ?_⟩
  have hlen := len _ _ _ _ hsp
  have kin : K.In s.heap := e0.mod.kin.keeps fun b o e =>
    (e0.bs b o e).1
  have nolim : s.heap.NoLimit := e0.mod.nolimit.keeps fun b o e =>
    (e0.bs b o e).1
  have kinds : ∀ y ∈ ps.zip us, (defScope st).names.lookup y.1 = some .local ∨ ((defScope st).names.lookup y.1 = some .cell ∧
      ((cellsFrom (s.heap.objs.size + 1) (defScope st).names []).lookup y.1).isSome = true) := by
    rintro ⟨n, v⟩ hy
    exact (S.par n (List.of_mem_zip hy).1).elim (fun q => .inl q) fun q => .inr ⟨q, PySem.W.cellsFrom_some _ _ _ (.inl q)⟩
  refine codeAny_call_function hr.depth (kin _ _ lk) rfl S.co S.gen rfl
    (PySem.W.codeRec_of kin hcd) (hb _ _ _ _ ?_)
  refine wpAny_newFunctionEnv_cells S.kind kinds fun env he s1 x => ?_
  subst he
  refine ⟨nolim.keeps x.toInCall.keep, codeAny_func ?_⟩
  obtain ⟨t, ht0, hq⟩ := body cdv A outer s H vs Q E hgd (hr.deeper _) hsp
  have ht := ht0.nox
  have I0 : Inv (cxOf CX0 P w K mg base N qual (defScope st) f cdv A outer s H E) [] (start N vs) H s1 :=
    inv_start S hr.hd e0 hlen r x
  refine wpAny_mono (ht.run [] s1 (start N vs) H _ I0 hq) (fun fl s' hs => ?_) fun e s' hs => hs
  cases fl with
  | ret u =>
    obtain ⟨v, σ', H', J, rv, q⟩ := hs
    exact ⟨v, H', J.os, J.bare, J.base, J.hok, rv, q⟩
  | next =>
    obtain ⟨σ', H', J, q⟩ := hs
    exact ⟨V.non, H', J.os, J.bare, J.base, J.hok, rfl, q⟩
  | brk => exact hs.elim fun _ h => h.elim fun _ h => False.elim h.2
  | cont => exact hs.elim fun _ h => h.elim fun _ h => False.elim h.2
end

section
variable {X : Cx} {k : Nat} {f : Addr} {fd : FuncData} {ps : List Str} {sp : Sp} {dvs : List V} {ds : List Value} {E : XK} {x : Str} {p pos : Pos} {e : Expr} {es : List Expr} {t : TA}
theorem run_g {pins : List (Addr × Obj)} {σ : L2.St} {H : Hp} {s : Shared} {Q : VK} {us : List Value} {vs : List V} (F : FnG X.prog X.w X.K X.mg X.base k f fd ps sp)
    (hg : X.A.guards = some []) (hr : Room k X.A) (hb : Binds X.K fd ps ds) (hd : Vals dvs ds)
    (I : Inv X pins σ H s) (r : Vals vs us) (h : sp (vs ++ dvs) H Q E) : wpAny (model X.prog X.w) X.A (call (.ref f) us) (EP X pins σ Q) X.xe s := by
  have rr : Vals (vs ++ dvs) (us ++ ds) := r.append hd
  refine wpAny_call (codeAny_mono (F.run X.A X.stack s H ⟨us, []⟩ (us ++ ds) (vs ++ dvs) Q E hg hr I.env0
    (hb s us I.kIn (by rw [← rr.length]; exact F.len _ _ _ _ h)) rr h) fun r s' hq => ?_)
  match r, hq with
  | .ok (.ret u), hq => exact I.after hq
/-- f(e, ..), f such a def -/
theorem pe_callG (F : FnG X.prog X.w X.K X.mg X.base k f fd ps sp) (hgd : X.A.guards = some []) (hr : Room k X.A) (hg : Gl X x) (hm : X.mg x = some (.ref f)) (hk : PySem.W.keepIn X.K (.ref f) = true)
    (hb : Binds X.K fd ps ds) (hd : Vals dvs ds) (ha : PA X (e :: es) t) (hdb : (x == ("__debug__" : Str)) = false := by decide)
    (he : starEach (e :: es) X.env = (false, eval e X.env) :: starEach es X.env := by rfl) (hpl : (backTo pos (starEach es X.env)).any (·.1) = false := by rfl) :
    PE X (.Call (.Name x p) (e :: es) [] pos) (tCall sp dvs E0 t) := by
  refine ⟨fun pins s σ H Q I h => wpAny_Call_Name_kw (ld_glob I hg hm ?_ hdb)⟩
  exact PySem.W.callWith_K (h₀ := X.base) I.ok.mod.kin hk (thn (ha.run pos pins s σ H _ I h) fun us s1 ⟨vs, H1, I1, r, q⟩ =>
    ⟨I1.kIn, run_g F hgd hr hb hd I1 r q⟩) he hpl
end

/-! ### the end: a law's def of this kind -/
/-- base, the heap behind the top without what is tracked, is where the callee starts -/
theorem start_at {P : Program} {w : World} {K : PySem.W.Frag} {mg mb : Str → Option Value} {a : Addr} {s : Shared} {us : List Value} {ns : List Int}
    (kin : K.In s.heap) (hn : s.heap.Ns mainGlobals mg) (hb : s.heap.Ns builtinsNs mb) (hbb : ∀ x : Str, x ≠ "__name__" → mb x = bootBuiltins x)
    (hlim : s.heap.NoLimit) (hg : s.gens = #[]) (ha : s.heap.get? a = some { cls := .type "list", data := .seq us.toArray })
    (hi : IntsAre us ns) (hl : ns.length ≤ sizeLine) :
    ∃ H : Hp, Only H ∧ SqL K H a (ns.map V.int) ∧ K.In (hidT s.heap H) ∧ (hidT s.heap H).Ns mainGlobals mg ∧
      Env0 P w K mg (hidT s.heap H) callerA [] s H ∧ HOk P w H s.heap := by
  have rv := vals_ints hi
  have lenU := hi.length
  have main : ∀ H : Hp, HOk P w H s.heap → (∀ b, H b ≠ none → b = a ∧ K.lookup a = none) →
      K.In (hidT s.heap H) ∧ (hidT s.heap H).Ns mainGlobals mg ∧ Env0 P w K mg (hidT s.heap H) callerA [] s H ∧ HOk P w H s.heap := by
    intro H hok only
    have free : ∀ {b : Addr}, b ≠ a → H b = none := fun {b} hne => by
      cases q : H b with
      | none => rfl
      | some u => exact absurd (only b (by rw [q]; exact fun z => nomatch z)).1 hne
    have notDict : ∀ {b : Addr} {o : Obj} {es : Array DictEntry} {n : Nat}, s.heap.get? b = some o → o.data = .dict es n → b ≠ a := by
      rintro b o es n e d rfl
      rw [ha] at e
      cases e
      exact nomatch (show Data.seq us.toArray _ = Data.dict es n from d)
    have spaces : ∀ {b : Addr} {m : Str → Option Value}, s.heap.Ns b m → (hidT s.heap H).Ns b m := by
      rintro b m ⟨o, es, n, e, d, r⟩
      exact ⟨o, es, n, hidT_get e (free (notDict e d)), d, r⟩
    have kin2 : K.In (hidT s.heap H) := by
      intro b o e
      refine hidT_get (kin b o e) ?_
      cases q : H b with
      | none => rfl
      | some u =>
        obtain ⟨e1, e2⟩ := only b (by rw [q]; exact fun z => nomatch z)
        rw [e1, e2] at e
        cases e
    obtain ⟨mc, l1, l2⟩ := hlim
    refine ⟨kin2, spaces hn, ⟨rfl, ⟨kin2, spaces hn, ⟨mb, spaces hb, hbb⟩, ⟨mc, spaces l1, l2⟩⟩, fun b o e => of_hidT e, Nat.le_of_eq (hidT_size _ _), trivial, ?_, hok, .of_eq hg⟩, hok⟩
    exact fun b hb => absurd (show b ∈ ([] : List Addr) from hb) (by simp)
  cases lk : K.lookup a with
  | some o =>
    have e := kin a o lk
    rw [ha] at e
    cases e
    refine ⟨fun _ => none, fun _ => .inl rfl, .inr ⟨_, us.toArray, _, lk, rfl, rfl, rfl, ?_, ?_⟩, main _ ?_ ?_⟩
    · rw [List.size_toArray, lenU]; exact hl
    · simpa using rv
    · exact fun b u z => nomatch (show (none : Option HO) = some u from z)
    · exact fun b z => absurd rfl z
  | none =>
    have at_ : ∀ b, (if b = a then some (HO.frz { cls := .type "list", data := .seq us.toArray } (.lst (ns.map V.int))) else none) ≠ none → b = a := fun b z => by
      by_cases hb : b = a
      · exact hb
      · exact absurd (if_neg hb) z
    refine ⟨fun b => if b = a then some (.frz { cls := .type "list", data := .seq us.toArray } (.lst (ns.map V.int))) else none, fun b => ?_, .inl (.inr ⟨{ cls := .type "list", data := .seq us.toArray }, if_pos rfl⟩), main _ ?_ ?_⟩
    · by_cases hb : b = a
      · exact .inr ⟨_, _, if_pos hb⟩
      · exact .inl (if_neg hb)
    · intro b u z
      by_cases hb : b = a
      · have zz := (if_pos hb).symm.trans z
        cases zz
        subst hb
        exact ⟨ha, by rw [List.length_map]; exact hl, us, _, rv, ha⟩
      · have zz := (if_neg hb).symm.trans z
        cases zz
    · exact fun b z => ⟨at_ b z, lk⟩

/-- the goal that the head leaves, from the promise of the law's def (as walk_of) -/
theorem walk_ofG {l : PySem.W.OpenLaw} {n k : Nat} {q : Program} {loose : List Str} {XP : (Str → Option Value) → Heap → Prop} {YP : World → Heap → Prop} {d : DefRec} {K : Params → PySem.W.Frag} {sp : World → Sp} {x : Str}
    (hn : l.most = some n) (hn2 : n ≤ sizeLine) (hdf : d.params.defaults = []) (hr : Room k callerA)
    (hY : ∀ (w : World) (h : Heap), YP w h → (K w.params).In h)
    (F : ∀ (w : World) (mg : Str → Option Value) (fa : Addr) (h : Heap), (K w.params).In h → h.Ns mainGlobals mg → mg d.name = some (.ref fa) → ∃ fd : FuncData,
      (∀ (s : Shared) (u : Value), BindsTo s fd ⟨[u], []⟩ [(x, u)]) ∧
      ∀ base : Heap, (K w.params).In base → base.Ns mainGlobals mg → FnG l.prog w (K w.params) mg base k fa fd [x] (sp w))
    (hsp : ∀ (w : World) (H : Hp) (a : Addr) (ns : List Int), ns.length ≤ n → Only H → SqL (K w.params) H a (ns.map V.int) →
      sp w [.ref a] H (fun v _ => v = .bl true) fun _ _ _ => False) :
    PySem.W.WalkO q loose XP YP l.row.toRowW d [] (fun f vs => PySem.call f vs) := by
  refine Att.attach_call hn hdf fun w s₀ s mg mb fa o pm cd doc a us ns G Y _ _ _ hmg hobj hints hlen hg => ?_
  have kin := hY w _ Y
  obtain ⟨fd, hb, hF⟩ := F w mg fa _ kin G.T.g hmg
  obtain ⟨H, hO, hS, k1, k2, e0, hok⟩ := start_at (P := l.prog) (w := w) kin G.T.g G.T.b G.T.builtins G.T.nolimit hg hobj hints (Nat.le_trans hlen hn2)
  refine codeAny_mono ((hF _ k1 k2).run callerA [] s H ⟨[.ref a], []⟩ [.ref a] [.ref a] _ _ rfl hr e0 (hb s (.ref a)) (.cons rfl .nil) (hsp w H a ns hlen hO hS)) fun r s' h => ?_
  match r, h with
  | .ok (.ret u), h =>
    obtain ⟨v, H', os, bare, un, hok', r', q⟩ := h
    obtain rfl : v = .bl true := q
    obtain rfl : u = Value.bool true := r'
    refine ⟨rfl, OldK.of_keep fun b o e => ?_, os, bare⟩
    cases q : H b with
    | none => exact un.keep b o e q (fun z => absurd (show b ∈ ([] : List Addr) from z) (by simp)) (by simp)
    | some u =>
      rcases hO b with z | ⟨ob, xs, z⟩
      · rw [q] at z; cases z
      · obtain ⟨e1, _⟩ := hok b _ z
        obtain ⟨e2, _⟩ := hok' b _ (un.frzs b ob _ z)
        rw [e] at e1
        cases e1
        exact e2

/-! ### repr -/
mutual
/-- ints below 2 ^ 1900, no texts, no dicts -/
def lim : PyData → Prop
  | .none | .bool _ => True
  | .int i => i.natAbs < 2 ^ 1900
  | .str _ | .dict _ => False
  | .list xs | .tuple xs => limAll xs
def limAll : List PyData → Prop
  | [] => True
  | x :: xs => lim x ∧ limAll xs
end
mutual
def cnt : PyData → Nat
  | .none | .bool _ | .int _ | .str _ | .dict _ => 1
  | .list xs | .tuple xs => cntAll xs + 1
def cntAll : List PyData → Nat
  | [] => 0
  | x :: xs => cnt x + cntAll xs
end
mutual
theorem lim_show : ∀ d : PyData, lim d → d.showable = true ∧ d.hasDict = false
  | .none, _ => ⟨by simp only [PyData.showable], by simp only [PyData.hasDict]⟩
  | .bool _, _ => ⟨by simp only [PyData.showable], by simp only [PyData.hasDict]⟩
  | .int i, h => ⟨by
      simp only [PyData.showable, decide_eq_true_eq]
      have h : i.natAbs < 2 ^ 1900 := by simpa only [lim] using h
      exact Nat.lt_of_lt_of_le (PySem.Flt.log2_lt_of (by decide) h) (by decide), by simp only [PyData.hasDict]⟩
  | .str _, h => by simp only [lim] at h
  | .dict _, h => by simp only [lim] at h
  | .list xs, h => by
    obtain ⟨a, b⟩ := limAll_show xs (by simpa only [lim] using h)
    exact ⟨by simpa only [PyData.showable] using a, by simpa only [PyData.hasDict] using b⟩
  | .tuple xs, h => by
    obtain ⟨a, b⟩ := limAll_show xs (by simpa only [lim] using h)
    exact ⟨by simpa only [PyData.showable] using a, by simpa only [PyData.hasDict] using b⟩
theorem limAll_show : ∀ xs : List PyData, limAll xs → PyData.showableAll xs = true ∧ PyData.hasDictAll xs = false
  | [], _ => ⟨by simp only [PyData.showableAll], by simp only [PyData.hasDictAll]⟩
  | x :: xs, h => by
    obtain ⟨h1, h2⟩ : lim x ∧ limAll xs := by simpa only [limAll] using h
    obtain ⟨a, b⟩ := lim_show x h1
    obtain ⟨c, d⟩ := limAll_show xs h2
    exact ⟨by simp only [PyData.showableAll, a, c, Bool.and_self], by simp only [PyData.hasDictAll, b, d, Bool.or_self]⟩
end
theorem int_len {i : Int} (h : i.natAbs < 2 ^ 1900) : (PyData.shown (.int i)).length ≤ 1901 := by
  have e := int_text_length_le (k := 1900) (a := i) (by decide) (PySem.Flt.log2_lt_of (by decide) h)
  rw [← PySem.ofString_length] at e
  simp only [PyData.shown]
  exact e
mutual
theorem lim_len : ∀ d : PyData, lim d → d.shown.length + 10 ≤ 2000 * cnt d
  | .none, _ => by
    have e : (PyData.shown .none).length = 4 := rfl
    simp only [cnt]; omega
  | .bool b, _ => by
    have e : (PyData.shown (.bool b)).length ≤ 5 := by cases b <;> decide
    simp only [cnt]; omega
  | .int i, h => by
    have e := int_len (by simpa only [lim] using h)
    simp only [cnt]
    omega
  | .str _, h => by simp only [lim] at h
  | .dict _, h => by simp only [lim] at h
  | .list xs, h => by
    have a := limAll_len xs (by simpa only [lim] using h)
    have b := listText_len_le (PyData.shownAll xs)
    have c := PyData.shownAll_length xs
    simp only [PyData.shown, cnt]
    omega
  | .tuple xs, h => by
    have a := limAll_len xs (by simpa only [lim] using h)
    have b := tupleText_len_le (PyData.shownAll xs)
    have c := PyData.shownAll_length xs
    simp only [PyData.shown, cnt]
    omega
theorem limAll_len : ∀ xs : List PyData, limAll xs → ((PyData.shownAll xs).map (·.length)).sum + 2 * xs.length ≤ 2000 * cntAll xs
  | [], _ => by simp [PyData.shownAll]
  | x :: xs, h => by
    obtain ⟨h1, h2⟩ : lim x ∧ limAll xs := by simpa only [limAll] using h
    have a := lim_len x h1
    have b := limAll_len xs h2
    simp only [PyData.shownAll, cntAll, List.map_cons, List.sum_cons, List.length_cons] at *
    omega
end
section
variable {X : Cx}
/-- repr of data: its text -/
def rRepr (K : PySem.W.Frag) : List V → Hp → VK → Prop := fun vs H Q => ∃ a d, vs = [.ref a] ∧ Dp K H (.ref a) d ∧ lim d ∧ cnt d ≤ 8000 ∧ d.depth ≤ 40 ∧ Q (.str d.shown) H
theorem call_repr (hg : X.A.guards = some []) (hu : X.A.units + 64 < cLine) : CallR X (.builtin "repr") (rRepr X.K) := by
  intro pins s σ H vs us Q I r h
  obtain ⟨a, d, rfl, hd, hl, hc, hdp, q⟩ := h
  obtain ⟨hs, hn⟩ := lim_show d hl
  have hsz : d.shown.length ≤ sizeLine := by
    have := lim_len d hl
    rw [show sizeLine = 16777216 from sizeLine_eq]
    omega
  cases r with
  | cons rv rn =>
    cases rn
    obtain ⟨as, rd⟩ := Dp.reads I d _ _ hd rv
    obtain rfl := (show _ = Value.ref a from rv)
    refine repr_of_reads' rd hs (fun z => by rw [hn] at z; cases z) hg (by omega) (fun _ _ e => e) (fun h' u tk hk => ?_) hsz
    exact ⟨.str _, H, I.kept hk, ⟨_, rfl⟩, q⟩
end
end G

/-! Readings taken step by step: one lemma a head, the continuation last. -/
namespace G
open PySem PySem.Spec L2
section
variable {σ : L2.St} {H : Hp} {i j : Nat} {v x y : V} {Q : VK} {ta tb te : TE} {K : PySem.W.Frag} {D : Ends} {t u : TS} {tt tu : TT} {tr : TA} {QT : Bool → Hp → Prop} {QA : List V → Hp → Prop}
theorem w_var (h : σ[i]? = some (some v)) (q : Q v H) : tVar i σ H Q := ⟨v, h, q⟩
theorem w_c (q : Q v H) : tC v σ H Q := q
theorem w_op {r : R2} (q : ta σ H fun x H1 => tb σ H1 fun y H2 => r x y H2 Q) : tOp r ta tb σ H Q := q
theorem w_un {r : V → Hp → VK → Prop} (q : ta σ H fun x H1 => r x H1 Q) : tUn r ta σ H Q := q
theorem w_cb {r : List V → Hp → VK → Prop} (q : tr σ H fun vs H1 => r vs H1 Q) : tCB r tr σ H Q := q
theorem w_nil (q : QA [] H) : tNil σ H QA := q
theorem w_cons (q : te σ H fun x H1 => tr σ H1 fun xs H2 => QA (x :: xs) H2) : tCons te tr σ H QA := q
theorem w_I0 {g : Int → Int → V} {a b : Int} (q : Q (g a b) H) : rI0 g (.int a) (.int b) H Q := ⟨a, b, rfl, rfl, q⟩
theorem w_I {C : Int → Int → Prop} {g : Int → Int → V} {a b : Int} (c : C a b) (q : Q (g a b) H) : rI C g (.int a) (.int b) H Q := ⟨a, b, rfl, rfl, c, q⟩
theorem w_U {g : Int → V} {a : Int} (q : Q (g a) H) : rU g (.int a) H Q := ⟨a, rfl, q⟩
theorem w_eq (h : scal x y = true) (q : Q (.bl (decide (x = y))) H) : rEq x y H Q := ⟨h, q⟩
theorem w_ne (h : scal x y = true) (q : Q (.bl (!decide (x = y))) H) : rNe x y H Q := ⟨h, q⟩
theorem w_eqI {a b : Int} (q : Q (.bl (decide (a = b))) H) : rEq (.int a) (.int b) H Q := ⟨rfl, by
  have e : decide (V.int a = V.int b) = decide (a = b) := by
    by_cases h : a = b
    · rw [h]; simp
    · rw [decide_eq_false h, decide_eq_false fun z => h (by injection z)]
  rw [e]; exact q⟩
theorem w_neI {a b : Int} (q : Q (.bl (!decide (a = b))) H) : rNe (.int a) (.int b) H Q := ⟨rfl, by
  have e : decide (V.int a = V.int b) = decide (a = b) := by
    by_cases h : a = b
    · rw [h]; simp
    · rw [decide_eq_false h, decide_eq_false fun z => h (by injection z)]
  rw [e]; exact q⟩
theorem w_test (q : te σ H fun x H1 => ∃ k, x = .bl k ∧ QT k H1) : tTest te σ H QT := q
theorem w_tB (q : te σ H fun x H1 => ∃ k, x = .bl k ∧ QT k H1) : tB te σ H QT := q
theorem w_bl {b : Bool} {P : Bool → Prop} (q : P b) : ∃ k, V.bl b = .bl k ∧ P k := ⟨b, rfl, q⟩
theorem w_not (q : tt σ H fun c H1 => QT (!c) H1) : tNot tt σ H QT := q
theorem w_and (q : tt σ H fun c H1 => if c = true then tu σ H1 QT else QT false H1) : tAnd tt tu σ H QT := q
theorem w_or (q : tt σ H fun c H1 => if c = true then QT true H1 else tu σ H1 QT) : tOr tt tu σ H QT := q
theorem w_andV (q : ta σ H fun x H1 => ∃ c, x = .bl c ∧ if c = true then tb σ H1 Q else Q (.bl false) H1) : tAndV ta tb σ H Q := q
theorem w_orV (q : ta σ H fun x H1 => ∃ c, x = .bl c ∧ if c = true then Q (.bl true) H1 else tb σ H1 Q) : tOrV ta tb σ H Q := q
theorem w_notV (q : ta σ H fun x H1 => ∃ c, x = .bl c ∧ Q (.bl (!c)) H1) : tNotV ta σ H Q := q
theorem w_tif (q : tt σ H fun c H1 => if c = true then ta σ H1 Q else tb σ H1 Q) : tIf tt ta tb σ H Q := q
theorem w_ite {b : Bool} {A B : Prop} (h1 : b = true → A) (h2 : b = false → B) : if b = true then A else B := by
  cases b with
  | true => exact h1 rfl
  | false => exact h2 rfl
theorem w_iteT {b : Bool} {A B : Prop} (e : b = true) (h1 : A) : if b = true then A else B := by rw [if_pos e]; exact h1
theorem w_iteF {b : Bool} {A B : Prop} (e : b = false) (h1 : B) : if b = true then A else B := by rw [e]; exact h1
/-! statements -/
theorem w_seq (q : t { nx := u D, rt := D.rt, bk := D.bk, ct := D.ct } σ H) : tSeq t u D σ H := q
theorem w_next (q : D.nx σ H) : tNext D σ H := q
theorem w_brk (q : D.bk σ H) : tBreak D σ H := q
theorem w_cont (q : D.ct σ H) : tCont D σ H := q
theorem w_ret (q : te σ H D.rt) : tRet te D σ H := q
theorem w_retN (q : D.rt .non H) : tRetN D σ H := q
theorem w_drop (q : te σ H fun _ H1 => D.nx σ H1) : tDrop te D σ H := q
theorem w_asg {g : TG} (q : te σ H fun x H1 => g x σ H1 D.nx) : tAsg te g D σ H := q
theorem w_gn {R : L2.St → Hp → Prop} (q : R (σ.set i (some v)) H) : gName i v σ H R := q
theorem w_if (q : tt σ H fun b H1 => if b = true then t D σ H1 else u D σ H1) : tIfS tt t u D σ H := q
theorem w_par (q : tr σ H fun vs H1 => ∃ v w, vs = [v, w] ∧ D.nx ((σ.set i (some v)).set j (some w)) H1) : tPar i j tr D σ H := q
theorem w_par2 {a b : V} {P : V → V → Prop} (q : P a b) : ∃ v w, [a, b] = [v, w] ∧ P v w := ⟨a, b, rfl, q⟩
/-! displays, items -/
theorem same_new {p : Addr} {o : HO} (h : H p = none) : Same H (upd H p o) := fun c u e => by rw [upd_ne (ne_of_none e h)]; exact e
/-- a new object: the heap is a letter again behind it -/
def Alloc (mk : List V → HO) (Q : VK) : List V → Hp → Prop := fun xs H1 => xs.length ≤ sizeLine ∧ ∀ p, H1 p = none → Q (.ref p) (upd H1 p (mk xs))
theorem w_tup (q : tr σ H (Alloc HO.tup Q)) : tTup tr σ H Q := q
theorem w_lst (q : tr σ H (Alloc HO.lst Q)) : tLst tr σ H Q := q
theorem w_alloc {mk : List V → HO} {xs : List V} (h : decide (xs.length ≤ 16777216) = true) (q : ∀ p H', H p = none → Same H H' → H' p = some (mk xs) → Q (.ref p) H') : Alloc mk Q xs H :=
  ⟨by rw [show sizeLine = 16777216 from sizeLine_eq]; exact of_decide_eq_true h, fun p hp => q p _ hp (same_new hp) upd_same⟩
theorem w_size {n : Nat} {A : Prop} (h : decide (n ≤ 16777216) = true) (q : A) : n ≤ sizeLine ∧ A := ⟨by rw [show sizeLine = 16777216 from sizeLine_eq]; exact of_decide_eq_true h, q⟩
end
end G
namespace G
open PySem PySem.Spec L2
section
variable {σ : L2.St} {H : Hp} {v x y : V} {Q : VK} {ta tb te : TE} {K : PySem.W.Frag} {D : Ends} {tr tk : TA} {sp : Sp} {dvs : List V} {E : XK} {f : Str} {C a dx : Addr} {fs : List (Str × V)}
theorem w_call (q : tr σ H fun vs H1 => sp (vs ++ dvs) H1 Q E) : tCall sp dvs E tr σ H Q := q
theorem w_fld (q : ta σ H fun x H1 => ∃ a C dx fs v, x = .ref a ∧ H1 a = some (.ins C dx fs) ∧ Cls K C ∧ NoAttr K C f ∧ fs.lookup f = some v ∧ Q v H1) : tFld K ta f σ H Q := q
theorem w_fld1 {R : V → Prop} (ho : H a = some (.ins C dx fs)) (hc : Cls K C) (hn : NoAttr K C f) (hl : fs.lookup f = some v) (q : R v) :
    ∃ b C dx fs w, V.ref a = .ref b ∧ H b = some (.ins C dx fs) ∧ Cls K C ∧ NoAttr K C f ∧ fs.lookup f = some w ∧ R w := ⟨a, C, dx, fs, v, rfl, ho, hc, hn, hl, q⟩
theorem w_sfld (q : te σ H fun y H1 => ta σ H1 fun x H2 => ∃ a C dx fs, x = .ref a ∧ H2 a = some (.ins C dx fs) ∧ Cls K C ∧ NoAttr K C f ∧ fs.length < 1000 ∧ D.nx σ (upd H2 a (.ins C dx (putF f y fs)))) : sFld K ta te f D σ H := q
theorem w_sfld1 (ho : H a = some (.ins C dx fs)) (hc : Cls K C) (hn : NoAttr K C f) (hl : fs.length < 1000) {y : V} {S : L2.St → Hp → Prop} (q : S σ (upd H a (.ins C dx (putF f y fs)))) :
    ∃ b C dx fs, V.ref a = .ref b ∧ H b = some (.ins C dx fs) ∧ Cls K C ∧ NoAttr K C f ∧ fs.length < 1000 ∧ S σ (upd H b (.ins C dx (putF f y fs))) := ⟨a, C, dx, fs, rfl, ho, hc, hn, hl, q⟩
theorem w_prop (q : ta σ H fun x H1 => ∃ a dx fs, x = .ref a ∧ H1 a = some (.ins C dx fs) ∧ sp (.ref a :: dvs) H1 Q E) : tProp C sp dvs E ta σ H Q := q
theorem w_make (q : tr σ H fun vs H1 => ∀ x dx, H1 x = none → H1 dx = none → dx ≠ x → sp (.ref x :: (vs ++ dvs)) (upd (upd H1 dx (.own x)) x (.ins C dx [])) (fun v H2 => v = .non ∧ Q (.ref x) H2) E) : tMake C sp dvs E tr σ H Q := q
theorem w_meth {m : Str} (q : ta σ H fun x H1 => ∃ a dx fs, x = .ref a ∧ H1 a = some (.ins C dx fs) ∧ fs.lookup m = none ∧ tr σ H1 fun vs H2 => sp (x :: (vs ++ dvs)) H2 Q E) : tMeth C m sp dvs E ta tr σ H Q := q
theorem w_ixL {p : Addr} {xs : List V} {i : Int} (h : SqL K H p xs) (e : atI xs i = some v) (q : Q v H) : rIxL K (.ref p) (.int i) H Q := ⟨p, xs, i, v, rfl, rfl, h, e, q⟩
theorem w_ixT {p : Addr} {xs : List V} {i : Int} (h : SqT K H p xs) (e : atI xs i = some v) (q : Q v H) : rIxT K (.ref p) (.int i) H Q := ⟨p, xs, i, v, rfl, rfl, h, e, q⟩
theorem w_setL {p : Addr} {xs : List V} {i : Int} {j : Nat} {R : Hp → Prop} (h : H p = some (.lst xs)) (e : ixN xs.length i = some j) (q : R (upd H p (.lst (xs.set j v)))) : rSetL (.ref p) (.int i) v H R := ⟨p, xs, i, j, rfl, rfl, h, e, q⟩
theorem w_gsub {to ti : TE} {t : TSet} {R : L2.St → Hp → Prop} (q : to σ H fun o H1 => ti σ H1 fun i H2 => t o i v H2 fun H3 => R σ H3) : gSub to ti t v σ H R := q
end
end G
namespace G
open PySem PySem.Spec L2
section
variable {σ : L2.St} {H : Hp} {v x y : V} {Q : VK} {ta tb te : TE} {K : PySem.W.Frag} {D : Ends} {tr tk : TA} {sp : Sp} {dvs : List V} {E : XK} {C a dx : Addr} {tb : TS} {g : TG} {wi : TI}
/-- a walk J from the heap H on: the invariant that is asked -/
def ForW (J : It) (g : TG) (tb : TS) (D : Ends) (σ : L2.St) (H : Hp) : Prop := ∃ W : Nat → Nat → L2.St → Hp → Prop, (∃ m, W 0 m σ H) ∧ ∀ i m σ H, W i m σ H →
  (J.stop i H ∧ D.nx σ H) ∨ (J.go i H ∧ ∃ N : L2.St → Hp → Prop, (∀ σ' H', N σ' H' → ∃ m', m' < m ∧ W (i + 1) m' σ' H') ∧ ∀ x H', J.yld i H x H' → g x σ H' fun σ2 H2 => tb { D with nx := N, ct := N, bk := D.nx } σ2 H2)
theorem w_for (q : wi σ H fun J H1 => ForW J g tb D σ H1) : tFor wi g tb D σ H := q
theorem w_iList {te : TE} {R : It → Hp → Prop} (q : te σ H fun x H1 => ∃ a, x = .ref a ∧ (∃ xs, SqL K H1 a xs) ∧ R (Itl K a) H1) : iList K te σ H R := q
theorem w_iTup {te : TE} {R : It → Hp → Prop} (q : te σ H fun x H1 => ∃ a, x = .ref a ∧ (∃ xs, SqT K H1 a xs) ∧ R (Itt K a) H1) : iTup K te σ H R := q
/-- a list, one name -/
theorem w_walkL {j : Nat} {xs : List V} (hl : SqL K H a xs) (Pv : Nat → L2.St → Hp → Prop) (h0 : Pv 0 σ H) (hk : ∀ i σ' H', i ≤ xs.length → Pv i σ' H' → SqL K H' a xs)
    (hs : ∀ (i : Nat) x σ' H', xs[i]? = some x → Pv i σ' H' → tb { nx := Pv (i + 1), rt := D.rt, ct := Pv (i + 1), bk := D.nx } (σ'.set j (some x)) H') (hd : ∀ σ' H', Pv xs.length σ' H' → D.nx σ' H') :
    ∃ b, V.ref a = .ref b ∧ (∃ xs, SqL K H b xs) ∧ ForW (Itl K b) (gName j) tb D σ H := ⟨a, rfl, ⟨_, hl⟩, for_list Pv h0 hk hs hd⟩
/-- for .. in range(n) -/
theorem w_forR1 {j : Nat} {n : Int} (hv : ∀ R : List V → Hp → Prop, R [.int n] H → tr σ H R) (hn : 0 ≤ n ∧ n ≤ 1000000) (Pv : Nat → L2.St → Hp → Prop) (h0 : Pv 0 σ H)
    (hs : ∀ (i : Nat) σ' H', (i : Int) < n → Pv i σ' H' → tb { nx := Pv (i + 1), rt := D.rt, ct := Pv (i + 1), bk := D.nx } (σ'.set j (some (.int (i : Int)))) H') (hd : ∀ σ' H', Pv n.toNat σ' H' → D.nx σ' H') : tFor (iRng1 tr) (gName j) tb D σ H := by
  refine hv _ ⟨n, rfl, by omega, by omega, for_range (lo := 0) (n := n.toNat) Pv h0 (fun i σ' H' hi p => ?_) hd⟩
  have e0 : (0 : Int) + (i : Int) = (i : Int) := Int.zero_add _
  show tb { nx := Pv (i + 1), rt := D.rt, ct := Pv (i + 1), bk := D.nx } (σ'.set j (some (.int ((0 : Int) + (i : Int))))) H'
  rw [e0]
  exact hs i σ' H' (by omega) p
/-- for .. in a list -/
theorem w_forL {j : Nat} {xs : List V} (hv : ∀ R : V → Hp → Prop, R (.ref a) H → te σ H R) (hl : SqL K H a xs) (Pv : Nat → L2.St → Hp → Prop) (h0 : Pv 0 σ H) (hk : ∀ i σ' H', i ≤ xs.length → Pv i σ' H' → SqL K H' a xs)
    (hs : ∀ (i : Nat) x σ' H', xs[i]? = some x → Pv i σ' H' → tb { nx := Pv (i + 1), rt := D.rt, ct := Pv (i + 1), bk := D.nx } (σ'.set j (some x)) H') (hd : ∀ σ' H', Pv xs.length σ' H' → D.nx σ' H') : tFor (iList K te) (gName j) tb D σ H :=
  hv _ ⟨a, rfl, ⟨_, hl⟩, for_list Pv h0 hk hs hd⟩
/-- all but what stands at a is as it was -/
def Fr (a : Addr) (H H' : Hp) : Prop := ∀ c o, c ≠ a → H c = some o → H' c = some o
theorem Fr.refl (a : Addr) (H : Hp) : Fr a H H := fun _ _ _ h => h
theorem Fr.trans {a : Addr} {H H1 H2 : Hp} (x : Fr a H H1) (y : Fr a H1 H2) : Fr a H H2 := fun c o n h => y c o n (x c o n h)
theorem Fr.at_ {a : Addr} {H : Hp} {o : HO} : Fr a H (upd H a o) := fun c u n h => by rw [upd_ne n]; exact h
theorem Fr.new {a p : Addr} {H : Hp} {o : HO} (h : H p = none) : Fr a H (upd H p o) := fun c u n e => by rw [upd_ne (ne_of_none e h)]; exact e
theorem Fr.same {a : Addr} {H H' : Hp} (h : Same H H') : Fr a H H' := fun c o _ e => h c o e
/-- a change at an address that H does not know is none for H -/
theorem Fr.unseen {a : Addr} {H H1 H2 : Hp} (n : H a = none) (s : Same H H1) (f : Fr a H1 H2) : Same H H2 := fun c o h => f c o (ne_of_none h n) (s c o h)
/-- what is kept while a comprehension fills its list at L -/
def Fills (Pv : Addr → Nat → List V → Hp → Prop) (L : Addr) (i : Nat) : Hp → Prop := fun H => ∃ acc, H L = some (.lst acc) ∧ Pv L i acc H
theorem fills_more {Pv : Addr → Nat → List V → Hp → Prop} {L : Addr} {i : Nat} {acc : List V} (h : H L = some (.lst acc)) (hz : acc.length < 10000000) (q : ∀ H', Fr L H H' → H' L = some (.lst (acc ++ [y])) → Pv L (i + 1) (acc ++ [y]) H') :
    ∃ acc, H L = some (.lst acc) ∧ acc.length < sizeLine ∧ Fills Pv L (i + 1) (upd H L (.lst (acc ++ [y]))) :=
  ⟨acc, h, by rw [show sizeLine = 16777216 from sizeLine_eq]; omega, acc ++ [y], upd_same, q _ Fr.at_ upd_same⟩
/-- [e for x in a list if t] -/
theorem w_lcL {tt : TT} {vs : List Nat} {xs : List V} (hv : ∀ R : V → Hp → Prop, R (.ref a) H → ta σ H R) (hl : SqL K H a xs) (Pv : Addr → Nat → List V → Hp → Prop)
    (h0 : ∀ L H', H L = none → Same H H' → H' L = some (.lst []) → Pv L 0 [] H')
    (hk : ∀ L i acc H', i ≤ xs.length → Pv L i acc H' → SqL K H' a xs)
    (hs : ∀ L (i : Nat) x acc H', H L = none → xs[i]? = some x → H' L = some (.lst acc) → Pv L i acc H' → g x (wipe σ vs) H' fun σ2 H2 => wipe σ2 vs = wipe σ vs ∧ tt σ2 H2 fun b H3 =>
      if b = true then te σ2 H3 fun y H4 => ∃ acc, H4 L = some (.lst acc) ∧ acc.length < sizeLine ∧ Fills Pv L (i + 1) (upd H4 L (.lst (acc ++ [y]))) else Fills Pv L (i + 1) H3)
    (hd : ∀ L acc H', H L = none → H' L = some (.lst acc) → Pv L xs.length acc H' → Q (.ref L) H') : tLc (iList K ta) g tt te vs σ H Q :=
  hv _ ⟨a, rfl, ⟨_, hl⟩, fun L hL => lc_list (xs := xs) (fun i H' => Fills Pv L i H') ⟨[], upd_same, h0 L _ hL (same_new hL) upd_same⟩ (fun i H' hi ⟨acc, _, p⟩ => hk L i acc H' hi p)
    (fun i x H' hi ⟨acc, hA, hp⟩ => hs L i x acc H' hL hi hA hp) fun H' ⟨acc, h1, h2⟩ => hd L acc H' hL h1 h2⟩
/-! more heads -/
theorem w_bm {T : String} {r : V → List V → Hp → VK → Prop} (q : ta σ H fun x H1 => tyV K T x H1 ∧ tr σ H1 fun xs H2 => r x xs H2 Q) : tBM K T r ta tr σ H Q := q
theorem w_bmL {p : Addr} {xs : List V} {B : Prop} (h : H p = some (.lst xs)) (q : B) : tyV K "list" (.ref p) H ∧ B := ⟨.inl ⟨rfl, xs, SqL.of h⟩, q⟩
theorem w_append {l : Addr} {xs : List V} (h : H l = some (.lst xs)) (q : ∀ H', Fr l H H' → H' l = some (.lst (xs ++ [y])) → Q .non H') (hz : decide (xs.length < 10000000) = true := by rfl) : rAppend (.ref l) [y] H Q :=
  ⟨l, xs, y, rfl, rfl, h, by have := of_decide_eq_true hz; rw [show sizeLine = 16777216 from sizeLine_eq]; omega, q _ Fr.at_ upd_same⟩
theorem w_makeK {n m : Nat} {gV : List V → List V → List V} (q : tr σ H fun vs H1 => tk σ H1 fun zs H2 => vs.length = n ∧ zs.length = m ∧ ∀ x dx, H2 x = none → H2 dx = none → dx ≠ x → sp (gV (.ref x :: vs) zs) (upd (upd H2 dx (.own x)) x (.ins C dx [])) (fun v H3 => v = .non ∧ Q (.ref x) H3) E) :
    tMakeK C n m sp gV E tr tk σ H Q := q
theorem w_callN {n m : Nat} {gV : List V → List V → List V} (q : tr σ H fun vs H1 => tk σ H1 fun zs H2 => vs.length = n ∧ zs.length = m ∧ sp (gV vs zs) H2 Q E) : tCallN n m sp gV E tr tk σ H Q := q
theorem w_rfl2 {n m : Nat} {A : Prop} {a b : Nat} (h1 : a = n) (h2 : b = m) (q : A) : a = n ∧ b = m ∧ A := ⟨h1, h2, q⟩

end
end G

/-! Wide ints; operators by methods of one's own. -/
namespace G
open PySem PySem.Spec PyProof.Rows L2
section
variable {X : Cx}
def CPowW (i j : Int) : Prop := 0 ≤ j ∧ j ≤ 64 ∧ i.natAbs.log2 < 1000000
theorem op_powW : OpR X (binaryOp .Pow) (rI CPowW fun i j => .int (i ^ j.toNat)) := opI fun i j _ _ _ _ _ hc q => by
  refine pow_int hc.1 ?_ q
  have b : Builtin.Int.intBits i ≤ i.natAbs.log2 + 1 := by
    unfold Builtin.Int.intBits
    split <;> omega
  have h1 : ((Builtin.Int.intBits i : Nat) : Int) ≤ 1000000 := by have := hc.2.2; omega
  have h2 : ((Builtin.Int.intBits i : Nat) : Int) * j ≤ 1000000 * 64 := Int.mul_le_mul h1 hc.2.1 hc.1 (by decide)
  exact Int.le_trans h2 (by decide)
/-- % by a positive number of any size -/
theorem op_modW : OpR X (binaryOp .Mod) (rI (fun _ j => 0 < j) fun i j => .int (i % j)) := by
  intro pins s σ H x y v u Q I rx ry h
  obtain ⟨i, j, hx, hy, hc, q⟩ := h
  exact op_modN pins s σ H x y v u Q I rx ry ⟨i, j, hx, hy, by omega, by
    show Q (.int (i.fmod j)) H
    rw [Int.fmod_eq_emod_of_nonneg i (by omega)]
    exact q⟩
/-! ### operators by a method of the left operand's class -/
theorem mono_rel {v : V} {u : Value} {s : Shared} {R : Value → Shared → Prop} (r : RelV v u) (q : R u s) : PySem.W.CmpBack R u s := by
  cases v with
  | non => cases (show u = Value.none from r); exact q
  | bl b => cases (show u = Value.bool b from r); exact q
  | int i => obtain ⟨t, e⟩ := (show ∃ t, u = Value.int i t from r); cases e; exact q
  | str z => obtain ⟨t, e⟩ := (show ∃ t, u = Value.str z t from r); cases e; exact q
  | byt z => obtain ⟨t, e⟩ := (show ∃ t, u = Value.bytes z t from r); cases e; exact q
  | flt z => obtain ⟨t, e⟩ := (show ∃ t, u = Value.float z t from r); cases e; exact q
  | ref a => cases (show u = Value.ref a from r); exact q
  | ty n => cases (show u = Value.type n from r); exact q

variable {k : Nat} {f C D : Addr} {fd : FuncData} {ps : List Str} {sp : Sp} {E : XK} {op : Operator}
/-- a method for an operator: found in the class, a def -/
structure OpM (K : PySem.W.Frag) (C : Addr) (m : Str) (f : Addr) : Prop where
  at_ : PySem.W.findIn K (.ref C) m = some (some (.ref f))
  fn : PySem.W.isFn K (.ref f) = true
/-- both of one class -/
def rOwn (C : Addr) (sp : Sp) (E : XK) : R2 := fun x y H Q => ∃ a dx fs b dy gs, x = .ref a ∧ y = .ref b ∧ H a = some (.ins C dx fs) ∧ H b = some (.ins C dy gs) ∧ sp [x, y] H Q E
theorem op_own {CX : CXT} (F : FnOk X.prog X.w X.K X.mg X.base CX k f fd ps sp) (hr : Room k X.A) (hb : Binds X.K fd ps []) (hx : Passes CX X E) (m : OpM X.K C (PySem.dunder op.info.2) f) (hc : PySem.W.selfFirst X.K C = true) :
    OpR X (binaryOp op) (rOwn C sp E) := by
  intro pins s σ H x y v u Q I rx ry h
  obtain ⟨a, dx, fs, b, dy, gs, rfl, rfl, ea, eb, q⟩ := h
  obtain rfl : v = Value.ref a := rx
  obtain rfl : u = Value.ref b := ry
  obtain ⟨mA, O, _⟩ := ins_get I.hok ea
  obtain ⟨od, J, _⟩ := O.look
  obtain ⟨mB, O2, _⟩ := ins_get I.hok eb
  obtain ⟨od2, J2, _⟩ := O2.look
  obtain ⟨mm, fr⟩ := I.fr
  refine PySem.W.binop_K fr I.ok.mod.kin J J2.type hc m.at_ m.fn ?_
  refine wpAny_mono (run_fn (us := [.ref a, .ref b]) (vs := [.ref a, .ref b]) F hr hb .nil hx I (.cons rfl (.cons rfl .nil)) q) (fun w s' hw => ?_) fun _ _ e => e
  obtain ⟨z, H', I', rz, qz⟩ := hw
  exact mono_rel rz ⟨z, H', I', rz, qz⟩
/-- unary minus -/
def rNeg (C : Addr) (sp : Sp) (E : XK) : V → Hp → VK → Prop := fun x H Q => ∃ a dx fs, x = .ref a ∧ H a = some (.ins C dx fs) ∧ sp [x] H Q E
theorem un_own {CX : CXT} (F : FnOk X.prog X.w X.K X.mg X.base CX k f fd ps sp) (hr : Room k X.A) (hb : Binds X.K fd ps []) (hx : Passes CX X E) (m : OpM X.K C "__neg__" f) :
    UnR X (unaryOp .USub) (rNeg C sp E) := by
  intro pins s σ H x v Q I rx h
  obtain ⟨a, dx, fs, rfl, ea, q⟩ := h
  obtain rfl : v = Value.ref a := rx
  obtain ⟨mA, O, _⟩ := ins_get I.hok ea
  obtain ⟨od, J, _⟩ := O.look
  unfold unaryOp
  refine wpAny_holding ?_
  show wpAny _ _ (callSpecial? (.ref a) "__neg__" >>= _) _ _ _
  refine wpAny_bind (PySem.W.special_fn I.kIn J m.at_ (beq_iff_eq.mp m.fn) ?_)
  refine wpAny_mono (run_fn (us := [.ref a]) (vs := [.ref a]) F hr hb .nil hx I (.cons rfl .nil) q) (fun w s' hw => ?_) fun _ _ e => e
  exact wpAny_pure hw
/-- == by the left operand's __eq__, the right operand anything whose type is known -/
def rEqO (K : PySem.W.Frag) (C : Addr) (sp : Sp) (E : XK) : R2 := fun x y H Q => ∃ a dx fs t, x = .ref a ∧ H a = some (.ins C dx fs) ∧ TyX K H y t ∧ PySem.W.notFirst K C t = true ∧ sp [x, y] H Q E
theorem op_eqO {CX : CXT} (F : FnOk X.prog X.w X.K X.mg X.base CX k f fd ps sp) (hr : Room k X.A) (hb : Binds X.K fd ps []) (hx : Passes CX X E) (m : OpM X.K C "__eq__" f) :
    OpR X (compareOp .Eq) (rEqO X.K C sp E) := by
  intro pins s σ H x y v u Q I rx ry h
  obtain ⟨a, dx, fs, t, rfl, ea, ty, hn, q⟩ := h
  obtain rfl : v = Value.ref a := rx
  obtain ⟨mA, O, _⟩ := ins_get I.hok ea
  obtain ⟨od, J, _⟩ := O.look
  obtain ⟨mm, fr⟩ := I.fr
  obtain ⟨P, Z, hp, hne⟩ := kit_of I ry ty
  show wpAny _ _ (richCompare .Eq (.ref a) u) _ _ _
  have lk : PySem.W.Looks (model X.prog X.w) s.heap (typeOf u) t := Z.ty _ _ I.kIn hp
  refine PySem.W.cmp_K hr.units0 fr I.ok.mod.kin J lk hn m.at_ m.fn ?_
  refine wpAny_mono (run_fn (us := [.ref a, u]) (vs := [.ref a, y]) F hr hb .nil hx I (.cons rfl (.cons ry .nil)) q) (fun w s' hw => ?_) fun _ _ e => e
  obtain ⟨z, H', I', rz, qz⟩ := hw
  exact mono_rel rz ⟨z, H', I', rz, qz⟩
end
end G

/-! Sizes of numbers, told by a number of bits. -/
namespace G
open PySem PySem.Spec L2
/-- below 2 ^ n in size; a word, so that no number of that size is reckoned with -/
def Bt (n : Nat) (i : Int) : Prop := i.natAbs < 2 ^ n
instance {n : Nat} {i : Int} : Decidable (Bt n i) := inferInstanceAs (Decidable (i.natAbs < 2 ^ n))
section
variable {a b n : Nat} {i j : Int}
theorem Bt.mono (x : Bt a i) (h : a ≤ b) : Bt b i := Nat.lt_of_lt_of_le x (Nat.pow_le_pow_right (by decide) h)
theorem Bt.of_le (x : Bt a j) (h : i.natAbs ≤ j.natAbs) : Bt a i := Nat.lt_of_le_of_lt h x
theorem Bt.any : Bt (i.natAbs.log2 + 1) i := Nat.lt_log2_self
theorem Bt.neg (x : Bt a i) : Bt a (-i) := by unfold Bt; rw [Int.natAbs_neg]; exact x
theorem two_max (x : i.natAbs < 2 ^ a) (y : j.natAbs < 2 ^ b) : i.natAbs + j.natAbs < 2 ^ (max a b + 1) := by
  have h1 : 2 ^ a ≤ 2 ^ max a b := Nat.pow_le_pow_right (by decide) (Nat.le_max_left a b)
  have h2 : 2 ^ b ≤ 2 ^ max a b := Nat.pow_le_pow_right (by decide) (Nat.le_max_right a b)
  rw [Nat.pow_succ]
  omega
theorem Bt.add (x : Bt a i) (y : Bt b j) : Bt (max a b + 1) (i + j) := Nat.lt_of_le_of_lt (Int.natAbs_add_le i j) (two_max x y)
theorem Bt.sub (x : Bt a i) (y : Bt b j) : Bt (max a b + 1) (i - j) := by
  have h := Bt.add x y.neg
  rw [← Int.sub_eq_add_neg] at h
  exact h
theorem Bt.mul (x : Bt a i) (y : Bt b j) : Bt (a + b) (i * j) := by
  unfold Bt
  rw [Int.natAbs_mul, Nat.pow_add]
  exact Nat.mul_lt_mul'' x y
theorem Bt.pow3 (x : Bt a i) : Bt (a + a + a) (i ^ 3) := by
  have h := Bt.mul (Bt.mul x x) x
  rw [show i ^ 3 = i * i * i from by rw [show (3 : Nat) = 2 + 1 from rfl, Int.pow_succ, Int.pow_succ, Int.pow_succ, Int.pow_zero, Int.one_mul]]
  exact h
theorem Bt.mod (h : 0 < j) (y : Bt b j) : Bt b (i % j) := by
  have h1 := Int.emod_nonneg i (show j ≠ 0 by omega)
  have h2 := Int.emod_lt_of_pos i h
  exact y.of_le (by omega)
theorem Bt.div (h : 0 < j) (x : Bt a i) : Bt a (i / j) := by
  refine x.of_le ?_
  have e := Int.natAbs_ediv_le_natAbs i j
  exact e
theorem Bt.abs (x : Bt a i) : Bt a (if i < 0 then -i else i) := by
  split
  · exact x.neg
  · exact x
theorem Bt.log2 (x : Bt a i) (h : 0 < a) : i.natAbs.log2 < a := PySem.Flt.log2_lt_of h x
theorem Bt.log2' (x : Bt a i) : i.natAbs.log2 ≤ a := by
  by_cases h : 0 < a
  · exact Nat.le_of_lt (x.log2 h)
  · have e : a = 0 := by omega
    subst e
    have z : i.natAbs = 0 := by have := x; unfold Bt at this; omega
    rw [z]
    decide
theorem Bt.ltI (x : Bt a i) : i < 2 ^ a := by
  have h : (i.natAbs : Int) < ((2 ^ a : Nat) : Int) := Int.ofNat_lt.mpr x
  have e : ((2 ^ a : Nat) : Int) = (2 : Int) ^ a := by simp
  omega
theorem mulOk (x : Bt a i) (y : Bt b j) (h : decide (a + b < 1000000) = true) : CMulW i j := by
  have := x.log2'
  have := y.log2'
  have := of_decide_eq_true h
  unfold CMulW
  omega
theorem divOk (h : 0 < j) (y : Bt b j) (h9 : decide (b < 9000) = true) : CDivW i j := ⟨h, Nat.lt_of_le_of_lt y.log2' (of_decide_eq_true h9)⟩
theorem powOk (x : Bt a i) (h0 : decide (0 ≤ j ∧ j ≤ 64) = true) (h : decide (a < 1000000) = true) : CPowW i j :=
  ⟨(of_decide_eq_true h0).1, (of_decide_eq_true h0).2, Nat.lt_of_le_of_lt x.log2' (of_decide_eq_true h)⟩
theorem powLit (h : decide (0 ≤ j ∧ j ≤ 64 ∧ i.natAbs.log2 < 1000000) = true) : CPowW i j := by
  have z : 0 ≤ j ∧ j ≤ 64 ∧ i.natAbs.log2 < 1000000 := of_decide_eq_true h
  exact z
end
end G
namespace G
open PySem PySem.Spec L2
section
theorem w_two {a b : Int} {P : Int → Int → Prop} (q : P a b) : ∃ i j, [V.int a, V.int b] = [V.int i, V.int j] ∧ P i j := ⟨a, b, rfl, q⟩
theorem w_one {a : Int} {P : Int → Prop} (q : P a) : ∃ i, [V.int a] = [V.int i] ∧ P i := ⟨a, rfl, q⟩
end
end G
namespace G
open PySem PySem.Spec L2
/-- a written power -/
theorem w_powN {i j : Int} {n : Nat} {H : Hp} {Q : VK} (e : j = (n : Int)) (h : decide (0 ≤ j ∧ j ≤ 64 ∧ i.natAbs.log2 < 1000000) = true) (q : Q (.int (i ^ n)) H) :
    rI CPowW (fun i j => .int (i ^ j.toNat)) (.int i) (.int j) H Q := ⟨i, j, rfl, rfl, powLit h, by
  have z : j.toNat = n := by omega
  show Q (.int (i ^ j.toNat)) H
  rw [z]
  exact q⟩
theorem w_powV {i j : Int} {n a : Nat} {H : Hp} {Q : VK} (e : j = (n : Int)) (x : Bt a i) (h0 : decide (0 ≤ j ∧ j ≤ 64) = true) (h : decide (a < 1000000) = true) (q : Q (.int (i ^ n)) H) :
    rI CPowW (fun i j => .int (i ^ j.toNat)) (.int i) (.int j) H Q := ⟨i, j, rfl, rfl, powOk x h0 h, by
  have z : j.toNat = n := by omega
  show Q (.int (i ^ j.toNat)) H
  rw [z]
  exact q⟩
end G
namespace G
open PySem PySem.Spec PyProof.Rows L2
/-- a ** b, both written: the number c -/
theorem pe_powc {X : Cx} {a b c : Int} {p1 p2 pos : Pos} {k1 k2} (h : decide (0 ≤ b ∧ b ≤ 64 ∧ a.natAbs.log2 < 1000000) = true) (e : a ^ b.toNat = c) :
    PE X (.BinOp (.Constant (.int a) k1 p1) .Pow (.Constant (.int b) k2 p2) pos) (tC (.int c)) := by
  have t := pe_op (X := X) (pos := pos) op_powW (pe_int (i := a) (j := k1) (pos := p1)) (pe_int (i := b) (j := k2) (pos := p2))
  refine ⟨fun pins s σ H Q I q => t.run pins s σ H Q I ?_⟩
  refine ⟨a, b, rfl, rfl, powLit h, ?_⟩
  show Q (.int (a ^ b.toNat)) H
  rw [e]
  exact q
end G
namespace G
open PySem PySem.Spec PyProof.Rows L2
section
variable {X : Cx} {CX : CXT} {k : Nat} {f : Addr} {fd : FuncData} {ps ks : List Str} {sp : Sp} {E : XK} {x : Str} {p pos : Pos} {kws : List Keyword} {tk : TA} {g : List Value → List Value → List Value} {gV : List V → List V → List V}
/-- f(k = v, ..) -/
theorem pe_callN0 (F : FnOk X.prog X.w X.K X.mg X.base CX k f fd ps sp) (hr : Room k X.A) (hg : Gl X x) (hm : X.mg x = some (.ref f)) (hk : PySem.W.keepIn X.K (.ref f) = true) (hb : KBn X.K fd ps 0 ks g gV) (hx : Passes CX X E)
    (hkw : PK X kws tk) (hall : (backToKw pos (keywordEach kws X.env)).all (·.1.isSome) = true := by rfl) (hks : (backToKw pos (keywordEach kws X.env)).filterMap (·.1) = ks := by rfl) (hdb : (x == ("__debug__" : Str)) = false := by decide)
    (hpl : ((backTo pos (starEach [] X.env)).any (·.1) || (backToKw pos (keywordEach kws X.env)).any (·.1.isNone)) = false := by rfl) :
    PE X (.Call (.Name x p) [] kws pos) (tCallN 0 ks.length sp gV E tNil tk) := by
  refine ⟨fun pins s σ H Q I h => wpAny_Call_Name_kw (ld_glob I hg hm ?_ hdb)⟩
  refine PySem.W.callWith_KW0 (h₀ := X.base) I.ok.mod.kin hk hall ?_ hpl
  refine thn (hkw.run pos pins s σ H _ I h) fun ws s2 ⟨zs, H2, I2, rz, l1, l2, q2⟩ => ⟨I2.kIn, ?_⟩
  rw [hks]
  exact run_fnN (us := []) (vs := []) F hr hb hx I2 .nil rz rfl l2 q2
/-- every parameter by its name, in their order -/
theorem kbn_all {K : PySem.W.Frag} (h : ∀ ws : List Value, ws.length = ks.length → bindArgs fd ⟨[], ks.zip ws⟩ = pure (ps.zip ws)) : KBn K fd ps 0 ks (fun _ ws => ws) (fun _ zs => zs) :=
  ⟨fun s us ws _ l1 l2 => by
    have e : us = [] := List.length_eq_zero_iff.mp l1
    subst e
    exact .of_eq (h ws l2), fun _ r => r⟩
end
end G
namespace G
open PySem PySem.Spec L2
section
variable {H : Hp} {Q : VK} {K : PySem.W.Frag}
theorem w_isB {a b : Bool} (q : Q (.bl (decide (a = b))) H) : rIsB (.bl a) (.bl b) H Q := ⟨a, b, rfl, rfl, q⟩
theorem w_notB {a b : Bool} (q : Q (.bl (!decide (a = b))) H) : rNotB (.bl a) (.bl b) H Q := ⟨a, b, rfl, rfl, q⟩
/-- a text against itself -/
theorem w_neS {s : Str} (q : Q (.bl false) H) : rNe (.str s) (.str s) H Q := ⟨rfl, by
  show Q (.bl (!decide (V.str s = V.str s))) H
  rw [decide_eq_true (rfl : V.str s = V.str s)]
  exact q⟩
theorem w_eqS {s : Str} (q : Q (.bl true) H) : rEq (.str s) (.str s) H Q := ⟨rfl, by
  show Q (.bl (decide (V.str s = V.str s))) H
  rw [decide_eq_true (rfl : V.str s = V.str s)]
  exact q⟩
theorem w_repr {a : Addr} {d : PyData} (hd : Dp K H (.ref a) d) (hl : lim d) (q : Q (.str d.shown) H) (hc : decide (cnt d ≤ 8000) = true := by rfl) (hp : decide (d.depth ≤ 40) = true := by rfl) : rRepr K [.ref a] H Q := ⟨a, d, rfl, hd, hl, of_decide_eq_true hc, of_decide_eq_true hp, q⟩
theorem w_eqD {x y : V} {d e : PyData} {b : Bool} (hd : Dp K H x d) (he : Dp K H y e) (sd : SeqAt.shaped d = true) (se : SeqAt.shaped e = true) (h : PyData.eqv d e = b) (q : Q (.bl b) H) : rEqD K x y H Q := ⟨d, e, hd, he, sd, se, by rw [h]; exact q⟩
theorem w_neD {x y : V} {d e : PyData} {b : Bool} (hd : Dp K H x d) (he : Dp K H y e) (sd : SeqAt.shaped d = true) (se : SeqAt.shaped e = true) (h : PyData.eqv d e = b) (q : Q (.bl (!b)) H) : rNeD K x y H Q := ⟨d, e, hd, he, sd, se, by rw [h]; exact q⟩
theorem Bt.lim {n : Nat} {i : Int} (x : Bt n i) (h : n ≤ 1900) : lim (.int i) := by
  simp only [G.lim]
  exact Bt.mono x h
/-- a pair of ints -/
def prd (p : Int × Int) : PyData := .tuple [.int p.1, .int p.2]
theorem prd_lim {p : Int × Int} (h1 : Bt 1900 p.1) (h2 : Bt 1900 p.2) : G.lim (prd p) := by
  simp only [prd, G.lim, G.limAll]
  exact ⟨h1, h2, trivial⟩
theorem prd_dp {a : Addr} {i j : Int} (h : H a = some (.tup [.int i, .int j])) : Dp K H (.ref a) (prd (i, j)) := .tup (SqT.of h) (.cons (.int i) (.cons (.int j) .nil))
theorem prd_shaped (p : Int × Int) : SeqAt.shaped (prd p) = true := by rfl
end
end G
namespace G
open PySem PySem.Spec L2
section
variable {H : Hp} {Q : VK} {K : PySem.W.Frag}
/-- xs * k -/
theorem w_rep {l : Addr} {k : Int} {xs ys : List V} (h : H l = some (.lst xs)) (hk : decide (0 ≤ k ∧ k ≤ 1000) = true) (hz : decide (xs.length ≤ 1000) = true) (e : (List.replicate k.toNat xs).flatten = ys)
    (q : ∀ p H', H p = none → Same H H' → H' p = some (.lst ys) → Q (.ref p) H') : rRep (.ref l) (.int k) H Q := by
  have hk := of_decide_eq_true hk
  have hz := of_decide_eq_true hz
  refine ⟨l, k, xs, rfl, rfl, h, by omega, by omega, ?_, fun p hp => ?_⟩
  · rw [show sizeLine = 16777216 from sizeLine_eq]
    have h1 : xs.length * k.toNat ≤ 1000 * 1000 := Nat.mul_le_mul hz (by omega)
    omega
  · rw [e]
    exact q p _ hp (same_new hp) upd_same
/-- xs + ys -/
theorem w_cat {l b : Addr} {xs ys : List V} (h : H l = some (.lst xs)) (h' : H b = some (.lst ys)) (hz : xs.length + ys.length ≤ 1000000)
    (q : ∀ p H', H p = none → Same H H' → H' p = some (.lst (xs ++ ys)) → Q (.ref p) H') : rCat (.ref l) (.ref b) H Q :=
  ⟨l, b, xs, ys, rfl, rfl, h, h', by rw [show sizeLine = 16777216 from sizeLine_eq]; omega, fun p hp => q p _ hp (same_new hp) upd_same⟩
/-- {} -/
theorem w_dnew {σ : L2.St} (q : ∀ p H', H p = none → Same H H' → H' p = some (.dK []) → Q (.ref p) H') : tDNewK σ H Q := fun p hp => q p _ hp (same_new hp) upd_same
/-- str(n) -/
theorem w_strI {i : Int} {P : Int → Prop} (h : Bt 1900 i) (q : P i) : ∃ j : Int, [V.int i] = [V.int j] ∧ j.natAbs.log2 < 1920 ∧ P j :=
  ⟨i, rfl, Nat.lt_of_le_of_lt h.log2' (by decide), q⟩
theorem w_strI2 {i : Int} {P : Prop} (h : Bt 1900 i) (q : P) : i.natAbs.log2 < 1920 ∧ P := ⟨Nat.lt_of_le_of_lt h.log2' (by decide), q⟩
theorem Same.src {H H' : Hp} {b : Addr} {o : HO} (e : Same H H') (h : H b = some o) : H' b = some o := e b o h
end
end G
namespace G
open PySem PySem.Spec PyProof.Rows L2
section
variable {X : Cx}
/-- xs + ys, lists that are read only -/
def rCatL (K : PySem.W.Frag) : R2 := fun x y H Q => ∃ l b xs zs, x = .ref l ∧ y = .ref b ∧ SqL K H l xs ∧ SqL K H b zs ∧ xs.length + zs.length ≤ 1000000 ∧ ∀ p H', H p = none → Same H H' → H' p = some (.lst (xs ++ zs)) → Q (.ref p) H'
theorem op_catL : OpR X (binaryOp .Add) (rCatL X.K) := by
  intro pins s σ H x y v u Q I rx ry h
  obtain ⟨l, b, xs, zs, rfl, rfl, hH, hB, hz, q⟩ := h
  obtain rfl : v = Value.ref l := rx
  obtain rfl : u = Value.ref b := ry
  obtain ⟨its, r, ⟨⟨cls, dd, data, sl⟩, n, ho, hc, _, hd⟩, _⟩ := I.list hH
  obtain ⟨its2, r2, ⟨⟨cls2, dd2, data2, sl2⟩, n2, ho2, hc2, _, hd2⟩, _⟩ := I.list hB
  simp only at hc hd hc2 hd2
  subst hc hd hc2 hd2
  have e : its.toArray ++ its2.toArray = (its ++ its2).toArray := by simp
  have l1 := r.length
  have l2 := r2.length
  have z : xs.length + zs.length ≤ sizeLine := by rw [show sizeLine = 16777216 from sizeLine_eq]; omega
  refine concat_meets ⟨_, ho, rfl⟩ ⟨_, ho2, rfl⟩ noFill_list_add seq_list_add PySem.F.slot_list_add PySem.F.entry_list_add (PySem.F.args_list_add_2 _ _)
    (list_addW l b its.toArray its2.toArray n n2 dd dd2 sl sl2 (by rw [List.size_toArray, List.size_toArray]; omega)) ⟨ho, ho2, ?_⟩
  rw [e]
  exact ⟨.ref _, _, I.lnew (t' := s.toks) (r.append r2) (by rw [List.length_append]; omega), rfl, q _ _ I.fresh (same_new I.fresh) upd_same⟩
end
section
variable {σ : L2.St} {H : Hp} {Q : VK} {K : PySem.W.Frag} {a : Addr} {D : Ends} {tr : TA} {tb : TS}
theorem w_iEnum {R : It → Hp → Prop} (q : tr σ H fun vs H1 => ∃ a xs, vs = [.ref a] ∧ SqL K H1 a xs ∧ R (Ite K a) H1) : iEnum K tr σ H R := q
/-- for i, x in enumerate(xs) -/
theorem w_walkE {n i1 i2 : Nat} {xs : List V} (hl : SqL K H a xs) (hn : n = 2) (Pv : Nat → L2.St → Hp → Prop) (h0 : Pv 0 σ H) (hk : ∀ i σ' H', i ≤ xs.length → Pv i σ' H' → SqL K H' a xs)
    (hs : ∀ (i : Nat) x σ' H' H2, xs[i]? = some x → Pv i σ' H' → Same H' H2 → tb { nx := Pv (i + 1), rt := D.rt, ct := Pv (i + 1), bk := D.nx } ((σ'.set i1 (some (.int (i : Int)))).set i2 (some x)) H2) (hd : ∀ σ' H', Pv xs.length σ' H' → D.nx σ' H') :
    ∃ b ys, [V.ref a] = [.ref b] ∧ SqL K H b ys ∧ ForW (Ite K b) (gTup K n (gCons (gName i1) (gCons (gName i2) gNil))) tb D σ H := by
  subst hn
  refine ⟨a, xs, rfl, hl, for_it walk_enum Pv h0 hk ?_ hd⟩
  rintro i x σ' H' H2 hi hp ⟨T, y, z, rfl, hT, rfl, hy, hz⟩
  cases hy
  refine ⟨T, _, rfl, SqT.of upd_same, rfl, _, _, rfl, _, _, rfl, rfl, hs i z σ' H' _ hz hp (same_new hT)⟩
/-- slices -/
theorem w_sl {r : V → Option Int → Option Int → Hp → VK → Prop} {te : TE} {tl th : TO} (q : te σ H fun x H1 => tl σ H1 fun l H2 => th σ H2 fun u H3 => r x l u H3 Q) : tSl r te tl th σ H Q := q
theorem w_slL {p : Addr} {xs : List V} {l u : Option Int} (h : SqL K H p xs) (k : ∀ q H', H q = none → Same H H' → H' q = some (.lst (cutV xs l u)) → Q (.ref q) H') : rSlL K (.ref p) l u H Q :=
  ⟨p, xs, rfl, h, fun q hq => k q _ hq (same_new hq) upd_same⟩
/-- len of a list -/
theorem w_lenL {p : Addr} {xs : List V} {R : Nat → Prop} (h : SqL K H p xs) (q : R xs.length) : ∃ x n, [V.ref p] = [x] ∧ LenV K x H n ∧ R n := ⟨.ref p, xs.length, rfl, .inl ⟨xs, h, rfl⟩, q⟩
theorem w_noPart {R : Option Int → Hp → Prop} (q : R none H) : tNoPart σ H R := q
theorem w_part {te : TE} {R : Option Int → Hp → Prop} (q : te σ H fun x H1 => ∃ i, x = .int i ∧ R (some i) H1) : tPart te σ H R := q
theorem w_int {i : Int} {P : Int → Prop} (q : P i) : ∃ j, V.int i = .int j ∧ P j := ⟨i, rfl, q⟩
theorem dp_ints {ns : List Int} (h : SqL K H a (ns.map V.int)) : Dp K H (.ref a) (.list (ns.map PyData.int)) := by
  refine .lst h ?_
  clear h
  induction ns with
  | nil => exact .nil
  | cons n r ih => exact .cons (.int n) ih
theorem shaped_ints (ns : List Int) : SeqAt.shaped (.list (ns.map PyData.int)) = true := by
  have h1 : PyData.canLayAll0 (ns.map PyData.int) = true := by
    induction ns with
    | nil => simp only [List.map_nil, PyData.canLayAll0]
    | cons n r ih => simp only [List.map_cons, PyData.canLayAll0, PyData.canLay0, ih, Bool.and_self]
  have h2 : PyData.depthAll (ns.map PyData.int) = 0 := by
    clear h1
    induction ns with
    | nil => simp only [List.map_nil, PyData.depthAll]
    | cons n r ih => simp only [List.map_cons, PyData.depthAll, PyData.depth, ih, Nat.max_self]
  unfold SeqAt.shaped
  simp only [PyData.canLay0, PyData.depth, h1, h2]
  rfl
theorem cut_mem {xs : List V} {lo hi : Option Int} {x : V} (h : x ∈ cutV xs lo hi) : x ∈ xs := List.mem_of_mem_drop (List.mem_of_mem_take h)
theorem cut_len {xs : List V} {lo hi : Option Int} : (cutV xs lo hi).length ≤ xs.length := by
  unfold cutV
  rw [List.length_take, List.length_drop]
  omega
end
end G

/-! The laws' draws; ratios; what is promised of the small defs. -/
namespace G
open PySem PySem.Spec L2
/-- the numbers that are drawn from stand at a; so many at most were drawn -/
def Src (b : Nat) (H : Hp) (a : Addr) : Prop := ∃ x y z : Int, H a = some (.lst [.int x, .int y, .int z]) ∧ 0 ≤ x ∧ 0 ≤ y ∧ Bt 200 y ∧ 0 ≤ z ∧ z ≤ b
theorem Src.mono {b c : Nat} {H : Hp} {a : Addr} (h : Src b H a) (l : b ≤ c) : Src c H a := let ⟨x, y, z, h1, h2, h3, h4, h5, h6⟩ := h; ⟨x, y, z, h1, h2, h3, h4, h5, by omega⟩
theorem Src.new {b : Nat} {H : Hp} {a p : Addr} {o : HO} (h : Src b H a) (n : H p = none) : Src b (upd H p o) a :=
  let ⟨x, y, z, h1, h2⟩ := h; ⟨x, y, z, by rw [upd_ne (ne_of_none h1 n)]; exact h1, h2⟩
theorem Src.same {b : Nat} {H H' : Hp} {a : Addr} (h : Src b H a) (e : Same H H') : Src b H' a :=
  let ⟨x, y, z, h1, h2⟩ := h; ⟨x, y, z, e _ _ h1, h2⟩
theorem Src.ne {b : Nat} {H : Hp} {a p : Addr} (h : Src b H a) (n : H p = none) : p ≠ a := let ⟨_, _, _, h1, _⟩ := h; (ne_of_none h1 n).symm
theorem upd_twice {H : Hp} {a : Addr} {o u : HO} : upd (upd H a o) a u = upd H a u := by
  funext b
  unfold upd
  by_cases h : b = a
  · rw [if_pos h, if_pos h]
  · rw [if_neg h, if_neg h, if_neg h]
/-- the attributes of a ratio -/
def rf (i j : Int) : List (Str × V) := putF "_bottom" (.int j) (putF "_top" (.int i) [])
theorem rf_top (i j : Int) : (rf i j).lookup ("_top" : Str) = some (.int i) := by
  unfold rf
  rw [lookup_putF, if_neg (by decide +kernel), lookup_putF, if_pos rfl]
theorem rf_bottom (i j : Int) : (rf i j).lookup ("_bottom" : Str) = some (.int j) := by
  unfold rf
  rw [lookup_putF, if_pos rfl]
/-- a ratio stands at p -/
def Rat (C : Addr) (H : Hp) (p : Addr) (i j : Int) : Prop := ∃ dx, H p = some (.ins C dx (rf i j))
/-! ### the promises -/
/-- is_whole of an int -/
def spWhole : Sp := fun vs H Q _ => ∃ i, vs = [.int i] ∧ Q (.bl true) H
def spInit (C : Addr) : Sp := fun vs H Q _ => ∃ (p dx : Addr) (i j : Int), vs = [.ref p, .int i, .int j] ∧ 0 < j ∧ Bt 8000 j ∧ H p = some (.ins C dx []) ∧
  Q .non (upd H p (.ins C dx (rf (i / (Int.gcd i j : Int)) (j / (Int.gcd i j : Int)))))
def spIsR (K : PySem.W.Frag) (C : Addr) : Sp := fun vs H Q _ => ∃ x t b, vs = [x] ∧ TyX K H x t ∧ PySem.W.kitOne K t (.ref C) = some b ∧ Q (.bl b) H
def spSource : Sp := fun vs H Q _ => ∃ c k : Int, vs = [.int c, .int k] ∧ 0 ≤ k ∧ Bt 60 k ∧ ∀ p H', H p = none → Same H H' → Src 0 H' p → Q (.ref p) H'
def spDraw : Sp := fun vs H Q _ => ∃ a n b, vs = [.ref a, .int n] ∧ Src b H a ∧ b < 2 ^ 60 ∧ 0 < n ∧ Bt 2000 n ∧
  ∀ d H', 0 ≤ d → d < n → Src (b + 1) H' a → Fr a H H' → Q (.int d) H'
def spSize : Sp := fun vs H Q _ => ∃ a b, vs = [.ref a] ∧ Src b H a ∧ b < 2 ^ 60 ∧ ∀ n H', 3 ≤ n → n ≤ 10 ^ 31 → Src (b + 1) H' a → Fr a H H' → Q (.int n) H'
def spPair : Sp := fun vs H Q _ => ∃ a b, vs = [.ref a] ∧ Src b H a ∧ b + 10 < 2 ^ 60 ∧
  ∀ i j p H', i.natAbs < 10 ^ 31 → 0 < j → j < 10 ^ 31 → H' p = some (.tup [.int i, .int j]) → p ≠ a → Src (b + 10) H' a → Fr a H H' → Q (.ref p) H'
def spLowest (K : PySem.W.Frag) : Sp := fun vs H Q _ => ∃ p i j, vs = [.ref p] ∧ SqT K H p [.int i, .int j] ∧ 0 < j ∧ Bt 8000 i ∧ Bt 8000 j ∧
  ∀ q H', H q = none → Same H H' → H' q = some (.tup [.int (i / (Int.gcd i j : Int)), .int (j / (Int.gcd i j : Int))]) → Q (.ref q) H'
def spSeen (C : Addr) : Sp := fun vs H Q _ => ∃ p i j, vs = [.ref p] ∧ Rat C H p i j ∧ ∀ q H', H q = none → Same H H' → H' q = some (.tup [.int i, .int j]) → Q (.ref q) H'
/-- one of the five sizes -/
theorem size_at {d : Int} (h0 : 0 ≤ d) (h1 : d < 5) : ∃ n : Int, 3 ≤ n ∧ n ≤ 10 ^ 31 ∧ atI [V.int 3, V.int 12, V.int 1000000, V.int 1000000000000000, V.int 10000000000000000000000000000000] d = some (.int n) := by
  have c : d = 0 ∨ d = 1 ∨ d = 2 ∨ d = 3 ∨ d = 4 := by omega
  rcases c with rfl | rfl | rfl | rfl | rfl
  · exact ⟨3, by decide, by decide, rfl⟩
  · exact ⟨12, by decide, by decide, rfl⟩
  · exact ⟨1000000, by decide, by decide, rfl⟩
  · exact ⟨1000000000000000, by decide, by decide, rfl⟩
  · exact ⟨10000000000000000000000000000000, by decide, by decide, rfl⟩
theorem sign_at {d : Int} (h0 : 0 ≤ d) (h1 : d < 3) : ∃ n : Int, (n = 1 ∨ n = -1) ∧ atI [V.int 1, V.int 1, V.int (-1)] d = some (.int n) := by
  have c : d = 0 ∨ d = 1 ∨ d = 2 := by omega
  rcases c with rfl | rfl | rfl
  · exact ⟨1, .inl rfl, rfl⟩
  · exact ⟨1, .inl rfl, rfl⟩
  · exact ⟨-1, .inr rfl, rfl⟩
theorem bt_31 {n : Int} (h0 : 0 ≤ n) (h : n ≤ 10 ^ 31) : Bt 104 n := by
  unfold Bt
  omega
theorem ratio_of {C : Addr} {H : Hp} {i j : Int} {Q : Addr → Hp → Prop} {E : XK} (hj : 0 < j) (bj : Bt 8000 j) (q : ∀ x H2, H x = none → Same H H2 → Rat C H2 x (i / (Int.gcd i j : Int)) (j / (Int.gcd i j : Int)) → Q x H2) :
    ∀ x dx, H x = none → H dx = none → dx ≠ x → spInit C [.ref x, .int i, .int j] (upd (upd H dx (.own x)) x (.ins C dx [])) (fun v H2 => v = .non ∧ Q x H2) E := by
  intro x dx hx hd hne
  refine ⟨x, dx, i, j, rfl, hj, bj, upd_same, rfl, ?_⟩
  refine q x _ hx (fun c o h => ?_) ⟨dx, upd_same⟩
  rw [upd_ne (ne_of_none h hx), upd_ne (ne_of_none h hx), upd_ne (ne_of_none h hd)]
  exact h
/-- lowest terms: what is in them already -/
theorem low_pos {i j : Int} (h : 0 < j) : 0 < j / (Int.gcd i j : Int) := by
  have g := Int.gcd_pos_of_ne_zero_right i (show j ≠ 0 by omega)
  have d : (Int.gcd i j : Int) ∣ j := Int.gcd_dvd_right i j
  exact Int.ediv_pos_of_pos_of_dvd h (by omega) d
theorem low_gcd {i j : Int} (h : 0 < j) : Int.gcd (i / (Int.gcd i j : Int)) (j / (Int.gcd i j : Int)) = 1 :=
  Int.gcd_ediv_gcd_ediv_gcd (Int.gcd_pos_of_ne_zero_right i (show j ≠ 0 by omega))
theorem low_bt {n : Nat} {i j : Int} (h : 0 < j) (x : Bt n i) : Bt n (i / (Int.gcd i j : Int)) := by
  have g := Int.gcd_pos_of_ne_zero_right i (show j ≠ 0 by omega)
  exact Bt.div (by omega) x
theorem low_bt_b {n : Nat} {i j : Int} (h : 0 < j) (x : Bt n j) : Bt n (j / (Int.gcd i j : Int)) := by
  have g := Int.gcd_pos_of_ne_zero_right i (show j ≠ 0 by omega)
  exact Bt.div (by omega) x
theorem low_again {i j : Int} (h : Int.gcd i j = 1) : i / (Int.gcd i j : Int) = i ∧ j / (Int.gcd i j : Int) = j := by
  rw [h]
  exact ⟨Int.ediv_one i, Int.ediv_one j⟩
theorem Rat.same {C : Addr} {H H' : Hp} {p : Addr} {i j : Int} (h : Rat C H p i j) (e : Same H H') : Rat C H' p i j := let ⟨dx, h⟩ := h; ⟨dx, e _ _ h⟩
/-- no ratio, now and in all heaps that grow out of this one -/
def NotR (K : PySem.W.Frag) (C : Addr) (H : Hp) (x : V) : Prop := ∃ t, (∀ H', Same H H' → TyX K H' x t) ∧ PySem.W.kitOne K t (.ref C) = some false

/-! ### what stands where, from heap to heap -/
theorem tup_same {H H' : Hp} {p : Addr} {xs : List V} (h : H p = some (.tup xs)) (e : Same H H') : H' p = some (.tup xs) := e _ _ h
theorem tup_fr {b : Nat} {H H' : Hp} {a p : Addr} {xs : List V} (h : H p = some (.tup xs)) (s : Src b H a) (f : Fr a H H') : H' p = some (.tup xs) :=
  let ⟨_, _, _, k, _⟩ := s; f _ _ (ne_of h k (by intro z; cases z)) h
theorem lst_same {H H' : Hp} {p : Addr} {xs : List V} (h : H p = some (.lst xs)) (e : Same H H') : H' p = some (.lst xs) := e _ _ h
theorem lst_fr {H H' : Hp} {a p : Addr} {xs : List V} (h : H p = some (.lst xs)) (n : p ≠ a) (f : Fr a H H') : H' p = some (.lst xs) := f _ _ n h
theorem Rat.fr {b : Nat} {C : Addr} {H H' : Hp} {a p : Addr} {i j : Int} (h : Rat C H p i j) (s : Src b H a) (f : Fr a H H') : Rat C H' p i j :=
  let ⟨dx, h⟩ := h; let ⟨_, _, _, k, _⟩ := s; ⟨dx, f _ _ (ne_of h k (by intro z; cases z)) h⟩
/-! ### pairs in lowest terms -/
def low (i j : Int) : Int × Int := (i / (Int.gcd i j : Int), j / (Int.gcd i j : Int))
/-- in lowest terms, so many bits at most -/
def Lp (n : Nat) (x : Int × Int) : Prop := 0 < x.2 ∧ Int.gcd x.1 x.2 = 1 ∧ Bt n x.1 ∧ Bt n x.2
theorem Lp.low {n : Nat} {i j : Int} (h : 0 < j) (a : Bt n i) (b : Bt n j) : Lp n (G.low i j) := ⟨low_pos h, low_gcd h, low_bt h a, low_bt_b h b⟩
theorem Lp.mono {n m : Nat} {x : Int × Int} (h : Lp n x) (l : n ≤ m) : Lp m x := ⟨h.1, h.2.1, h.2.2.1.mono l, h.2.2.2.mono l⟩
theorem Lp.again {n : Nat} {x : Int × Int} (h : Lp n x) : G.low x.1 x.2 = x := by
  obtain ⟨h1, h2⟩ := low_again h.2.1
  unfold G.low
  rw [h1, h2]
end G
namespace G
open PySem PySem.Spec L2
/-! ### sums, differences, products of pairs: 0, 1, 2 -/
def jn (w : Int) (x y : Int × Int) : Int × Int := if w = 2 then low (x.1 * y.1) (x.2 * y.2) else low (x.1 * y.2 + (1 - 2 * w) * y.1 * x.2) (x.2 * y.2)
theorem jn_add (x y : Int × Int) : jn 0 x y = low (x.1 * y.2 + y.1 * x.2) (x.2 * y.2) := by
  unfold jn
  rw [if_neg (by decide), show (1 - 2 * 0 : Int) = 1 by decide, Int.one_mul]
theorem jn_sub (x y : Int × Int) : jn 1 x y = low (x.1 * y.2 - y.1 * x.2) (x.2 * y.2) := by
  unfold jn
  rw [if_neg (by decide), show (1 - 2 * 1 : Int) = -1 by decide, Int.neg_mul, Int.one_mul, Int.neg_mul, ← Int.sub_eq_add_neg]
theorem jn_mul (x y : Int × Int) : jn 2 x y = low (x.1 * y.1) (x.2 * y.2) := by
  unfold jn
  rw [if_pos rfl]
theorem jn_lp {a b : Nat} {w : Int} {x y : Int × Int} (h : w = 0 ∨ w = 1 ∨ w = 2) (hx : Lp a x) (hy : Lp b y) : Lp (a + b + 1) (jn w x y) := by
  obtain ⟨x1, x2, x3, x4⟩ := hx
  obtain ⟨y1, y2, y3, y4⟩ := hy
  have p := Int.mul_pos x1 y1
  have c : max (a + b) (b + a) + 1 ≤ a + b + 1 := by omega
  rcases h with rfl | rfl | rfl
  · rw [jn_add]
    exact Lp.low p ((Bt.add (Bt.mul x3 y4) (Bt.mul y3 x4)).mono c) ((Bt.mul x4 y4).mono (by omega))
  · rw [jn_sub]
    exact Lp.low p ((Bt.sub (Bt.mul x3 y4) (Bt.mul y3 x4)).mono c) ((Bt.mul x4 y4).mono (by omega))
  · rw [jn_mul]
    exact Lp.low p ((Bt.mul x3 y3).mono (by omega)) ((Bt.mul x4 y4).mono (by omega))
/-- an operator of two ratios -/
def spBin (C : Addr) (w : Int) : Sp := fun vs H Q _ => ∃ p q x y n, vs = [.ref p, .ref q] ∧ Rat C H p x.1 x.2 ∧ Rat C H q y.1 y.2 ∧ Lp n x ∧ Lp n y ∧ n ≤ 3500 ∧
  ∀ r H', H r = none → Same H H' → Rat C H' r (jn w x y).1 (jn w x y).2 → Q (.ref r) H'
def spNeg (C : Addr) : Sp := fun vs H Q _ => ∃ p x n, vs = [.ref p] ∧ Rat C H p x.1 x.2 ∧ Lp n x ∧ n ≤ 3500 ∧
  ∀ r H', H r = none → Same H H' → Rat C H' r (-x.1) x.2 → Q (.ref r) H'
/-- == of a ratio with a ratio, with any other value -/
def spEq (K : PySem.W.Frag) (C : Addr) : Sp := fun vs H Q _ =>
  (∃ (p q : Addr) (x y : Int × Int), vs = [.ref p, .ref q] ∧ Rat C H p x.1 x.2 ∧ Rat C H q y.1 y.2 ∧ Q (.bl (decide (x = y))) H) ∨
  (∃ (p : Addr) (x : Int × Int) (v : V) (t : Value), vs = [.ref p, v] ∧ Rat C H p x.1 x.2 ∧ TyX K H v t ∧ PySem.W.kitOne K t (.ref C) = some false ∧ Q (.bl false) H)
end G
namespace G
open PySem PySem.Spec L2
theorem ratio_lp {C : Addr} {H : Hp} {n : Nat} {x : Int × Int} {Q : Addr → Hp → Prop} {E : XK} (hx : Lp n x) (hn : decide (n ≤ 8000) = true) (q : ∀ r H2, H r = none → Same H H2 → Rat C H2 r x.1 x.2 → Q r H2) :
    ∀ r dx, H r = none → H dx = none → dx ≠ r → spInit C [.ref r, .int x.1, .int x.2] (upd (upd H dx (.own r)) r (.ins C dx [])) (fun v H2 => v = .non ∧ Q r H2) E :=
  ratio_of hx.1 (hx.2.2.2.mono (of_decide_eq_true hn)) fun r H2 n e R => q r H2 n e (by
    have z := hx.again
    unfold G.low at z
    have z1 : x.1 / (Int.gcd x.1 x.2 : Int) = x.1 := congrArg Prod.fst z
    have z2 : x.2 / (Int.gcd x.1 x.2 : Int) = x.2 := congrArg Prod.snd z
    rw [z1, z2] at R
    exact R)
theorem bt_of_31 {i : Int} {n : Nat} (h : i.natAbs < 10 ^ 31) (hn : decide (104 ≤ n) = true) : Bt n i := by
  refine Bt.mono (a := 104) ?_ (of_decide_eq_true hn)
  unfold Bt
  omega
theorem bt_of_p31 {i : Int} {n : Nat} (h0 : 0 < i) (h : i < 10 ^ 31) (hn : decide (104 ≤ n) = true) : Bt n i := bt_of_31 (by omega) hn
/-- a pair that was drawn, in lowest terms -/
theorem lp_drawn {i j : Int} (hi : i.natAbs < 10 ^ 31) (h0 : 0 < j) (hj : j < 10 ^ 31) : Lp 104 (low i j) := Lp.low h0 (bt_of_31 hi rfl) (bt_of_p31 h0 hj rfl)
/-- tuples of pairs stand at the places of a list -/
inductive Tups (H : Hp) : List V → List (Int × Int) → Prop
  | nil : Tups H [] []
  | cons {s : Addr} {x : Int × Int} {vs : List V} {xs : List (Int × Int)} : H s = some (.tup [.int x.1, .int x.2]) → Tups H vs xs → Tups H (.ref s :: vs) (x :: xs)
theorem Tups.same {H H' : Hp} {vs : List V} {xs : List (Int × Int)} (h : Tups H vs xs) (e : Same H H') : Tups H' vs xs := by
  induction h with
  | nil => exact .nil
  | cons a _ ih => exact .cons (e _ _ a) ih
theorem Tups.fr {H H' : Hp} {L : Addr} {ys : List V} {vs : List V} {xs : List (Int × Int)} (h : Tups H vs xs) (hL : H L = some (.lst ys)) (e : Fr L H H') : Tups H' vs xs := by
  induction h with
  | nil => exact .nil
  | cons a _ ih => exact .cons (e _ _ (ne_of a hL (by intro z; cases z)) a) ih
theorem Tups.snoc {H : Hp} {s : Addr} {x : Int × Int} {vs : List V} {xs : List (Int × Int)} (h : Tups H vs xs) (a : H s = some (.tup [.int x.1, .int x.2])) : Tups H (vs ++ [.ref s]) (xs ++ [x]) := by
  induction h with
  | nil => exact .cons a .nil
  | cons b _ ih => exact .cons b ih
theorem Tups.dp {K : PySem.W.Frag} {H : Hp} {vs : List V} {xs : List (Int × Int)} (h : Tups H vs xs) : DpAll K H vs (xs.map prd) := by
  induction h with
  | nil => exact .nil
  | cons a _ ih => exact .cons (prd_dp a) ih
theorem prds_lim {xs : List (Int × Int)} (h : ∀ x ∈ xs, Bt 1900 x.1 ∧ Bt 1900 x.2) : lim (.list (xs.map prd)) := by
  simp only [lim]
  induction xs with
  | nil => simp only [List.map_nil, limAll]
  | cons x r ih =>
    have a := h x List.mem_cons_self
    exact ⟨prd_lim a.1 a.2, ih fun y hy => h y (List.mem_cons_of_mem _ hy)⟩
theorem Lp.lim {n : Nat} {x : Int × Int} (h : Lp n x) (hn : decide (n ≤ 1900) = true) : G.lim (prd x) := prd_lim (h.2.2.1.mono (of_decide_eq_true hn)) (h.2.2.2.mono (of_decide_eq_true hn))
theorem lim_two {x y : PyData} (a : lim x) (b : lim y) : lim (.list [x, y]) := ⟨a, b, trivial⟩
theorem take_snoc {α : Type} {l : List α} {i : Nat} {x : α} (h : l[i]? = some x) : l.take (i + 1) = l.take i ++ [x] := by
  rw [List.take_add_one, h]
  rfl
end G
namespace G
open PySem PySem.Spec L2
/-- ratios stand at the places of a list -/
inductive Rats (C : Addr) (H : Hp) : List V → List (Int × Int) → Prop
  | nil : Rats C H [] []
  | cons {s : Addr} {x : Int × Int} {vs : List V} {xs : List (Int × Int)} : Rat C H s x.1 x.2 → Rats C H vs xs → Rats C H (.ref s :: vs) (x :: xs)
theorem Rats.same {C : Addr} {H H' : Hp} {vs : List V} {xs : List (Int × Int)} (h : Rats C H vs xs) (e : Same H H') : Rats C H' vs xs := by
  induction h with
  | nil => exact .nil
  | cons a _ ih => exact .cons (a.same e) ih
theorem Rats.fr {C : Addr} {H H' : Hp} {L : Addr} {ys vs : List V} {xs : List (Int × Int)} (h : Rats C H vs xs) (hL : H L = some (.lst ys)) (e : Fr L H H') : Rats C H' vs xs := by
  induction h with
  | nil => exact .nil
  | cons a _ ih =>
    obtain ⟨dx, a⟩ := a
    exact .cons ⟨dx, e _ _ (ne_of a hL (by intro z; cases z)) a⟩ ih
theorem Rats.snoc {C : Addr} {H : Hp} {s : Addr} {x : Int × Int} {vs : List V} {xs : List (Int × Int)} (h : Rats C H vs xs) (a : Rat C H s x.1 x.2) : Rats C H (vs ++ [.ref s]) (xs ++ [x]) := by
  induction h with
  | nil => exact .cons a .nil
  | cons b _ ih => exact .cons b ih
theorem Rats.get {C : Addr} {H : Hp} {vs : List V} {xs : List (Int × Int)} (h : Rats C H vs xs) : ∀ {k : Nat} {v : V}, vs[k]? = some v → ∃ r x, v = .ref r ∧ xs[k]? = some x ∧ Rat C H r x.1 x.2 := by
  induction h with
  | nil => intro k v e; simp at e
  | @cons s x vs xs a _ ih =>
    intro k v e
    cases k with
    | zero =>
      simp at e
      exact ⟨s, x, e.symm, rfl, a⟩
    | succ k =>
      simp at e
      obtain ⟨r, y, h1, h2, h3⟩ := ih e
      exact ⟨r, y, h1, by simpa using h2, h3⟩
theorem Rats.len {C : Addr} {H : Hp} {vs : List V} {xs : List (Int × Int)} (h : Rats C H vs xs) : vs.length = xs.length := by
  induction h with
  | nil => rfl
  | cons _ _ ih => simp [ih]
theorem w_yes {σ : L2.St} {H : Hp} {R : Bool → Hp → Prop} (q : R true H) : tYes σ H R := q
/-- [_law_seen(thing) for thing in told] -/
theorem seen_all {K : PySem.W.Frag} {C : Addr} {σ : L2.St} {H : Hp} {Q : VK} {E : XK} {t : Addr} {i j : Nat} {rs : List V} {xs : List (Int × Int)} (hv : σ[i]? = some (some (.ref t))) (hj : j < σ.length) (ht : H t = some (.lst rs)) (hr : Rats C H rs xs)
    (hlen : rs.length ≤ 1000) (q : ∀ L acc H', H L = none → Same H H' → H' L = some (.lst acc) → Tups H' acc xs → Q (.ref L) H') :
    tLc (iList K (tVar i)) (gName j) tYes (tCall (spSeen C) [] E (tCons (tVar j) tNil)) [j] σ H Q := by
  refine w_lcL (fun R h => w_var hv h) (SqL.of ht) (fun L k acc H' => Same H H' ∧ Tups H' acc (xs.take k) ∧ acc.length = k) (fun L H' _ e _ => ⟨e, by rw [List.take_zero]; exact .nil, rfl⟩) (fun L k acc H' _ p => p.1.seq (SqL.of ht)) ?_ ?_
  · rintro L k x acc H' nL hx hL ⟨e, ts, hk⟩
    obtain ⟨r, y, rfl, hy, R⟩ := hr.get hx
    refine ⟨?_, ?_⟩
    · show ((σ.set j none).set j (some (.ref r))).set j none = σ.set j none
      rw [List.set_set, List.set_set]
    · refine w_yes ?_
      refine w_iteT rfl ?_
      refine w_call (w_cons (w_var (v := .ref r) ?_ (w_nil ?_)))
      · show ((σ.set j none).set j (some (.ref r)))[j]? = _
        rw [List.getElem?_set_self (by rw [List.length_set]; exact hj)]
      · refine ⟨r, y.1, y.2, rfl, R.same e, fun s H2 ns e2 h2 => ?_⟩
        have kl : k < rs.length := (List.getElem?_eq_some_iff.mp hx).1
        refine fills_more (e2 _ _ hL) (by omega) fun H5 f5 h5 => ⟨Fr.unseen nL (e.trans e2) f5, ?_, by rw [List.length_append, hk]; rfl⟩
        rw [take_snoc hy]
        exact ((ts.same e2).fr (e2 _ _ hL) f5).snoc (f5 _ _ (ne_of h2 (e2 _ _ hL) (by intro z; cases z)) h2)
  · rintro L acc H' nL hL ⟨e, ts, _⟩
    rw [hr.len, List.take_length] at ts
    exact q L acc H' nL e hL ts
end G
namespace G
open PySem PySem.Spec L2
section
variable {σ : L2.St} {H : Hp} {D : Ends} {tr : TA} {tb : TS}
theorem w_iRng1 {R : It → Hp → Prop} (q : tr σ H fun vs H1 => ∃ j : Int, vs = [.int j] ∧ -(2 ^ 62) ≤ j ∧ j < 2 ^ 62 ∧ R (Itr 0 j.toNat) H1) : iRng1 tr σ H R := q
/-- for .. in range(n), the number known -/
theorem w_walkR {j : Nat} {n : Int} (hn : 0 ≤ n ∧ n ≤ 1000000) (Pv : Nat → L2.St → Hp → Prop) (h0 : Pv 0 σ H)
    (hs : ∀ (i : Nat) σ' H', (i : Int) < n → Pv i σ' H' → tb { nx := Pv (i + 1), rt := D.rt, ct := Pv (i + 1), bk := D.nx } (σ'.set j (some (.int (i : Int)))) H') (hd : ∀ σ' H', Pv n.toNat σ' H' → D.nx σ' H') :
    -(2 ^ 62) ≤ n ∧ n < 2 ^ 62 ∧ ForW (Itr 0 n.toNat) (gName j) tb D σ H := by
  refine ⟨by omega, by omega, for_range (lo := 0) (n := n.toNat) Pv h0 (fun i σ' H' hi p => ?_) hd⟩
  have e0 : (0 : Int) + (i : Int) = (i : Int) := Int.zero_add _
  show tb { nx := Pv (i + 1), rt := D.rt, ct := Pv (i + 1), bk := D.nx } (σ'.set j (some (.int ((0 : Int) + (i : Int))))) H'
  rw [e0]
  exact hs i σ' H' (by omega) p
end
end G
namespace G
open PySem PySem.Spec L2
/-- an instance of the class at C has that class as its type -/
def InsTy (K : PySem.W.Frag) (C : Addr) : Prop := ∀ (H : Hp) (p dx : Addr) (fs : List (Str × V)), H p = some (.ins C dx fs) → TyX K H (.ref p) (.ref C)
section
variable {K : PySem.W.Frag} {C : Addr} {H : Hp} {Q : VK} {E : XK} {p q : Addr} {x y : Int × Int} {n : Nat}
theorem w_negR (R : Rat C H p x.1 x.2) (hx : Lp n x) (hn : decide (n ≤ 3500) = true) (k : ∀ r H', H r = none → Same H H' → Rat C H' r (-x.1) x.2 → Q (.ref r) H') : rNeg C (spNeg C) E (.ref p) H Q :=
  let ⟨dx, h⟩ := R; ⟨p, dx, _, rfl, h, p, x, n, rfl, ⟨dx, h⟩, hx, of_decide_eq_true hn, k⟩
theorem w_binR {w : Int} (R : Rat C H p x.1 x.2) (S : Rat C H q y.1 y.2) (hx : Lp n x) (hy : Lp n y) (hn : decide (n ≤ 3500) = true) (k : ∀ r H', H r = none → Same H H' → Rat C H' r (jn w x y).1 (jn w x y).2 → Q (.ref r) H') :
    rOwn C (spBin C w) E (.ref p) (.ref q) H Q :=
  let ⟨dx, h⟩ := R; let ⟨dy, h'⟩ := S; ⟨p, dx, _, q, dy, _, rfl, rfl, h, h', p, q, x, y, n, rfl, ⟨dx, h⟩, ⟨dy, h'⟩, hx, hy, of_decide_eq_true hn, k⟩
theorem notFirst_self : PySem.W.notFirst K C (.ref C) = true := by
  unfold PySem.W.notFirst
  simp
theorem w_eqR (I : InsTy K C) (R : Rat C H p x.1 x.2) (S : Rat C H q y.1 y.2) (k : Q (.bl (decide (x = y))) H) : rEqO K C (spEq K C) E (.ref p) (.ref q) H Q :=
  let ⟨dx, h⟩ := R; let ⟨dy, h'⟩ := S; ⟨p, dx, _, .ref C, rfl, h, I _ _ _ _ h', notFirst_self, .inl ⟨p, q, x, y, rfl, ⟨dx, h⟩, ⟨dy, h'⟩, k⟩⟩
theorem w_isR (I : InsTy K C) (ki : PySem.W.kitOne K (.ref C) (.ref C) = some true) {i j : Int} (R : Rat C H p i j) (k : Q (.bl true) H) : spIsR K C [.ref p] H Q E :=
  let ⟨_, h⟩ := R; ⟨_, _, true, rfl, I _ _ _ _ h, ki, k⟩
end
theorem Lp.neg {n : Nat} {x : Int × Int} (h : Lp n x) : Lp n (-x.1, x.2) := ⟨h.1, by show Int.gcd (-x.1) x.2 = 1; rw [Int.neg_gcd]; exact h.2.1, h.2.2.1.neg, h.2.2.2⟩
theorem jn_neg (x y : Int × Int) : jn 1 x y = jn 0 x (-y.1, y.2) := by
  rw [jn_sub, jn_add]
  show low (x.1 * y.2 - y.1 * x.2) (x.2 * y.2) = low (x.1 * y.2 + -y.1 * x.2) (x.2 * y.2)
  rw [Int.neg_mul, Int.sub_eq_add_neg]
theorem low_zero {b : Int} (h : 0 < b) : low 0 b = (0, 1) := by
  unfold low
  have e : (Int.gcd 0 b : Int) = b := by
    rw [Int.gcd_zero_left]
    omega
  rw [e, Int.zero_ediv, Int.ediv_self (by omega)]
theorem jn_self {n : Nat} {x : Int × Int} (h : Lp n x) : jn 1 x x = (0, 1) := by
  rw [jn_sub, Int.sub_self]
  exact low_zero (Int.mul_pos h.1 h.1)
end G

/-! Pairs as numbers. -/
namespace G
open PySem
/-- the number that a pair stands for -/
def val (x : Int × Int) : _root_.Rat := (x.1 : _root_.Rat) / (x.2 : _root_.Rat)
theorem cast_ne {j : Int} (h : j ≠ 0) : (j : _root_.Rat) ≠ 0 := by
  intro z
  exact h (by exact_mod_cast z)
theorem val_low {i j : Int} (h : 0 < j) : val (low i j) = (i : _root_.Rat) / (j : _root_.Rat) := by
  have g := Int.gcd_pos_of_ne_zero_right i (show j ≠ 0 by omega)
  obtain ⟨a, ha⟩ : (Int.gcd i j : Int) ∣ i := Int.gcd_dvd_left i j
  obtain ⟨b, hb⟩ : (Int.gcd i j : Int) ∣ j := Int.gcd_dvd_right i j
  have g0 : (Int.gcd i j : Int) ≠ 0 := by omega
  unfold val low
  show ((i / (Int.gcd i j : Int) : Int) : _root_.Rat) / ((j / (Int.gcd i j : Int) : Int) : _root_.Rat) = _
  generalize hg : (Int.gcd i j : Int) = d at *
  have e1 : i / d = a := by rw [ha]; exact Int.mul_ediv_cancel_left a g0
  have e2 : j / d = b := by rw [hb]; exact Int.mul_ediv_cancel_left b g0
  rw [e1, e2]
  have b0 : b ≠ 0 := by
    intro z
    rw [z] at hb
    omega
  have q1 := cast_ne b0
  have q2 := cast_ne g0
  have c1 : (i : _root_.Rat) = d * a := by exact_mod_cast ha
  have c2 : (j : _root_.Rat) = d * b := by exact_mod_cast hb
  rw [c1, c2]
  grind
theorem dvd_of {a b c : Int} (h : a ∣ b * c) (g : Int.gcd a b = 1) : a ∣ c := by
  have e := Int.gcd_mul_right_right_of_gcd_eq_one (k := c) g
  have d : a ∣ (Int.gcd a (b * c) : Int) := Int.dvd_coe_gcd (Int.dvd_refl a) h
  rw [e] at d
  exact Int.dvd_trans d (Int.gcd_dvd_right a c)
theorem val_inj {n m : Nat} {x y : Int × Int} (hx : Lp n x) (hy : Lp m y) (h : val x = val y) : x = y := by
  obtain ⟨x1, x2, _⟩ := hx
  obtain ⟨y1, y2, _⟩ := hy
  have q1 := cast_ne (show x.2 ≠ 0 by omega)
  have q2 := cast_ne (show y.2 ≠ 0 by omega)
  unfold val at h
  have c : (x.1 : _root_.Rat) * y.2 = y.1 * x.2 := by grind
  have c : x.1 * y.2 = y.1 * x.2 := by exact_mod_cast c
  have d1 : x.2 ∣ y.2 := dvd_of (b := x.1) ⟨y.1, by rw [c, Int.mul_comm]⟩ (by rw [Int.gcd_comm]; exact x2)
  have d2 : y.2 ∣ x.2 := dvd_of (b := y.1) ⟨x.1, by rw [← c, Int.mul_comm]⟩ (by rw [Int.gcd_comm]; exact y2)
  have e : x.2 = y.2 := Int.dvd_antisymm (by omega) (by omega) d1 d2
  refine Prod.ext ?_ e
  rw [← e] at c
  exact Int.eq_of_mul_eq_mul_right (by omega) c
theorem val_jn0 {n m : Nat} {x y : Int × Int} (hx : Lp n x) (hy : Lp m y) : val (jn 0 x y) = val x + val y := by
  have q1 := cast_ne (show x.2 ≠ 0 by have := hx.1; omega)
  have q2 := cast_ne (show y.2 ≠ 0 by have := hy.1; omega)
  rw [jn_add, val_low (Int.mul_pos hx.1 hy.1)]
  unfold val
  push_cast
  grind
theorem val_jn1 {n m : Nat} {x y : Int × Int} (hx : Lp n x) (hy : Lp m y) : val (jn 1 x y) = val x - val y := by
  have q1 := cast_ne (show x.2 ≠ 0 by have := hx.1; omega)
  have q2 := cast_ne (show y.2 ≠ 0 by have := hy.1; omega)
  rw [jn_sub, val_low (Int.mul_pos hx.1 hy.1)]
  unfold val
  push_cast
  grind
theorem val_jn2 {n m : Nat} {x y : Int × Int} (hx : Lp n x) (hy : Lp m y) : val (jn 2 x y) = val x * val y := by
  have q1 := cast_ne (show x.2 ≠ 0 by have := hx.1; omega)
  have q2 := cast_ne (show y.2 ≠ 0 by have := hy.1; omega)
  rw [jn_mul, val_low (Int.mul_pos hx.1 hy.1)]
  unfold val
  push_cast
  grind
theorem val_neg {n : Nat} {x : Int × Int} (hx : Lp n x) : val (-x.1, x.2) = -val x := by
  have q1 := cast_ne (show x.2 ≠ 0 by have := hx.1; omega)
  unfold val
  push_cast
  grind
theorem val_ne {n : Nat} {x : Int × Int} (hx : Lp n x) (h : x.1 ≠ 0) : val x ≠ 0 := by
  have q1 := cast_ne (show x.2 ≠ 0 by have := hx.1; omega)
  have q2 := cast_ne h
  unfold val
  grind
/-! ### quotients -/
def qt (x y : Int × Int) : Int × Int := if 0 < x.2 * y.1 then low (x.1 * y.2) (x.2 * y.1) else low (-(x.1 * y.2)) (-(x.2 * y.1))
theorem mul_ne {n : Nat} {x y : Int × Int} (hx : Lp n x) (h : y.1 ≠ 0) : x.2 * y.1 ≠ 0 := Int.mul_ne_zero (by have := hx.1; omega) h
theorem qt_lp {n m : Nat} {x y : Int × Int} (hx : Lp n x) (hy : Lp m y) (h : y.1 ≠ 0) : Lp (n + m) (qt x y) := by
  have hne := mul_ne hx h
  obtain ⟨x1, x2, x3, x4⟩ := hx
  obtain ⟨y1, y2, y3, y4⟩ := hy
  unfold qt
  split
  · exact Lp.low (by omega) (Bt.mul x3 y4) (Bt.mul x4 y3)
  · exact Lp.low (by omega) (Bt.mul x3 y4).neg (Bt.mul x4 y3).neg
theorem val_qt {n m : Nat} {x y : Int × Int} (hx : Lp n x) (hy : Lp m y) (h : y.1 ≠ 0) : val (qt x y) = val x / val y := by
  have q1 := cast_ne (show x.2 ≠ 0 by have := hx.1; omega)
  have q2 := cast_ne (show y.2 ≠ 0 by have := hy.1; omega)
  have q3 := cast_ne h
  have hne := mul_ne hx h
  unfold qt
  split
  · rw [val_low (by omega)]
    unfold val
    push_cast
    grind
  · rw [val_low (by omega)]
    unfold val
    push_cast
    grind
end G
namespace G
/-! what the quotients keep -/
theorem qt_mul {n m : Nat} {x y : Int × Int} (hx : Lp n x) (hy : Lp m y) (h : y.1 ≠ 0) : jn 2 (qt x y) y = x := by
  have q := val_ne hy h
  refine val_inj (jn_lp (.inr (.inr rfl)) (qt_lp hx hy h) hy) hx ?_
  rw [val_jn2 (qt_lp hx hy h) hy, val_qt hx hy h]
  grind
theorem lp_one : Lp 2 (1, 1) := ⟨by decide, by decide, by decide, by decide⟩
theorem qt_one {n : Nat} {x : Int × Int} (hx : Lp n x) : qt x (1, 1) = x := by
  refine val_inj (qt_lp hx lp_one (by decide)) hx ?_
  rw [val_qt hx lp_one (by decide)]
  have e : val (1, 1) = 1 := by unfold val; decide +kernel
  rw [e]
  grind
theorem qt_self {n : Nat} {y : Int × Int} (hy : Lp n y) (h : y.1 ≠ 0) : qt y y = (1, 1) := by
  have q := val_ne hy h
  refine val_inj (qt_lp hy hy h) lp_one ?_
  rw [val_qt hy hy h]
  have e : val (1, 1) = 1 := by unfold val; decide +kernel
  rw [e]
  grind
theorem qt_neg {n m : Nat} {x y : Int × Int} (hx : Lp n x) (hy : Lp m y) (h : y.1 ≠ 0) : qt x (-y.1, y.2) = (-(qt x y).1, (qt x y).2) := by
  have q := val_ne hy h
  have h' : (-y.1, y.2).1 ≠ 0 := by show -y.1 ≠ 0; omega
  refine val_inj (qt_lp hx hy.neg h') (qt_lp hx hy h).neg ?_
  rw [val_qt hx hy.neg h', val_neg (qt_lp hx hy h), val_qt hx hy h, val_neg hy]
  grind
theorem jn2_ne {n m : Nat} {x y : Int × Int} (hx : Lp n x) (hy : Lp m y) (h1 : x.1 ≠ 0) (h2 : y.1 ≠ 0) : (jn 2 x y).1 ≠ 0 := by
  intro z
  have e := val_jn2 hx hy
  have q1 := val_ne hx h1
  have q2 := val_ne hy h2
  have e0 : val (jn 2 x y) = 0 := by
    unfold val
    rw [z]
    grind
  rw [e0] at e
  grind
theorem qt_twice {n m : Nat} {x y : Int × Int} (hx : Lp n x) (hy : Lp m y) (h : y.1 ≠ 0) : qt (qt x y) y = qt x (jn 2 y y) := by
  have q := val_ne hy h
  have h' := jn2_ne hy hy h h
  have l := jn_lp (.inr (.inr rfl)) hy hy
  refine val_inj (qt_lp (qt_lp hx hy h) hy h) (qt_lp hx l h') ?_
  rw [val_qt (qt_lp hx hy h) hy h, val_qt hx hy h, val_qt hx l h', val_jn2 hy hy]
  grind
end G
namespace G
open PySem PySem.Spec PyProof.Rows L2
section
variable {X : Cx} {CX : CXT} {k : Nat} {f C : Addr} {fd : FuncData} {ps ks : List Str} {sp : Sp} {E : XK} {m : Str} {pos apos : Pos} {o : Expr} {kws : List Keyword} {ta : TE} {tk : TA} {g : List Value → List Value → List Value} {gV : List V → List V → List V}
/-- o.m(k = v, ..) -/
def tMethN (C : Addr) (m : Str) (n : Nat) (sp : Sp) (gV : List V → List V → List V) (E : XK) (ta : TE) (tk : TA) : TE := fun σ H Q => ta σ H fun x H1 => ∃ a dx fs, x = .ref a ∧ H1 a = some (.ins C dx fs) ∧ fs.lookup m = none ∧
  tk σ H1 fun zs H2 => zs.length = n ∧ sp (gV [x] zs) H2 Q E
theorem pe_methN0 {pl : Sem Bool} (he : PE X o ta) (c : Cls X.K C) (hm : Meth X.K C m f) (F : FnOk X.prog X.w X.K X.mg X.base CX k f fd ps sp) (hr : Room k X.A) (hb : KBn X.K fd ps 1 ks g gV) (hx : Passes CX X E) (hkw : PK X kws tk)
    (hall : (backToKw pos (keywordEach kws X.env)).all (·.1.isSome) = true := by rfl) (hks : (backToKw pos (keywordEach kws X.env)).filterMap (·.1) = ks := by rfl)
    (hpl : ((backTo pos (starEach [] X.env)).any (·.1) || (backToKw pos (keywordEach kws X.env)).any (·.1.isNone)) = false := by rfl)
    (ht : eval (.Call (.Attribute o m apos) [] kws pos) X.env = (do
      let ov ← eval o X.env
      standAt apos.atName
      let (f, first) ← holding [ov] (getMethod ov m pl)
      callWith pos f first (backTo pos (starEach [] X.env)) (backToKw pos (keywordEach kws X.env))) := by rfl) :
    PE X (.Call (.Attribute o m apos) [] kws pos) (tMethN C m ks.length sp gV E ta tk) := by
  refine ⟨fun pins s σ H Q I h => ?_⟩
  refine PySem.W.methodCall_KW (pl := pl) (thn (he.run pins s σ H _ I h) fun u s1 ⟨x, H1, I1, rx, a, dx, fs, ex, ea, l, q⟩ => ?_) ht
  subst ex
  obtain rfl : u = Value.ref a := rx
  refine getmeth_ok I1 ea c hm l ?_
  refine PySem.W.callWith_KW0 (first := [.ref a]) (h₀ := X.base) I.ok.mod.kin hm.kp hall ?_ hpl
  refine thn (hkw.run pos pins s1 σ H1 _ I1 q) fun ws s2 ⟨zs, H2, I2, rz, l2, q2⟩ => ⟨I2.kIn, ?_⟩
  rw [hks]
  exact run_fnN (us := [.ref a]) (vs := [.ref a]) F hr hb hx I2 (.cons rfl .nil) rz rfl l2 q2
/-- self and every other parameter by its name, in their order -/
theorem kbn_self {K : PySem.W.Frag} (h : ∀ us ws : List Value, us.length = 1 → ws.length = ks.length → bindArgs fd ⟨us, ks.zip ws⟩ = pure (ps.zip (us ++ ws))) : KBn K fd ps 1 ks (fun us ws => us ++ ws) (fun vs zs => vs ++ zs) :=
  ⟨fun s us ws _ l1 l2 => .of_eq (h us ws l1 l2), fun r1 r2 => r1.append r2⟩
end
section
variable {σ : L2.St} {H : Hp} {Q : VK} {ta : TE} {tk : TA} {sp : Sp} {E : XK} {C a dx : Addr} {fs : List (Str × V)} {m : Str} {n : Nat} {gV : List V → List V → List V}
theorem w_methN (q : ta σ H fun x H1 => ∃ a dx fs, x = .ref a ∧ H1 a = some (.ins C dx fs) ∧ fs.lookup m = none ∧ tk σ H1 fun zs H2 => zs.length = n ∧ sp (gV [x] zs) H2 Q E) : tMethN C m n sp gV E ta tk σ H Q := q
/-- the method is read off a ratio -/
theorem w_ofR {p : Addr} {i j : Int} {R : Prop} (h : Rat C H p i j) (hm : (m == ("_bottom" : Str)) = false) (hm2 : (m == ("_top" : Str)) = false) (q : R) : ∃ a dx fs, V.ref p = .ref a ∧ H a = some (.ins C dx fs) ∧ fs.lookup m = none ∧ R := by
  obtain ⟨dx, h⟩ := h
  refine ⟨p, dx, _, rfl, h, ?_, q⟩
  unfold rf
  rw [lookup_putF, if_neg (by intro z; rw [z] at hm; simp at hm), lookup_putF, if_neg (by intro z; rw [z] at hm2; simp at hm2)]
  rfl
/-- a quotient's promise: the divisor is not 0 -/
def spOver (C : Addr) : Sp := fun vs H Q _ => ∃ p q x y n, vs = [.ref p, .ref q] ∧ Rat C H p x.1 x.2 ∧ Rat C H q y.1 y.2 ∧ Lp n x ∧ Lp n y ∧ n ≤ 3500 ∧ y.1 ≠ 0 ∧
  ∀ r H', H r = none → Same H H' → Rat C H' r (qt x y).1 (qt x y).2 → Q (.ref r) H'
end
end G
namespace G
open PySem PySem.Spec L2
theorem w_cut {t u : TS} {D : Ends} {σ : L2.St} {H : Hp} (Mid : L2.St → Hp → Prop) (h : t { nx := Mid, rt := D.rt, bk := D.bk, ct := D.ct } σ H) (k : ∀ σ' H', Mid σ' H' → u D σ' H') : C8.tCut t u D σ H := ⟨Mid, h, k⟩
theorem low_pos1 {i j : Int} (hi : 0 < i) (h : 0 < j) : (low i j).1 ≠ 0 := by
  have g := Int.gcd_pos_of_ne_zero_right i (show j ≠ 0 by omega)
  have d : (Int.gcd i j : Int) ∣ i := Int.gcd_dvd_left i j
  have : 0 < i / (Int.gcd i j : Int) := Int.ediv_pos_of_pos_of_dvd hi (by omega) d
  show i / (Int.gcd i j : Int) ≠ 0
  omega
end G

/-! Sums of lists of pairs. -/
namespace G
open PySem L2
/-- the pairs of a list, joined from 0 on -/
def tot (xs : List (Int × Int)) : Int × Int := xs.foldl (jn 0) (0, 1)
/-- their numbers, added -/
def vsum : List (Int × Int) → _root_.Rat
  | [] => 0
  | x :: xs => val x + vsum xs
theorem vsum_app : ∀ xs ys : List (Int × Int), vsum (xs ++ ys) = vsum xs + vsum ys
  | [], ys => by
    show vsum ys = 0 + vsum ys
    grind
  | x :: xs, ys => by
    show val x + vsum (xs ++ ys) = val x + vsum xs + vsum ys
    rw [vsum_app xs ys]
    grind
theorem vsum_rev : ∀ xs : List (Int × Int), vsum xs.reverse = vsum xs
  | [] => rfl
  | x :: xs => by
    rw [List.reverse_cons, vsum_app, vsum_rev xs]
    show vsum xs + (val x + 0) = val x + vsum xs
    grind
theorem fold_lp : ∀ (xs : List (Int × Int)) (n m : Nat) (a : Int × Int), Lp m a → (∀ x ∈ xs, Lp n x) → Lp (m + xs.length * (n + 1)) (xs.foldl (jn 0) a) ∧ val (xs.foldl (jn 0) a) = val a + vsum xs
  | [], n, m, a, ha, _ => ⟨ha.mono (by omega), by show val a = val a + 0; grind⟩
  | x :: xs, n, m, a, ha, h => by
    have hx := h x List.mem_cons_self
    have q := fold_lp xs n (m + n + 1) (jn 0 a x) (jn_lp (.inl rfl) ha hx) fun y hy => h y (List.mem_cons_of_mem _ hy)
    refine ⟨q.1.mono ?_, ?_⟩
    · rw [List.length_cons, Nat.succ_mul]
      omega
    · show val (xs.foldl (jn 0) (jn 0 a x)) = val a + (val x + vsum xs)
      rw [q.2, val_jn0 ha hx]
      grind
theorem val_zero : val (0, 1) = 0 := by unfold val; decide +kernel
theorem lp_zero : Lp 1 (0, 1) := ⟨by decide, by decide, by decide, by decide⟩
theorem tot_lp {n : Nat} {xs : List (Int × Int)} (h : ∀ x ∈ xs, Lp n x) : Lp (1 + xs.length * (n + 1)) (tot xs) := (fold_lp xs n 1 _ lp_zero h).1
theorem tot_val {n : Nat} {xs : List (Int × Int)} (h : ∀ x ∈ xs, Lp n x) : val (tot xs) = vsum xs := by
  refine (fold_lp xs n 1 _ lp_zero h).2.trans ?_
  rw [val_zero]
  grind
theorem tot_snoc (xs : List (Int × Int)) (x : Int × Int) : tot (xs ++ [x]) = jn 0 (tot xs) x := by
  unfold tot
  rw [List.foldl_append]
  rfl
theorem tot_same {n m : Nat} {xs ys : List (Int × Int)} (h : ∀ x ∈ xs, Lp n x) (k : ∀ x ∈ ys, Lp m x) (e : vsum xs = vsum ys) : tot xs = tot ys :=
  val_inj (tot_lp h) (tot_lp k) (by rw [tot_val h, tot_val k, e])
theorem tot_rev {n : Nat} {xs : List (Int × Int)} (h : ∀ x ∈ xs, Lp n x) : tot xs.reverse = tot xs :=
  tot_same (n := n) (m := n) (fun x hx => h x (List.mem_reverse.mp hx)) h (vsum_rev xs)
theorem tot_cut {n : Nat} {xs : List (Int × Int)} (h : ∀ x ∈ xs, Lp n x) (c : Nat) : jn 0 (tot (xs.take c)) (tot (xs.drop c)) = tot xs := by
  have h1 : ∀ x ∈ xs.take c, Lp n x := fun x hx => h x (List.mem_of_mem_take hx)
  have h2 : ∀ x ∈ xs.drop c, Lp n x := fun x hx => h x (List.mem_of_mem_drop hx)
  refine val_inj (jn_lp (.inl rfl) (tot_lp h1) (tot_lp h2)) (tot_lp h) ?_
  rw [val_jn0 (tot_lp h1) (tot_lp h2), tot_val h1, tot_val h2, tot_val h, ← vsum_app, List.take_append_drop]
theorem tot_take {n m : Nat} {xs : List (Int × Int)} (h : ∀ x ∈ xs, Lp n x) (hm : 1 + xs.length * (n + 1) ≤ m) : ∀ k, k ≤ xs.length → Lp m (tot (xs.take k)) := fun k hk => by
  have h1 : ∀ x ∈ xs.take k, Lp n x := fun x hx => h x (List.mem_of_mem_take hx)
  refine (tot_lp h1).mono (Nat.le_trans ?_ hm)
  have : (xs.take k).length ≤ xs.length := by rw [List.length_take]; omega
  have := Nat.mul_le_mul_right (n + 1) this
  omega
/-- k times 1 / b -/
theorem tot_same_parts {b n : Nat} (hb : 0 < b) (h1 : Lp n (1, (b : Int))) : ∀ k : Nat, tot (List.replicate k (1, (b : Int))) = low k b
  | 0 => by
    refine val_inj (n := 1) (m := 1) lp_zero ?_ ?_
    · have : Lp 1 (low 0 (b : Int)) := by rw [low_zero (by omega)]; exact lp_zero
      exact this
    · show val (0, 1) = val (low 0 (b : Int))
      rw [low_zero (by omega)]
  | k + 1 => by
    have hb' : (0 : Int) < b := by omega
    have e := tot_same_parts hb h1 k
    rw [List.replicate_succ', tot_snoc, e]
    have l : Lp ((k : Int).natAbs.log2 + 1 + ((b : Int).natAbs.log2 + 1)) (low k b) := Lp.low hb' (Bt.any.mono (by omega)) (Bt.any.mono (by omega))
    have l' : Lp (((k + 1 : Nat) : Int).natAbs.log2 + 1 + ((b : Int).natAbs.log2 + 1)) (low ((k + 1 : Nat) : Int) b) := Lp.low hb' (Bt.any.mono (by omega)) (Bt.any.mono (by omega))
    refine val_inj (jn_lp (.inl rfl) l h1) l' ?_
    rw [val_jn0 l h1, val_low hb', val_low hb']
    unfold val
    have c := cast_ne (show (b : Int) ≠ 0 by omega)
    have e1 : (((k + 1 : Nat) : Int) : _root_.Rat) = ((k : Int) : _root_.Rat) + 1 := by push_cast; rfl
    rw [e1]
    have e2 : (((1 : Int), (b : Int)).1 : _root_.Rat) = 1 := by rfl
    rw [e2]
    grind
theorem Tups.get {H : Hp} {vs : List V} {xs : List (Int × Int)} (h : Tups H vs xs) : ∀ {k : Nat} {v : V}, vs[k]? = some v → ∃ r x, v = .ref r ∧ xs[k]? = some x ∧ H r = some (.tup [.int x.1, .int x.2]) := by
  induction h with
  | nil => intro k v e; simp at e
  | @cons s x vs xs a t ih =>
    intro k v e
    cases k with
    | zero =>
      have e : V.ref s = v := by simpa using e
      exact ⟨s, x, e.symm, rfl, a⟩
    | succ k => exact ih (by simpa using e)
theorem Tups.len {H : Hp} {vs : List V} {xs : List (Int × Int)} (h : Tups H vs xs) : vs.length = xs.length := by
  induction h with
  | nil => rfl
  | cons a t ih => simp [ih]
/-- a, b = a pair -/
theorem w_g2 {K : PySem.W.Frag} {n i1 i2 : Nat} {p : Addr} {u v : V} {σ : L2.St} {H : Hp} {Q : L2.St → Hp → Prop} (h : SqT K H p [u, v]) (hn : n = 2) (q : Q ((σ.set i1 (some u)).set i2 (some v)) H) :
    gTup K n (gCons (gName i1) (gCons (gName i2) gNil)) (.ref p) σ H Q := by
  subst hn
  exact ⟨p, _, rfl, h, rfl, u, [v], rfl, v, [], rfl, rfl, q⟩
end G
namespace G
open PySem PySem.Spec PyProof.Rows L2
section
variable {X : Cx} {e k : Expr} {te : TE} {tk : TO} {p2 pos : Pos}
theorem ix_tupK {X : Cx} {K : PySem.W.Frag} (h : X.K = K) : IxR X (rIxT K) := by rw [← h]; exact ix_tup
theorem ix_listK {X : Cx} {K : PySem.W.Frag} (h : X.K = K) : IxR X (rIxL K) := by rw [← h]; exact ix_list
/-- xs[::-1] -/
def tRevL (K : PySem.W.Frag) (te : TE) (tk : TO) : TE := fun σ H Q => te σ H fun x H1 => tk σ H1 fun k H2 => ∃ a xs, x = .ref a ∧ k = some (-1) ∧ SqL K H2 a xs ∧ ∀ p H', H2 p = none → Same H2 H' → H' p = some (.lst xs.reverse) → Q (.ref p) H'
theorem pe_revL (he : PE X e te) (hk : PO X (some k) tk) : PE X (.Subscript e (.Slice none none (some k) p2) pos) (tRevL X.K te tk) := by
  refine ⟨fun pins s σ H Q I h => ?_⟩
  refine Subscript_ (thn (he.run pins s σ H _ I h) fun v s1 ⟨x, H1, I1, r1, q1⟩ => ?_)
  refine wpAny_Slice ?_
  rw [evalPart_none]
  refine wpAny_pure ?_
  refine wpAny_pure ?_
  refine thn (hk.run pins s1 σ H1 _ I1 q1) fun vk s3 ⟨u, H3, I3, pk, a, xs, ex, eu, hx, q3⟩ => ?_
  subst ex
  subst eu
  cases r1
  have I4 : Inv X pins σ H3 { s3 with heap := s3.heap.push { cls := .type "slice", data := .fields #[.none, .none, vk] } } := I3.kept (t' := s3.toks) fun b ob q => Heap.get?_push_of_some _ q
  show wpAny (model X.prog X.w) X.A (subscriptTail e (.Slice none none (some k) p2) (.ref a) (.ref s3.heap.objs.size)) (EP X pins σ Q) X.xe { s3 with heap := s3.heap.push { cls := .type "slice", data := .fields #[.none, .none, vk] } }
  obtain ⟨its, r, ht, hz⟩ := I4.list hx
  have hlen := r.length
  refine tail_any (ops := [.ref a, .ref s3.heap.objs.size]) ht.isList.typeIs slot_list_getitem.lookup ?_ (by with_unfolding_all rfl)
  refine wpAny_getItem_list_slice ht.isList (Heap.IsSliceOf.new ..) .none .none pk (by simp) ?_ (by rw [List.size_toArray]; omega)
  rw [PySem.W.krv_pick]
  generalize hs4 : ({ s3 with heap := s3.heap.push { cls := .type "slice", data := .fields #[.none, .none, vk] } } : Shared) = s4 at *
  refine ⟨.ref s4.heap.objs.size, _, I4.laid (t' := s4.toks) (o := .lst xs.reverse) (fun b ob q => Heap.get?_push_of_some _ q) (Nat.le_refl _) ?_, rfl, q3 _ _ (I4.hok.fresh (Nat.le_refl _)) (same_new (I4.hok.fresh (Nat.le_refl _))) upd_same⟩
  refine ⟨by rw [List.length_reverse]; exact hz, _, 0, ?_, Heap.get?_push_size _ rfl⟩
  exact Vals.reverse r
end
section
variable {K : PySem.W.Frag} {σ : L2.St} {H : Hp} {Q : VK} {te : TE} {tk : TO}
theorem w_revL (q : te σ H fun x H1 => tk σ H1 fun k H2 => ∃ a xs, x = .ref a ∧ k = some (-1) ∧ SqL K H2 a xs ∧ ∀ p H', H2 p = none → Same H2 H' → H' p = some (.lst xs.reverse) → Q (.ref p) H') : tRevL K te tk σ H Q := q
end
end G

/-! Comprehensions. -/
namespace G
open PySem PySem.Spec L2
/-- the items of two lists, one by one -/
inductive PL {β : Type} (O : V → β → Prop) : List V → List β → Prop
  | nil : PL O [] []
  | cons {v : V} {y : β} {vs : List V} {ys : List β} : O v y → PL O vs ys → PL O (v :: vs) (y :: ys)
theorem PL.snoc {β : Type} {O : V → β → Prop} {vs : List V} {ys : List β} {v : V} {y : β} (h : PL O vs ys) (a : O v y) : PL O (vs ++ [v]) (ys ++ [y]) := by
  induction h with
  | nil => exact .cons a .nil
  | cons b _ ih => exact .cons b ih
theorem PL.imp {β : Type} {O O' : V → β → Prop} {vs : List V} {ys : List β} (h : PL O vs ys) (f : ∀ v y, O v y → O' v y) : PL O' vs ys := by
  induction h with
  | nil => exact .nil
  | cons b _ ih => exact .cons (f _ _ b) ih
def TupV (H : Hp) (v : V) (x : Int × Int) : Prop := ∃ s, v = .ref s ∧ H s = some (.tup [.int x.1, .int x.2])
def RatV (C : Addr) (H : Hp) (v : V) (x : Int × Int) : Prop := ∃ s, v = .ref s ∧ Rat C H s x.1 x.2
theorem PL.tups {H : Hp} {vs : List V} {ys : List (Int × Int)} (h : PL (TupV H) vs ys) : Tups H vs ys := by
  induction h with
  | nil => exact .nil
  | cons b _ ih =>
    obtain ⟨s, rfl, h⟩ := b
    exact .cons h ih
theorem PL.rats {C : Addr} {H : Hp} {vs : List V} {ys : List (Int × Int)} (h : PL (RatV C H) vs ys) : Rats C H vs ys := by
  induction h with
  | nil => exact .nil
  | cons b _ ih =>
    obtain ⟨s, rfl, h⟩ := b
    exact .cons h ih
/-- what is kept of a thing while other things come and a list is filled -/
structure Kept {β : Type} (O : Hp → V → β → Prop) : Prop where
  same : ∀ {H H' : Hp} {v : V} {y : β}, O H v y → Same H H' → O H' v y
  fill : ∀ {H H' : Hp} {L : Addr} {zs : List V} {v : V} {y : β}, O H v y → H L = some (.lst zs) → Fr L H H' → O H' v y
theorem kept_tup : Kept TupV where
  same := fun ⟨s, e, h⟩ f => ⟨s, e, f _ _ h⟩
  fill := fun ⟨s, e, h⟩ hL f => ⟨s, e, f _ _ (ne_of h hL (by intro z; cases z)) h⟩
theorem kept_rat {C : Addr} : Kept (RatV C) where
  same := fun ⟨s, e, h⟩ f => ⟨s, e, h.same f⟩
  fill := fun ⟨s, e, ⟨dx, h⟩⟩ hL f => ⟨s, e, dx, f _ _ (ne_of h hL (by intro z; cases z)) h⟩
def LcW (J : It) (g : TG) (tt : TT) (te : TE) (vs : List Nat) (σ : L2.St) (Q : VK) (H1 : Hp) : Prop := ∀ D, H1 D = none → ∃ W : Nat → Nat → Hp → Prop, (∃ m, W 0 m (upd H1 D (.lst []))) ∧ ∀ i m H, W i m H →
  (J.stop i H ∧ Q (.ref D) H) ∨ (J.go i H ∧ ∃ Nx : Hp → Prop, (∀ H', Nx H' → ∃ m', m' < m ∧ W (i + 1) m' H') ∧ ∀ x H', J.yld i H x H' → g x (wipe σ vs) H' fun σ2 H2 => wipe σ2 vs = wipe σ vs ∧ tt σ2 H2 fun b H3 =>
    if b = true then te σ2 H3 fun y H4 => ∃ acc, H4 D = some (.lst acc) ∧ acc.length < sizeLine ∧ Nx (upd H4 D (.lst (acc ++ [y]))) else Nx H3)
theorem w_lc {wi : TI} {g : TG} {tt : TT} {te : TE} {vs : List Nat} {σ : L2.St} {H : Hp} {Q : VK} (q : wi σ H fun J H1 => LcW J g tt te vs σ Q H1) : tLc wi g tt te vs σ H Q := q
/-- [te for x in a list]: the items are those of ys -/
theorem w_lcMap {β : Type} {K : PySem.W.Frag} {O : Hp → V → β → Prop} (KO : Kept O) {te : TE} {σ : L2.St} {Q : VK} {H1 : Hp} {t : Addr} {rs : List V} {j : Nat} (ys : List β) (hl : H1 t = some (.lst rs)) (ly : rs.length = ys.length) (hn : rs.length ≤ 1000)
    (step : ∀ (k : Nat) v y H' (R : VK), rs[k]? = some v → ys[k]? = some y → Same H1 H' → (∀ u H2, Same H' H2 → O H2 u y → R u H2) → te ((σ.set j none).set j (some v)) H' R)
    (q : ∀ L acc H', H1 L = none → Same H1 H' → H' L = some (.lst acc) → PL (O H') acc ys → Q (.ref L) H') : LcW (Itl K t) (gName j) tYes te [j] σ Q H1 := by
  intro L nL
  refine lc_list (K := K) (xs := rs) (fun i H' => Fills (fun L k acc H' => Same H1 H' ∧ PL (O H') acc (ys.take k) ∧ acc.length = k) L i H') ⟨[], upd_same, same_new nL, .nil, rfl⟩ (fun i H' hi ⟨acc, _, p⟩ => SqL.of (p.1 _ _ hl)) ?_ ?_
  · rintro k v H' hv ⟨acc, hL, e, ps, hk⟩
    have kl : k < rs.length := (List.getElem?_eq_some_iff.mp hv).1
    obtain ⟨y, hy⟩ : ∃ y, ys[k]? = some y := ⟨ys[k]'(by omega), by rw [List.getElem?_eq_getElem]⟩
    refine ⟨?_, ?_⟩
    · show ((σ.set j none).set j (some v)).set j none = σ.set j none
      rw [List.set_set, List.set_set]
    · refine w_yes ?_
      refine w_iteT rfl ?_
      refine step k v y H' _ hv hy e fun u H2 e2 o2 => ?_
      refine fills_more (Pv := fun L k acc H' => Same H1 H' ∧ PL (O H') acc (ys.take k) ∧ acc.length = k) (e2 _ _ hL) (by omega) fun H5 f5 h5 => ⟨Fr.unseen nL (e.trans e2) f5, ?_, by rw [List.length_append, hk]; rfl⟩
      rw [take_snoc hy]
      exact (ps.imp fun v y o => KO.fill (KO.same o e2) (e2 _ _ hL) f5).snoc (KO.fill o2 (e2 _ _ hL) f5)
  · rintro H' ⟨acc, hL, e, ps, _⟩
    rw [ly, List.take_length] at ps
    exact q L acc H' nL e hL ps
theorem Src.fr {b : Nat} {H H' : Hp} {a L : Addr} (h : Src b H a) (n : a ≠ L) (f : Fr L H H') : Src b H' a :=
  let ⟨x, y, z, h1, r⟩ := h; ⟨x, y, z, f _ _ n h1, r⟩
/-- pairs in lowest terms, drawn -/
theorem w_lcPairs {K : PySem.W.Frag} {E E' : XK} {σ : L2.St} {Q : VK} {H1 : Hp} {a : Addr} {j b n : Nat} (ha : σ[0]? = some (some (.ref a))) (hj : j ≠ 0) (hS : Src b H1 a) (hn : n ≤ 1000) (hb : b ≤ 1000000)
    (q : ∀ L acc xs H', H1 L = none → L ≠ a → Fr a H1 H' → Src (b + 10 * n) H' a → H' L = some (.lst acc) → Tups H' acc xs → xs.length = n → (∀ x ∈ xs, Lp 104 x) → Q (.ref L) H') :
    LcW (Itr 0 n) (gName j) tYes (tCall (spLowest K) [] E (tCons (tCall spPair [] E' (tCons (tVar 0) tNil)) tNil)) [j] σ Q H1 := by
  intro L nL
  have La : a ≠ L := let ⟨_, _, _, h1, _⟩ := hS; ne_of_none h1 nL
  refine lc_range (fun i H' => Fills (fun L k acc H' => Fr a H1 H' ∧ Src (b + 10 * k) H' a ∧ acc.length = k ∧ ∃ xs, Tups H' acc xs ∧ xs.length = k ∧ ∀ x ∈ xs, Lp 104 x) L i H') ⟨[], upd_same, Fr.same (same_new nL), hS.new nL, rfl, [], .nil, rfl, by intro x hx; cases hx⟩ ?_ ?_
  · rintro k H' hk ⟨acc, hL, f, S, lk, xs, ts, lx, hx⟩
    refine ⟨?_, ?_⟩
    · show ((σ.set j none).set j (some (.int (0 + (k : Int))))).set j none = σ.set j none
      rw [List.set_set, List.set_set]
    · refine w_yes ?_
      refine w_iteT rfl ?_
      refine w_call (w_cons (w_call (w_cons (w_var (v := .ref a) ?_ (w_nil ?_)))))
      · show ((σ.set j none).set j (some (.int (0 + (k : Int)))))[0]? = _
        rw [List.getElem?_set_ne hj, List.getElem?_set_ne hj]
        exact ha
      · refine ⟨a, _, rfl, S, by omega, fun i1 j1 p1 H2 hi1 hj1 hk1 hp1 hpa1 S2 f2 => ?_⟩
        refine w_nil ?_
        refine ⟨p1, i1, j1, rfl, SqT.of hp1, hj1, bt_of_31 hi1 rfl, bt_of_p31 hj1 hk1 rfl, fun d H3 n3 e3 h3 => ?_⟩
        have L3 : H3 L = some (.lst acc) := e3 _ _ (f2 _ _ (Ne.symm La) hL)
        have tl : Tups H3 acc xs := (let ⟨_, _, _, h1, _⟩ := S; ts.fr h1 f2).same e3
        refine fills_more (Pv := fun L k acc H' => Fr a H1 H' ∧ Src (b + 10 * k) H' a ∧ acc.length = k ∧ ∃ xs, Tups H' acc xs ∧ xs.length = k ∧ ∀ x ∈ xs, Lp 104 x) L3 (by omega) fun H5 f5 h5 => ⟨?_, ?_, by rw [List.length_append, lk]; rfl, xs ++ [low i1 j1], ?_, by rw [List.length_append, lx]; rfl, ?_⟩
        · exact fun c o nc h => f5 _ _ (ne_of_none h nL) (e3 _ _ (f2 _ _ nc (f _ _ nc h)))
        · exact ((S2.same e3).fr La f5).mono (by omega)
        · exact (tl.fr L3 f5).snoc (f5 _ _ (ne_of h3 L3 (by intro z; cases z)) h3)
        · intro x h
          rcases List.mem_append.mp h with h | h
          · exact hx x h
          · rw [List.mem_singleton] at h
            subst h
            exact lp_drawn hi1 hj1 hk1
  · rintro H' ⟨acc, hL, f, S, lk, xs, ts, lx, hx⟩
    exact q L acc xs H' nL (Ne.symm La) f S hL ts lx hx
end G
namespace G
open PySem PySem.Spec L2
theorem prds_shaped (xs : List (Int × Int)) : SeqAt.shaped (.list (xs.map prd)) = true := by
  have h1 : PyData.canLayAll0 (xs.map prd) = true := by
    induction xs with
    | nil => simp only [List.map_nil, PyData.canLayAll0]
    | cons n r ih => simp only [List.map_cons, prd, PyData.canLayAll0, PyData.canLay0, ih, Bool.and_self]
  have h2 : PyData.depthAll (xs.map prd) ≤ 1 := by
    clear h1
    induction xs with
    | nil => simp only [List.map_nil, PyData.depthAll]; omega
    | cons n r ih =>
      simp only [List.map_cons, PyData.depthAll]
      have : (prd n).depth ≤ 1 := by simp only [prd, PyData.depth, PyData.depthAll]; decide
      omega
  unfold SeqAt.shaped
  simp only [PyData.canLay0, PyData.depth, h1, Bool.true_and]
  exact decide_eq_true (by omega)
theorem prds_depth (xs : List (Int × Int)) : decide ((PyData.list (xs.map prd)).depth ≤ 40) = true := by
  have h2 : PyData.depthAll (xs.map prd) ≤ 1 := by
    induction xs with
    | nil => simp only [List.map_nil, PyData.depthAll]; omega
    | cons n r ih =>
      simp only [List.map_cons, PyData.depthAll]
      have : (prd n).depth ≤ 1 := by simp only [prd, PyData.depth, PyData.depthAll]; decide
      omega
  simp only [PyData.depth]
  exact decide_eq_true (by omega)
theorem prds_cnt {xs : List (Int × Int)} (h : xs.length ≤ 1000) : decide (cnt (.list (xs.map prd)) ≤ 8000) = true := by
  have h2 : cntAll (xs.map prd) ≤ 4 * xs.length := by
    clear h
    induction xs with
    | nil => simp only [List.map_nil, cntAll]; omega
    | cons n r ih =>
      simp only [List.map_cons, cntAll, List.length_cons]
      have : cnt (prd n) ≤ 4 := by simp only [prd, cnt, cntAll]; decide
      omega
  simp only [cnt]
  exact decide_eq_true (by omega)
theorem lp_abs {n : Nat} {x : Int × Int} (h : Lp n x) : Lp n (if x.1 < 0 then -x.1 else x.1, x.2) := by
  by_cases c : x.1 < 0
  · rw [if_pos c]; exact h.neg
  · rw [if_neg c]; exact h
theorem ix_last {K : PySem.W.Frag} {H : Hp} {acc : List V} {xs : List (Int × Int)} (h : Tups H acc xs) (ne : xs ≠ []) : ∃ s x, atI acc (-1) = some (.ref s) ∧ x ∈ xs ∧ H s = some (.tup [.int x.1, .int x.2]) := by
  have hl := h.len
  have h0 : 0 < xs.length := List.length_pos_iff.mpr ne
  obtain ⟨v, hv⟩ : ∃ v, acc[acc.length - 1]? = some v := ⟨acc[acc.length - 1]'(by omega), by rw [List.getElem?_eq_getElem]⟩
  obtain ⟨s, x, rfl, hx, hs⟩ := h.get hv
  refine ⟨s, x, ?_, List.mem_of_getElem? hx, hs⟩
  rw [← hv]
  unfold atI
  have e : ixN acc.length (-1) = some (acc.length - 1) := by
    unfold ixN
    rw [if_neg (by decide), if_pos (by omega)]
    congr 1
    omega
  rw [e]
  rfl
theorem Tups.app {H : Hp} {vs ws : List V} {xs ys : List (Int × Int)} (h : Tups H vs xs) (k : Tups H ws ys) : Tups H (vs ++ ws) (xs ++ ys) := by
  induction h with
  | nil => exact k
  | cons a _ ih => exact .cons a ih
end G
namespace G
open PySem PySem.Spec L2
theorem Rats.cut {C : Addr} {H : Hp} {vs : List V} {xs : List (Int × Int)} (h : Rats C H vs xs) : ∀ k : Nat, Rats C H (vs.take k) (xs.take k) ∧ Rats C H (vs.drop k) (xs.drop k) := by
  induction h with
  | nil => intro k; simp only [List.take_nil, List.drop_nil]; exact ⟨.nil, .nil⟩
  | cons a t ih =>
    intro k
    cases k with
    | zero => exact ⟨.nil, .cons a t⟩
    | succ k => exact ⟨.cons a (ih k).1, (ih k).2⟩
theorem Rats.app {C : Addr} {H : Hp} {vs ws : List V} {xs ys : List (Int × Int)} (h : Rats C H vs xs) (k : Rats C H ws ys) : Rats C H (vs ++ ws) (xs ++ ys) := by
  induction h with
  | nil => exact k
  | cons a _ ih => exact .cons a ih
theorem Rats.rev {C : Addr} {H : Hp} {vs : List V} {xs : List (Int × Int)} (h : Rats C H vs xs) : Rats C H vs.reverse xs.reverse := by
  induction h with
  | nil => exact .nil
  | cons a _ ih =>
    rw [List.reverse_cons, List.reverse_cons]
    exact ih.snoc a
theorem Rats.rep {C : Addr} {H : Hp} {r : Addr} {x : Int × Int} (h : Rat C H r x.1 x.2) : ∀ k : Nat, Rats C H (List.replicate k (.ref r)) (List.replicate k x)
  | 0 => .nil
  | k + 1 => by
    rw [List.replicate_succ, List.replicate_succ]
    exact .cons h (Rats.rep h k)
theorem cut_take {vs : List V} {c : Int} (h0 : 0 ≤ c) (h : c ≤ vs.length) : cutV vs none (some c) = vs.take c.toNat := by
  unfold cutV HT.sIx
  simp only [List.drop_zero]
  congr 1
  rw [if_neg (by omega)]
  omega
theorem cut_drop {vs : List V} {c : Int} (h0 : 0 ≤ c) (h : c ≤ vs.length) : cutV vs (some c) none = vs.drop c.toNat := by
  obtain ⟨k, rfl⟩ : ∃ k : Nat, c = k := ⟨c.toNat, by omega⟩
  unfold cutV
  rw [HT.sIx_none, HT.sIx_nat, Nat.min_eq_left (by omega), Int.toNat_natCast]
  exact List.take_of_length_le (by rw [List.length_drop]; omega)
theorem tot_400 : tot (List.replicate 400 (1, 400)) = (1, 1) := by
  have e := tot_same_parts (b := 400) (n := 10) (by decide) ⟨by decide, by decide, by decide, by decide⟩ 400
  exact e.trans (by decide +kernel)
theorem take_400 (k : Nat) (hk : k ≤ 400) : Lp 3500 (tot ((List.replicate 400 ((1 : Int), (400 : Int))).take k)) := by
  rw [List.take_replicate, Nat.min_eq_left hk]
  have e := tot_same_parts (b := 400) (n := 10) (by decide) ⟨by decide, by decide, by decide, by decide⟩ k
  have e' : tot (List.replicate k ((1 : Int), (400 : Int))) = low (k : Int) 400 := e
  rw [e']
  exact (Lp.low (n := 10) (by decide) (by unfold Bt; omega) (by decide)).mono (by decide)
end G

/-! == and != with an object that has its own __eq__ on either side. -/
namespace PySem.SeqAt
open AutoSeq1 (wpAny_loadPart')
open MeetsSeq
section
variable {prog : Program} {w : World} {A : Around} {E : Value → Shared → Prop} {s : Shared} {K : PySem.W.Frag} {x C : Addr} {ox : Obj} {od : Option Obj}
/-- what is known of the object: no list, tuple, dict -/
structure Onx (prog : Program) (w : World) (h : Heap) (b : Addr) : Prop where
  at_ : ∃ c d sl, h.get? b = some { cls := c, dict := d, data := .plain, slots := sl }
  li : PySem.W.Looks (model prog w) h (isInstance (.ref b) (.type "list")) false
  tu : PySem.W.Looks (model prog w) h (isInstance (.ref b) (.type "tuple")) false
  di : PySem.W.Looks (model prog w) h (isInstance (.ref b) (.type "dict")) false

theorem no_int_eq {b : Addr} {i : Int} {u : Tok} : MeetsIn prog w (Builtin.«int.__eq__» ⟨[.int i u, .ref b], []⟩) (fun _ R s => Onx prog w s.heap b ∧ R (.ok (.ret .notImplemented)) s) := by
  intro A R s h
  obtain ⟨hp, g, d, tk, os⟩ := s
  obtain ⟨⟨⟨c, dd, sl, hl⟩, _, _, _⟩, h⟩ := h
  wp_walk using wpAny_loadPart' hl, wpAny_load hl
  exact h

theorem no_bool_eq {b : Addr} {i : Bool} : MeetsIn prog w (Builtin.«int.__eq__» ⟨[.bool i, .ref b], []⟩) (fun _ R s => Onx prog w s.heap b ∧ R (.ok (.ret .notImplemented)) s) := by
  intro A R s h
  obtain ⟨hp, g, d, tk, os⟩ := s
  obtain ⟨⟨⟨c, dd, sl, hl⟩, _, _, _⟩, h⟩ := h
  wp_walk using wpAny_loadPart' hl, wpAny_load hl
  exact h

theorem no_str_eq {b : Addr} {i : Str} {u : Tok} : MeetsIn prog w (Builtin.«str.__eq__» ⟨[.str i u, .ref b], []⟩) (fun _ R s => Onx prog w s.heap b ∧ R (.ok (.ret .notImplemented)) s) := by
  intro A R s h
  obtain ⟨hp, g, d, tk, os⟩ := s
  obtain ⟨⟨⟨c, dd, sl, hl⟩, _, _, _⟩, h⟩ := h
  wp_walk using wpAny_loadPart' hl, wpAny_load hl
  exact h

theorem no_none_eq {b : Addr}  : MeetsIn prog w (Builtin.«NoneType.__eq__» ⟨[.none, .ref b], []⟩) (fun _ R s => Onx prog w s.heap b ∧ R (.ok (.ret .notImplemented)) s) := by
  intro A R s h
  obtain ⟨hp, g, d, tk, os⟩ := s
  obtain ⟨⟨⟨c, dd, sl, hl⟩, _, _, _⟩, h⟩ := h
  wp_walk using wpAny_loadPart' hl, wpAny_load hl
  exact h

theorem no_list_eq {a b : Addr} {items : Array Value} {n : Nat} {dd : Option Addr} {sl : Array (Option Value)} : MeetsIn prog w (Builtin.«list.__eq__» ⟨[.ref a, .ref b], []⟩) (fun _ R s => s.heap.get? a = some { cls := .type "list", dict := dd, data := .seq items n, slots := sl } ∧ Onx prog w s.heap b ∧ R (.ok (.ret .notImplemented)) s) := by
  intro A R s h
  obtain ⟨hp, g, d, tk, os⟩ := s
  obtain ⟨ha, ⟨⟨c, dd, sl, hl⟩, hli, htu, hdi⟩, h⟩ := h
  wp_walk using wpAny_loadPart' ha, (PySem.W.Looks.at hli)
  exact h

theorem no_tuple_eq {a b : Addr} {items : Array Value} {n : Nat} {dd : Option Addr} {sl : Array (Option Value)} : MeetsIn prog w (Builtin.«tuple.__eq__» ⟨[.ref a, .ref b], []⟩) (fun _ R s => s.heap.get? a = some { cls := .type "tuple", dict := dd, data := .seq items n, slots := sl } ∧ Onx prog w s.heap b ∧ R (.ok (.ret .notImplemented)) s) := by
  intro A R s h
  obtain ⟨hp, g, d, tk, os⟩ := s
  obtain ⟨ha, ⟨⟨c, dd, sl, hl⟩, hli, htu, hdi⟩, h⟩ := h
  wp_walk using wpAny_loadPart' ha, (PySem.W.Looks.at htu)
  exact h

theorem no_dict_eq {a b : Addr} {items : Array DictEntry} {n : Nat} {dd : Option Addr} {sl : Array (Option Value)} : MeetsIn prog w (Builtin.«dict.__eq__» ⟨[.ref a, .ref b], []⟩) (fun _ R s => s.heap.get? a = some { cls := .type "dict", dict := dd, data := .dict items n, slots := sl } ∧ Onx prog w s.heap b ∧ R (.ok (.ret .notImplemented)) s) := by
  intro A R s h
  obtain ⟨hp, g, d, tk, os⟩ := s
  obtain ⟨ha, ⟨⟨c, dd, sl, hl⟩, hli, htu, hdi⟩, h⟩ := h
  wp_walk using wpAny_loadPart' ha, (PySem.W.Looks.at hdi)
  exact h

theorem no_int_ne {b : Addr} {i : Int} {u : Tok} : MeetsIn prog w (Builtin.«int.__ne__» ⟨[.int i u, .ref b], []⟩) (fun _ R s => Onx prog w s.heap b ∧ R (.ok (.ret .notImplemented)) s) := by
  intro A R s h
  obtain ⟨hp, g, d, tk, os⟩ := s
  obtain ⟨⟨⟨c, dd, sl, hl⟩, _, _, _⟩, h⟩ := h
  wp_walk using wpAny_loadPart' hl, wpAny_load hl
  exact h

theorem no_bool_ne {b : Addr} {i : Bool} : MeetsIn prog w (Builtin.«int.__ne__» ⟨[.bool i, .ref b], []⟩) (fun _ R s => Onx prog w s.heap b ∧ R (.ok (.ret .notImplemented)) s) := by
  intro A R s h
  obtain ⟨hp, g, d, tk, os⟩ := s
  obtain ⟨⟨⟨c, dd, sl, hl⟩, _, _, _⟩, h⟩ := h
  wp_walk using wpAny_loadPart' hl, wpAny_load hl
  exact h

theorem no_str_ne {b : Addr} {i : Str} {u : Tok} : MeetsIn prog w (Builtin.«str.__ne__» ⟨[.str i u, .ref b], []⟩) (fun _ R s => Onx prog w s.heap b ∧ R (.ok (.ret .notImplemented)) s) := by
  intro A R s h
  obtain ⟨hp, g, d, tk, os⟩ := s
  obtain ⟨⟨⟨c, dd, sl, hl⟩, _, _, _⟩, h⟩ := h
  wp_walk using wpAny_loadPart' hl, wpAny_load hl
  exact h

theorem no_none_ne {b : Addr}  : MeetsIn prog w (Builtin.«NoneType.__ne__» ⟨[.none, .ref b], []⟩) (fun _ R s => Onx prog w s.heap b ∧ R (.ok (.ret .notImplemented)) s) := by
  intro A R s h
  obtain ⟨hp, g, d, tk, os⟩ := s
  obtain ⟨⟨⟨c, dd, sl, hl⟩, _, _, _⟩, h⟩ := h
  wp_walk using wpAny_loadPart' hl, wpAny_load hl
  exact h

theorem no_list_ne {a b : Addr} {items : Array Value} {n : Nat} {dd : Option Addr} {sl : Array (Option Value)} : MeetsIn prog w (Builtin.«list.__ne__» ⟨[.ref a, .ref b], []⟩) (fun _ R s => s.heap.get? a = some { cls := .type "list", dict := dd, data := .seq items n, slots := sl } ∧ Onx prog w s.heap b ∧ R (.ok (.ret .notImplemented)) s) := by
  intro A R s h
  obtain ⟨hp, g, d, tk, os⟩ := s
  obtain ⟨ha, ⟨⟨c, dd, sl, hl⟩, hli, htu, hdi⟩, h⟩ := h
  wp_walk using wpAny_loadPart' ha, (PySem.W.Looks.at hli)
  exact h

theorem no_tuple_ne {a b : Addr} {items : Array Value} {n : Nat} {dd : Option Addr} {sl : Array (Option Value)} : MeetsIn prog w (Builtin.«tuple.__ne__» ⟨[.ref a, .ref b], []⟩) (fun _ R s => s.heap.get? a = some { cls := .type "tuple", dict := dd, data := .seq items n, slots := sl } ∧ Onx prog w s.heap b ∧ R (.ok (.ret .notImplemented)) s) := by
  intro A R s h
  obtain ⟨hp, g, d, tk, os⟩ := s
  obtain ⟨ha, ⟨⟨c, dd, sl, hl⟩, hli, htu, hdi⟩, h⟩ := h
  wp_walk using wpAny_loadPart' ha, (PySem.W.Looks.at htu)
  exact h

theorem no_dict_ne {a b : Addr} {items : Array DictEntry} {n : Nat} {dd : Option Addr} {sl : Array (Option Value)} : MeetsIn prog w (Builtin.«dict.__ne__» ⟨[.ref a, .ref b], []⟩) (fun _ R s => s.heap.get? a = some { cls := .type "dict", dict := dd, data := .dict items n, slots := sl } ∧ Onx prog w s.heap b ∧ R (.ok (.ret .notImplemented)) s) := by
  intro A R s h
  obtain ⟨hp, g, d, tk, os⟩ := s
  obtain ⟨ha, ⟨⟨c, dd, sl, hl⟩, hli, htu, hdi⟩, h⟩ := h
  wp_walk using wpAny_loadPart' ha, (PySem.W.Looks.at hdi)
  exact h

end
end PySem.SeqAt

namespace G
open PySem PySem.Spec PyProof.Rows PySem.SeqAt L2
/-- no object of the class is one of these -/
structure Far (K : PySem.W.Frag) (C : Addr) : Prop where
  i : PySem.W.subIn K (.ref C) (.type "int") = some false
  b : PySem.W.subIn K (.ref C) (.type "bool") = some false
  s : PySem.W.subIn K (.ref C) (.type "str") = some false
  n : PySem.W.subIn K (.ref C) (.type "NoneType") = some false
  l : PySem.W.subIn K (.ref C) (.type "list") = some false
  t : PySem.W.subIn K (.ref C) (.type "tuple") = some false
  d : PySem.W.subIn K (.ref C) (.type "dict") = some false
/-- a value of a built-in kind -/
inductive Pl (H : Hp) : V → String → Prop
  | non : Pl H .non "NoneType"
  | bl (x : Bool) : Pl H (.bl x) "bool"
  | int (i : Int) : Pl H (.int i) "int"
  | str (x : Str) : Pl H (.str x) "str"
  | lst {a : Addr} {xs : List V} (e : H a = some (.lst xs)) : Pl H (.ref a) "list"
  | tup {a : Addr} {xs : List V} (e : H a = some (.tup xs)) : Pl H (.ref a) "tuple"
  | dK {a : Addr} {kvs : List (Key × V)} (e : H a = some (.dK kvs)) : Pl H (.ref a) "dict"
theorem Pl.ty {K : PySem.W.Frag} {H : Hp} {x : V} {T : String} (h : Pl H x T) : TyX K H x (.type T) := by
  cases h with
  | non => exact .base .non
  | bl x => exact .base (.bl x)
  | int i => exact .base (.int i)
  | str x => exact .base (.str x)
  | lst e => exact .base (.lst e)
  | tup e => exact .base (.tup e)
  | dK e => exact .base (.dK e)
theorem Pl.same {H H' : Hp} {x : V} {T : String} (h : Pl H x T) (e : Same H H') : Pl H' x T := by
  cases h with
  | non => exact .non
  | bl x => exact .bl x
  | int i => exact .int i
  | str x => exact .str x
  | lst h => exact .lst (e _ _ h)
  | tup h => exact .tup (e _ _ h)
  | dK h => exact .dK (e _ _ h)
section
variable {X : Cx} {pins : List (Addr × Obj)} {σ : L2.St} {H : Hp} {s : Shared} {b C dx : Addr} {fs : List (Str × V)} {A : Around} {E : Value → Shared → Prop}
theorem onx {od : Option Obj} {prog : Program} {w : World} {K : PySem.W.Frag} (X : K.In s.heap) (J : PySem.W.InstAt s.heap b (PySem.W.instObj C dx) C od) (far : Far K C) : Onx prog w s.heap b where
  at_ := ⟨_, _, _, J.1⟩
  li := J.type.andThen (PySem.W.looks_subIn X far.l)
  tu := J.type.andThen (PySem.W.looks_subIn X far.t)
  di := J.type.andThen (PySem.W.looks_subIn X far.d)
/-- a built-in kind's own == and != decline -/
theorem Pl.dec {x : V} {u : Value} {T : String} (h : Pl H x T) (I : Inv X pins σ H s) (r : RelV x u) (o : Onx X.prog X.w s.heap b) {K : PySem.W.Frag} (far : Far K C) (op : CmpOp) (hop : op = .Eq ∨ op = .NotEq) :
    s.TypeIs u T ∧ PySem.W.subIn K (.ref C) (.type T) = some false ∧ ∃ id, Slot T (cmpInfo op).2.1 id ∧ ∀ (A : Around) (E Q : Value → Shared → Prop), Q .notImplemented s → wpAny (model X.prog X.w) A (call (.builtin id) [u, .ref b]) Q E s := by
  cases h with
  | non =>
    cases (show u = Value.none from r)
    refine ⟨rfl, far.n, ?_⟩
    rcases hop with rfl | rfl
    · exact ⟨_, F.slot_NoneType_eq, fun A E Q q => call_meetsIn F.slot_NoneType_eq rfl F.entry_NoneType_eq (F.args_NoneType_eq_2 _ _) no_none_eq ⟨o, q⟩⟩
    · exact ⟨_, F.slot_NoneType_ne, fun A E Q q => call_meetsIn F.slot_NoneType_ne rfl F.entry_NoneType_ne (F.args_NoneType_ne_2 _ _) no_none_ne ⟨o, q⟩⟩
  | bl y =>
    cases (show u = Value.bool y from r)
    refine ⟨rfl, far.b, ?_⟩
    rcases hop with rfl | rfl
    · exact ⟨_, F.slot_bool_eq, fun A E Q q => call_meetsIn F.slot_bool_eq rfl F.entry_int_eq (F.args_int_eq_2 _ _) no_bool_eq ⟨o, q⟩⟩
    · exact ⟨_, F.slot_bool_ne, fun A E Q q => call_meetsIn F.slot_bool_ne rfl F.entry_int_ne (F.args_int_ne_2 _ _) no_bool_ne ⟨o, q⟩⟩
  | int i =>
    obtain ⟨t, rfl⟩ := (show ∃ t, u = Value.int i t from r)
    refine ⟨rfl, far.i, ?_⟩
    rcases hop with rfl | rfl
    · exact ⟨_, F.slot_int_eq, fun A E Q q => call_meetsIn F.slot_int_eq rfl F.entry_int_eq (F.args_int_eq_2 _ _) no_int_eq ⟨o, q⟩⟩
    · exact ⟨_, F.slot_int_ne, fun A E Q q => call_meetsIn F.slot_int_ne rfl F.entry_int_ne (F.args_int_ne_2 _ _) no_int_ne ⟨o, q⟩⟩
  | str y =>
    obtain ⟨t, rfl⟩ := (show ∃ t, u = Value.str y t from r)
    refine ⟨rfl, far.s, ?_⟩
    rcases hop with rfl | rfl
    · exact ⟨_, F.slot_str_eq, fun A E Q q => call_meetsIn F.slot_str_eq rfl F.entry_str_eq (F.args_str_eq_2 _ _) no_str_eq ⟨o, q⟩⟩
    · exact ⟨_, F.slot_str_ne, fun A E Q q => call_meetsIn F.slot_str_ne rfl F.entry_str_ne (F.args_str_ne_2 _ _) no_str_ne ⟨o, q⟩⟩
  | @lst a xs ea =>
    cases (show u = Value.ref a from r)
    obtain ⟨_, _, n, _, h1⟩ := (show ObjOk X.prog X.w H s.heap a (.lst xs) from I.hok a _ ea)
    refine ⟨⟨_, h1, rfl⟩, far.l, ?_⟩
    rcases hop with rfl | rfl
    · exact ⟨_, F.slot_list_eq, fun A E Q q => call_meetsIn F.slot_list_eq ⟨_, h1, rfl⟩ F.entry_list_eq (F.args_list_eq_2 _ _) no_list_eq ⟨h1, o, q⟩⟩
    · exact ⟨_, F.slot_list_ne, fun A E Q q => call_meetsIn F.slot_list_ne ⟨_, h1, rfl⟩ F.entry_list_ne (F.args_list_ne_2 _ _) no_list_ne ⟨h1, o, q⟩⟩
  | @tup a xs ea =>
    cases (show u = Value.ref a from r)
    obtain ⟨_, _, _, ob, h1, h2, n, h3⟩ := (show ObjOk X.prog X.w H s.heap a (.tup xs) from I.hok a _ ea)
    obtain ⟨oc, od, dt, sl⟩ := ob
    simp only at h2 h3
    subst h2 h3
    refine ⟨⟨_, h1, rfl⟩, far.t, ?_⟩
    rcases hop with rfl | rfl
    · exact ⟨_, F.slot_tuple_eq, fun A E Q q => call_meetsIn F.slot_tuple_eq ⟨_, h1, rfl⟩ F.entry_tuple_eq (F.args_tuple_eq_2 _ _) no_tuple_eq ⟨h1, o, q⟩⟩
    · exact ⟨_, F.slot_tuple_ne, fun A E Q q => call_meetsIn F.slot_tuple_ne ⟨_, h1, rfl⟩ F.entry_tuple_ne (F.args_tuple_ne_2 _ _) no_tuple_ne ⟨h1, o, q⟩⟩
  | @dK a kvs ea =>
    cases (show u = Value.ref a from r)
    obtain ⟨_, _, vs, _, p⟩ := (show ObjOk X.prog X.w H s.heap a (.dK kvs) from I.hok a _ ea)
    obtain ⟨ob, es, ep, h1, h2, h3, _⟩ := p
    obtain ⟨oc, od, dt, sl⟩ := ob
    obtain ⟨h4, h5, h6⟩ := h2
    simp only at h3 h4 h5 h6
    subst h3 h4 h5 h6
    refine ⟨⟨_, h1, rfl⟩, far.d, ?_⟩
    rcases hop with rfl | rfl
    · exact ⟨_, F.slot_dict_eq, fun A E Q q => call_meetsIn F.slot_dict_eq ⟨_, h1, rfl⟩ F.entry_dict_eq (F.args_dict_eq_2 _ _) no_dict_eq ⟨h1, o, q⟩⟩
    · exact ⟨_, F.slot_dict_ne, fun A E Q q => call_meetsIn F.slot_dict_ne ⟨_, h1, rfl⟩ F.entry_dict_ne (F.args_dict_ne_2 _ _) no_dict_ne ⟨h1, o, q⟩⟩
end
end G
namespace G
open PySem PySem.Spec PyProof.Rows PySem.SeqAt L2
section
variable {M : Model} {prog : Program} {w : World} {A : Around} {E : Value → Shared → Prop} {s : Shared} {K : PySem.W.Frag} {x C f : Addr} {ox : Obj} {od : Option Obj} {y : Value}
/-- an own class keeps object's != -/
structure NeM (K : PySem.W.Frag) (C : Addr) : Prop where
  ne : PySem.W.findIn K (.ref C) "__ne__" = some (some (.builtin "object.__ne__"))
  ob : PySem.W.mroIn K C (.type "object") = some true
theorem ifBound_objNe {args : List Value} {Q : Option Value → Shared → Prop} (X : K.In s.heap) (I : PySem.W.InstAt s.heap x ox C od) (hs : PySem.W.findIn K (.ref C) "__ne__" = some (some (.builtin "object.__ne__")))
    (h : wpAny M A (call (.builtin "object.__ne__") (.ref x :: args)) (fun v => Q (some v)) E s) : wpAny M A (callSpecialIfBound? (.ref x) "__ne__" args) Q E s := by
  simp only [callSpecialIfBound?, bindSpecialIfBound?]
  refine wpAny_holding (wpAny_bind (wpAny_bind (wpAny_bind (I.type.here ((PySem.W.looks_findIn X hs).here ?_)))))
  refine wpAny_bind (wpAny_askSetting (wpAny_ite ?_))
  have fin : wpAny M A (call (.builtin "object.__ne__") ([.ref x] ++ args) >>= fun v => pure (some v)) Q E s := wpAny_bind (wpAny_mono h (fun v s' h' => wpAny_pure h') fun _ _ h' => h')
  split
  · exact wpAny_bind (wpAny_of_eq (F.cmp_object.ne.bind _) (wpAny_pure (by exact fin)))
  · exact wpAny_tryCatch (wpAny_bind (wpAny_of_eq (F.cmp_object.ne.bind _) (wpAny_pure (by exact fin))))
theorem try_ne {Q : Option Value → Shared → Prop} (X : K.In s.heap) (I : PySem.W.InstAt s.heap x ox C od) (N : NeM K C) (he : PySem.W.findIn K (.ref C) "__eq__" = some (some (.ref f))) (hf : PySem.W.isFn K (.ref f) = true) (hu : A.units + 1 < cLine)
    (h : wpAny (model prog w) A.in1 (call (.ref f) [.ref x, y]) (fun v s' => ∃ k, v = .bool k ∧ Q (some (.bool (!k))) s') E s) : wpAny (model prog w) A (tryCompare (.ref x) "__ne__" y) Q E s := by
  unfold tryCompare
  refine wpAny_bind (ifBound_objNe X I N.ne ?_)
  refine wpAny_call (codeAny_call_builtin F.cmp_object.ne.plain F.cmpEntry_ne (PySem.W.check_slot F.cmpKind_ne F.cmpSplit_ne (I.type.andThen (PySem.W.looks_mroIn X N.ob)) (F.cmpArgs_ne _ _) ?_))
  unfold Builtin.«object.__ne__»
  repeat (first
    | with_reducible refine wpAny_cRoomFor hu ?_
    | (refine wpAny_bind (m := callSpecialIfBound? (.ref x) (Str.ofString "__eq__") [y]) (PySem.W.ifBound_K X I he hf (wpAny_mono h (fun r s' hr => by
          obtain ⟨b, rfl, hq⟩ := hr
          repeat (first | exact wpAny_pure (wpAny_pure hq) | exact wpAny_pure hq | (refine wpAny_bind (m := truthy (.bool _)) (wpAny_truthy_bool ?_)) | wp_step)) fun _ _ e => e)))
    | wp_step)
end
end G
namespace G
open PySem PySem.Spec PyProof.Rows PySem.SeqAt L2
section
variable {prog : Program} {w : World} {A : Around} {E : Value → Shared → Prop} {s : Shared} {K : PySem.W.Frag} {x C f : Addr} {ox : Obj} {od : Option Obj} {y : Value}
/-- the left one declines, the right one's class answers -/
theorem rc_refl {op : CmpOp} {u : Value} {T id : String} {Q : Value → Shared → Prop} (hu : A.units < cLine) (ht : s.TypeIs u T) (X : K.In s.heap) (I : PySem.W.InstAt s.heap x ox C od) (hsub : PySem.W.subIn K (.ref C) (.type T) = some false)
    (sl : Slot T (cmpInfo op).2.1 id) (hd : ∀ (A : Around) (E Q : Value → Shared → Prop), Q .notImplemented s → wpAny (model prog w) A (call (.builtin id) [u, .ref x]) Q E s)
    (h : wpAny (model prog w) A (tryCompare (.ref x) (cmpInfo op).2.2 u) (fun r s' => ∃ v, r = some v ∧ Q v s') E s) : wpAny (model prog w) A (richCompare op u (.ref x)) Q E s := by
  rcases hi : cmpInfo op with ⟨sym, m, r⟩
  rw [hi] at sl h
  simp only [richCompare, hi, ht.oneThing_none]
  refine wpAny_holding (wpAny_bind (wpAny_cRoomFor hu ?_))
  refine wpAny_bind (wpAny_typeOf ht (wpAny_bind (I.type.here ?_)))
  have hne : (Value.type T != Value.ref C) = true := by simp
  simp only [hne, if_true]
  refine wpAny_bind ((PySem.W.looks_subIn X hsub).here ?_)
  simp only [Bool.false_eq_true, if_false, Bool.not_false, if_true]
  refine wpAny_bind (m := tryCompare u _ (.ref x)) (wpAny_tryCompare_declines ht sl (hd _ _ _ ⟨rfl, ?_⟩))
  refine wpAny_bind (m := tryCompare (.ref x) _ u) (wpAny_mono h (fun r s' z => ?_) fun _ _ e => e)
  obtain ⟨v, rfl, q⟩ := z
  exact wpAny_pure q
theorem rc_ne {tb : Value} {Q : Value → Shared → Prop} (hu : A.units < cLine) (X : K.In s.heap) (I : PySem.W.InstAt s.heap x ox C od) (hb : PySem.W.Looks (model prog w) s.heap (typeOf y) tb) (hn : PySem.W.notFirst K C tb = true)
    (one : wpAny (model prog w) A (tryCompare (.ref x) "__ne__" y) (fun r s' => ∃ v, r = some v ∧ Q v s') E s) : wpAny (model prog w) A (richCompare .NotEq (.ref x) y) Q E s := by
  unfold richCompare
  simp only [oneThing_ref]
  rw [cmpInfo_NotEq]
  refine wpAny_holding (wpAny_bind (wpAny_cRoomFor hu ?_))
  refine wpAny_bind (I.type.here (wpAny_bind (hb.here ?_)))
  split
  · rename_i q
    have e : PySem.W.subIn K tb (.ref C) = some false := by
      rcases Bool.or_eq_true_iff.mp hn with e | e
      · rw [beq_iff_eq.mp e] at q; simp at q
      · exact beq_iff_eq.mp e
    refine wpAny_bind ((PySem.W.looks_subIn X e).here ?_)
    simp only [Bool.false_eq_true, if_false]
    refine wpAny_bind (wpAny_mono one (fun r s' z => ?_) fun _ _ e => e)
    obtain ⟨v, rfl, hq⟩ := z
    exact wpAny_pure hq
  · refine wpAny_bind (wpAny_pure ?_)
    simp only [Bool.false_eq_true, if_false]
    refine wpAny_bind (wpAny_mono one (fun r s' z => ?_) fun _ _ e => e)
    obtain ⟨v, rfl, hq⟩ := z
    exact wpAny_pure hq
end
section
variable {X : Cx} {k : Nat} {f C : Addr} {fd : FuncData} {ps : List Str} {sp : Sp} {E : XK}
/-- a def run from an inner step of a built-in -/
theorem run_in {CX : CXT} {pins : List (Addr × Obj)} {σ : L2.St} {H : Hp} {s : Shared} {Q : VK} {us : List Value} {vs : List V} {A : Around} (F : FnOk X.prog X.w X.K X.mg X.base CX k f fd ps sp) (hA : A.frames = X.A.frames) (hr : Room k A) (hb : Binds X.K fd ps [])
    (hx : Passes CX X E) (I : Inv X pins σ H s) (r : Vals vs us) (h : sp vs H Q E) : wpAny (model X.prog X.w) A (call (.ref f) us) (EP X pins σ Q) X.xe s := by
  have e0 : Env0 X.prog X.w X.K X.mg X.base A X.stack s H := by
    have e := I.env0
    exact ⟨by rw [hA]; exact e.frames, e.mod, e.bs, e.bsz, e.funs, e.frf, e.hok, e.bare⟩
  have hl := F.len _ _ _ _ h
  refine wpAny_call (codeAny_mono (F.run A X.stack s H ⟨us, []⟩ us vs Q E hr e0 (by
    have := hb s us I.kIn (by rw [List.append_nil, ← r.length]; exact hl)
    simpa using this) r h) fun r s' hq => ?_)
  cases r with
  | error e => exact hx pins σ H s e s' I hq
  | ok fl =>
    cases fl with
    | ret w => exact I.after hq
    | next => exact False.elim hq
    | brk => exact False.elim hq
    | cont => exact False.elim hq
/-- x != y by the left one's __eq__ -/
def rNeO (K : PySem.W.Frag) (C : Addr) (sp : Sp) (E : XK) : R2 := fun x y H Q => ∃ a dx fs t, x = .ref a ∧ H a = some (.ins C dx fs) ∧ TyX K H y t ∧ PySem.W.notFirst K C t = true ∧ sp [x, y] H (fun v H' => ∃ c, v = .bl c ∧ Q (.bl (!c)) H') E
theorem op_neO {CX : CXT} (F : FnOk X.prog X.w X.K X.mg X.base CX k f fd ps sp) (hr : Room (k + 1) X.A) (hb : Binds X.K fd ps []) (hx : Passes CX X E) (m : OpM X.K C "__eq__" f) (N : NeM X.K C) :
    OpR X (compareOp .NotEq) (rNeO X.K C sp E) := by
  intro pins s σ H x y v u Q I rx ry h
  obtain ⟨a, dx, fs, t, rfl, ea, ty, hn, q⟩ := h
  obtain rfl : v = Value.ref a := rx
  obtain ⟨mA, O, _⟩ := ins_get I.hok ea
  obtain ⟨od, J, _⟩ := O.look
  obtain ⟨mm, fr⟩ := I.fr
  obtain ⟨P, Z, hp, hne⟩ := kit_of I ry ty
  show wpAny _ _ (richCompare .NotEq (.ref a) u) _ _ _
  have lk : PySem.W.Looks (model X.prog X.w) s.heap (typeOf u) t := Z.ty _ _ I.kIn hp
  refine rc_ne hr.units0 I.kIn J lk hn ?_
  refine try_ne I.kIn J N m.at_ m.fn (by have := hr.un; omega) ?_
  refine wpAny_mono (run_in (A := X.A.in1) (us := [.ref a, u]) (vs := [.ref a, y]) F rfl hr.in1 hb hx I (.cons rfl (.cons ry .nil)) q) (fun w s' hw => ?_) fun _ _ e => e
  obtain ⟨z, H', I', rz, c, ez, qz⟩ := hw
  subst ez
  cases (show w = Value.bool c from rz)
  exact ⟨c, rfl, .bool (!c), rfl, .bl (!c), H', I', rfl, qz⟩
/-- v == x, v of a built-in kind, by x's __eq__ -/
def rEqR (C : Addr) (sp : Sp) (E : XK) : R2 := fun x y H Q => ∃ b dx fs T, y = .ref b ∧ H b = some (.ins C dx fs) ∧ Pl H x T ∧ sp [y, x] H Q E
theorem op_eqR {CX : CXT} (F : FnOk X.prog X.w X.K X.mg X.base CX k f fd ps sp) (hr : Room k X.A) (hb : Binds X.K fd ps []) (hx : Passes CX X E) (m : OpM X.K C "__eq__" f) (far : Far X.K C) :
    OpR X (compareOp .Eq) (rEqR C sp E) := by
  intro pins s σ H x y v u Q I rx ry h
  obtain ⟨b, dx, fs, T, rfl, eb, pl, q⟩ := h
  obtain rfl : u = Value.ref b := ry
  obtain ⟨mA, O, _⟩ := ins_get I.hok eb
  obtain ⟨od, J, _⟩ := O.look
  obtain ⟨ht, hs, id, sl, hd⟩ := pl.dec I rx (onx I.kIn J far) far .Eq (.inl rfl)
  show wpAny _ _ (richCompare .Eq v (.ref b)) _ _ _
  refine rc_refl hr.units0 ht I.kIn J hs sl hd ?_
  show wpAny _ _ (tryCompare (.ref b) "__eq__" v) _ _ _
  unfold tryCompare
  refine wpAny_bind (PySem.W.ifBound_K I.kIn J m.at_ m.fn (wpAny_mono (run_fn (us := [.ref b, v]) (vs := [.ref b, x]) F hr hb .nil hx I (.cons rfl (.cons rx .nil)) q) (fun w s' hw => ?_) fun _ _ e => e))
  obtain ⟨z, H', I', rz, qz⟩ := hw
  have cb : PySem.W.CmpBack (EP X pins σ Q) w s' := mono_rel rz ⟨z, H', I', rz, qz⟩
  cases w <;> first | exact cb.elim | exact wpAny_pure ⟨_, rfl, ⟨z, H', I', rz, qz⟩⟩
/-- v != x -/
def rNeR (C : Addr) (sp : Sp) (E : XK) : R2 := fun x y H Q => ∃ b dx fs T, y = .ref b ∧ H b = some (.ins C dx fs) ∧ Pl H x T ∧ sp [y, x] H (fun v H' => ∃ c, v = .bl c ∧ Q (.bl (!c)) H') E
theorem op_neR {CX : CXT} (F : FnOk X.prog X.w X.K X.mg X.base CX k f fd ps sp) (hr : Room (k + 1) X.A) (hb : Binds X.K fd ps []) (hx : Passes CX X E) (m : OpM X.K C "__eq__" f) (N : NeM X.K C) (far : Far X.K C) :
    OpR X (compareOp .NotEq) (rNeR C sp E) := by
  intro pins s σ H x y v u Q I rx ry h
  obtain ⟨b, dx, fs, T, rfl, eb, pl, q⟩ := h
  obtain rfl : u = Value.ref b := ry
  obtain ⟨mA, O, _⟩ := ins_get I.hok eb
  obtain ⟨od, J, _⟩ := O.look
  obtain ⟨ht, hs, id, sl, hd⟩ := pl.dec I rx (onx I.kIn J far) far .NotEq (.inr rfl)
  show wpAny _ _ (richCompare .NotEq v (.ref b)) _ _ _
  refine rc_refl hr.units0 ht I.kIn J hs sl hd ?_
  refine try_ne I.kIn J N m.at_ m.fn (by have := hr.un; omega) ?_
  refine wpAny_mono (run_in (A := X.A.in1) (us := [.ref b, v]) (vs := [.ref b, x]) F rfl hr.in1 hb hx I (.cons rfl (.cons rx .nil)) q) (fun w s' hw => ?_) fun _ _ e => e
  obtain ⟨z, H', I', rz, c, ez, qz⟩ := hw
  subst ez
  cases (show w = Value.bool c from rz)
  exact ⟨c, rfl, .bool (!c), rfl, .bl (!c), H', I', rfl, qz⟩
end
end G
namespace G
open PySem PySem.Spec PyProof.Rows L2
/-- x is a bool, x None or a bool -/
def rIsNB : R2 := fun x y H Q => ∃ b, y = .bl b ∧ ((x = .non ∧ Q (.bl false) H) ∨ ∃ a, x = .bl a ∧ Q (.bl (decide (a = b))) H)
def rIsNn : R2 := fun x y H Q => y = .non ∧ Q (.bl (decide (x = .non))) H
def rNotNn : R2 := fun x y H Q => y = .non ∧ Q (.bl (!decide (x = .non))) H
theorem op_isNn {X : Cx} : OpR X (compareOp .Is) rIsNn := op_isN
theorem op_notNn {X : Cx} : OpR X (compareOp .IsNot) rNotNn := op_notN
theorem op_isNB {X : Cx} : OpR X (compareOp .Is) rIsNB := by
  intro pins s σ H x y v u Q I rx ry h
  obtain ⟨b, rfl, h⟩ := h
  rcases h with ⟨rfl, q⟩ | ⟨a, rfl, q⟩
  · cases (show v = Value.none from rx)
    cases (show u = Value.bool b from ry)
    exact wpAny_is_other rfl (fun z => nomatch z) ⟨.bl false, H, I, rfl, q⟩
  · exact op_isBl pins s σ H (.bl a) (.bl b) v u Q I rx ry ⟨a, b, rfl, rfl, q⟩
section
variable {C a : Addr} {H : Hp} {Q : VK} {E : XK} {K : PySem.W.Frag} {x : V} {T : String} {i : Int × Int}
theorem w_isNB0 {b : Bool} (q : Q (.bl false) H) : rIsNB .non (.bl b) H Q := ⟨b, rfl, .inl ⟨rfl, q⟩⟩
theorem w_isNB {a b : Bool} (q : Q (.bl (decide (a = b))) H) : rIsNB (.bl a) (.bl b) H Q := ⟨b, rfl, .inr ⟨a, rfl, q⟩⟩
theorem w_isN {b : Bool} (e : decide (x = .non) = b) (q : Q (.bl b) H) : rIsNn x .non H Q := ⟨rfl, by rw [e]; exact q⟩
theorem w_notN {b : Bool} (e : decide (x = .non) = b) (q : Q (.bl (!b)) H) : rNotNn x .non H Q := ⟨rfl, by rw [e]; exact q⟩
/-- a walk over a tuple -/
theorem w_walkT {t : Addr} {g : TG} {tb : TS} {D : Ends} {σ : L2.St} {xs : List V} (hl : SqT K H t xs) (Pv : Nat → L2.St → Hp → Prop) (h0 : Pv 0 σ H) (hk : ∀ i σ' H', i ≤ xs.length → Pv i σ' H' → SqT K H' t xs)
    (hs : ∀ (i : Nat) x σ' H', xs[i]? = some x → Pv i σ' H' → g x σ' H' fun σ2 H2 => tb { nx := Pv (i + 1), rt := D.rt, ct := Pv (i + 1), bk := D.nx } σ2 H2) (hd : ∀ σ' H', Pv xs.length σ' H' → D.nx σ' H') :
    ∃ b, V.ref t = .ref b ∧ (∃ xs, SqT K H b xs) ∧ ForW (Itt K b) g tb D σ H := ⟨t, rfl, ⟨_, hl⟩, for_tup Pv h0 hk hs hd⟩
end
end G
namespace G
open PySem PySem.Spec PyProof.Rows L2
theorem notFirst_ty {K : PySem.W.Frag} {C : Addr} {T : String} {l : List String} (h : fastBuiltinMro T = some (l.map Value.type)) : PySem.W.notFirst K C (.type T) = true := by
  have e : PySem.W.subIn K (.type T) (.ref C) = some false := by
    show (fastBuiltinMro T).map (·.contains (.ref C)) = some false
    rw [h]
    simp
  unfold PySem.W.notFirst
  rw [e]
  simp
theorem Pl.notFirst {K : PySem.W.Frag} {C : Addr} {H : Hp} {x : V} {T : String} (h : Pl H x T) : PySem.W.notFirst K C (.type T) = true := by
  cases h with
  | non => exact notFirst_ty (l := ["NoneType", "object"]) (by decide +kernel)
  | bl x => exact notFirst_ty (l := ["bool", "int", "object"]) (by decide +kernel)
  | int i => exact notFirst_ty (l := ["int", "object"]) (by decide +kernel)
  | str x => exact notFirst_ty (l := ["str", "object"]) (by decide +kernel)
  | lst e => exact notFirst_ty (l := ["list", "object"]) (by decide +kernel)
  | tup e => exact notFirst_ty (l := ["tuple", "object"]) (by decide +kernel)
  | dK e => exact notFirst_ty (l := ["dict", "object"]) (by decide +kernel)
section
variable {C p q : Addr} {H : Hp} {Q : VK} {E : XK} {K : PySem.W.Frag} {y : V} {T : String} {x z : Int × Int}
theorem w_eqPl (R : Rat C H p x.1 x.2) (h : Pl H y T) (k : PySem.W.kitOne K (.type T) (.ref C) = some false) (w : Q (.bl false) H) : rEqO K C (spEq K C) E (.ref p) y H Q :=
  let ⟨dx, e⟩ := R; ⟨p, dx, _, _, rfl, e, h.ty, h.notFirst, .inr ⟨p, x, y, _, rfl, ⟨dx, e⟩, h.ty, k, w⟩⟩
theorem w_nePl (R : Rat C H p x.1 x.2) (h : Pl H y T) (k : PySem.W.kitOne K (.type T) (.ref C) = some false) (w : Q (.bl true) H) : rNeO K C (spEq K C) E (.ref p) y H Q :=
  let ⟨dx, e⟩ := R; ⟨p, dx, _, _, rfl, e, h.ty, h.notFirst, .inr ⟨p, x, y, _, rfl, ⟨dx, e⟩, h.ty, k, false, rfl, w⟩⟩
theorem w_eqPr (R : Rat C H p x.1 x.2) (h : Pl H y T) (k : PySem.W.kitOne K (.type T) (.ref C) = some false) (w : Q (.bl false) H) : rEqR C (spEq K C) E y (.ref p) H Q :=
  let ⟨dx, e⟩ := R; ⟨p, dx, _, _, rfl, e, h, .inr ⟨p, x, y, _, rfl, ⟨dx, e⟩, h.ty, k, w⟩⟩
theorem w_nePr (R : Rat C H p x.1 x.2) (h : Pl H y T) (k : PySem.W.kitOne K (.type T) (.ref C) = some false) (w : Q (.bl true) H) : rNeR C (spEq K C) E y (.ref p) H Q :=
  let ⟨dx, e⟩ := R; ⟨p, dx, _, _, rfl, e, h, .inr ⟨p, x, y, _, rfl, ⟨dx, e⟩, h.ty, k, false, rfl, w⟩⟩
theorem w_neR (I : InsTy K C) (R : Rat C H p x.1 x.2) (S : Rat C H q z.1 z.2) (k : Q (.bl (!decide (x = z))) H) : rNeO K C (spEq K C) E (.ref p) (.ref q) H Q :=
  let ⟨dx, e⟩ := R; let ⟨dy, e'⟩ := S
  ⟨p, dx, _, _, rfl, e, I _ _ _ _ e', by unfold PySem.W.notFirst; simp, .inl ⟨p, q, x, z, rfl, ⟨dx, e⟩, ⟨dy, e'⟩, _, rfl, k⟩⟩
end
/-! ### what is less -/
theorem low_parts {u v : Int} (h : 0 < v) : ∃ g : Int, 0 < g ∧ u = g * (low u v).1 ∧ v = g * (low u v).2 := by
  have g := Int.gcd_pos_of_ne_zero_right u (show v ≠ 0 by omega)
  refine ⟨(Int.gcd u v : Int), by omega, ?_, ?_⟩
  · exact (Int.mul_ediv_cancel' (Int.gcd_dvd_left u v)).symm
  · exact (Int.mul_ediv_cancel' (Int.gcd_dvd_right u v)).symm
theorem lt_low {a b u v : Int} (h : 0 < v) : (a * (low u v).2 < (low u v).1 * b) ↔ a * v < u * b := by
  obtain ⟨g, g0, e1, e2⟩ := low_parts (u := u) h
  generalize hc : (low u v).1 = c at *
  generalize hd : (low u v).2 = d at *
  rw [e1, e2, Int.mul_left_comm a g d, Int.mul_assoc g c b]
  exact (Int.mul_lt_mul_left g0).symm
theorem low_lt {a b u v : Int} (h : 0 < v) : ((low u v).1 * b < a * (low u v).2) ↔ u * b < a * v := by
  obtain ⟨g, g0, e1, e2⟩ := low_parts (u := u) h
  generalize hc : (low u v).1 = c at *
  generalize hd : (low u v).2 = d at *
  rw [e1, e2, Int.mul_left_comm a g d, Int.mul_assoc g c b]
  exact (Int.mul_lt_mul_left g0).symm
theorem eq_low {n : Nat} {x : Int × Int} {u v : Int} (hx : Lp n x) (h : 0 < v) : x = low u v ↔ x.1 * v = u * x.2 := by
  obtain ⟨g, g0, e1, e2⟩ := low_parts (u := u) h
  constructor
  · intro e
    rw [← e] at e1 e2
    rw [e1, e2]
    grind
  · intro e
    have bu : Bt (u.natAbs.log2 + v.natAbs.log2 + 2) u := Bt.any.mono (by omega)
    have bv : Bt (u.natAbs.log2 + v.natAbs.log2 + 2) v := Bt.any.mono (by omega)
    refine val_inj hx (Lp.low h bu bv) ?_
    rw [val_low h]
    unfold val
    have q1 := cast_ne (show x.2 ≠ 0 by have := hx.1; omega)
    have q2 := cast_ne (show v ≠ 0 by omega)
    have c : (x.1 : _root_.Rat) * v = u * x.2 := by exact_mod_cast e
    grind
theorem jn2_pos {t y : Int × Int} (ht : 0 < t.1) (hy : 0 < y.1) (t2 : 0 < t.2) (y2 : 0 < y.2) : 0 < (jn 2 t y).1 := by
  rw [jn_mul]
  obtain ⟨g, g0, e1, e2⟩ := low_parts (u := t.1 * y.1) (Int.mul_pos t2 y2)
  have p := Int.mul_pos ht hy
  rw [e1] at p
  generalize (low (t.1 * y.1) (t.2 * y.2)).1 = c at *
  by_cases hc : 0 < c
  · exact hc
  · have z := Int.mul_le_mul_of_nonneg_left (show c ≤ 0 by omega) (show 0 ≤ g by omega)
    rw [Int.mul_zero] at z
    omega
theorem lt_add {h t : Int × Int} (h2 : 0 < h.2) (t1 : 0 < t.1) (t2 : 0 < t.2) : h.1 * (jn 0 h t).2 < (jn 0 h t).1 * h.2 := by
  rw [jn_add, lt_low (Int.mul_pos h2 t2), Int.add_mul]
  have p := Int.mul_pos (Int.mul_pos t1 h2) h2
  have e : h.1 * (h.2 * t.2) = h.1 * t.2 * h.2 := by rw [Int.mul_comm h.2, Int.mul_assoc]
  rw [e]
  omega
theorem sub_lt {h t : Int × Int} (h2 : 0 < h.2) (t1 : 0 < t.1) (t2 : 0 < t.2) : (jn 1 h t).1 * h.2 < h.1 * (jn 1 h t).2 := by
  rw [jn_sub, low_lt (Int.mul_pos h2 t2), Int.sub_mul]
  have p := Int.mul_pos (Int.mul_pos t1 h2) h2
  have e : h.1 * (h.2 * t.2) = h.1 * t.2 * h.2 := by rw [Int.mul_comm h.2, Int.mul_assoc]
  rw [e]
  omega
end G

/-! Raising: making, methods that raise; defs that are called with the exception that is handled. -/
namespace G
open PySem PySem.Spec PyProof.Rows L2
section
variable {X : Cx} {CX : CXT} {k : Nat} {f C : Addr} {fd : FuncData} {ps : List Str} {sp : Sp} {E : L2.St → XK} {x m : Str} {p pos apos : Pos} {e o : Expr} {es : List Expr} {ta : TE} {t : TA} {ds : List Value} {dvs : List V}
/-- C(e, ..), __init__ may raise -/
theorem run_makeS {pins : List (Addr × Obj)} {σ : L2.St} {H : Hp} {s : Shared} {Q : VK} {us : List Value} {vs : List V} (M : Mk X.K C f) (F : FnOk X.prog X.w X.K X.mg X.base CX k f fd ps sp) (hr : Room (k + 1) X.A) (hb : Binds X.K fd ps ds) (hd : Vals dvs ds)
    (hx : PassesAt CX X σ (E σ)) (I : Inv X pins σ H s) (r : Vals vs us)
    (un : ∀ (C : Addr) (x dx : Addr) (H' : Hp), H x = none → H dx = none → dx ≠ x → True)
    (hpass : ∀ (x dx : Addr) (s1 : Shared) (e : Value) (s' : Shared), H x = none → H dx = none → Inv X pins σ (upd (upd H dx (.own x)) x (.ins C dx [])) s1 → CX X.stack (upd (upd H dx (.own x)) x (.ins C dx [])) s1 (E σ) e s' → X.xe e s')
    (h : ∀ x dx, H x = none → H dx = none → dx ≠ x → sp (.ref x :: (vs ++ dvs)) (upd (upd H dx (.own x)) x (.ins C dx [])) (fun v H2 => v = .non ∧ Q (.ref x) H2) (E σ)) :
    wpAny (model X.prog X.w) X.A (call (.ref C) us) (EP X pins σ Q) X.xe s := by
  have f1 := I.hok.fresh (Nat.le_succ s.heap.objs.size)
  have f2 := I.hok.fresh (Nat.le_refl s.heap.objs.size)
  have hq := h (s.heap.objs.size + 1) s.heap.objs.size f1 f2 (Nat.ne_of_lt (Nat.lt_succ_self _))
  have I2 := Inv.made (C := C) I
  have r2 : Vals (V.ref (s.heap.objs.size + 1) :: (vs ++ dvs)) (Value.ref (s.heap.objs.size + 1) :: (us ++ ds)) := .cons rfl (r.append hd)
  have hl : (Value.ref (s.heap.objs.size + 1) :: us ++ ds).length = ps.length := by
    have e := r2.length
    rw [F.len _ _ _ _ hq] at e
    exact e.symm
  refine wpAny_call (make_map (f := f) I.kIn M.makes M.init (beq_iff_eq.mp M.fn) (codeAny_mono (F.run _ X.stack _ _ ⟨Value.ref (s.heap.objs.size + 1) :: us, []⟩ (Value.ref (s.heap.objs.size + 1) :: (us ++ ds)) _ _ (E σ) (hr.make C us [])
    (I2.env0.make C us []) (hb _ (Value.ref (s.heap.objs.size + 1) :: us) I2.kIn hl) r2 hq) fun r s' hq' => ?_))
  cases r with
  | error e => exact hpass _ _ _ e s' f1 f2 I2 hq'
  | ok fl =>
    cases fl with
    | ret u =>
      obtain ⟨v, H', I3, rv, ev, q3⟩ := I2.after hq'
      subst ev
      exact ⟨rv, ⟨V.ref (s.heap.objs.size + 1), H', I3, rfl, q3⟩⟩
    | next => exact False.elim hq'
    | brk => exact False.elim hq'
    | cont => exact False.elim hq'
def tMakeS (C : Addr) (sp : Sp) (dvs : List V) (E : L2.St → XK) (t : TA) : TE := fun σ H Q => t σ H fun vs H1 => ∀ x dx, H1 x = none → H1 dx = none → dx ≠ x → sp (.ref x :: (vs ++ dvs)) (upd (upd H1 dx (.own x)) x (.ins C dx [])) (fun v H2 => v = .non ∧ Q (.ref x) H2) (E σ)
theorem pe_makeS (M : Mk X.K C f) (F : FnOk X.prog X.w X.K X.mg X.base CX k f fd ps sp) (hr : Room (k + 1) X.A) (hg : Gl X x) (hm : X.mg x = some (.ref C)) (hb : Binds X.K fd ps ds) (hd : Vals dvs ds) (hx : ∀ σ, PassesAt CX X σ (E σ))
    (ha : PA X (e :: es) t) (hdb : (x == ("__debug__" : Str)) = false := by decide) (he : starEach (e :: es) X.env = (false, eval e X.env) :: starEach es X.env := by rfl) (hpl : (backTo pos (starEach es X.env)).any (·.1) = false := by rfl) :
    PE X (.Call (.Name x p) (e :: es) [] pos) (tMakeS C sp dvs E t) := by
  refine ⟨fun pins s σ H Q I h => ?_⟩
  refine wpAny_Call_Name_kw (ld_glob I hg hm ?_ hdb)
  refine PySem.W.callWith_K (h₀ := X.base) I.ok.mod.kin M.kp (thn (ha.run pos pins s σ H _ I h) fun us s1 ⟨vs, H1, I1, r, q⟩ => ⟨I1.kIn, ?_⟩) he hpl
  exact run_makeS M F hr hb hd (hx σ) I1 r (fun _ _ _ _ _ _ _ => True.intro) (fun x dx s1 e s' _ _ J c => hx σ pins _ s1 e s' J c) q
theorem run_fnSD {pins : List (Addr × Obj)} {σ : L2.St} {H : Hp} {s : Shared} {Q : VK} {us : List Value} {vs : List V} (F : FnOk X.prog X.w X.K X.mg X.base CX k f fd ps sp) (hr : Room k X.A) (hb : Binds X.K fd ps ds) (hd : Vals dvs ds) (hx : PassesAt CX X σ (E σ))
    (I : Inv X pins σ H s) (r : Vals vs us) (h : sp (vs ++ dvs) H Q (E σ)) : wpAny (model X.prog X.w) X.A (call (.ref f) us) (EP X pins σ Q) X.xe s := by
  have rr : Vals (vs ++ dvs) (us ++ ds) := r.append hd
  refine wpAny_call (codeAny_mono (F.run X.A X.stack s H ⟨us, []⟩ (us ++ ds) (vs ++ dvs) Q (E σ) hr I.env0 (hb s us I.kIn (by rw [← rr.length]; exact F.len _ _ _ _ h)) rr h) fun r s' hq => ?_)
  cases r with
  | error e => exact hx pins H s e s' I hq
  | ok fl =>
    cases fl with
    | ret u => exact I.after hq
    | next => exact False.elim hq
    | brk => exact False.elim hq
    | cont => exact False.elim hq
def tMethS (C : Addr) (m : Str) (sp : Sp) (dvs : List V) (E : L2.St → XK) (ta : TE) (t : TA) : TE := fun σ H Q => ta σ H fun x H1 => ∃ a dx fs, x = .ref a ∧ H1 a = some (.ins C dx fs) ∧ fs.lookup m = none ∧ t σ H1 fun vs H2 => sp (x :: (vs ++ dvs)) H2 Q (E σ)
theorem pe_methS {pl : Sem Bool} (he : PE X o ta) (c : Cls X.K C) (hm : Meth X.K C m f) (F : FnOk X.prog X.w X.K X.mg X.base CX k f fd ps sp) (hr : Room k X.A) (hb : Binds X.K fd ps ds) (hd : Vals dvs ds) (hx : ∀ σ, PassesAt CX X σ (E σ)) (ha : PA X (e :: es) t)
    (hst : starEach (e :: es) X.env = (false, eval e X.env) :: starEach es X.env := by rfl) (hpl : (backTo pos (starEach es X.env)).any (·.1) = false := by rfl)
    (ht : eval (.Call (.Attribute o m apos) (e :: es) [] pos) X.env = (do
      let ov ← eval o X.env
      standAt apos.atName
      let (f, first) ← holding [ov] (getMethod ov m pl)
      callWith pos f first (backTo pos (starEach (e :: es) X.env)) (backToKw pos (keywordEach [] X.env))) := by rfl) :
    PE X (.Call (.Attribute o m apos) (e :: es) [] pos) (tMethS C m sp dvs E ta t) := by
  refine ⟨fun pins s σ H Q I h => ?_⟩
  refine PySem.W.methodCall_KW (pl := pl) (thn (he.run pins s σ H _ I h) fun u s1 ⟨x, H1, I1, rx, a, dx, fs, ex, ea, l, q⟩ => ?_) ht
  subst ex
  obtain rfl : u = Value.ref a := rx
  refine getmeth_ok I1 ea c hm l ?_
  refine PySem.W.callWith_K (first := [.ref a]) (h₀ := X.base) I.ok.mod.kin hm.kp (thn (ha.run pos pins s1 σ H1 _ I1 q) fun us s2 ⟨vs, H2, I2, r, q2⟩ => ⟨I2.kIn, ?_⟩) hst hpl
  exact run_fnSD (us := .ref a :: us) (vs := .ref a :: vs) F hr hb hd (hx σ) I2 (.cons rfl r) q2
end
section
variable {P : Program} {w : World} {K : PySem.W.Frag} {mg : Str → Option Value} {base : Heap}
/-- as Fun.okX, exceptions that tell their context -/
theorem fun_okN {x qual : Str} {st : Stmt} {f : Addr} {fd : FuncData} {N ps : List Str} {k : Nat} {sp : Sp} (F : Fun K x qual st f fd) (S : FnScope N ps (defScope st)) (len : ∀ vs H Q E, sp vs H Q E → vs.length = ps.length)
    (hbody : ∀ (cdv : Value) (A : Around) (outer : List Env) (s : Shared) (H : Hp) (vs : List V) (Q : VK) (E : XK), Room k (A.deeper (envOfC qual (defScope st) s.heap.objs.size f cdv)) → sp vs H Q E →
      ∃ t, PSs (cxOf (L2N.CX P w) P w K mg base N qual (defScope st) f cdv A outer s H E) (defBody st) t ∧ t { nx := fun _ H' => Q .non H', rt := Q } (start N vs) H) : FnOk P w K mg base (L2N.CX P w) (k + 1) f fd ps sp := by
  obtain ⟨oc, od, kV, doc, pm, an, cdv, ct, osl, rfl, lk, hcd⟩ := F.ex
  exact fn_of lk hcd S len fun A outer s H vs Q E hr hsp => hbody cdv A outer s H vs Q E hr hsp
/-- a def that is called with the exception that is handled; its promise knows which that is -/
structure FnP (P : Program) (w : World) (K : PySem.W.Frag) (mg : Str → Option Value) (base : Heap) (k : Nat) (f : Addr) (fd : FuncData) (ps : List Str) (sp : Addr × Obj → Sp) : Prop where
  len : ∀ p vs H Q E, sp p vs H Q E → vs.length = ps.length
  run : ∀ (A : Around) (outer : List Env) (s : Shared) (H : Hp) (args : Args) (us : List Value) (vs : List V) (Q : VK) (E : XK) (p : Addr × Obj), L2H.RoomH k A → L2H.Hot1 A p → L2H.PinOk outer H s p → Env0 P w K mg base A outer s H → BindsTo s fd args (ps.zip us) → Vals vs us → sp p vs H Q E →
    codeAny (model P w) A (.call (.ref f) args) (CR CX0 outer P w H s Q E) s
theorem fun_okP {x qual : Str} {st : Stmt} {f : Addr} {fd : FuncData} {N ps : List Str} {k : Nat} {sp : Addr × Obj → Sp} (F : Fun K x qual st f fd) (S : FnScope N ps (defScope st)) (len : ∀ p vs H Q E, sp p vs H Q E → vs.length = ps.length)
    (hbody : ∀ (cdv : Value) (A : Around) (outer : List Env) (s : Shared) (H : Hp) (vs : List V) (Q : VK) (E : XK) (p : Addr × Obj), L2H.Hot1 A p → L2H.RoomH k (A.deeper (envOfC qual (defScope st) s.heap.objs.size f cdv)) → sp p vs H Q E →
      ∃ t, PSs (L2H.cxH CX0 P w K mg base N qual (defScope st) f cdv A outer s H E p) (defBody st) t ∧ t { nx := fun _ H' => Q .non H', rt := Q } (L2.start N vs) H) : FnP P w K mg base (k + 1) f fd ps sp := by
  obtain ⟨oc, od, kV, doc, pm, an, cdv, ct, osl, rfl, lk, hcd⟩ := F.ex
  refine ⟨len, fun A outer s H args us vs Q E p hr hot hpin e0 hb r hsp => ?_⟩
  have hl := len _ _ _ _ _ hsp
  have KX : K.In s.heap := e0.mod.kin.keeps fun b o e => (e0.bs b o e).1
  have nolim : s.heap.NoLimit := e0.mod.nolimit.keeps fun b o e => (e0.bs b o e).1
  have kinds : ∀ y ∈ ps.zip us, (defScope st).names.lookup y.1 = some .local ∨ ((defScope st).names.lookup y.1 = some .cell ∧ ((cellsFrom (s.heap.objs.size + 1) (defScope st).names []).lookup y.1).isSome = true) := by
    rintro ⟨n, v⟩ hy
    exact (S.par n (List.of_mem_zip hy).1).elim (fun q => .inl q) fun q => .inr ⟨q, PySem.W.cellsFrom_some _ _ _ (.inl q)⟩
  refine codeAny_call_function hr.depth (KX _ _ lk) rfl S.co S.gen rfl (PySem.W.codeRec_of KX hcd) (hb _ _ _ _ ?_)
  refine wpAny_newFunctionEnv_cells S.kind kinds fun env he s1 x => ?_
  subst he
  refine ⟨nolim.keeps x.toInCall.keep, codeAny_func ?_⟩
  obtain ⟨t, ht, hq⟩ := hbody cdv A outer s H vs Q E p hot (hr.deeper _) hsp
  have I := L2H.inv_startH (CX := CX0) (K := K) (mg := mg) (base := base) (qual := qual) (cd := cdv) (E := E) S hpin e0 hl r x
  refine wpAny_mono (ht.run [] s1 (L2.start N vs) H _ I hq) (fun fl s' hs => ?_) fun e s' hs => hs
  cases fl with
  | ret u =>
    obtain ⟨v, σ', H', J, rv, q⟩ := hs
    exact ⟨v, H', J.os, J.bare, J.base, J.hok, rv, q⟩
  | next =>
    obtain ⟨σ', H', J, q⟩ := hs
    exact ⟨V.non, H', J.os, J.bare, J.base, J.hok, rfl, q⟩
  | brk => exact hs.elim fun _ h => h.elim fun _ h => False.elim h.2
  | cont => exact hs.elim fun _ h => h.elim fun _ h => False.elim h.2
end
section
variable {X : Cx} {k : Nat} {f : Addr} {fd : FuncData} {ps : List Str} {sp : Addr × Obj → Sp} {x : Str} {q pos : Pos} {e : Expr} {es : List Expr} {t : TA} {p : Addr × Obj}
theorem run_fnP {pins : List (Addr × Obj)} {σ : L2.St} {H : Hp} {s : Shared} {Q : VK} {us : List Value} {vs : List V} {E : XK} (F : FnP X.prog X.w X.K X.mg X.base k f fd ps sp) (hr : L2H.RoomH k X.A) (hot : L2H.Hot1 X.A p) (hp : p ∈ X.pn) (hb : Binds X.K fd ps [])
    (I : Inv X pins σ H s) (r : Vals vs us) (h : sp p vs H Q E) : wpAny (model X.prog X.w) X.A (call (.ref f) us) (EP X pins σ Q) X.xe s := by
  have hl : us.length = ps.length := by rw [← r.length]; exact F.len _ _ _ _ _ h
  have b := hb s us I.kIn (by rw [List.append_nil]; exact hl)
  rw [List.append_nil] at b
  have P1 := I.pin p (List.mem_append_left _ hp)
  have hpin : L2H.PinOk X.stack H s p := ⟨P1.1, P1.2.1, fun hm => (List.mem_cons.mp (I.stkSub p.1 hm)).elim P1.2.2.1 P1.2.2.2.1, P1.2.2.2.2⟩
  refine wpAny_call (codeAny_mono (F.run X.A X.stack s H ⟨us, []⟩ us vs Q E p hr hot hpin I.env0 b r h) fun r s' hq => ?_)
  match r, hq with
  | .ok (.ret u), hq => exact I.after hq
theorem roomS {k : Nat} {A : Around} {v : Option Value} (r : Room k A) : L2H.RoomH k (A.mark v) := ⟨r.dp, r.un⟩
theorem pe_callP {spr : Sp} (hsp : ∀ vs H Q E, spr vs H Q E → sp p vs H Q E) (F : FnP X.prog X.w X.K X.mg X.base k f fd ps sp) (hr : L2H.RoomH k X.A) (hot : L2H.Hot1 X.A p) (hp : p ∈ X.pn) (hg : Gl X x) (hm : X.mg x = some (.ref f)) (hk : PySem.W.keepIn X.K (.ref f) = true) (hb : Binds X.K fd ps [])
    (ha : PA X (e :: es) t) (hdb : (x == ("__debug__" : Str)) = false := by decide) (he : starEach (e :: es) X.env = (false, eval e X.env) :: starEach es X.env := by rfl) (hpl : (backTo pos (starEach es X.env)).any (·.1) = false := by rfl) :
    PE X (.Call (.Name x q) (e :: es) [] pos) (tCall spr [] E0 t) := by
  refine ⟨fun pins s σ H Q I h => ?_⟩
  refine wpAny_Call_Name_kw (ld_glob I hg hm ?_ hdb)
  refine PySem.W.callWith_K (h₀ := X.base) I.ok.mod.kin hk (thn (ha.run pos pins s σ H _ I h) fun us s1 ⟨vs, H1, I1, r, q⟩ => ⟨I1.kIn, ?_⟩) he hpl
  have q : spr (vs ++ []) H1 Q E0 := q
  rw [List.append_nil] at q
  exact run_fnP F hr hot hp hb I1 r (hsp _ _ _ _ q)
/-- isinstance(e, c), (c1, c2, ..), e the exception that is pinned -/
theorem inst_pin {D : Addr} {pins : List (Addr × Obj)} {σ : L2.St} {H : Hp} {s : Shared} (hp : p ∈ X.pn) (hz : Zc (.ref D) none p.2) (hf : ∃ vs, p.2.data = .fields vs) (I : Inv X pins σ H s) : PySem.W.InstAt s.heap p.1 p.2 D none := by
  obtain ⟨hget, _⟩ := I.pin p (List.mem_append_left _ hp)
  obtain ⟨a, oe⟩ := p
  obtain ⟨vs, hv⟩ := hf
  obtain ⟨oc, od, oda, osl⟩ := oe
  obtain ⟨h1, h2⟩ := hz
  dsimp only at h1 h2 hv hget
  subst h1 h2 hv
  exact ⟨hget, rfl, rfl, trivial⟩
theorem call_isP {D : Addr} (C : ExcC X.K D) (hp : p ∈ X.pn) (hz : Zc (.ref D) none p.2) (hf : ∃ vs, p.2.data = .fields vs) : CallR X (.builtin "isinstance") (rIsE X.K D p.1) := by
  intro pins s σ H xs us Q I r h
  obtain ⟨c, cv, b, rfl, hcv, e, q⟩ := h
  obtain ⟨u1, u2, rfl, r1, r2⟩ := vals2 r
  cases (show u1 = Value.ref p.1 from r1)
  have ec := hcv _ r2
  subst ec
  exact PySem.W.kia_one (PySem.W.handS_kitx_exc C.hg C.hk C.hs C.hd C.ha C.hn C.ht C.hm) I.kIn (inst_pin hp hz hf I) e (fun z => nomatch z) fun tk => ⟨.bl b, H, I.kept (t' := tk) fun _ _ z => z, rfl, q⟩
def rIsET (K : PySem.W.Frag) (D a : Addr) : List V → Hp → VK → Prop := fun xs H Q => ∃ (tp : Addr) (cs : List V) (us : List Value) (b : Bool), xs = [.ref a, .ref tp] ∧ H tp = some (.tup cs) ∧ Paired ClsV cs us ∧ PySem.W.kitAny K (.ref D) us = some b ∧ Q (.bl b) H
theorem call_isPT {D : Addr} (C : ExcC X.K D) (hp : p ∈ X.pn) (hz : Zc (.ref D) none p.2) (hf : ∃ vs, p.2.data = .fields vs) : CallR X (.builtin "isinstance") (rIsET X.K D p.1) := by
  intro pins s σ H xs us Q I r h
  obtain ⟨tp, cs, ws, b, rfl, hT, k, e, q⟩ := h
  obtain ⟨u1, u2, rfl, r1, r2⟩ := vals2 r
  cases (show u1 = Value.ref p.1 from r1)
  cases (show u2 = Value.ref tp from r2)
  obtain ⟨_, its, rv, o, h1, h2, n, h3⟩ := (show ObjOk X.prog X.w H s.heap tp (.tup cs) from I.hok tp _ hT)
  have e3 := ClsV.all k rv
  subst e3
  obtain ⟨oc, od, dt, sl⟩ := o
  simp only at h2 h3
  subst h2 h3
  exact PySem.W.kia_tup (PySem.W.handS_kitx_exc C.hg C.hk C.hs C.hd C.ha C.hn C.ht C.hm) I.kIn (inst_pin hp hz hf I) h1 e (fun z => nomatch z) fun tk => ⟨.bl b, H, I.tok tk, rfl, q⟩
/-- xs.count(y), flat values -/
def rCntF (K : PySem.W.Frag) : V → List V → Hp → VK → Prop := fun x xs H Q => ∃ (p : Addr) (ys : List V) (y : V), x = .ref p ∧ xs = [y] ∧ SqL K H p ys ∧ flatV y = true ∧ ys.all flatV = true ∧ Q (.int (ys.countP fun z => eqV z y : Nat)) H
theorem cnt_eqU {x : V} : ∀ {xs : List V} {us : List Value}, Vals xs us → xs.all flatV = true → us.countP (eqU x) = xs.countP fun y => eqV y x
  | _, _, .nil, _ => rfl
  | _, _, .cons r rs, h => by
    rw [List.all_cons, Bool.and_eq_true] at h
    rw [List.countP_cons, List.countP_cons, cnt_eqU rs h.2, eqU_of r h.1]
theorem mt_countF : MtR X "list.count" (rCntF X.K) := by
  intro pins s σ H x xs v us Q I rx rxs h
  obtain ⟨p, ys, y, rfl, rfl, hs, fy, fys, q⟩ := h
  cases rx
  obtain ⟨u, rfl, ru⟩ := rxs.one
  obtain ⟨its, rv, ⟨⟨cls, dd, data, sl⟩, n, ho, hc, hdn, hd⟩, hlen⟩ := I.list hs
  simp only at hc hd
  subst hc hd
  refine call_meets PySem.F.slot_list_count ⟨_, ho, rfl⟩ PySem.F.entry_list_count (PySem.F.args_list_count_2 _ _)
    (SeqAt.list_countAt p its.toArray n dd sl u (eqU y)) ⟨ho, fun u' hu' => mem_eqAt ru fy rv fys u' (by simpa using hu'), ?_⟩
  refine ⟨.int (ys.countP fun z => eqV z y : Nat), H, I.tok _, ⟨s.toks, ?_⟩, q⟩
  have e := cnt_eqU (x := y) rv fys
  show Value.int ((its.toArray.toList.countP (eqU y) : Nat) : Int) s.toks = Value.int ((ys.countP fun z => eqV z y : Nat) : Int) s.toks
  rw [← e]
end
end G
namespace G
open PySem PySem.Spec PyProof.Rows L2
section
variable {X : Cx}
theorem call_typeA : CallR X (.type "type") (fun xs H Q => rTyp X.K xs H Q ∨ ∃ a C dx fs, xs = [V.ref a] ∧ H a = some (.ins C dx fs) ∧ Q (.ref C) H) := CallR.or call_type1 cr_type
/-- type(x) is not T, T a built-in type -/
def rNTA : R2 := fun x y H Q => ∃ b, y = .ty b ∧ ((∃ a, x = .ty a ∧ Q (.bl (!decide (a = b))) H) ∨ ∃ C, x = .ref C ∧ Q (.bl true) H)
theorem op_notTyA : OpR X (compareOp .IsNot) rNTA := by
  intro pins s σ H x y v u Q I rx ry h
  obtain ⟨b, rfl, h⟩ := h
  rcases h with ⟨a, rfl, q⟩ | ⟨C, rfl, q⟩
  · exact op_notTyB pins s σ H (.ty a) (.ty b) v u Q I rx ry ⟨a, b, rfl, rfl, q⟩
  · cases (show v = Value.ref C from rx)
    cases (show u = Value.type b from ry)
    exact wpAny_isNot_plain rfl (fin_bl I q rfl)
theorem takes0N {X : Cx} : L2N.Takes X (fun _ _ _ _ => False) := fun _ _ x => by
  obtain ⟨_, _, _, _, _, _, _, _, _, _, _, _, _, _, _, _, z⟩ := x
  exact z.elim
end
/-! ### values that are no integers, no ratios -/
def NW (K : PySem.W.Frag) (H : Hp) (x : V) : Prop := ∃ t b1 b2, TyX K H x t ∧ PySem.W.kitOne K t (.type "int") = some b1 ∧ PySem.W.kitOne K t (.type "bool") = some b2 ∧ (b1 && !b2) = false
def NR (K : PySem.W.Frag) (C : Addr) (H : Hp) (x : V) : Prop := ∃ t, TyX K H x t ∧ PySem.W.kitOne K t (.ref C) = some false
def spWholeG (K : PySem.W.Frag) : Sp := fun vs H Q _ => ∃ x t b1 b2, vs = [x] ∧ TyX K H x t ∧ PySem.W.kitOne K t (.type "int") = some b1 ∧ PySem.W.kitOne K t (.type "bool") = some b2 ∧ Q (.bl (b1 && !b2)) H
theorem Pl.nw {K : PySem.W.Frag} {H : Hp} {x : V} {T : String} (h : Pl H x T) (n : T ≠ "int") : NW K H x := by
  cases h with
  | non => exact ⟨_, false, false, (Pl.non (H := H)).ty, kit_ty (by decide +kernel), kit_ty (by decide +kernel), rfl⟩
  | bl x => exact ⟨_, true, true, (Pl.bl (H := H) x).ty, kit_ty (by decide +kernel), kit_ty (by decide +kernel), rfl⟩
  | int i => exact absurd rfl n
  | str x => exact ⟨_, false, false, (Pl.str (H := H) x).ty, kit_ty (by decide +kernel), kit_ty (by decide +kernel), rfl⟩
  | lst e => exact ⟨_, false, false, (Pl.lst e).ty, kit_ty (by decide +kernel), kit_ty (by decide +kernel), rfl⟩
  | tup e => exact ⟨_, false, false, (Pl.tup e).ty, kit_ty (by decide +kernel), kit_ty (by decide +kernel), rfl⟩
  | dK e => exact ⟨_, false, false, (Pl.dK e).ty, kit_ty (by decide +kernel), kit_ty (by decide +kernel), rfl⟩
/-- the promises of the raising defs: the error's class R, Z -/
def spInitN (K : PySem.W.Frag) (C R : Addr) : Sp := fun vs H Q E => ∃ (p dx : Addr) (x y : V), vs = [.ref p, x, y] ∧ H p = some (.ins C dx []) ∧
  ((NW K H x ∧ E (.ref R) none H) ∨ ∃ i, x = .int i ∧ ((NW K H y ∧ E (.ref R) none H) ∨ ∃ j, y = .int j ∧ ((j < 1 ∧ E (.ref R) none H) ∨
    (0 < j ∧ Bt 8000 j ∧ Q .non (upd H p (.ins C dx (rf (i / (Int.gcd i j : Int)) (j / (Int.gcd i j : Int)))))))))
def spOverN (K : PySem.W.Frag) (C R Z : Addr) : Sp := fun vs H Q E => ∃ (p : Addr) (v : V) (x : Int × Int) (n : Nat), vs = [.ref p, v] ∧ Rat C H p x.1 x.2 ∧ Lp n x ∧ n ≤ 3500 ∧
  ((NR K C H v ∧ E (.ref R) none H) ∨ ∃ q y, v = .ref q ∧ Rat C H q y.1 y.2 ∧ Lp n y ∧ ((y.1 = 0 ∧ E (.ref Z) none H) ∨ (y.1 ≠ 0 ∧ ∀ r H', H r = none → Same H H' → Rat C H' r (qt x y).1 (qt x y).2 → Q (.ref r) H')))
def spLessN (K : PySem.W.Frag) (C R : Addr) : Sp := fun vs H Q E => ∃ (p : Addr) (v : V) (x : Int × Int) (n : Nat), vs = [.ref p, v] ∧ Rat C H p x.1 x.2 ∧ Lp n x ∧ n ≤ 3500 ∧
  ((NR K C H v ∧ E (.ref R) none H) ∨ ∃ q y, v = .ref q ∧ Rat C H q y.1 y.2 ∧ Lp n y ∧ ∀ b, Q (.bl b) H)
/-- no list -/
inductive NL (K : PySem.W.Frag) (H : Hp) : V → Prop
  | pl {x : V} {T : String} : Pl H x T → T ≠ "list" → NL K H x
  | ins {a C dx : Addr} {fs : List (Str × V)} : H a = some (.ins C dx fs) → NL K H (.ref a)
def spTotalN (K : PySem.W.Frag) (C R : Addr) : Sp := fun vs H Q E => ∃ v, vs = [v] ∧ ((NL K H v ∧ E (.ref R) none H) ∨ ∃ l rs ws xs, v = .ref l ∧ H l = some (.lst (rs ++ ws)) ∧ Rats C H rs xs ∧ (rs ++ ws).length ≤ 1000 ∧ (∀ x ∈ xs, Lp 3500 x) ∧ (∀ k, k ≤ xs.length → Lp 3500 (tot (xs.take k))) ∧
  ((∃ w wr, ws = w :: wr ∧ NR K C H w ∧ ∀ H', Same H H' → E (.ref R) none H') ∨ (ws = [] ∧ ∀ r H', H r = none → Same H H' → Rat C H' r (tot xs).1 (tot xs).2 → Q (.ref r) H')))
end G
namespace G
open PySem PySem.Spec PyProof.Rows L2
theorem Pl.tb {K : PySem.W.Frag} {H : Hp} {x : V} {T : String} (h : Pl H x T) : TyB K H x T := by
  cases h with
  | non => exact .non
  | bl x => exact .bl x
  | int i => exact .int i
  | str x => exact .str x
  | lst e => exact .lst (SqL.of e)
  | tup e => exact .tup (SqT.of e)
  | dK e => exact .dK e
theorem Pl.nr {K : PySem.W.Frag} {C : Addr} {H : Hp} {x : V} {T : String} (h : Pl H x T) (k : PySem.W.kitOne K (.type T) (.ref C) = some false) : NR K C H x := ⟨_, h.ty, k⟩
/-- what the caught exception is -/
def spName (R Z a : Addr) (cls : Value) (d : Option Addr) : Sp := fun vs H Q _ => vs = [.ref a] ∧ d = none ∧
  ((cls = .ref R ∧ ∀ H', Same H H' → Q (.str "ratio") H') ∨ (cls = .ref Z ∧ ∀ H', Same H H' → Q (.str "zero") H'))
def spNameP (R Z : Addr) (p : Addr × Obj) : Sp := fun vs H Q E => ∃ cls d, L2N.Zn cls d p.2 ∧ (∃ vs, p.2.data = .fields vs) ∧ spName R Z p.1 cls d vs H Q E
theorem clsOwn (C : Addr) : ∀ u, RelV (.ref C) u → u = .ref C := fun u h => h
theorem clsTy (T : String) : ∀ u, RelV (.ty T) u → u = .type T := fun u h => h
end G
namespace G
open PySem PySem.Spec PyProof.Rows L2
theorem tyX_same {K : PySem.W.Frag} {H H' : Hp} {x : V} {t : Value} (h : TyX K H x t) (e : Same H H') : TyX K H' x t := by
  cases h with
  | base b =>
    refine .base ?_
    cases b with
    | non => exact .non
    | bl x => exact .bl x
    | int x => exact .int x
    | str x => exact .str x
    | flt x => exact .flt x
    | lst h => exact .lst (e _ _ h)
    | frz h => exact .frz (e _ _ h)
    | tup h => exact .tup (e _ _ h)
    | dK h => exact .dK (e _ _ h)
    | dT h => exact .dT (e _ _ h)
    | ins h a b c d f => exact .ins (e _ _ h) a b c d f
  | byt x => exact .byt x
  | set h => exact .set (e _ _ h)
  | kList a b => exact .kList a b
  | kTuple a b => exact .kTuple a b
  | kDict a b => exact .kDict a b
  | fTuple h => exact .fTuple (e _ _ h)
  | fDict h => exact .fDict (e _ _ h)
theorem NW.same {K : PySem.W.Frag} {H H' : Hp} {x : V} (h : NW K H x) (e : Same H H') : NW K H' x := let ⟨t, b1, b2, ty, k1, k2, k⟩ := h; ⟨t, b1, b2, tyX_same ty e, k1, k2, k⟩
theorem NR.same {K : PySem.W.Frag} {C : Addr} {H H' : Hp} {x : V} (h : NR K C H x) (e : Same H H') : NR K C H' x := let ⟨t, ty, k⟩ := h; ⟨t, tyX_same ty e, k⟩
theorem NL.same {K : PySem.W.Frag} {H H' : Hp} {x : V} (h : NL K H x) (e : Same H H') : NL K H' x := by
  cases h with
  | pl p n => exact .pl (p.same e) n
  | ins h => exact .ins (e _ _ h)
end G
namespace G
open PySem PySem.Spec PyProof.Rows L2
theorem kany_cons {K : PySem.W.Frag} {t c : Value} {cs : List Value} (h : PySem.W.kitOne K t c = some false) (hr : PySem.W.kitAny K t cs = some false) : PySem.W.kitAny K t (c :: cs) = some false := kitAny_cons h (fun _ => hr) (fun q => nomatch q)
theorem kany_nil {K : PySem.W.Frag} {t : Value} : PySem.W.kitAny K t [] = some false := rfl
end G
namespace G
open PySem PySem.Spec PyProof.Rows L2
theorem mkN {K : PySem.W.Frag} {C R : Addr} {H : Hp} {x y : V} {Q : Hp → Prop} {E : XK} (h : (NW K H x ∧ ∀ H', Same H H' → E (.ref R) none H') ∨ ∃ i, x = .int i ∧ ((NW K H y ∧ ∀ H', Same H H' → E (.ref R) none H') ∨ ∃ j, y = .int j ∧ ((j < 1 ∧ ∀ H', Same H H' → E (.ref R) none H') ∨ (0 < j ∧ Bt 8000 j ∧ ∀ (r : Addr) (H2 : Hp), Same H H2 → Q H2)))) :
    ∀ r dx, H r = none → H dx = none → dx ≠ r → spInitN K C R [.ref r, x, y] (upd (upd H dx (.own r)) r (.ins C dx [])) (fun v H2 => v = .non ∧ Q H2) E := by
  intro r dx hr hd hne
  have sm : ∀ o, Same H (upd (upd H dx (.own r)) r o) := fun o c u e => by
    rw [upd_ne (ne_of_none e hr), upd_ne (ne_of_none e hd)]
    exact e
  refine ⟨r, dx, x, y, rfl, upd_same, ?_⟩
  rcases h with ⟨nw, e⟩ | ⟨i, rfl, h⟩
  · exact .inl ⟨nw.same (sm _), e _ (sm _)⟩
  · refine .inr ⟨i, rfl, ?_⟩
    rcases h with ⟨nw, e⟩ | ⟨j, rfl, h⟩
    · exact .inl ⟨nw.same (sm _), e _ (sm _)⟩
    · refine .inr ⟨j, rfl, ?_⟩
      rcases h with ⟨hj, e⟩ | ⟨hj, hb, q⟩
      · exact .inl ⟨hj, e _ (sm _)⟩
      · refine .inr ⟨hj, hb, rfl, ?_⟩
        rw [upd_twice]
        exact q r _ (sm _)
theorem w_caught {K : PySem.W.Frag} {c cls : Value} {i : Nat} {ts : Addr → Value → Option Addr → TS} {Wout : WX} {D : Ends} {d : Option Addr} {σ : L2.St} {H : Hp} (e : PySem.W.exmOne K cls c = some true)
    (q : ∀ a, H a = none → ts a cls d { nx := fun σ' H' => D.nx (σ'.set i none) H', rt := D.rt, bk := fun σ' H' => D.bk (σ'.set i none) H', ct := fun σ' H' => D.ct (σ'.set i none) H' } (σ.set i (some (.ref a))) H) : wAs K c i ts Wout D cls d σ H := ⟨true, e, fun _ => q, fun z => nomatch z⟩
/-- how a try ends -/
inductive Out (K : PySem.W.Frag) (C : Addr) (H : Hp) : Int → V → V → Str → Prop
  | i0a {x y : V} : NW K H x → Out K C H 0 x y "ratio"
  | i0b {i : Int} {y : V} : NW K H y → Out K C H 0 (.int i) y "ratio"
  | i0c {i j : Int} : j < 1 → Out K C H 0 (.int i) (.int j) "ratio"
  | i0 {i j : Int} : 0 < j → Bt 8000 j → Out K C H 0 (.int i) (.int j) "returned"
  | i1a {x y : V} : NW K H x → Out K C H 1 x y "ratio"
  | i1 {i : Int} {y : V} : Out K C H 1 (.int i) y "returned"
  | o2a {p : Addr} {x : Int × Int} {n : Nat} {v : V} : Rat C H p x.1 x.2 → Lp n x → n ≤ 3500 → NR K C H v → Out K C H 2 (.ref p) v "ratio"
  | o2z {p q : Addr} {x y : Int × Int} {n : Nat} : Rat C H p x.1 x.2 → Lp n x → n ≤ 3500 → Rat C H q y.1 y.2 → Lp n y → y.1 = 0 → Out K C H 2 (.ref p) (.ref q) "zero"
  | o2 {p q : Addr} {x y : Int × Int} {n : Nat} : Rat C H p x.1 x.2 → Lp n x → n ≤ 3500 → Rat C H q y.1 y.2 → Lp n y → y.1 ≠ 0 → Out K C H 2 (.ref p) (.ref q) "returned"
  | l4a {p : Addr} {x : Int × Int} {n : Nat} {v : V} : Rat C H p x.1 x.2 → Lp n x → n ≤ 3500 → NR K C H v → Out K C H 4 (.ref p) v "ratio"
  | l4 {p q : Addr} {x y : Int × Int} {n : Nat} : Rat C H p x.1 x.2 → Lp n x → n ≤ 3500 → Rat C H q y.1 y.2 → Lp n y → Out K C H 4 (.ref p) (.ref q) "returned"
  | t3a {v y : V} : NL K H v → Out K C H 3 v y "ratio"
  | t3b {l : Addr} {rs wr : List V} {w y : V} {xs : List (Int × Int)} : H l = some (.lst (rs ++ w :: wr)) → Rats C H rs xs → (rs ++ w :: wr).length ≤ 1000 → (∀ x ∈ xs, Lp 3500 x) → (∀ k, k ≤ xs.length → Lp 3500 (tot (xs.take k))) → NR K C H w → Out K C H 3 (.ref l) y "ratio"
  | t3 {l : Addr} {rs : List V} {y : V} {xs : List (Int × Int)} : H l = some (.lst rs) → Rats C H rs xs → rs.length ≤ 1000 → (∀ x ∈ xs, Lp 3500 x) → (∀ k, k ≤ xs.length → Lp 3500 (tot (xs.take k))) → Out K C H 3 (.ref l) y "returned"
def spOut (K : PySem.W.Frag) (C : Addr) : Sp := fun vs H Q _ => ∃ n x y r, vs = [.int n, x, y] ∧ Out K C H n x y r ∧ ∀ H', Same H H' → Q (.str r) H'
end G
namespace G
open PySem PySem.Spec PyProof.Rows L2
section
variable {σ : L2.St} {H : Hp} {Q : VK} {ta : TE} {tr : TA} {sp : Sp} {dvs : List V} {E : L2.St → XK} {C : Addr} {m : Str}
theorem w_makeS (q : tr σ H fun vs H1 => ∀ x dx, H1 x = none → H1 dx = none → dx ≠ x → sp (.ref x :: (vs ++ dvs)) (upd (upd H1 dx (.own x)) x (.ins C dx [])) (fun v H2 => v = .non ∧ Q (.ref x) H2) (E σ)) : tMakeS C sp dvs E tr σ H Q := q
theorem w_methS (q : ta σ H fun x H1 => ∃ a dx fs, x = .ref a ∧ H1 a = some (.ins C dx fs) ∧ fs.lookup m = none ∧ tr σ H1 fun vs H2 => sp (x :: (vs ++ dvs)) H2 Q (E σ)) : tMethS C m sp dvs E ta tr σ H Q := q
theorem w_callS (q : tr σ H fun vs H1 => sp vs H1 Q (E σ)) : tCallS sp E tr σ H Q := q
end
end G
namespace G
open PySem PySem.Spec PyProof.Rows L2
/-- [te for x in range(n)]: the items are those of ys -/
theorem w_lcRange {β : Type} {O : Hp → V → β → Prop} (KO : Kept O) {te : TE} {σ : L2.St} {Q : VK} {H1 : Hp} {j n : Nat} (ys : List β) (ly : ys.length = n) (hn : n ≤ 1000)
    (step : ∀ (k : Nat) y H' (R : VK), k < n → ys[k]? = some y → Same H1 H' → (∀ u H2, Same H' H2 → O H2 u y → R u H2) → te ((σ.set j none).set j (some (.int (k : Int)))) H' R)
    (q : ∀ L acc H', H1 L = none → Same H1 H' → H' L = some (.lst acc) → PL (O H') acc ys → Q (.ref L) H') : LcW (Itr 0 n) (gName j) tYes te [j] σ Q H1 := by
  intro L nL
  refine lc_range (fun i H' => Fills (fun L k acc H' => Same H1 H' ∧ PL (O H') acc (ys.take k) ∧ acc.length = k) L i H') ⟨[], upd_same, same_new nL, .nil, rfl⟩ ?_ ?_
  · rintro k H' hk ⟨acc, hL, e, ps, lk⟩
    obtain ⟨y, hy⟩ : ∃ y, ys[k]? = some y := ⟨ys[k]'(by omega), by rw [List.getElem?_eq_getElem]⟩
    refine ⟨?_, ?_⟩
    · show ((σ.set j none).set j (some (.int (0 + (k : Int))))).set j none = σ.set j none
      rw [List.set_set, List.set_set]
    · refine w_yes ?_
      refine w_iteT rfl ?_
      rw [Int.zero_add]
      refine step k y H' _ hk hy e fun u H2 e2 o2 => ?_
      refine fills_more (Pv := fun L k acc H' => Same H1 H' ∧ PL (O H') acc (ys.take k) ∧ acc.length = k) (e2 _ _ hL) (by omega) fun H5 f5 h5 => ⟨Fr.unseen nL (e.trans e2) f5, ?_, by rw [List.length_append, lk]; rfl⟩
      rw [take_snoc hy]
      exact (ps.imp fun v y o => KO.fill (KO.same o e2) (e2 _ _ hL) f5).snoc (KO.fill o2 (e2 _ _ hL) f5)
  · rintro H' ⟨acc, hL, e, ps, _⟩
    rw [← ly, List.take_length] at ps
    exact q L acc H' nL e hL ps
theorem w_disp1 {k : Int} {i : Nat} {v : V} {σ : L2.St} {H : Hp} {Q : VK} (hv : σ[i]? = some (some v)) (q : ∀ p H', H p = none → Same H H' → H' p = some (.dK [(Sum.inl k, v)]) → Q (.ref p) H') : tDisp [(tC (.int k), tVar i)] σ H Q := fun p np =>
  ⟨v, hv, upd_same, [(Sum.inl k, v)], rfl, by show (1 : Nat) ≤ 15; decide, q p _ np (by rw [upd_twice]; exact same_new np) upd_same⟩
section
variable {X : Cx} {k : Nat} {f C : Addr} {fd : FuncData} {ps : List Str} {sp : Sp} {E : XK}
/-- x == y, y of one's own class, x that or of a built-in kind -/
def rEqA (K : PySem.W.Frag) (C : Addr) (sp : Sp) (E : XK) : R2 := fun x y H Q => rEqR C sp E x y H Q ∨ rEqO K C sp E x y H Q
theorem op_eqA {CX : CXT} (F : FnOk X.prog X.w X.K X.mg X.base CX k f fd ps sp) (hr : Room k X.A) (hb : Binds X.K fd ps []) (hx : Passes CX X E) (m : OpM X.K C "__eq__" f) (far : Far X.K C) :
    OpR X (compareOp .Eq) (rEqA X.K C sp E) := by
  intro pins s σ H x y v u Q I rx ry h
  rcases h with h | h
  · exact op_eqR F hr hb hx m far pins s σ H x y v u Q I rx ry h
  · exact op_eqO F hr hb hx m pins s σ H x y v u Q I rx ry h
end
end G
namespace G
open PySem PySem.Spec PyProof.Rows L2
theorem Pl.fr {H H' : Hp} {a : Addr} {x : V} {T : String} (h : Pl H x T) (n : x ≠ .ref a) (f : Fr a H H') : Pl H' x T := by
  cases h with
  | non => exact .non
  | bl x => exact .bl x
  | int i => exact .int i
  | str x => exact .str x
  | lst h => exact .lst (f _ _ (fun z => n (by rw [z])) h)
  | tup h => exact .tup (f _ _ (fun z => n (by rw [z])) h)
  | dK h => exact .dK (f _ _ (fun z => n (by rw [z])) h)
/-- the ratio at r, or something of a built-in kind that is no int; not the source -/
def OD (H : Hp) (r a : Addr) (z : V) : Prop := z = .ref r ∨ ∃ T, Pl H z T ∧ T ≠ "int" ∧ z ≠ .ref a
theorem OD.same {H H' : Hp} {r a : Addr} {z : V} (h : OD H r a z) (e : Same H H') : OD H' r a z := h.imp id fun ⟨T, p, n, m⟩ => ⟨T, p.same e, n, m⟩
theorem OD.fr {H H' : Hp} {r a : Addr} {z : V} (h : OD H r a z) (f : Fr a H H') : OD H' r a z := h.imp id fun ⟨T, p, n, m⟩ => ⟨T, p.fr m f, n, m⟩
end G

namespace K06
open PySem L2 G
def top (i : Nat) : Stmt := PySem.Challenge.pw_stirred_k06_errors_of_ratios.main.body.getD i (.Pass ⟨0, 0, 0, 0⟩)
abbrev s_is_whole : Stmt := (top 2)
abbrev N_is_whole : List Str := ["value"]
theorem sc_is_whole : FnScope N_is_whole ["value"] (defScope s_is_whole) := ⟨rfl, rfl, rfl, by decide +kernel, rfl, by decide +kernel, by decide +kernel⟩
abbrev s_Ratio_init : Stmt := (inClass (top 28) 0)
abbrev N_Ratio_init : List Str := ["self", "top", "bottom", "common"]
theorem sc_Ratio_init : FnScope N_Ratio_init ["self", "top", "bottom"] (defScope s_Ratio_init) := ⟨rfl, rfl, rfl, by decide +kernel, rfl, by decide +kernel, by decide +kernel⟩
abbrev s_Ratio_top : Stmt := (inClass (top 28) 1)
abbrev N_Ratio_top : List Str := ["self"]
theorem sc_Ratio_top : FnScope N_Ratio_top ["self"] (defScope s_Ratio_top) := ⟨rfl, rfl, rfl, by decide +kernel, rfl, by decide +kernel, by decide +kernel⟩
abbrev s_Ratio_bottom : Stmt := (inClass (top 28) 2)
abbrev N_Ratio_bottom : List Str := ["self"]
theorem sc_Ratio_bottom : FnScope N_Ratio_bottom ["self"] (defScope s_Ratio_bottom) := ⟨rfl, rfl, rfl, by decide +kernel, rfl, by decide +kernel, by decide +kernel⟩
abbrev s_Ratio_eq : Stmt := (inClass (top 28) 3)
abbrev N_Ratio_eq : List Str := ["self", "other"]
theorem sc_Ratio_eq : FnScope N_Ratio_eq ["self", "other"] (defScope s_Ratio_eq) := ⟨rfl, rfl, rfl, by decide +kernel, rfl, by decide +kernel, by decide +kernel⟩
abbrev s_Ratio_add : Stmt := (inClass (top 28) 4)
abbrev N_Ratio_add : List Str := ["self", "other", "top"]
theorem sc_Ratio_add : FnScope N_Ratio_add ["self", "other"] (defScope s_Ratio_add) := ⟨rfl, rfl, rfl, by decide +kernel, rfl, by decide +kernel, by decide +kernel⟩
abbrev s_Ratio_is_less : Stmt := (inClass (top 28) 8)
abbrev N_Ratio_is_less : List Str := ["self", "other"]
theorem sc_Ratio_is_less : FnScope N_Ratio_is_less ["self", "other"] (defScope s_Ratio_is_less) := ⟨rfl, rfl, rfl, by decide +kernel, rfl, by decide +kernel, by decide +kernel⟩
abbrev s_Ratio_over : Stmt := (inClass (top 28) 9)
abbrev N_Ratio_over : List Str := ["self", "other", "top", "bottom"]
theorem sc_Ratio_over : FnScope N_Ratio_over ["self", "other"] (defScope s_Ratio_over) := ⟨rfl, rfl, rfl, by decide +kernel, rfl, by decide +kernel, by decide +kernel⟩
abbrev s_is_ratio : Stmt := (top 29)
abbrev N_is_ratio : List Str := ["value"]
theorem sc_is_ratio : FnScope N_is_ratio ["value"] (defScope s_is_ratio) := ⟨rfl, rfl, rfl, by decide +kernel, rfl, by decide +kernel, by decide +kernel⟩
abbrev s_total : Stmt := (top 30)
abbrev N_total : List Str := ["ratios", "found", "ratio"]
theorem sc_total : FnScope N_total ["ratios"] (defScope s_total) := ⟨rfl, rfl, rfl, by decide +kernel, rfl, by decide +kernel, by decide +kernel⟩
abbrev s_law_source : Stmt := (top 32)
abbrev N_law_source : List Str := ["cell", "k"]
theorem sc_law_source : FnScope N_law_source ["cell", "k"] (defScope s_law_source) := ⟨rfl, rfl, rfl, by decide +kernel, rfl, by decide +kernel, by decide +kernel⟩
abbrev s_law_draw : Stmt := (top 33)
abbrev N_law_draw : List Str := ["source", "count", "digit", "mixed"]
theorem sc_law_draw : FnScope N_law_draw ["source", "count"] (defScope s_law_draw) := ⟨rfl, rfl, rfl, by decide +kernel, rfl, by decide +kernel, by decide +kernel⟩
abbrev s_law_size : Stmt := (top 34)
abbrev N_law_size : List Str := ["source"]
theorem sc_law_size : FnScope N_law_size ["source"] (defScope s_law_size) := ⟨rfl, rfl, rfl, by decide +kernel, rfl, by decide +kernel, by decide +kernel⟩
abbrev s_law_pair : Stmt := (top 35)
abbrev N_law_pair : List Str := ["source", "sign", "way", "above", "below", "factor"]
theorem sc_law_pair : FnScope N_law_pair ["source"] (defScope s_law_pair) := ⟨rfl, rfl, rfl, by decide +kernel, rfl, by decide +kernel, by decide +kernel⟩
abbrev s_law_name_of : Stmt := (top 38)
abbrev N_law_name_of : List Str := ["caught", "odd", "some", "names"]
theorem sc_law_name_of : FnScope N_law_name_of ["caught"] (defScope s_law_name_of) := ⟨rfl, rfl, rfl, by decide +kernel, rfl, by decide +kernel, by decide +kernel⟩
abbrev s_law_outcome : Stmt := (top 39)
abbrev N_law_outcome : List Str := ["number", "one", "other", "outcome", "caught"]
theorem sc_law_outcome : FnScope N_law_outcome ["number", "one", "other"] (defScope s_law_outcome) := ⟨rfl, rfl, rfl, by decide +kernel, rfl, by decide +kernel, by decide +kernel⟩
abbrev s_law_holds : Stmt := (top 40)
abbrev N_law_holds : List Str := ["source", "most", "nested", "lap", "pair", "one", "odd", "wrong", "under", "told", "worse", "row", "at", "lists", "bad", "turn"]
theorem sc_law_holds : FnScope N_law_holds ["source", "most"] (defScope s_law_holds) := ⟨rfl, rfl, rfl, by decide +kernel, rfl, by decide +kernel, by decide +kernel⟩
abbrev s_law : Stmt := (top 41)
abbrev N_law : List Str := ["script", "k", "cell"]
theorem sc_law : FnScope N_law ["script"] (defScope s_law) := ⟨rfl, rfl, rfl, by decide +kernel, rfl, by decide +kernel, by decide +kernel⟩
structure Ad where
  a_is_whole : Addr
  d_is_whole : FuncData
  a_Ratio_init : Addr
  d_Ratio_init : FuncData
  a_Ratio_top : Addr
  d_Ratio_top : FuncData
  a_Ratio_bottom : Addr
  d_Ratio_bottom : FuncData
  a_is_ratio : Addr
  d_is_ratio : FuncData
  a_Ratio_eq : Addr
  d_Ratio_eq : FuncData
  a_Ratio_add : Addr
  d_Ratio_add : FuncData
  a_Ratio_over : Addr
  d_Ratio_over : FuncData
  a_Ratio_is_less : Addr
  d_Ratio_is_less : FuncData
  a_total : Addr
  d_total : FuncData
  a_law_source : Addr
  d_law_source : FuncData
  a_law_draw : Addr
  d_law_draw : FuncData
  a_law_size : Addr
  d_law_size : FuncData
  a_law_pair : Addr
  d_law_pair : FuncData
  a_law_holds : Addr
  d_law_holds : FuncData
  a_law : Addr
  d_law : FuncData
  a_law_name_of : Addr
  d_law_name_of : FuncData
  a_law_outcome : Addr
  d_law_outcome : FuncData
  c_Ratio : Addr
  p_Ratio_top : Addr
  p_Ratio_bottom : Addr
  c_StirError : Addr
  c_InvalidRatioError : Addr
  c_ZeroRatioError : Addr
  c_InvalidMixtureError : Addr
  c_InvalidSubstanceError : Addr
  c_InvalidVolumesError : Addr
  c_InvalidTransfersError : Addr
  c_InvalidVesselError : Addr
  c_InvalidRowsError : Addr
  c_InvalidContentsError : Addr
  c_InvalidGroupError : Addr
  c_InvalidNumberError : Addr
  c_InvalidFormatError : Addr
  c_NotClosedError : Addr
  c_TooSmallError : Addr
  c_OverfullError : Addr
  c_SealedError : Addr
  c_FullError : Addr
  c_StartedError : Addr
  c_NotStartedError : Addr
  c_EmptyHistoryError : Addr
  c_TooMuchError : Addr
  c_TooManyError : Addr
structure Txt (K : PySem.W.Frag) (mg : Str → Option Value) (A : Ad) : Prop where
  mgc_Ratio : mg "Ratio" = some (.ref A.c_Ratio)
  cl_Ratio : Cls K A.c_Ratio
  cc_Ratio : PySem.W.findIn K (.ref A.c_Ratio) "__class__" = some (some (.builtin "object.__class__"))
  mo_Ratio : PySem.W.mroIn K A.c_Ratio (.type "object") = some true
  sf_Ratio : PySem.W.selfFirst K A.c_Ratio = true
  ne_Ratio : G.NeM K A.c_Ratio
  far_Ratio : G.Far K A.c_Ratio
  na_Ratio_top : NoAttr K A.c_Ratio "_top"
  na_Ratio_bottom : NoAttr K A.c_Ratio "_bottom"
  mgc_StirError : mg "StirError" = some (.ref A.c_StirError)
  eb_StirError : PySem.W.subIn K (.ref A.c_StirError) (.type "BaseException") = some true
  et_StirError : PySem.W.typeIn K (.ref A.c_StirError) = some (.type "type")
  eh_StirError : PySem.W.hasDictIn K A.c_StirError = true
  mgc_InvalidRatioError : mg "InvalidRatioError" = some (.ref A.c_InvalidRatioError)
  eb_InvalidRatioError : PySem.W.subIn K (.ref A.c_InvalidRatioError) (.type "BaseException") = some true
  et_InvalidRatioError : PySem.W.typeIn K (.ref A.c_InvalidRatioError) = some (.type "type")
  eh_InvalidRatioError : PySem.W.hasDictIn K A.c_InvalidRatioError = true
  ex_InvalidRatioError : PySem.W.excIn K A.c_InvalidRatioError [.type "ValueError", .type "Exception", .type "BaseException", .type "object"] "ValueError.__new__" = true
  ke_InvalidRatioError : PySem.W.keepIn K (.ref A.c_InvalidRatioError) = true
  exc_InvalidRatioError : ExcC K A.c_InvalidRatioError
  es_InvalidRatioError_StirError : PySem.W.subIn K (.ref A.c_InvalidRatioError) (.ref A.c_StirError) = some true
  mgc_ZeroRatioError : mg "ZeroRatioError" = some (.ref A.c_ZeroRatioError)
  eb_ZeroRatioError : PySem.W.subIn K (.ref A.c_ZeroRatioError) (.type "BaseException") = some true
  et_ZeroRatioError : PySem.W.typeIn K (.ref A.c_ZeroRatioError) = some (.type "type")
  eh_ZeroRatioError : PySem.W.hasDictIn K A.c_ZeroRatioError = true
  ex_ZeroRatioError : PySem.W.excIn K A.c_ZeroRatioError [.type "ValueError", .type "Exception", .type "BaseException", .type "object"] "ValueError.__new__" = true
  ke_ZeroRatioError : PySem.W.keepIn K (.ref A.c_ZeroRatioError) = true
  exc_ZeroRatioError : ExcC K A.c_ZeroRatioError
  es_ZeroRatioError_StirError : PySem.W.subIn K (.ref A.c_ZeroRatioError) (.ref A.c_StirError) = some true
  mgc_InvalidMixtureError : mg "InvalidMixtureError" = some (.ref A.c_InvalidMixtureError)
  mgc_InvalidSubstanceError : mg "InvalidSubstanceError" = some (.ref A.c_InvalidSubstanceError)
  mgc_InvalidVolumesError : mg "InvalidVolumesError" = some (.ref A.c_InvalidVolumesError)
  mgc_InvalidTransfersError : mg "InvalidTransfersError" = some (.ref A.c_InvalidTransfersError)
  mgc_InvalidVesselError : mg "InvalidVesselError" = some (.ref A.c_InvalidVesselError)
  mgc_InvalidRowsError : mg "InvalidRowsError" = some (.ref A.c_InvalidRowsError)
  mgc_InvalidContentsError : mg "InvalidContentsError" = some (.ref A.c_InvalidContentsError)
  mgc_InvalidGroupError : mg "InvalidGroupError" = some (.ref A.c_InvalidGroupError)
  mgc_InvalidNumberError : mg "InvalidNumberError" = some (.ref A.c_InvalidNumberError)
  mgc_InvalidFormatError : mg "InvalidFormatError" = some (.ref A.c_InvalidFormatError)
  mgc_NotClosedError : mg "NotClosedError" = some (.ref A.c_NotClosedError)
  mgc_TooSmallError : mg "TooSmallError" = some (.ref A.c_TooSmallError)
  mgc_OverfullError : mg "OverfullError" = some (.ref A.c_OverfullError)
  mgc_SealedError : mg "SealedError" = some (.ref A.c_SealedError)
  mgc_FullError : mg "FullError" = some (.ref A.c_FullError)
  mgc_StartedError : mg "StartedError" = some (.ref A.c_StartedError)
  mgc_NotStartedError : mg "NotStartedError" = some (.ref A.c_NotStartedError)
  mgc_EmptyHistoryError : mg "EmptyHistoryError" = some (.ref A.c_EmptyHistoryError)
  mgc_TooMuchError : mg "TooMuchError" = some (.ref A.c_TooMuchError)
  mgc_TooManyError : mg "TooManyError" = some (.ref A.c_TooManyError)
  fun_is_whole : Fun K "is_whole" "is_whole" s_is_whole A.a_is_whole A.d_is_whole
  bd_is_whole : Binds K A.d_is_whole ["value"] []
  mg_is_whole : mg "is_whole" = some (.ref A.a_is_whole)
  fun_Ratio_init : FunD K "__init__" "Ratio.__init__" (defArgs s_Ratio_init) (defBody s_Ratio_init) (defScope s_Ratio_init) [.int 1] [] A.a_Ratio_init A.d_Ratio_init
  mk_Ratio : Mk K A.c_Ratio A.a_Ratio_init
  fun_Ratio_top : Fun K "top" "Ratio.top" s_Ratio_top A.a_Ratio_top A.d_Ratio_top
  bd_Ratio_top : Binds K A.d_Ratio_top ["self"] []
  pr_Ratio_top : PropOf K A.c_Ratio "top" A.p_Ratio_top A.a_Ratio_top
  fun_Ratio_bottom : Fun K "bottom" "Ratio.bottom" s_Ratio_bottom A.a_Ratio_bottom A.d_Ratio_bottom
  bd_Ratio_bottom : Binds K A.d_Ratio_bottom ["self"] []
  pr_Ratio_bottom : PropOf K A.c_Ratio "bottom" A.p_Ratio_bottom A.a_Ratio_bottom
  fun_is_ratio : Fun K "is_ratio" "is_ratio" s_is_ratio A.a_is_ratio A.d_is_ratio
  bd_is_ratio : Binds K A.d_is_ratio ["value"] []
  mg_is_ratio : mg "is_ratio" = some (.ref A.a_is_ratio)
  fun_Ratio_eq : Fun K "__eq__" "Ratio.__eq__" s_Ratio_eq A.a_Ratio_eq A.d_Ratio_eq
  bd_Ratio_eq : Binds K A.d_Ratio_eq ["self", "other"] []
  om_Ratio_eq : G.OpM K A.c_Ratio "__eq__" A.a_Ratio_eq
  fun_Ratio_add : Fun K "__add__" "Ratio.__add__" s_Ratio_add A.a_Ratio_add A.d_Ratio_add
  bd_Ratio_add : Binds K A.d_Ratio_add ["self", "other"] []
  om_Ratio_add : G.OpM K A.c_Ratio "__add__" A.a_Ratio_add
  fun_Ratio_over : Fun K "over" "Ratio.over" s_Ratio_over A.a_Ratio_over A.d_Ratio_over
  bd_Ratio_over : Binds K A.d_Ratio_over ["self", "other"] []
  me_Ratio_over : Meth K A.c_Ratio "over" A.a_Ratio_over
  fun_Ratio_is_less : Fun K "is_less" "Ratio.is_less" s_Ratio_is_less A.a_Ratio_is_less A.d_Ratio_is_less
  bd_Ratio_is_less : Binds K A.d_Ratio_is_less ["self", "other"] []
  me_Ratio_is_less : Meth K A.c_Ratio "is_less" A.a_Ratio_is_less
  fun_total : Fun K "total" "total" s_total A.a_total A.d_total
  bd_total : Binds K A.d_total ["ratios"] []
  mg_total : mg "total" = some (.ref A.a_total)
  fun_law_source : Fun K "_law_source" "_law_source" s_law_source A.a_law_source A.d_law_source
  bd_law_source : Binds K A.d_law_source ["cell", "k"] []
  mg_law_source : mg "_law_source" = some (.ref A.a_law_source)
  fun_law_draw : Fun K "_law_draw" "_law_draw" s_law_draw A.a_law_draw A.d_law_draw
  bd_law_draw : Binds K A.d_law_draw ["source", "count"] []
  mg_law_draw : mg "_law_draw" = some (.ref A.a_law_draw)
  fun_law_size : Fun K "_law_size" "_law_size" s_law_size A.a_law_size A.d_law_size
  bd_law_size : Binds K A.d_law_size ["source"] []
  mg_law_size : mg "_law_size" = some (.ref A.a_law_size)
  fun_law_pair : Fun K "_law_pair" "_law_pair" s_law_pair A.a_law_pair A.d_law_pair
  bd_law_pair : Binds K A.d_law_pair ["source"] []
  mg_law_pair : mg "_law_pair" = some (.ref A.a_law_pair)
  fun_law_holds : Fun K "_law_holds" "_law_holds" s_law_holds A.a_law_holds A.d_law_holds
  bd_law_holds : Binds K A.d_law_holds ["source", "most"] []
  mg_law_holds : mg "_law_holds" = some (.ref A.a_law_holds)
  fun_law : Fun K "law" "law" s_law A.a_law A.d_law
  bd_law : Binds K A.d_law ["script"] []
  mg_law : mg "law" = some (.ref A.a_law)
  fun_law_name_of : Fun K "_law_name_of" "_law_name_of" s_law_name_of A.a_law_name_of A.d_law_name_of
  bd_law_name_of : Binds K A.d_law_name_of ["caught"] []
  mg_law_name_of : mg "_law_name_of" = some (.ref A.a_law_name_of)
  fun_law_outcome : Fun K "_law_outcome" "_law_outcome" s_law_outcome A.a_law_outcome A.d_law_outcome
  bd_law_outcome : Binds K A.d_law_outcome ["number", "one", "other"] []
  mg_law_outcome : mg "_law_outcome" = some (.ref A.a_law_outcome)
  sg_ : PySem.W.specialIn K (.builtin "object.__class__") "__get__" = some (some (.builtin "getset_descriptor.__get__"))
  st_ : PySem.W.takesIn K (.builtin "object.__class__") = some true
  ki_int_Ratio : PySem.W.kitOne K (.type "int") (.ref A.c_Ratio) = some false
  ki_tuple_Ratio : PySem.W.kitOne K (.type "tuple") (.ref A.c_Ratio) = some false
  ki_list_Ratio : PySem.W.kitOne K (.type "list") (.ref A.c_Ratio) = some false
  ki_NoneType_Ratio : PySem.W.kitOne K (.type "NoneType") (.ref A.c_Ratio) = some false
  ki_bool_Ratio : PySem.W.kitOne K (.type "bool") (.ref A.c_Ratio) = some false
  ki_str_Ratio : PySem.W.kitOne K (.type "str") (.ref A.c_Ratio) = some false
  ki_dict_Ratio : PySem.W.kitOne K (.type "dict") (.ref A.c_Ratio) = some false
  ki_Ratio_Ratio : PySem.W.kitOne K (.ref A.c_Ratio) (.ref A.c_Ratio) = some true
  ki_int_int : PySem.W.kitOne K (.type "int") (.type "int") = some true
  ki_int_bool : PySem.W.kitOne K (.type "int") (.type "bool") = some false
  ki_InvalidRatioError_InvalidRatioError : PySem.W.kitOne K (.ref A.c_InvalidRatioError) (.ref A.c_InvalidRatioError) = some true
  ki_InvalidRatioError_ZeroRatioError : PySem.W.kitOne K (.ref A.c_InvalidRatioError) (.ref A.c_ZeroRatioError) = some false
  ki_InvalidRatioError_InvalidMixtureError : PySem.W.kitOne K (.ref A.c_InvalidRatioError) (.ref A.c_InvalidMixtureError) = some false
  ki_InvalidRatioError_InvalidSubstanceError : PySem.W.kitOne K (.ref A.c_InvalidRatioError) (.ref A.c_InvalidSubstanceError) = some false
  ki_InvalidRatioError_InvalidVolumesError : PySem.W.kitOne K (.ref A.c_InvalidRatioError) (.ref A.c_InvalidVolumesError) = some false
  ki_InvalidRatioError_InvalidTransfersError : PySem.W.kitOne K (.ref A.c_InvalidRatioError) (.ref A.c_InvalidTransfersError) = some false
  ki_InvalidRatioError_InvalidVesselError : PySem.W.kitOne K (.ref A.c_InvalidRatioError) (.ref A.c_InvalidVesselError) = some false
  ki_InvalidRatioError_InvalidRowsError : PySem.W.kitOne K (.ref A.c_InvalidRatioError) (.ref A.c_InvalidRowsError) = some false
  ki_InvalidRatioError_InvalidContentsError : PySem.W.kitOne K (.ref A.c_InvalidRatioError) (.ref A.c_InvalidContentsError) = some false
  ki_InvalidRatioError_InvalidGroupError : PySem.W.kitOne K (.ref A.c_InvalidRatioError) (.ref A.c_InvalidGroupError) = some false
  ki_InvalidRatioError_InvalidNumberError : PySem.W.kitOne K (.ref A.c_InvalidRatioError) (.ref A.c_InvalidNumberError) = some false
  ki_InvalidRatioError_InvalidFormatError : PySem.W.kitOne K (.ref A.c_InvalidRatioError) (.ref A.c_InvalidFormatError) = some false
  ki_InvalidRatioError_NotClosedError : PySem.W.kitOne K (.ref A.c_InvalidRatioError) (.ref A.c_NotClosedError) = some false
  ki_InvalidRatioError_TooSmallError : PySem.W.kitOne K (.ref A.c_InvalidRatioError) (.ref A.c_TooSmallError) = some false
  ki_InvalidRatioError_OverfullError : PySem.W.kitOne K (.ref A.c_InvalidRatioError) (.ref A.c_OverfullError) = some false
  ki_InvalidRatioError_SealedError : PySem.W.kitOne K (.ref A.c_InvalidRatioError) (.ref A.c_SealedError) = some false
  ki_InvalidRatioError_FullError : PySem.W.kitOne K (.ref A.c_InvalidRatioError) (.ref A.c_FullError) = some false
  ki_InvalidRatioError_StartedError : PySem.W.kitOne K (.ref A.c_InvalidRatioError) (.ref A.c_StartedError) = some false
  ki_InvalidRatioError_NotStartedError : PySem.W.kitOne K (.ref A.c_InvalidRatioError) (.ref A.c_NotStartedError) = some false
  ki_InvalidRatioError_EmptyHistoryError : PySem.W.kitOne K (.ref A.c_InvalidRatioError) (.ref A.c_EmptyHistoryError) = some false
  ki_InvalidRatioError_TooMuchError : PySem.W.kitOne K (.ref A.c_InvalidRatioError) (.ref A.c_TooMuchError) = some false
  ki_InvalidRatioError_TooManyError : PySem.W.kitOne K (.ref A.c_InvalidRatioError) (.ref A.c_TooManyError) = some false
  ki_ZeroRatioError_InvalidRatioError : PySem.W.kitOne K (.ref A.c_ZeroRatioError) (.ref A.c_InvalidRatioError) = some false
  ki_ZeroRatioError_ZeroRatioError : PySem.W.kitOne K (.ref A.c_ZeroRatioError) (.ref A.c_ZeroRatioError) = some true
  ki_ZeroRatioError_InvalidMixtureError : PySem.W.kitOne K (.ref A.c_ZeroRatioError) (.ref A.c_InvalidMixtureError) = some false
  ki_ZeroRatioError_InvalidSubstanceError : PySem.W.kitOne K (.ref A.c_ZeroRatioError) (.ref A.c_InvalidSubstanceError) = some false
  ki_ZeroRatioError_InvalidVolumesError : PySem.W.kitOne K (.ref A.c_ZeroRatioError) (.ref A.c_InvalidVolumesError) = some false
  ki_ZeroRatioError_InvalidTransfersError : PySem.W.kitOne K (.ref A.c_ZeroRatioError) (.ref A.c_InvalidTransfersError) = some false
  ki_ZeroRatioError_InvalidVesselError : PySem.W.kitOne K (.ref A.c_ZeroRatioError) (.ref A.c_InvalidVesselError) = some false
  ki_ZeroRatioError_InvalidRowsError : PySem.W.kitOne K (.ref A.c_ZeroRatioError) (.ref A.c_InvalidRowsError) = some false
  ki_ZeroRatioError_InvalidContentsError : PySem.W.kitOne K (.ref A.c_ZeroRatioError) (.ref A.c_InvalidContentsError) = some false
  ki_ZeroRatioError_InvalidGroupError : PySem.W.kitOne K (.ref A.c_ZeroRatioError) (.ref A.c_InvalidGroupError) = some false
  ki_ZeroRatioError_InvalidNumberError : PySem.W.kitOne K (.ref A.c_ZeroRatioError) (.ref A.c_InvalidNumberError) = some false
  ki_ZeroRatioError_InvalidFormatError : PySem.W.kitOne K (.ref A.c_ZeroRatioError) (.ref A.c_InvalidFormatError) = some false
  ki_ZeroRatioError_NotClosedError : PySem.W.kitOne K (.ref A.c_ZeroRatioError) (.ref A.c_NotClosedError) = some false
  ki_ZeroRatioError_TooSmallError : PySem.W.kitOne K (.ref A.c_ZeroRatioError) (.ref A.c_TooSmallError) = some false
  ki_ZeroRatioError_OverfullError : PySem.W.kitOne K (.ref A.c_ZeroRatioError) (.ref A.c_OverfullError) = some false
  ki_ZeroRatioError_SealedError : PySem.W.kitOne K (.ref A.c_ZeroRatioError) (.ref A.c_SealedError) = some false
  ki_ZeroRatioError_FullError : PySem.W.kitOne K (.ref A.c_ZeroRatioError) (.ref A.c_FullError) = some false
  ki_ZeroRatioError_StartedError : PySem.W.kitOne K (.ref A.c_ZeroRatioError) (.ref A.c_StartedError) = some false
  ki_ZeroRatioError_NotStartedError : PySem.W.kitOne K (.ref A.c_ZeroRatioError) (.ref A.c_NotStartedError) = some false
  ki_ZeroRatioError_EmptyHistoryError : PySem.W.kitOne K (.ref A.c_ZeroRatioError) (.ref A.c_EmptyHistoryError) = some false
  ki_ZeroRatioError_TooMuchError : PySem.W.kitOne K (.ref A.c_ZeroRatioError) (.ref A.c_TooMuchError) = some false
  ki_ZeroRatioError_TooManyError : PySem.W.kitOne K (.ref A.c_ZeroRatioError) (.ref A.c_TooManyError) = some false
  ki_InvalidRatioError_ValueError : PySem.W.kitOne K (.ref A.c_InvalidRatioError) (.type "ValueError") = some true
  ki_ZeroRatioError_ValueError : PySem.W.kitOne K (.ref A.c_ZeroRatioError) (.type "ValueError") = some true
  ki_Ratio_int : PySem.W.kitOne K (.ref A.c_Ratio) (.type "int") = some false
  ki_Ratio_bool : PySem.W.kitOne K (.ref A.c_Ratio) (.type "bool") = some false
  z_isinstance : mg "isinstance" = none
  z_int : mg "int" = none
  z_bool : mg "bool" = none
  z_max : mg "max" = none
  z_min : mg "min" = none
  z_len : mg "len" = none
  z_abs : mg "abs" = none
  z_repr : mg "repr" = none
  z_range : mg "range" = none
  z_enumerate : mg "enumerate" = none
  z_str : mg "str" = none
  z_list : mg "list" = none
  z_tuple : mg "tuple" = none
  z_type : mg "type" = none
  z_ValueError : mg "ValueError" = none
  mgi_gcd : mg "gcd" = some (.builtin "math.gcd")
theorem txt_mk {K : PySem.W.Frag} {h : Heap} {mg : Str → Option Value} (X : K.In h) (G : h.Ns mainGlobals mg)
  {a_law_outcome : Addr} {oc_law_outcome kV_law_outcome dc_law_outcome pm_law_outcome cd_law_outcome ct_law_outcome : Value} {od_law_outcome an_law_outcome : Option Addr} {sl_law_outcome : Array (Option Value)}
  {a_law_name_of : Addr} {oc_law_name_of kV_law_name_of dc_law_name_of pm_law_name_of cd_law_name_of ct_law_name_of : Value} {od_law_name_of an_law_name_of : Option Addr} {sl_law_name_of : Array (Option Value)}
  {a_law : Addr} {oc_law kV_law dc_law pm_law cd_law ct_law : Value} {od_law an_law : Option Addr} {sl_law : Array (Option Value)}
  {a_law_holds : Addr} {oc_law_holds kV_law_holds dc_law_holds pm_law_holds cd_law_holds ct_law_holds : Value} {od_law_holds an_law_holds : Option Addr} {sl_law_holds : Array (Option Value)}
  {a_law_pair : Addr} {oc_law_pair kV_law_pair dc_law_pair pm_law_pair cd_law_pair ct_law_pair : Value} {od_law_pair an_law_pair : Option Addr} {sl_law_pair : Array (Option Value)}
  {a_law_size : Addr} {oc_law_size kV_law_size dc_law_size pm_law_size cd_law_size ct_law_size : Value} {od_law_size an_law_size : Option Addr} {sl_law_size : Array (Option Value)}
  {a_law_draw : Addr} {oc_law_draw kV_law_draw dc_law_draw pm_law_draw cd_law_draw ct_law_draw : Value} {od_law_draw an_law_draw : Option Addr} {sl_law_draw : Array (Option Value)}
  {a_law_source : Addr} {oc_law_source kV_law_source dc_law_source pm_law_source cd_law_source ct_law_source : Value} {od_law_source an_law_source : Option Addr} {sl_law_source : Array (Option Value)}
  {a_total : Addr} {oc_total kV_total dc_total pm_total cd_total ct_total : Value} {od_total an_total : Option Addr} {sl_total : Array (Option Value)}
  {a_Ratio_is_less : Addr} {oc_Ratio_is_less kV_Ratio_is_less dc_Ratio_is_less pm_Ratio_is_less cd_Ratio_is_less ct_Ratio_is_less : Value} {od_Ratio_is_less an_Ratio_is_less : Option Addr} {sl_Ratio_is_less : Array (Option Value)}
  {a_Ratio_over : Addr} {oc_Ratio_over kV_Ratio_over dc_Ratio_over pm_Ratio_over cd_Ratio_over ct_Ratio_over : Value} {od_Ratio_over an_Ratio_over : Option Addr} {sl_Ratio_over : Array (Option Value)}
  {a_Ratio_add : Addr} {oc_Ratio_add kV_Ratio_add dc_Ratio_add pm_Ratio_add cd_Ratio_add ct_Ratio_add : Value} {od_Ratio_add an_Ratio_add : Option Addr} {sl_Ratio_add : Array (Option Value)}
  {a_Ratio_eq : Addr} {oc_Ratio_eq kV_Ratio_eq dc_Ratio_eq pm_Ratio_eq cd_Ratio_eq ct_Ratio_eq : Value} {od_Ratio_eq an_Ratio_eq : Option Addr} {sl_Ratio_eq : Array (Option Value)}
  {a_is_ratio : Addr} {oc_is_ratio kV_is_ratio dc_is_ratio pm_is_ratio cd_is_ratio ct_is_ratio : Value} {od_is_ratio an_is_ratio : Option Addr} {sl_is_ratio : Array (Option Value)}
  {p_Ratio_bottom : Addr} {r_Ratio_bottom : List Value}
  {a_Ratio_bottom : Addr} {oc_Ratio_bottom kV_Ratio_bottom dc_Ratio_bottom pm_Ratio_bottom cd_Ratio_bottom ct_Ratio_bottom : Value} {od_Ratio_bottom an_Ratio_bottom : Option Addr} {sl_Ratio_bottom : Array (Option Value)}
  {p_Ratio_top : Addr} {r_Ratio_top : List Value}
  {a_Ratio_top : Addr} {oc_Ratio_top kV_Ratio_top dc_Ratio_top pm_Ratio_top cd_Ratio_top ct_Ratio_top : Value} {od_Ratio_top an_Ratio_top : Option Addr} {sl_Ratio_top : Array (Option Value)}
  {a_Ratio_init : Addr} {oc_Ratio_init kV_Ratio_init dc_Ratio_init pm_Ratio_init cd_Ratio_init ct_Ratio_init : Value} {od_Ratio_init an_Ratio_init : Option Addr} {sl_Ratio_init : Array (Option Value)} {t_Ratio_init : Addr} {tc_Ratio_init : Value} {td_Ratio_init : Option Addr} {tn_Ratio_init : Nat} {ts_Ratio_init : Array (Option Value)} {tk_Ratio_init : Tok}
  {a_is_whole : Addr} {oc_is_whole kV_is_whole dc_is_whole pm_is_whole cd_is_whole ct_is_whole : Value} {od_is_whole an_is_whole : Option Addr} {sl_is_whole : Array (Option Value)}
  {c_TooManyError : Addr}
  {c_TooMuchError : Addr}
  {c_EmptyHistoryError : Addr}
  {c_NotStartedError : Addr}
  {c_StartedError : Addr}
  {c_FullError : Addr}
  {c_SealedError : Addr}
  {c_OverfullError : Addr}
  {c_TooSmallError : Addr}
  {c_NotClosedError : Addr}
  {c_InvalidFormatError : Addr}
  {c_InvalidNumberError : Addr}
  {c_InvalidGroupError : Addr}
  {c_InvalidContentsError : Addr}
  {c_InvalidRowsError : Addr}
  {c_InvalidVesselError : Addr}
  {c_InvalidTransfersError : Addr}
  {c_InvalidVolumesError : Addr}
  {c_InvalidSubstanceError : Addr}
  {c_InvalidMixtureError : Addr}
  {c_ZeroRatioError : Addr}
  {c_InvalidRatioError : Addr}
  {c_StirError : Addr}
  {c_Ratio : Addr}
  (m_Ratio : PySem.W.nsIn K mainGlobals "Ratio" = some (some (.ref c_Ratio)))
  (kc_Ratio : PySem.W.keepIn K (.ref c_Ratio) = true)
  (pg_Ratio : PySem.W.plainGet K c_Ratio Str.empty = true)
  (hd_Ratio : PySem.W.hasDictIn K c_Ratio = true)
  (po_Ratio : PySem.W.plainOver K c_Ratio = true)
  (sa_Ratio : PySem.W.findIn K (.ref c_Ratio) "__setattr__" = some (some (.builtin "object.__setattr__")))
  (cc_Ratio : PySem.W.findIn K (.ref c_Ratio) "__class__" = some (some (.builtin "object.__class__")))
  (mo_Ratio : PySem.W.mroIn K c_Ratio (.type "object") = some true)
  (sf_Ratio : PySem.W.selfFirst K c_Ratio = true)
  (ne_Ratio : PySem.W.findIn K (.ref c_Ratio) "__ne__" = some (some (.builtin "object.__ne__")))
  (fai_Ratio : PySem.W.subIn K (.ref c_Ratio) (.type "int") = some false)
  (fab_Ratio : PySem.W.subIn K (.ref c_Ratio) (.type "bool") = some false)
  (fas_Ratio : PySem.W.subIn K (.ref c_Ratio) (.type "str") = some false)
  (fan_Ratio : PySem.W.subIn K (.ref c_Ratio) (.type "NoneType") = some false)
  (fal_Ratio : PySem.W.subIn K (.ref c_Ratio) (.type "list") = some false)
  (fat_Ratio : PySem.W.subIn K (.ref c_Ratio) (.type "tuple") = some false)
  (fad_Ratio : PySem.W.subIn K (.ref c_Ratio) (.type "dict") = some false)
  (na_Ratio_top : PySem.W.findIn K (.ref c_Ratio) "_top" = some none)
  (na_Ratio_bottom : PySem.W.findIn K (.ref c_Ratio) "_bottom" = some none)
  (m_StirError : PySem.W.nsIn K mainGlobals "StirError" = some (some (.ref c_StirError)))
  (kc_StirError : PySem.W.keepIn K (.ref c_StirError) = true)
  (eb_StirError : PySem.W.subIn K (.ref c_StirError) (.type "BaseException") = some true)
  (et_StirError : PySem.W.typeIn K (.ref c_StirError) = some (.type "type"))
  (eh_StirError : PySem.W.hasDictIn K c_StirError = true)
  (m_InvalidRatioError : PySem.W.nsIn K mainGlobals "InvalidRatioError" = some (some (.ref c_InvalidRatioError)))
  (kc_InvalidRatioError : PySem.W.keepIn K (.ref c_InvalidRatioError) = true)
  (eb_InvalidRatioError : PySem.W.subIn K (.ref c_InvalidRatioError) (.type "BaseException") = some true)
  (et_InvalidRatioError : PySem.W.typeIn K (.ref c_InvalidRatioError) = some (.type "type"))
  (eh_InvalidRatioError : PySem.W.hasDictIn K c_InvalidRatioError = true)
  (ex_InvalidRatioError : PySem.W.excIn K c_InvalidRatioError [.type "ValueError", .type "Exception", .type "BaseException", .type "object"] "ValueError.__new__" = true)
  (eg_InvalidRatioError : PySem.W.findIn K (.ref c_InvalidRatioError) "__getattribute__" = some (some (.builtin "BaseException.__getattribute__")))
  (ek_InvalidRatioError : PySem.W.findIn K (.ref c_InvalidRatioError) "__getattr__" = some none)
  (ec_InvalidRatioError : PySem.W.findIn K (.ref c_InvalidRatioError) "__class__" = some (some (.builtin "object.__class__")))
  (em_InvalidRatioError : PySem.W.mroIn K c_InvalidRatioError (.type "object") = some true)
  (es_InvalidRatioError_StirError : PySem.W.subIn K (.ref c_InvalidRatioError) (.ref c_StirError) = some true)
  (m_ZeroRatioError : PySem.W.nsIn K mainGlobals "ZeroRatioError" = some (some (.ref c_ZeroRatioError)))
  (kc_ZeroRatioError : PySem.W.keepIn K (.ref c_ZeroRatioError) = true)
  (eb_ZeroRatioError : PySem.W.subIn K (.ref c_ZeroRatioError) (.type "BaseException") = some true)
  (et_ZeroRatioError : PySem.W.typeIn K (.ref c_ZeroRatioError) = some (.type "type"))
  (eh_ZeroRatioError : PySem.W.hasDictIn K c_ZeroRatioError = true)
  (ex_ZeroRatioError : PySem.W.excIn K c_ZeroRatioError [.type "ValueError", .type "Exception", .type "BaseException", .type "object"] "ValueError.__new__" = true)
  (eg_ZeroRatioError : PySem.W.findIn K (.ref c_ZeroRatioError) "__getattribute__" = some (some (.builtin "BaseException.__getattribute__")))
  (ek_ZeroRatioError : PySem.W.findIn K (.ref c_ZeroRatioError) "__getattr__" = some none)
  (ec_ZeroRatioError : PySem.W.findIn K (.ref c_ZeroRatioError) "__class__" = some (some (.builtin "object.__class__")))
  (em_ZeroRatioError : PySem.W.mroIn K c_ZeroRatioError (.type "object") = some true)
  (es_ZeroRatioError_StirError : PySem.W.subIn K (.ref c_ZeroRatioError) (.ref c_StirError) = some true)
  (m_InvalidMixtureError : PySem.W.nsIn K mainGlobals "InvalidMixtureError" = some (some (.ref c_InvalidMixtureError)))
  (kc_InvalidMixtureError : PySem.W.keepIn K (.ref c_InvalidMixtureError) = true)
  (m_InvalidSubstanceError : PySem.W.nsIn K mainGlobals "InvalidSubstanceError" = some (some (.ref c_InvalidSubstanceError)))
  (kc_InvalidSubstanceError : PySem.W.keepIn K (.ref c_InvalidSubstanceError) = true)
  (m_InvalidVolumesError : PySem.W.nsIn K mainGlobals "InvalidVolumesError" = some (some (.ref c_InvalidVolumesError)))
  (kc_InvalidVolumesError : PySem.W.keepIn K (.ref c_InvalidVolumesError) = true)
  (m_InvalidTransfersError : PySem.W.nsIn K mainGlobals "InvalidTransfersError" = some (some (.ref c_InvalidTransfersError)))
  (kc_InvalidTransfersError : PySem.W.keepIn K (.ref c_InvalidTransfersError) = true)
  (m_InvalidVesselError : PySem.W.nsIn K mainGlobals "InvalidVesselError" = some (some (.ref c_InvalidVesselError)))
  (kc_InvalidVesselError : PySem.W.keepIn K (.ref c_InvalidVesselError) = true)
  (m_InvalidRowsError : PySem.W.nsIn K mainGlobals "InvalidRowsError" = some (some (.ref c_InvalidRowsError)))
  (kc_InvalidRowsError : PySem.W.keepIn K (.ref c_InvalidRowsError) = true)
  (m_InvalidContentsError : PySem.W.nsIn K mainGlobals "InvalidContentsError" = some (some (.ref c_InvalidContentsError)))
  (kc_InvalidContentsError : PySem.W.keepIn K (.ref c_InvalidContentsError) = true)
  (m_InvalidGroupError : PySem.W.nsIn K mainGlobals "InvalidGroupError" = some (some (.ref c_InvalidGroupError)))
  (kc_InvalidGroupError : PySem.W.keepIn K (.ref c_InvalidGroupError) = true)
  (m_InvalidNumberError : PySem.W.nsIn K mainGlobals "InvalidNumberError" = some (some (.ref c_InvalidNumberError)))
  (kc_InvalidNumberError : PySem.W.keepIn K (.ref c_InvalidNumberError) = true)
  (m_InvalidFormatError : PySem.W.nsIn K mainGlobals "InvalidFormatError" = some (some (.ref c_InvalidFormatError)))
  (kc_InvalidFormatError : PySem.W.keepIn K (.ref c_InvalidFormatError) = true)
  (m_NotClosedError : PySem.W.nsIn K mainGlobals "NotClosedError" = some (some (.ref c_NotClosedError)))
  (kc_NotClosedError : PySem.W.keepIn K (.ref c_NotClosedError) = true)
  (m_TooSmallError : PySem.W.nsIn K mainGlobals "TooSmallError" = some (some (.ref c_TooSmallError)))
  (kc_TooSmallError : PySem.W.keepIn K (.ref c_TooSmallError) = true)
  (m_OverfullError : PySem.W.nsIn K mainGlobals "OverfullError" = some (some (.ref c_OverfullError)))
  (kc_OverfullError : PySem.W.keepIn K (.ref c_OverfullError) = true)
  (m_SealedError : PySem.W.nsIn K mainGlobals "SealedError" = some (some (.ref c_SealedError)))
  (kc_SealedError : PySem.W.keepIn K (.ref c_SealedError) = true)
  (m_FullError : PySem.W.nsIn K mainGlobals "FullError" = some (some (.ref c_FullError)))
  (kc_FullError : PySem.W.keepIn K (.ref c_FullError) = true)
  (m_StartedError : PySem.W.nsIn K mainGlobals "StartedError" = some (some (.ref c_StartedError)))
  (kc_StartedError : PySem.W.keepIn K (.ref c_StartedError) = true)
  (m_NotStartedError : PySem.W.nsIn K mainGlobals "NotStartedError" = some (some (.ref c_NotStartedError)))
  (kc_NotStartedError : PySem.W.keepIn K (.ref c_NotStartedError) = true)
  (m_EmptyHistoryError : PySem.W.nsIn K mainGlobals "EmptyHistoryError" = some (some (.ref c_EmptyHistoryError)))
  (kc_EmptyHistoryError : PySem.W.keepIn K (.ref c_EmptyHistoryError) = true)
  (m_TooMuchError : PySem.W.nsIn K mainGlobals "TooMuchError" = some (some (.ref c_TooMuchError)))
  (kc_TooMuchError : PySem.W.keepIn K (.ref c_TooMuchError) = true)
  (m_TooManyError : PySem.W.nsIn K mainGlobals "TooManyError" = some (some (.ref c_TooManyError)))
  (kc_TooManyError : PySem.W.keepIn K (.ref c_TooManyError) = true)
  (m_is_whole : PySem.W.nsIn K mainGlobals "is_whole" = some (some (.ref a_is_whole)))
  (l_is_whole : K.lookup a_is_whole = some ⟨oc_is_whole, od_is_whole, .func (PySem.W.fnOf "is_whole" "is_whole" (defArgs s_is_whole) (defBody s_is_whole) (defScope s_is_whole) (.none) kV_is_whole dc_is_whole pm_is_whole an_is_whole cd_is_whole ct_is_whole), sl_is_whole⟩)
  (k_is_whole : PySem.W.codeIn K cd_is_whole "is_whole" = true)
  (e_is_whole : PySem.W.keepIn K (.ref a_is_whole) = true)
  (i_Ratio_init : PySem.W.findIn K (.ref c_Ratio) "__init__" = some (some (.ref a_Ratio_init)))
  (f_Ratio_init : PySem.W.isFn K (.ref a_Ratio_init) = true)
  (l_Ratio_init : K.lookup a_Ratio_init = some ⟨oc_Ratio_init, od_Ratio_init, .func (PySem.W.fnOf "__init__" "Ratio.__init__" (defArgs s_Ratio_init) (defBody s_Ratio_init) (defScope s_Ratio_init) (.ref t_Ratio_init) kV_Ratio_init dc_Ratio_init pm_Ratio_init an_Ratio_init cd_Ratio_init ct_Ratio_init), sl_Ratio_init⟩)
  (k_Ratio_init : PySem.W.codeIn K cd_Ratio_init "Ratio.__init__" = true)
  (e_Ratio_init : PySem.W.keepIn K (.ref a_Ratio_init) = true)
  (t_Ratio_init_ : K.lookup t_Ratio_init = some ⟨tc_Ratio_init, td_Ratio_init, .seq #[Value.int 1 tk_Ratio_init] tn_Ratio_init, ts_Ratio_init⟩)
  (mk_Ratio : PySem.W.makesIn K c_Ratio = true)
  (pa_Ratio_top : PySem.W.findIn K (.ref c_Ratio) "top" = some (some (.ref p_Ratio_top)))
  (pg_Ratio_top : PySem.W.specialIn K (.ref p_Ratio_top) "__get__" = some (some (.builtin "property.__get__")))
  (pt_Ratio_top : PySem.W.takesIn K (.ref p_Ratio_top) = some true)
  (pr_Ratio_top : PySem.W.recIn K p_Ratio_top "property" = some (.ref a_Ratio_top :: r_Ratio_top))
  (l_Ratio_top : K.lookup a_Ratio_top = some ⟨oc_Ratio_top, od_Ratio_top, .func (PySem.W.fnOf "top" "Ratio.top" (defArgs s_Ratio_top) (defBody s_Ratio_top) (defScope s_Ratio_top) (.none) kV_Ratio_top dc_Ratio_top pm_Ratio_top an_Ratio_top cd_Ratio_top ct_Ratio_top), sl_Ratio_top⟩)
  (k_Ratio_top : PySem.W.codeIn K cd_Ratio_top "Ratio.top" = true)
  (e_Ratio_top : PySem.W.keepIn K (.ref a_Ratio_top) = true)
  (pa_Ratio_bottom : PySem.W.findIn K (.ref c_Ratio) "bottom" = some (some (.ref p_Ratio_bottom)))
  (pg_Ratio_bottom : PySem.W.specialIn K (.ref p_Ratio_bottom) "__get__" = some (some (.builtin "property.__get__")))
  (pt_Ratio_bottom : PySem.W.takesIn K (.ref p_Ratio_bottom) = some true)
  (pr_Ratio_bottom : PySem.W.recIn K p_Ratio_bottom "property" = some (.ref a_Ratio_bottom :: r_Ratio_bottom))
  (l_Ratio_bottom : K.lookup a_Ratio_bottom = some ⟨oc_Ratio_bottom, od_Ratio_bottom, .func (PySem.W.fnOf "bottom" "Ratio.bottom" (defArgs s_Ratio_bottom) (defBody s_Ratio_bottom) (defScope s_Ratio_bottom) (.none) kV_Ratio_bottom dc_Ratio_bottom pm_Ratio_bottom an_Ratio_bottom cd_Ratio_bottom ct_Ratio_bottom), sl_Ratio_bottom⟩)
  (k_Ratio_bottom : PySem.W.codeIn K cd_Ratio_bottom "Ratio.bottom" = true)
  (e_Ratio_bottom : PySem.W.keepIn K (.ref a_Ratio_bottom) = true)
  (m_is_ratio : PySem.W.nsIn K mainGlobals "is_ratio" = some (some (.ref a_is_ratio)))
  (l_is_ratio : K.lookup a_is_ratio = some ⟨oc_is_ratio, od_is_ratio, .func (PySem.W.fnOf "is_ratio" "is_ratio" (defArgs s_is_ratio) (defBody s_is_ratio) (defScope s_is_ratio) (.none) kV_is_ratio dc_is_ratio pm_is_ratio an_is_ratio cd_is_ratio ct_is_ratio), sl_is_ratio⟩)
  (k_is_ratio : PySem.W.codeIn K cd_is_ratio "is_ratio" = true)
  (e_is_ratio : PySem.W.keepIn K (.ref a_is_ratio) = true)
  (i_Ratio_eq : PySem.W.findIn K (.ref c_Ratio) "__eq__" = some (some (.ref a_Ratio_eq)))
  (f_Ratio_eq : PySem.W.isFn K (.ref a_Ratio_eq) = true)
  (l_Ratio_eq : K.lookup a_Ratio_eq = some ⟨oc_Ratio_eq, od_Ratio_eq, .func (PySem.W.fnOf "__eq__" "Ratio.__eq__" (defArgs s_Ratio_eq) (defBody s_Ratio_eq) (defScope s_Ratio_eq) (.none) kV_Ratio_eq dc_Ratio_eq pm_Ratio_eq an_Ratio_eq cd_Ratio_eq ct_Ratio_eq), sl_Ratio_eq⟩)
  (k_Ratio_eq : PySem.W.codeIn K cd_Ratio_eq "Ratio.__eq__" = true)
  (e_Ratio_eq : PySem.W.keepIn K (.ref a_Ratio_eq) = true)
  (i_Ratio_add : PySem.W.findIn K (.ref c_Ratio) "__add__" = some (some (.ref a_Ratio_add)))
  (f_Ratio_add : PySem.W.isFn K (.ref a_Ratio_add) = true)
  (l_Ratio_add : K.lookup a_Ratio_add = some ⟨oc_Ratio_add, od_Ratio_add, .func (PySem.W.fnOf "__add__" "Ratio.__add__" (defArgs s_Ratio_add) (defBody s_Ratio_add) (defScope s_Ratio_add) (.none) kV_Ratio_add dc_Ratio_add pm_Ratio_add an_Ratio_add cd_Ratio_add ct_Ratio_add), sl_Ratio_add⟩)
  (k_Ratio_add : PySem.W.codeIn K cd_Ratio_add "Ratio.__add__" = true)
  (e_Ratio_add : PySem.W.keepIn K (.ref a_Ratio_add) = true)
  (i_Ratio_over : PySem.W.findIn K (.ref c_Ratio) "over" = some (some (.ref a_Ratio_over)))
  (f_Ratio_over : PySem.W.isFn K (.ref a_Ratio_over) = true)
  (l_Ratio_over : K.lookup a_Ratio_over = some ⟨oc_Ratio_over, od_Ratio_over, .func (PySem.W.fnOf "over" "Ratio.over" (defArgs s_Ratio_over) (defBody s_Ratio_over) (defScope s_Ratio_over) (.none) kV_Ratio_over dc_Ratio_over pm_Ratio_over an_Ratio_over cd_Ratio_over ct_Ratio_over), sl_Ratio_over⟩)
  (k_Ratio_over : PySem.W.codeIn K cd_Ratio_over "Ratio.over" = true)
  (e_Ratio_over : PySem.W.keepIn K (.ref a_Ratio_over) = true)
  (i_Ratio_is_less : PySem.W.findIn K (.ref c_Ratio) "is_less" = some (some (.ref a_Ratio_is_less)))
  (f_Ratio_is_less : PySem.W.isFn K (.ref a_Ratio_is_less) = true)
  (l_Ratio_is_less : K.lookup a_Ratio_is_less = some ⟨oc_Ratio_is_less, od_Ratio_is_less, .func (PySem.W.fnOf "is_less" "Ratio.is_less" (defArgs s_Ratio_is_less) (defBody s_Ratio_is_less) (defScope s_Ratio_is_less) (.none) kV_Ratio_is_less dc_Ratio_is_less pm_Ratio_is_less an_Ratio_is_less cd_Ratio_is_less ct_Ratio_is_less), sl_Ratio_is_less⟩)
  (k_Ratio_is_less : PySem.W.codeIn K cd_Ratio_is_less "Ratio.is_less" = true)
  (e_Ratio_is_less : PySem.W.keepIn K (.ref a_Ratio_is_less) = true)
  (m_total : PySem.W.nsIn K mainGlobals "total" = some (some (.ref a_total)))
  (l_total : K.lookup a_total = some ⟨oc_total, od_total, .func (PySem.W.fnOf "total" "total" (defArgs s_total) (defBody s_total) (defScope s_total) (.none) kV_total dc_total pm_total an_total cd_total ct_total), sl_total⟩)
  (k_total : PySem.W.codeIn K cd_total "total" = true)
  (e_total : PySem.W.keepIn K (.ref a_total) = true)
  (m_law_source : PySem.W.nsIn K mainGlobals "_law_source" = some (some (.ref a_law_source)))
  (l_law_source : K.lookup a_law_source = some ⟨oc_law_source, od_law_source, .func (PySem.W.fnOf "_law_source" "_law_source" (defArgs s_law_source) (defBody s_law_source) (defScope s_law_source) (.none) kV_law_source dc_law_source pm_law_source an_law_source cd_law_source ct_law_source), sl_law_source⟩)
  (k_law_source : PySem.W.codeIn K cd_law_source "_law_source" = true)
  (e_law_source : PySem.W.keepIn K (.ref a_law_source) = true)
  (m_law_draw : PySem.W.nsIn K mainGlobals "_law_draw" = some (some (.ref a_law_draw)))
  (l_law_draw : K.lookup a_law_draw = some ⟨oc_law_draw, od_law_draw, .func (PySem.W.fnOf "_law_draw" "_law_draw" (defArgs s_law_draw) (defBody s_law_draw) (defScope s_law_draw) (.none) kV_law_draw dc_law_draw pm_law_draw an_law_draw cd_law_draw ct_law_draw), sl_law_draw⟩)
  (k_law_draw : PySem.W.codeIn K cd_law_draw "_law_draw" = true)
  (e_law_draw : PySem.W.keepIn K (.ref a_law_draw) = true)
  (m_law_size : PySem.W.nsIn K mainGlobals "_law_size" = some (some (.ref a_law_size)))
  (l_law_size : K.lookup a_law_size = some ⟨oc_law_size, od_law_size, .func (PySem.W.fnOf "_law_size" "_law_size" (defArgs s_law_size) (defBody s_law_size) (defScope s_law_size) (.none) kV_law_size dc_law_size pm_law_size an_law_size cd_law_size ct_law_size), sl_law_size⟩)
  (k_law_size : PySem.W.codeIn K cd_law_size "_law_size" = true)
  (e_law_size : PySem.W.keepIn K (.ref a_law_size) = true)
  (m_law_pair : PySem.W.nsIn K mainGlobals "_law_pair" = some (some (.ref a_law_pair)))
  (l_law_pair : K.lookup a_law_pair = some ⟨oc_law_pair, od_law_pair, .func (PySem.W.fnOf "_law_pair" "_law_pair" (defArgs s_law_pair) (defBody s_law_pair) (defScope s_law_pair) (.none) kV_law_pair dc_law_pair pm_law_pair an_law_pair cd_law_pair ct_law_pair), sl_law_pair⟩)
  (k_law_pair : PySem.W.codeIn K cd_law_pair "_law_pair" = true)
  (e_law_pair : PySem.W.keepIn K (.ref a_law_pair) = true)
  (m_law_holds : PySem.W.nsIn K mainGlobals "_law_holds" = some (some (.ref a_law_holds)))
  (l_law_holds : K.lookup a_law_holds = some ⟨oc_law_holds, od_law_holds, .func (PySem.W.fnOf "_law_holds" "_law_holds" (defArgs s_law_holds) (defBody s_law_holds) (defScope s_law_holds) (.none) kV_law_holds dc_law_holds pm_law_holds an_law_holds cd_law_holds ct_law_holds), sl_law_holds⟩)
  (k_law_holds : PySem.W.codeIn K cd_law_holds "_law_holds" = true)
  (e_law_holds : PySem.W.keepIn K (.ref a_law_holds) = true)
  (m_law : PySem.W.nsIn K mainGlobals "law" = some (some (.ref a_law)))
  (l_law : K.lookup a_law = some ⟨oc_law, od_law, .func (PySem.W.fnOf "law" "law" (defArgs s_law) (defBody s_law) (defScope s_law) (.none) kV_law dc_law pm_law an_law cd_law ct_law), sl_law⟩)
  (k_law : PySem.W.codeIn K cd_law "law" = true)
  (e_law : PySem.W.keepIn K (.ref a_law) = true)
  (m_law_name_of : PySem.W.nsIn K mainGlobals "_law_name_of" = some (some (.ref a_law_name_of)))
  (l_law_name_of : K.lookup a_law_name_of = some ⟨oc_law_name_of, od_law_name_of, .func (PySem.W.fnOf "_law_name_of" "_law_name_of" (defArgs s_law_name_of) (defBody s_law_name_of) (defScope s_law_name_of) (.none) kV_law_name_of dc_law_name_of pm_law_name_of an_law_name_of cd_law_name_of ct_law_name_of), sl_law_name_of⟩)
  (k_law_name_of : PySem.W.codeIn K cd_law_name_of "_law_name_of" = true)
  (e_law_name_of : PySem.W.keepIn K (.ref a_law_name_of) = true)
  (m_law_outcome : PySem.W.nsIn K mainGlobals "_law_outcome" = some (some (.ref a_law_outcome)))
  (l_law_outcome : K.lookup a_law_outcome = some ⟨oc_law_outcome, od_law_outcome, .func (PySem.W.fnOf "_law_outcome" "_law_outcome" (defArgs s_law_outcome) (defBody s_law_outcome) (defScope s_law_outcome) (.none) kV_law_outcome dc_law_outcome pm_law_outcome an_law_outcome cd_law_outcome ct_law_outcome), sl_law_outcome⟩)
  (k_law_outcome : PySem.W.codeIn K cd_law_outcome "_law_outcome" = true)
  (e_law_outcome : PySem.W.keepIn K (.ref a_law_outcome) = true)
  (sg_ : PySem.W.specialIn K (.builtin "object.__class__") "__get__" = some (some (.builtin "getset_descriptor.__get__")))
  (st_ : PySem.W.takesIn K (.builtin "object.__class__") = some true)
  (ki_int_Ratio : PySem.W.kitOne K (.type "int") (.ref c_Ratio) = some false)
  (ki_tuple_Ratio : PySem.W.kitOne K (.type "tuple") (.ref c_Ratio) = some false)
  (ki_list_Ratio : PySem.W.kitOne K (.type "list") (.ref c_Ratio) = some false)
  (ki_NoneType_Ratio : PySem.W.kitOne K (.type "NoneType") (.ref c_Ratio) = some false)
  (ki_bool_Ratio : PySem.W.kitOne K (.type "bool") (.ref c_Ratio) = some false)
  (ki_str_Ratio : PySem.W.kitOne K (.type "str") (.ref c_Ratio) = some false)
  (ki_dict_Ratio : PySem.W.kitOne K (.type "dict") (.ref c_Ratio) = some false)
  (ki_Ratio_Ratio : PySem.W.kitOne K (.ref c_Ratio) (.ref c_Ratio) = some true)
  (ki_InvalidRatioError_InvalidRatioError : PySem.W.kitOne K (.ref c_InvalidRatioError) (.ref c_InvalidRatioError) = some true)
  (ki_InvalidRatioError_ZeroRatioError : PySem.W.kitOne K (.ref c_InvalidRatioError) (.ref c_ZeroRatioError) = some false)
  (ki_InvalidRatioError_InvalidMixtureError : PySem.W.kitOne K (.ref c_InvalidRatioError) (.ref c_InvalidMixtureError) = some false)
  (ki_InvalidRatioError_InvalidSubstanceError : PySem.W.kitOne K (.ref c_InvalidRatioError) (.ref c_InvalidSubstanceError) = some false)
  (ki_InvalidRatioError_InvalidVolumesError : PySem.W.kitOne K (.ref c_InvalidRatioError) (.ref c_InvalidVolumesError) = some false)
  (ki_InvalidRatioError_InvalidTransfersError : PySem.W.kitOne K (.ref c_InvalidRatioError) (.ref c_InvalidTransfersError) = some false)
  (ki_InvalidRatioError_InvalidVesselError : PySem.W.kitOne K (.ref c_InvalidRatioError) (.ref c_InvalidVesselError) = some false)
  (ki_InvalidRatioError_InvalidRowsError : PySem.W.kitOne K (.ref c_InvalidRatioError) (.ref c_InvalidRowsError) = some false)
  (ki_InvalidRatioError_InvalidContentsError : PySem.W.kitOne K (.ref c_InvalidRatioError) (.ref c_InvalidContentsError) = some false)
  (ki_InvalidRatioError_InvalidGroupError : PySem.W.kitOne K (.ref c_InvalidRatioError) (.ref c_InvalidGroupError) = some false)
  (ki_InvalidRatioError_InvalidNumberError : PySem.W.kitOne K (.ref c_InvalidRatioError) (.ref c_InvalidNumberError) = some false)
  (ki_InvalidRatioError_InvalidFormatError : PySem.W.kitOne K (.ref c_InvalidRatioError) (.ref c_InvalidFormatError) = some false)
  (ki_InvalidRatioError_NotClosedError : PySem.W.kitOne K (.ref c_InvalidRatioError) (.ref c_NotClosedError) = some false)
  (ki_InvalidRatioError_TooSmallError : PySem.W.kitOne K (.ref c_InvalidRatioError) (.ref c_TooSmallError) = some false)
  (ki_InvalidRatioError_OverfullError : PySem.W.kitOne K (.ref c_InvalidRatioError) (.ref c_OverfullError) = some false)
  (ki_InvalidRatioError_SealedError : PySem.W.kitOne K (.ref c_InvalidRatioError) (.ref c_SealedError) = some false)
  (ki_InvalidRatioError_FullError : PySem.W.kitOne K (.ref c_InvalidRatioError) (.ref c_FullError) = some false)
  (ki_InvalidRatioError_StartedError : PySem.W.kitOne K (.ref c_InvalidRatioError) (.ref c_StartedError) = some false)
  (ki_InvalidRatioError_NotStartedError : PySem.W.kitOne K (.ref c_InvalidRatioError) (.ref c_NotStartedError) = some false)
  (ki_InvalidRatioError_EmptyHistoryError : PySem.W.kitOne K (.ref c_InvalidRatioError) (.ref c_EmptyHistoryError) = some false)
  (ki_InvalidRatioError_TooMuchError : PySem.W.kitOne K (.ref c_InvalidRatioError) (.ref c_TooMuchError) = some false)
  (ki_InvalidRatioError_TooManyError : PySem.W.kitOne K (.ref c_InvalidRatioError) (.ref c_TooManyError) = some false)
  (ki_ZeroRatioError_InvalidRatioError : PySem.W.kitOne K (.ref c_ZeroRatioError) (.ref c_InvalidRatioError) = some false)
  (ki_ZeroRatioError_ZeroRatioError : PySem.W.kitOne K (.ref c_ZeroRatioError) (.ref c_ZeroRatioError) = some true)
  (ki_ZeroRatioError_InvalidMixtureError : PySem.W.kitOne K (.ref c_ZeroRatioError) (.ref c_InvalidMixtureError) = some false)
  (ki_ZeroRatioError_InvalidSubstanceError : PySem.W.kitOne K (.ref c_ZeroRatioError) (.ref c_InvalidSubstanceError) = some false)
  (ki_ZeroRatioError_InvalidVolumesError : PySem.W.kitOne K (.ref c_ZeroRatioError) (.ref c_InvalidVolumesError) = some false)
  (ki_ZeroRatioError_InvalidTransfersError : PySem.W.kitOne K (.ref c_ZeroRatioError) (.ref c_InvalidTransfersError) = some false)
  (ki_ZeroRatioError_InvalidVesselError : PySem.W.kitOne K (.ref c_ZeroRatioError) (.ref c_InvalidVesselError) = some false)
  (ki_ZeroRatioError_InvalidRowsError : PySem.W.kitOne K (.ref c_ZeroRatioError) (.ref c_InvalidRowsError) = some false)
  (ki_ZeroRatioError_InvalidContentsError : PySem.W.kitOne K (.ref c_ZeroRatioError) (.ref c_InvalidContentsError) = some false)
  (ki_ZeroRatioError_InvalidGroupError : PySem.W.kitOne K (.ref c_ZeroRatioError) (.ref c_InvalidGroupError) = some false)
  (ki_ZeroRatioError_InvalidNumberError : PySem.W.kitOne K (.ref c_ZeroRatioError) (.ref c_InvalidNumberError) = some false)
  (ki_ZeroRatioError_InvalidFormatError : PySem.W.kitOne K (.ref c_ZeroRatioError) (.ref c_InvalidFormatError) = some false)
  (ki_ZeroRatioError_NotClosedError : PySem.W.kitOne K (.ref c_ZeroRatioError) (.ref c_NotClosedError) = some false)
  (ki_ZeroRatioError_TooSmallError : PySem.W.kitOne K (.ref c_ZeroRatioError) (.ref c_TooSmallError) = some false)
  (ki_ZeroRatioError_OverfullError : PySem.W.kitOne K (.ref c_ZeroRatioError) (.ref c_OverfullError) = some false)
  (ki_ZeroRatioError_SealedError : PySem.W.kitOne K (.ref c_ZeroRatioError) (.ref c_SealedError) = some false)
  (ki_ZeroRatioError_FullError : PySem.W.kitOne K (.ref c_ZeroRatioError) (.ref c_FullError) = some false)
  (ki_ZeroRatioError_StartedError : PySem.W.kitOne K (.ref c_ZeroRatioError) (.ref c_StartedError) = some false)
  (ki_ZeroRatioError_NotStartedError : PySem.W.kitOne K (.ref c_ZeroRatioError) (.ref c_NotStartedError) = some false)
  (ki_ZeroRatioError_EmptyHistoryError : PySem.W.kitOne K (.ref c_ZeroRatioError) (.ref c_EmptyHistoryError) = some false)
  (ki_ZeroRatioError_TooMuchError : PySem.W.kitOne K (.ref c_ZeroRatioError) (.ref c_TooMuchError) = some false)
  (ki_ZeroRatioError_TooManyError : PySem.W.kitOne K (.ref c_ZeroRatioError) (.ref c_TooManyError) = some false)
  (ki_InvalidRatioError_ValueError : PySem.W.kitOne K (.ref c_InvalidRatioError) (.type "ValueError") = some true)
  (ki_ZeroRatioError_ValueError : PySem.W.kitOne K (.ref c_ZeroRatioError) (.type "ValueError") = some true)
  (ki_Ratio_int : PySem.W.kitOne K (.ref c_Ratio) (.type "int") = some false)
  (ki_Ratio_bool : PySem.W.kitOne K (.ref c_Ratio) (.type "bool") = some false)
  (z_isinstance : PySem.W.nsIn K mainGlobals "isinstance" = some none)
  (z_int : PySem.W.nsIn K mainGlobals "int" = some none)
  (z_bool : PySem.W.nsIn K mainGlobals "bool" = some none)
  (z_max : PySem.W.nsIn K mainGlobals "max" = some none)
  (z_min : PySem.W.nsIn K mainGlobals "min" = some none)
  (z_len : PySem.W.nsIn K mainGlobals "len" = some none)
  (z_abs : PySem.W.nsIn K mainGlobals "abs" = some none)
  (z_repr : PySem.W.nsIn K mainGlobals "repr" = some none)
  (z_range : PySem.W.nsIn K mainGlobals "range" = some none)
  (z_enumerate : PySem.W.nsIn K mainGlobals "enumerate" = some none)
  (z_str : PySem.W.nsIn K mainGlobals "str" = some none)
  (z_list : PySem.W.nsIn K mainGlobals "list" = some none)
  (z_tuple : PySem.W.nsIn K mainGlobals "tuple" = some none)
  (z_type : PySem.W.nsIn K mainGlobals "type" = some none)
  (z_ValueError : PySem.W.nsIn K mainGlobals "ValueError" = some none)
  (mi_gcd : PySem.W.nsIn K mainGlobals "gcd" = some (some (.builtin "math.gcd"))) :
  Txt K mg ⟨a_is_whole, (PySem.W.fnOf "is_whole" "is_whole" (defArgs s_is_whole) (defBody s_is_whole) (defScope s_is_whole) (.none) kV_is_whole dc_is_whole pm_is_whole an_is_whole cd_is_whole ct_is_whole), a_Ratio_init, (PySem.W.fnOf "__init__" "Ratio.__init__" (defArgs s_Ratio_init) (defBody s_Ratio_init) (defScope s_Ratio_init) (.ref t_Ratio_init) kV_Ratio_init dc_Ratio_init pm_Ratio_init an_Ratio_init cd_Ratio_init ct_Ratio_init), a_Ratio_top, (PySem.W.fnOf "top" "Ratio.top" (defArgs s_Ratio_top) (defBody s_Ratio_top) (defScope s_Ratio_top) (.none) kV_Ratio_top dc_Ratio_top pm_Ratio_top an_Ratio_top cd_Ratio_top ct_Ratio_top), a_Ratio_bottom, (PySem.W.fnOf "bottom" "Ratio.bottom" (defArgs s_Ratio_bottom) (defBody s_Ratio_bottom) (defScope s_Ratio_bottom) (.none) kV_Ratio_bottom dc_Ratio_bottom pm_Ratio_bottom an_Ratio_bottom cd_Ratio_bottom ct_Ratio_bottom), a_is_ratio, (PySem.W.fnOf "is_ratio" "is_ratio" (defArgs s_is_ratio) (defBody s_is_ratio) (defScope s_is_ratio) (.none) kV_is_ratio dc_is_ratio pm_is_ratio an_is_ratio cd_is_ratio ct_is_ratio), a_Ratio_eq, (PySem.W.fnOf "__eq__" "Ratio.__eq__" (defArgs s_Ratio_eq) (defBody s_Ratio_eq) (defScope s_Ratio_eq) (.none) kV_Ratio_eq dc_Ratio_eq pm_Ratio_eq an_Ratio_eq cd_Ratio_eq ct_Ratio_eq), a_Ratio_add, (PySem.W.fnOf "__add__" "Ratio.__add__" (defArgs s_Ratio_add) (defBody s_Ratio_add) (defScope s_Ratio_add) (.none) kV_Ratio_add dc_Ratio_add pm_Ratio_add an_Ratio_add cd_Ratio_add ct_Ratio_add), a_Ratio_over, (PySem.W.fnOf "over" "Ratio.over" (defArgs s_Ratio_over) (defBody s_Ratio_over) (defScope s_Ratio_over) (.none) kV_Ratio_over dc_Ratio_over pm_Ratio_over an_Ratio_over cd_Ratio_over ct_Ratio_over), a_Ratio_is_less, (PySem.W.fnOf "is_less" "Ratio.is_less" (defArgs s_Ratio_is_less) (defBody s_Ratio_is_less) (defScope s_Ratio_is_less) (.none) kV_Ratio_is_less dc_Ratio_is_less pm_Ratio_is_less an_Ratio_is_less cd_Ratio_is_less ct_Ratio_is_less), a_total, (PySem.W.fnOf "total" "total" (defArgs s_total) (defBody s_total) (defScope s_total) (.none) kV_total dc_total pm_total an_total cd_total ct_total), a_law_source, (PySem.W.fnOf "_law_source" "_law_source" (defArgs s_law_source) (defBody s_law_source) (defScope s_law_source) (.none) kV_law_source dc_law_source pm_law_source an_law_source cd_law_source ct_law_source), a_law_draw, (PySem.W.fnOf "_law_draw" "_law_draw" (defArgs s_law_draw) (defBody s_law_draw) (defScope s_law_draw) (.none) kV_law_draw dc_law_draw pm_law_draw an_law_draw cd_law_draw ct_law_draw), a_law_size, (PySem.W.fnOf "_law_size" "_law_size" (defArgs s_law_size) (defBody s_law_size) (defScope s_law_size) (.none) kV_law_size dc_law_size pm_law_size an_law_size cd_law_size ct_law_size), a_law_pair, (PySem.W.fnOf "_law_pair" "_law_pair" (defArgs s_law_pair) (defBody s_law_pair) (defScope s_law_pair) (.none) kV_law_pair dc_law_pair pm_law_pair an_law_pair cd_law_pair ct_law_pair), a_law_holds, (PySem.W.fnOf "_law_holds" "_law_holds" (defArgs s_law_holds) (defBody s_law_holds) (defScope s_law_holds) (.none) kV_law_holds dc_law_holds pm_law_holds an_law_holds cd_law_holds ct_law_holds), a_law, (PySem.W.fnOf "law" "law" (defArgs s_law) (defBody s_law) (defScope s_law) (.none) kV_law dc_law pm_law an_law cd_law ct_law), a_law_name_of, (PySem.W.fnOf "_law_name_of" "_law_name_of" (defArgs s_law_name_of) (defBody s_law_name_of) (defScope s_law_name_of) (.none) kV_law_name_of dc_law_name_of pm_law_name_of an_law_name_of cd_law_name_of ct_law_name_of), a_law_outcome, (PySem.W.fnOf "_law_outcome" "_law_outcome" (defArgs s_law_outcome) (defBody s_law_outcome) (defScope s_law_outcome) (.none) kV_law_outcome dc_law_outcome pm_law_outcome an_law_outcome cd_law_outcome ct_law_outcome), c_Ratio, p_Ratio_top, p_Ratio_bottom, c_StirError, c_InvalidRatioError, c_ZeroRatioError, c_InvalidMixtureError, c_InvalidSubstanceError, c_InvalidVolumesError, c_InvalidTransfersError, c_InvalidVesselError, c_InvalidRowsError, c_InvalidContentsError, c_InvalidGroupError, c_InvalidNumberError, c_InvalidFormatError, c_NotClosedError, c_TooSmallError, c_OverfullError, c_SealedError, c_FullError, c_StartedError, c_NotStartedError, c_EmptyHistoryError, c_TooMuchError, c_TooManyError⟩ := by
  refine ⟨?g_mgc_Ratio, ?g_cl_Ratio, ?g_cc_Ratio, ?g_mo_Ratio, ?g_sf_Ratio, ?g_ne_Ratio, ?g_far_Ratio, ?g_na_Ratio_top, ?g_na_Ratio_bottom, ?g_mgc_StirError, ?g_eb_StirError, ?g_et_StirError, ?g_eh_StirError, ?g_mgc_InvalidRatioError, ?g_eb_InvalidRatioError, ?g_et_InvalidRatioError, ?g_eh_InvalidRatioError, ?g_ex_InvalidRatioError, ?g_ke_InvalidRatioError, ?g_exc_InvalidRatioError, ?g_es_InvalidRatioError_StirError, ?g_mgc_ZeroRatioError, ?g_eb_ZeroRatioError, ?g_et_ZeroRatioError, ?g_eh_ZeroRatioError, ?g_ex_ZeroRatioError, ?g_ke_ZeroRatioError, ?g_exc_ZeroRatioError, ?g_es_ZeroRatioError_StirError, ?g_mgc_InvalidMixtureError, ?g_mgc_InvalidSubstanceError, ?g_mgc_InvalidVolumesError, ?g_mgc_InvalidTransfersError, ?g_mgc_InvalidVesselError, ?g_mgc_InvalidRowsError, ?g_mgc_InvalidContentsError, ?g_mgc_InvalidGroupError, ?g_mgc_InvalidNumberError, ?g_mgc_InvalidFormatError, ?g_mgc_NotClosedError, ?g_mgc_TooSmallError, ?g_mgc_OverfullError, ?g_mgc_SealedError, ?g_mgc_FullError, ?g_mgc_StartedError, ?g_mgc_NotStartedError, ?g_mgc_EmptyHistoryError, ?g_mgc_TooMuchError, ?g_mgc_TooManyError, ?g_fun_is_whole, ?g_bd_is_whole, ?g_mg_is_whole, ?g_fun_Ratio_init, ?g_mk_Ratio, ?g_fun_Ratio_top, ?g_bd_Ratio_top, ?g_pr_Ratio_top, ?g_fun_Ratio_bottom, ?g_bd_Ratio_bottom, ?g_pr_Ratio_bottom, ?g_fun_is_ratio, ?g_bd_is_ratio, ?g_mg_is_ratio, ?g_fun_Ratio_eq, ?g_bd_Ratio_eq, ?g_om_Ratio_eq, ?g_fun_Ratio_add, ?g_bd_Ratio_add, ?g_om_Ratio_add, ?g_fun_Ratio_over, ?g_bd_Ratio_over, ?g_me_Ratio_over, ?g_fun_Ratio_is_less, ?g_bd_Ratio_is_less, ?g_me_Ratio_is_less, ?g_fun_total, ?g_bd_total, ?g_mg_total, ?g_fun_law_source, ?g_bd_law_source, ?g_mg_law_source, ?g_fun_law_draw, ?g_bd_law_draw, ?g_mg_law_draw, ?g_fun_law_size, ?g_bd_law_size, ?g_mg_law_size, ?g_fun_law_pair, ?g_bd_law_pair, ?g_mg_law_pair, ?g_fun_law_holds, ?g_bd_law_holds, ?g_mg_law_holds, ?g_fun_law, ?g_bd_law, ?g_mg_law, ?g_fun_law_name_of, ?g_bd_law_name_of, ?g_mg_law_name_of, ?g_fun_law_outcome, ?g_bd_law_outcome, ?g_mg_law_outcome, ?g_sg_, ?g_st_, ?g_ki_int_Ratio, ?g_ki_tuple_Ratio, ?g_ki_list_Ratio, ?g_ki_NoneType_Ratio, ?g_ki_bool_Ratio, ?g_ki_str_Ratio, ?g_ki_dict_Ratio, ?g_ki_Ratio_Ratio, ?g_ki_int_int, ?g_ki_int_bool, ?g_ki_InvalidRatioError_InvalidRatioError, ?g_ki_InvalidRatioError_ZeroRatioError, ?g_ki_InvalidRatioError_InvalidMixtureError, ?g_ki_InvalidRatioError_InvalidSubstanceError, ?g_ki_InvalidRatioError_InvalidVolumesError, ?g_ki_InvalidRatioError_InvalidTransfersError, ?g_ki_InvalidRatioError_InvalidVesselError, ?g_ki_InvalidRatioError_InvalidRowsError, ?g_ki_InvalidRatioError_InvalidContentsError, ?g_ki_InvalidRatioError_InvalidGroupError, ?g_ki_InvalidRatioError_InvalidNumberError, ?g_ki_InvalidRatioError_InvalidFormatError, ?g_ki_InvalidRatioError_NotClosedError, ?g_ki_InvalidRatioError_TooSmallError, ?g_ki_InvalidRatioError_OverfullError, ?g_ki_InvalidRatioError_SealedError, ?g_ki_InvalidRatioError_FullError, ?g_ki_InvalidRatioError_StartedError, ?g_ki_InvalidRatioError_NotStartedError, ?g_ki_InvalidRatioError_EmptyHistoryError, ?g_ki_InvalidRatioError_TooMuchError, ?g_ki_InvalidRatioError_TooManyError, ?g_ki_ZeroRatioError_InvalidRatioError, ?g_ki_ZeroRatioError_ZeroRatioError, ?g_ki_ZeroRatioError_InvalidMixtureError, ?g_ki_ZeroRatioError_InvalidSubstanceError, ?g_ki_ZeroRatioError_InvalidVolumesError, ?g_ki_ZeroRatioError_InvalidTransfersError, ?g_ki_ZeroRatioError_InvalidVesselError, ?g_ki_ZeroRatioError_InvalidRowsError, ?g_ki_ZeroRatioError_InvalidContentsError, ?g_ki_ZeroRatioError_InvalidGroupError, ?g_ki_ZeroRatioError_InvalidNumberError, ?g_ki_ZeroRatioError_InvalidFormatError, ?g_ki_ZeroRatioError_NotClosedError, ?g_ki_ZeroRatioError_TooSmallError, ?g_ki_ZeroRatioError_OverfullError, ?g_ki_ZeroRatioError_SealedError, ?g_ki_ZeroRatioError_FullError, ?g_ki_ZeroRatioError_StartedError, ?g_ki_ZeroRatioError_NotStartedError, ?g_ki_ZeroRatioError_EmptyHistoryError, ?g_ki_ZeroRatioError_TooMuchError, ?g_ki_ZeroRatioError_TooManyError, ?g_ki_InvalidRatioError_ValueError, ?g_ki_ZeroRatioError_ValueError, ?g_ki_Ratio_int, ?g_ki_Ratio_bool, ?g_z_isinstance, ?g_z_int, ?g_z_bool, ?g_z_max, ?g_z_min, ?g_z_len, ?g_z_abs, ?g_z_repr, ?g_z_range, ?g_z_enumerate, ?g_z_str, ?g_z_list, ?g_z_tuple, ?g_z_type, ?g_z_ValueError, ?g_mgi_gcd⟩
  (case g_mgc_Ratio => exact PySem.W.mg_of X G m_Ratio)
  (case g_cl_Ratio => exact ⟨pg_Ratio, hd_Ratio, po_Ratio, sa_Ratio⟩)
  (case g_cc_Ratio => exact cc_Ratio)
  (case g_mo_Ratio => exact mo_Ratio)
  (case g_sf_Ratio => exact sf_Ratio)
  (case g_ne_Ratio => exact ⟨ne_Ratio, mo_Ratio⟩)
  (case g_far_Ratio => exact ⟨fai_Ratio, fab_Ratio, fas_Ratio, fan_Ratio, fal_Ratio, fat_Ratio, fad_Ratio⟩)
  (case g_na_Ratio_top => exact na_Ratio_top)
  (case g_na_Ratio_bottom => exact na_Ratio_bottom)
  (case g_mgc_StirError => exact PySem.W.mg_of X G m_StirError)
  (case g_eb_StirError => exact eb_StirError)
  (case g_et_StirError => exact et_StirError)
  (case g_eh_StirError => exact eh_StirError)
  (case g_mgc_InvalidRatioError => exact PySem.W.mg_of X G m_InvalidRatioError)
  (case g_eb_InvalidRatioError => exact eb_InvalidRatioError)
  (case g_et_InvalidRatioError => exact et_InvalidRatioError)
  (case g_eh_InvalidRatioError => exact eh_InvalidRatioError)
  (case g_ex_InvalidRatioError => exact ex_InvalidRatioError)
  (case g_ke_InvalidRatioError => exact kc_InvalidRatioError)
  (case g_exc_InvalidRatioError => exact ⟨eg_InvalidRatioError, ek_InvalidRatioError, eb_InvalidRatioError, eh_InvalidRatioError, ec_InvalidRatioError, sg_, st_, em_InvalidRatioError⟩)
  (case g_es_InvalidRatioError_StirError => exact es_InvalidRatioError_StirError)
  (case g_mgc_ZeroRatioError => exact PySem.W.mg_of X G m_ZeroRatioError)
  (case g_eb_ZeroRatioError => exact eb_ZeroRatioError)
  (case g_et_ZeroRatioError => exact et_ZeroRatioError)
  (case g_eh_ZeroRatioError => exact eh_ZeroRatioError)
  (case g_ex_ZeroRatioError => exact ex_ZeroRatioError)
  (case g_ke_ZeroRatioError => exact kc_ZeroRatioError)
  (case g_exc_ZeroRatioError => exact ⟨eg_ZeroRatioError, ek_ZeroRatioError, eb_ZeroRatioError, eh_ZeroRatioError, ec_ZeroRatioError, sg_, st_, em_ZeroRatioError⟩)
  (case g_es_ZeroRatioError_StirError => exact es_ZeroRatioError_StirError)
  (case g_mgc_InvalidMixtureError => exact PySem.W.mg_of X G m_InvalidMixtureError)
  (case g_mgc_InvalidSubstanceError => exact PySem.W.mg_of X G m_InvalidSubstanceError)
  (case g_mgc_InvalidVolumesError => exact PySem.W.mg_of X G m_InvalidVolumesError)
  (case g_mgc_InvalidTransfersError => exact PySem.W.mg_of X G m_InvalidTransfersError)
  (case g_mgc_InvalidVesselError => exact PySem.W.mg_of X G m_InvalidVesselError)
  (case g_mgc_InvalidRowsError => exact PySem.W.mg_of X G m_InvalidRowsError)
  (case g_mgc_InvalidContentsError => exact PySem.W.mg_of X G m_InvalidContentsError)
  (case g_mgc_InvalidGroupError => exact PySem.W.mg_of X G m_InvalidGroupError)
  (case g_mgc_InvalidNumberError => exact PySem.W.mg_of X G m_InvalidNumberError)
  (case g_mgc_InvalidFormatError => exact PySem.W.mg_of X G m_InvalidFormatError)
  (case g_mgc_NotClosedError => exact PySem.W.mg_of X G m_NotClosedError)
  (case g_mgc_TooSmallError => exact PySem.W.mg_of X G m_TooSmallError)
  (case g_mgc_OverfullError => exact PySem.W.mg_of X G m_OverfullError)
  (case g_mgc_SealedError => exact PySem.W.mg_of X G m_SealedError)
  (case g_mgc_FullError => exact PySem.W.mg_of X G m_FullError)
  (case g_mgc_StartedError => exact PySem.W.mg_of X G m_StartedError)
  (case g_mgc_NotStartedError => exact PySem.W.mg_of X G m_NotStartedError)
  (case g_mgc_EmptyHistoryError => exact PySem.W.mg_of X G m_EmptyHistoryError)
  (case g_mgc_TooMuchError => exact PySem.W.mg_of X G m_TooMuchError)
  (case g_mgc_TooManyError => exact PySem.W.mg_of X G m_TooManyError)
  (case g_fun_is_whole => exact fun_mk (st := s_is_whole) l_is_whole k_is_whole e_is_whole)
  (case g_bd_is_whole => exact (fun_mk (st := s_is_whole) l_is_whole k_is_whole e_is_whole).binds (ps := ["value"]) fun _ _ _ _ _ _ us hl => match us, hl with | [_], _ => rfl)
  (case g_mg_is_whole => exact PySem.W.mg_of X G m_is_whole)
  (case g_fun_Ratio_init => exact ⟨⟨oc_Ratio_init, od_Ratio_init, _, kV_Ratio_init, dc_Ratio_init, pm_Ratio_init, an_Ratio_init, cd_Ratio_init, ct_Ratio_init, sl_Ratio_init, rfl, l_Ratio_init, k_Ratio_init, .inr ⟨by simp, t_Ratio_init, _, [Value.int 1 tk_Ratio_init], tn_Ratio_init, rfl, t_Ratio_init_, rfl, .cons ⟨_, rfl⟩ (.nil)⟩, .inl rfl⟩, e_Ratio_init⟩)
  (case g_mk_Ratio => exact ⟨mk_Ratio, i_Ratio_init, f_Ratio_init, kc_Ratio⟩)
  (case g_fun_Ratio_top => exact fun_mk (st := s_Ratio_top) l_Ratio_top k_Ratio_top e_Ratio_top)
  (case g_bd_Ratio_top => exact (fun_mk (st := s_Ratio_top) l_Ratio_top k_Ratio_top e_Ratio_top).binds (ps := ["self"]) fun _ _ _ _ _ _ us hl => match us, hl with | [_], _ => rfl)
  (case g_pr_Ratio_top => exact ⟨pa_Ratio_top, pg_Ratio_top, pt_Ratio_top, ⟨_, pr_Ratio_top⟩⟩)
  (case g_fun_Ratio_bottom => exact fun_mk (st := s_Ratio_bottom) l_Ratio_bottom k_Ratio_bottom e_Ratio_bottom)
  (case g_bd_Ratio_bottom => exact (fun_mk (st := s_Ratio_bottom) l_Ratio_bottom k_Ratio_bottom e_Ratio_bottom).binds (ps := ["self"]) fun _ _ _ _ _ _ us hl => match us, hl with | [_], _ => rfl)
  (case g_pr_Ratio_bottom => exact ⟨pa_Ratio_bottom, pg_Ratio_bottom, pt_Ratio_bottom, ⟨_, pr_Ratio_bottom⟩⟩)
  (case g_fun_is_ratio => exact fun_mk (st := s_is_ratio) l_is_ratio k_is_ratio e_is_ratio)
  (case g_bd_is_ratio => exact (fun_mk (st := s_is_ratio) l_is_ratio k_is_ratio e_is_ratio).binds (ps := ["value"]) fun _ _ _ _ _ _ us hl => match us, hl with | [_], _ => rfl)
  (case g_mg_is_ratio => exact PySem.W.mg_of X G m_is_ratio)
  (case g_fun_Ratio_eq => exact fun_mk (st := s_Ratio_eq) l_Ratio_eq k_Ratio_eq e_Ratio_eq)
  (case g_bd_Ratio_eq => exact (fun_mk (st := s_Ratio_eq) l_Ratio_eq k_Ratio_eq e_Ratio_eq).binds (ps := ["self", "other"]) fun _ _ _ _ _ _ us hl => match us, hl with | [_, _], _ => rfl)
  (case g_om_Ratio_eq => exact ⟨i_Ratio_eq, f_Ratio_eq⟩)
  (case g_fun_Ratio_add => exact fun_mk (st := s_Ratio_add) l_Ratio_add k_Ratio_add e_Ratio_add)
  (case g_bd_Ratio_add => exact (fun_mk (st := s_Ratio_add) l_Ratio_add k_Ratio_add e_Ratio_add).binds (ps := ["self", "other"]) fun _ _ _ _ _ _ us hl => match us, hl with | [_, _], _ => rfl)
  (case g_om_Ratio_add => exact ⟨i_Ratio_add, f_Ratio_add⟩)
  (case g_fun_Ratio_over => exact fun_mk (st := s_Ratio_over) l_Ratio_over k_Ratio_over e_Ratio_over)
  (case g_bd_Ratio_over => exact (fun_mk (st := s_Ratio_over) l_Ratio_over k_Ratio_over e_Ratio_over).binds (ps := ["self", "other"]) fun _ _ _ _ _ _ us hl => match us, hl with | [_, _], _ => rfl)
  (case g_me_Ratio_over => exact ⟨i_Ratio_over, f_Ratio_over, e_Ratio_over⟩)
  (case g_fun_Ratio_is_less => exact fun_mk (st := s_Ratio_is_less) l_Ratio_is_less k_Ratio_is_less e_Ratio_is_less)
  (case g_bd_Ratio_is_less => exact (fun_mk (st := s_Ratio_is_less) l_Ratio_is_less k_Ratio_is_less e_Ratio_is_less).binds (ps := ["self", "other"]) fun _ _ _ _ _ _ us hl => match us, hl with | [_, _], _ => rfl)
  (case g_me_Ratio_is_less => exact ⟨i_Ratio_is_less, f_Ratio_is_less, e_Ratio_is_less⟩)
  (case g_fun_total => exact fun_mk (st := s_total) l_total k_total e_total)
  (case g_bd_total => exact (fun_mk (st := s_total) l_total k_total e_total).binds (ps := ["ratios"]) fun _ _ _ _ _ _ us hl => match us, hl with | [_], _ => rfl)
  (case g_mg_total => exact PySem.W.mg_of X G m_total)
  (case g_fun_law_source => exact fun_mk (st := s_law_source) l_law_source k_law_source e_law_source)
  (case g_bd_law_source => exact (fun_mk (st := s_law_source) l_law_source k_law_source e_law_source).binds (ps := ["cell", "k"]) fun _ _ _ _ _ _ us hl => match us, hl with | [_, _], _ => rfl)
  (case g_mg_law_source => exact PySem.W.mg_of X G m_law_source)
  (case g_fun_law_draw => exact fun_mk (st := s_law_draw) l_law_draw k_law_draw e_law_draw)
  (case g_bd_law_draw => exact (fun_mk (st := s_law_draw) l_law_draw k_law_draw e_law_draw).binds (ps := ["source", "count"]) fun _ _ _ _ _ _ us hl => match us, hl with | [_, _], _ => rfl)
  (case g_mg_law_draw => exact PySem.W.mg_of X G m_law_draw)
  (case g_fun_law_size => exact fun_mk (st := s_law_size) l_law_size k_law_size e_law_size)
  (case g_bd_law_size => exact (fun_mk (st := s_law_size) l_law_size k_law_size e_law_size).binds (ps := ["source"]) fun _ _ _ _ _ _ us hl => match us, hl with | [_], _ => rfl)
  (case g_mg_law_size => exact PySem.W.mg_of X G m_law_size)
  (case g_fun_law_pair => exact fun_mk (st := s_law_pair) l_law_pair k_law_pair e_law_pair)
  (case g_bd_law_pair => exact (fun_mk (st := s_law_pair) l_law_pair k_law_pair e_law_pair).binds (ps := ["source"]) fun _ _ _ _ _ _ us hl => match us, hl with | [_], _ => rfl)
  (case g_mg_law_pair => exact PySem.W.mg_of X G m_law_pair)
  (case g_fun_law_holds => exact fun_mk (st := s_law_holds) l_law_holds k_law_holds e_law_holds)
  (case g_bd_law_holds => exact (fun_mk (st := s_law_holds) l_law_holds k_law_holds e_law_holds).binds (ps := ["source", "most"]) fun _ _ _ _ _ _ us hl => match us, hl with | [_, _], _ => rfl)
  (case g_mg_law_holds => exact PySem.W.mg_of X G m_law_holds)
  (case g_fun_law => exact fun_mk (st := s_law) l_law k_law e_law)
  (case g_bd_law => exact (fun_mk (st := s_law) l_law k_law e_law).binds (ps := ["script"]) fun _ _ _ _ _ _ us hl => match us, hl with | [_], _ => rfl)
  (case g_mg_law => exact PySem.W.mg_of X G m_law)
  (case g_fun_law_name_of => exact fun_mk (st := s_law_name_of) l_law_name_of k_law_name_of e_law_name_of)
  (case g_bd_law_name_of => exact (fun_mk (st := s_law_name_of) l_law_name_of k_law_name_of e_law_name_of).binds (ps := ["caught"]) fun _ _ _ _ _ _ us hl => match us, hl with | [_], _ => rfl)
  (case g_mg_law_name_of => exact PySem.W.mg_of X G m_law_name_of)
  (case g_fun_law_outcome => exact fun_mk (st := s_law_outcome) l_law_outcome k_law_outcome e_law_outcome)
  (case g_bd_law_outcome => exact (fun_mk (st := s_law_outcome) l_law_outcome k_law_outcome e_law_outcome).binds (ps := ["number", "one", "other"]) fun _ _ _ _ _ _ us hl => match us, hl with | [_, _, _], _ => rfl)
  (case g_mg_law_outcome => exact PySem.W.mg_of X G m_law_outcome)
  (case g_sg_ => exact sg_)
  (case g_st_ => exact st_)
  (case g_ki_int_Ratio => exact ki_int_Ratio)
  (case g_ki_tuple_Ratio => exact ki_tuple_Ratio)
  (case g_ki_list_Ratio => exact ki_list_Ratio)
  (case g_ki_NoneType_Ratio => exact ki_NoneType_Ratio)
  (case g_ki_bool_Ratio => exact ki_bool_Ratio)
  (case g_ki_str_Ratio => exact ki_str_Ratio)
  (case g_ki_dict_Ratio => exact ki_dict_Ratio)
  (case g_ki_Ratio_Ratio => exact ki_Ratio_Ratio)
  (case g_ki_int_int => exact kit_ty (by decide +kernel))
  (case g_ki_int_bool => exact kit_ty (by decide +kernel))
  (case g_ki_InvalidRatioError_InvalidRatioError => exact ki_InvalidRatioError_InvalidRatioError)
  (case g_ki_InvalidRatioError_ZeroRatioError => exact ki_InvalidRatioError_ZeroRatioError)
  (case g_ki_InvalidRatioError_InvalidMixtureError => exact ki_InvalidRatioError_InvalidMixtureError)
  (case g_ki_InvalidRatioError_InvalidSubstanceError => exact ki_InvalidRatioError_InvalidSubstanceError)
  (case g_ki_InvalidRatioError_InvalidVolumesError => exact ki_InvalidRatioError_InvalidVolumesError)
  (case g_ki_InvalidRatioError_InvalidTransfersError => exact ki_InvalidRatioError_InvalidTransfersError)
  (case g_ki_InvalidRatioError_InvalidVesselError => exact ki_InvalidRatioError_InvalidVesselError)
  (case g_ki_InvalidRatioError_InvalidRowsError => exact ki_InvalidRatioError_InvalidRowsError)
  (case g_ki_InvalidRatioError_InvalidContentsError => exact ki_InvalidRatioError_InvalidContentsError)
  (case g_ki_InvalidRatioError_InvalidGroupError => exact ki_InvalidRatioError_InvalidGroupError)
  (case g_ki_InvalidRatioError_InvalidNumberError => exact ki_InvalidRatioError_InvalidNumberError)
  (case g_ki_InvalidRatioError_InvalidFormatError => exact ki_InvalidRatioError_InvalidFormatError)
  (case g_ki_InvalidRatioError_NotClosedError => exact ki_InvalidRatioError_NotClosedError)
  (case g_ki_InvalidRatioError_TooSmallError => exact ki_InvalidRatioError_TooSmallError)
  (case g_ki_InvalidRatioError_OverfullError => exact ki_InvalidRatioError_OverfullError)
  (case g_ki_InvalidRatioError_SealedError => exact ki_InvalidRatioError_SealedError)
  (case g_ki_InvalidRatioError_FullError => exact ki_InvalidRatioError_FullError)
  (case g_ki_InvalidRatioError_StartedError => exact ki_InvalidRatioError_StartedError)
  (case g_ki_InvalidRatioError_NotStartedError => exact ki_InvalidRatioError_NotStartedError)
  (case g_ki_InvalidRatioError_EmptyHistoryError => exact ki_InvalidRatioError_EmptyHistoryError)
  (case g_ki_InvalidRatioError_TooMuchError => exact ki_InvalidRatioError_TooMuchError)
  (case g_ki_InvalidRatioError_TooManyError => exact ki_InvalidRatioError_TooManyError)
  (case g_ki_ZeroRatioError_InvalidRatioError => exact ki_ZeroRatioError_InvalidRatioError)
  (case g_ki_ZeroRatioError_ZeroRatioError => exact ki_ZeroRatioError_ZeroRatioError)
  (case g_ki_ZeroRatioError_InvalidMixtureError => exact ki_ZeroRatioError_InvalidMixtureError)
  (case g_ki_ZeroRatioError_InvalidSubstanceError => exact ki_ZeroRatioError_InvalidSubstanceError)
  (case g_ki_ZeroRatioError_InvalidVolumesError => exact ki_ZeroRatioError_InvalidVolumesError)
  (case g_ki_ZeroRatioError_InvalidTransfersError => exact ki_ZeroRatioError_InvalidTransfersError)
  (case g_ki_ZeroRatioError_InvalidVesselError => exact ki_ZeroRatioError_InvalidVesselError)
  (case g_ki_ZeroRatioError_InvalidRowsError => exact ki_ZeroRatioError_InvalidRowsError)
  (case g_ki_ZeroRatioError_InvalidContentsError => exact ki_ZeroRatioError_InvalidContentsError)
  (case g_ki_ZeroRatioError_InvalidGroupError => exact ki_ZeroRatioError_InvalidGroupError)
  (case g_ki_ZeroRatioError_InvalidNumberError => exact ki_ZeroRatioError_InvalidNumberError)
  (case g_ki_ZeroRatioError_InvalidFormatError => exact ki_ZeroRatioError_InvalidFormatError)
  (case g_ki_ZeroRatioError_NotClosedError => exact ki_ZeroRatioError_NotClosedError)
  (case g_ki_ZeroRatioError_TooSmallError => exact ki_ZeroRatioError_TooSmallError)
  (case g_ki_ZeroRatioError_OverfullError => exact ki_ZeroRatioError_OverfullError)
  (case g_ki_ZeroRatioError_SealedError => exact ki_ZeroRatioError_SealedError)
  (case g_ki_ZeroRatioError_FullError => exact ki_ZeroRatioError_FullError)
  (case g_ki_ZeroRatioError_StartedError => exact ki_ZeroRatioError_StartedError)
  (case g_ki_ZeroRatioError_NotStartedError => exact ki_ZeroRatioError_NotStartedError)
  (case g_ki_ZeroRatioError_EmptyHistoryError => exact ki_ZeroRatioError_EmptyHistoryError)
  (case g_ki_ZeroRatioError_TooMuchError => exact ki_ZeroRatioError_TooMuchError)
  (case g_ki_ZeroRatioError_TooManyError => exact ki_ZeroRatioError_TooManyError)
  (case g_ki_InvalidRatioError_ValueError => exact ki_InvalidRatioError_ValueError)
  (case g_ki_ZeroRatioError_ValueError => exact ki_ZeroRatioError_ValueError)
  (case g_ki_Ratio_int => exact ki_Ratio_int)
  (case g_ki_Ratio_bool => exact ki_Ratio_bool)
  (case g_z_isinstance => exact PySem.W.mg_none_of X G z_isinstance)
  (case g_z_int => exact PySem.W.mg_none_of X G z_int)
  (case g_z_bool => exact PySem.W.mg_none_of X G z_bool)
  (case g_z_max => exact PySem.W.mg_none_of X G z_max)
  (case g_z_min => exact PySem.W.mg_none_of X G z_min)
  (case g_z_len => exact PySem.W.mg_none_of X G z_len)
  (case g_z_abs => exact PySem.W.mg_none_of X G z_abs)
  (case g_z_repr => exact PySem.W.mg_none_of X G z_repr)
  (case g_z_range => exact PySem.W.mg_none_of X G z_range)
  (case g_z_enumerate => exact PySem.W.mg_none_of X G z_enumerate)
  (case g_z_str => exact PySem.W.mg_none_of X G z_str)
  (case g_z_list => exact PySem.W.mg_none_of X G z_list)
  (case g_z_tuple => exact PySem.W.mg_none_of X G z_tuple)
  (case g_z_type => exact PySem.W.mg_none_of X G z_type)
  (case g_z_ValueError => exact PySem.W.mg_none_of X G z_ValueError)
  (case g_mgi_gcd => exact PySem.W.mg_of X G mi_gcd)
local macro_rules | `(tactic| walk_at "pos") => `(tactic| first | assumption | (decide +kernel) | omega)
local macro_rules | `(tactic| walk_at "bt") => `(tactic| first
  | assumption
  | (decide +kernel)
  | exact Bt.mono (by assumption) (by decide)
  | (refine' Bt.add ?b1 ?b2; (case b1 => walk_at "bt"); (case b2 => walk_at "bt"))
  | (refine' Bt.sub ?b1 ?b2; (case b1 => walk_at "bt"); (case b2 => walk_at "bt"))
  | (refine' Bt.mul ?b1 ?b2; (case b1 => walk_at "bt"); (case b2 => walk_at "bt"))
  | (refine' Bt.mod ?b1 ?b2; (case b2 => walk_at "bt"); (case b1 => walk_at "pos"))
  | (refine' Bt.div ?b1 ?b2; (case b2 => walk_at "bt"); (case b1 => walk_at "pos"))
  | (refine' Bt.pow3 ?b1; (case b1 => walk_at "bt"))
  | (refine' Bt.neg ?b1; (case b1 => walk_at "bt"))
  | exact Bt.any)
local macro_rules | `(tactic| walk_at "btm") => `(tactic| ((refine' Bt.mono ?m1 ?m2); (case m1 => walk_at "bt"); (case m2 => (decide +kernel))))
local macro_rules | `(tactic| walk_at "ne") => `(tactic| first
  | assumption
  | (refine' Ne.symm ?q1; (case q1 => assumption))
  | (refine' ne_of_none (by assumption) ?q1; (case q1 => assumption))
  | (refine' Ne.symm (ne_of_none (by assumption) ?q1); (case q1 => assumption)))
local macro_rules | `(tactic| walk_at "hp") => `(tactic| first
  | assumption
  | exact upd_same
  | ((refine' lst_same ?q1 (by assumption : Same _ _)); (case q1 => walk_at "hp"))
  | ((refine' (by assumption : Fr _ _ _) _ _ ?n ?h); (case n => walk_at "ne"); (case h => walk_at "hp"))
  | ((refine (upd_ne (by assumption)).trans ?_); walk_at "hp")
  | ((refine (upd_ne (Ne.symm (by assumption))).trans ?_); walk_at "hp"))
local macro_rules | `(tactic| walk_at "sr") => `(tactic| first
  | assumption
  | ((refine' Src.same ?q1 (by assumption : Same _ _)); (case q1 => walk_at "sr")))
local macro_rules | `(tactic| walk_at "rt") => `(tactic| first
  | assumption
  | ((refine' Rat.same ?q1 (by assumption : Same _ _)); (case q1 => walk_at "rt"))
  | ((refine' Rat.fr ?q1 ?q2 (by assumption : Fr _ _ _)); (case q2 => walk_at "sr"); (case q1 => walk_at "rt")))
local macro_rules | `(tactic| walk_at "tp") => `(tactic| first
  | assumption
  | ((refine' tup_same ?q1 (by assumption : Same _ _)); (case q1 => walk_at "tp"))
  | ((refine' tup_fr ?q1 ?q2 (by assumption : Fr _ _ _)); (case q2 => walk_at "sr"); (case q1 => walk_at "tp")))
local macro_rules | `(tactic| walk_at "ls") => `(tactic| first
  | assumption
  | ((refine' lst_same ?q1 (by assumption : Same _ _)); (case q1 => walk_at "ls"))
  | ((refine' lst_fr ?q1 ?q2 (by assumption : Fr _ _ _)); (case q2 => assumption); (case q1 => walk_at "ls")))
local macro_rules | `(tactic| walk_at "sm") => `(tactic| first
  | exact Same.refl _
  | assumption
  | ((refine Same.trans ?_ (by assumption : Same _ _)); walk_at "sm"))
local macro_rules | `(tactic| walk_at "fr") => `(tactic| first
  | exact Fr.refl _ _
  | assumption
  | ((refine Fr.trans ?_ (Fr.same (by assumption : Same _ _))); walk_at "fr")
  | ((refine Fr.trans ?_ (by assumption : Fr _ _ _)); walk_at "fr"))
local macro_rules | `(tactic| walk_at "wp1") => `(tactic| first
  | (with_reducible refine w_seq ?_) | (with_reducible refine w_next ?_) | (with_reducible refine w_ret ?_) | (with_reducible refine w_asg ?_) | (with_reducible refine w_gn ?_) | (with_reducible refine w_if ?_)
  | (with_reducible refine w_cons ?_) | (with_reducible refine w_nil ?_) | (with_reducible refine w_c ?_) | (with_reducible refine w_op ?_) | (with_reducible refine w_cb ?_)
  | ((with_reducible refine' w_var ?h ?_); (case h => exact rfl))
  | (with_reducible refine w_I0 ?_) | (with_reducible refine w_eqI ?_) | (with_reducible refine w_neI ?_) | (with_reducible refine w_test ?_) | (with_reducible refine w_tB ?_) | (with_reducible refine w_bl ?_) | (with_reducible refine w_par ?_) | (with_reducible refine w_par2 ?_)
  | (with_reducible refine w_not ?_) | (with_reducible refine w_and ?_) | (with_reducible refine w_or ?_) | (with_reducible refine w_andV ?_) | (with_reducible refine w_orV ?_) | (with_reducible refine w_notV ?_) | (with_reducible refine w_tif ?_)
  | (with_reducible refine w_tup ?_) | (with_reducible refine w_lst ?_) | (with_reducible refine w_un ?_) | (with_reducible refine w_U ?_) | (with_reducible refine w_drop ?_) | (with_reducible refine w_brk ?_) | (with_reducible refine w_cont ?_) | (with_reducible refine w_retN ?_)
  | (with_reducible refine w_call ?_) | (with_reducible refine w_fld ?_) | (with_reducible refine w_sfld ?_) | (with_reducible refine w_prop ?_) | (with_reducible refine w_make ?_) | (with_reducible refine w_meth ?_) | (with_reducible refine w_methN ?_) | (with_reducible refine w_revL ?_) | (with_reducible refine w_gsub ?_)
  | ((with_reducible refine' w_powN ?c1 ?c2 ?_); (case c2 => (decide +kernel)); (case c1 => exact rfl))
  | ((with_reducible refine' w_powV ?c1 ?c2 ?c3 ?c4 ?_); (case c2 => walk_at "bt"); (case c3 => (decide +kernel)); (case c4 => (decide +kernel)); (case c1 => exact rfl))
  | ((with_reducible refine' w_I (C := CMulW) ?c1 ?_); (case c1 => (refine' mulOk ?k1 ?k2 ?k3; (case k1 => walk_at "bt"); (case k2 => walk_at "bt"); (case k3 => decide +kernel))))
  | ((with_reducible refine' w_I (C := CDivW) ?c1 ?_); (case c1 => (refine' divOk ?k1 ?k2 ?k3; (case k1 => walk_at "pos"); (case k2 => walk_at "bt"); (case k3 => decide +kernel))))
  | ((with_reducible refine' w_I (C := fun _ j => 0 < j) ?c1 ?_); (case c1 => walk_at "pos"))
  | (with_reducible refine w_isB ?_) | (with_reducible refine w_notB ?_) | (with_reducible refine w_neS ?_) | (with_reducible refine w_eqS ?_)
  | (with_reducible refine w_iRng1 ?_) | (with_reducible refine w_for ?_) | (with_reducible refine w_iEnum ?_) | (with_reducible refine w_iList ?_) | (with_reducible refine w_iTup ?_) | (with_reducible refine w_noPart ?_) | (with_reducible refine w_part ?_) | (with_reducible refine w_int ?_)
  | (with_reducible refine w_sl ?_)
  | (with_reducible refine w_two ?_) | (with_reducible refine w_one ?_)
  | ((with_reducible refine' w_ixL ?hs ?he ?_); (case hs => first | (refine' SqL.of ?q0; (case q0 => walk_at "hp")) | assumption); (case he => exact rfl))
  | ((with_reducible refine' w_ixT ?hs ?he ?_); (case hs => first | (refine' SqT.of ?q0; (case q0 => walk_at "tp")) | assumption); (case he => exact rfl))
  | ((with_reducible refine' w_setL ?hs ?he ?_); (case hs => walk_at "hp"); (case he => exact rfl))
  | (with_reducible refine w_iteT rfl ?_) | (with_reducible refine w_iteF rfl ?_) | ((with_reducible refine w_alloc ?h ?_); (case h => exact rfl))
  | (with_reducible refine w_makeS ?_) | (with_reducible refine w_methS ?_) | (with_reducible refine w_callS ?_) | (with_reducible refine w_bm ?_) | (with_reducible refine w_makeK ?_) | (with_reducible refine w_callN ?_))
local macro_rules | `(tactic| walk_at "wp") => `(tactic| repeat (walk_at "wp1"))

section
variable {P : Program} {w : World} {K : PySem.W.Frag} {mg : Str → Option Value} {base : Heap} {A : Ad}
theorem ok_is_whole (T : Txt K mg A) : FnOk P w K mg base CX0 1 A.a_is_whole A.d_is_whole ["value"] spWhole := by
  refine T.fun_is_whole.ok sc_is_whole (fun vs H Q E h => ?_) (fun cdv B outer s H vs Q E hr h => ?_)
  · obtain ⟨i, rfl, _⟩ := h
    rfl
  · obtain ⟨i, rfl, q⟩ := h
    refine ⟨_, (pss_one (ps_ret (pe_and (pe_callB call_isi (by rfl) T.z_isinstance (by decide +kernel) (pa_cons (pv 0) (pa_cons (pe_bltn (by rfl) T.z_int (by decide +kernel) (show RelV (.ty "int") _ from rfl)) pa_nil))) (pe_one (pe_not (pe_callB call_isi (by rfl) T.z_isinstance (by decide +kernel) (pa_cons (pv 0) (pa_cons (pe_bltn (by rfl) T.z_bool (by decide +kernel) (show RelV (.ty "bool") _ from rfl)) pa_nil)))))))), ?_⟩
    refine w_ret (w_andV (w_cb (w_cons (w_var rfl (w_cons (w_c (w_nil ?_)))))))
    refine ⟨_, _, _, _, true, rfl, .ty "int", .base (.int i), T.ki_int_int, true, rfl, ?_⟩
    refine w_iteT rfl (w_notV (w_cb (w_cons (w_var rfl (w_cons (w_c (w_nil ?_)))))))
    exact ⟨_, _, _, _, false, rfl, .ty "bool", .base (.int i), T.ki_int_bool, false, rfl, q⟩
theorem ok_is_ratio (T : Txt K mg A) : FnOk P w K mg base CX0 1 A.a_is_ratio A.d_is_ratio ["value"] (spIsR K A.c_Ratio) := by
  refine T.fun_is_ratio.ok sc_is_ratio (fun vs H Q E h => ?_) (fun cdv B outer s H vs Q E hr h => ?_)
  · obtain ⟨x, t, b, rfl, _⟩ := h
    rfl
  · obtain ⟨x, t, b, rfl, ty, e, q⟩ := h
    refine ⟨_, (pss_one (ps_ret (pe_callB call_isi (by rfl) T.z_isinstance (by decide +kernel) (pa_cons (pv 0) (pa_cons (pe_glob (v := .ref A.c_Ratio) rfl T.mgc_Ratio rfl) pa_nil))))), ?_⟩
    refine w_ret (w_cb (w_cons (w_var rfl (w_cons (w_c (w_nil ?_))))))
    exact ⟨_, _, _, _, b, rfl, .own _, ty, e, q⟩
theorem ok_Ratio_init (T : Txt K mg A) : FnOk P w K mg base CX0 2 A.a_Ratio_init A.d_Ratio_init ["self", "top", "bottom"] (spInit A.c_Ratio) := by
  refine T.fun_Ratio_init.ok sc_Ratio_init (fun vs H Q E h => ?_) (fun cdv B outer s H vs Q E hr h => ?_)
  · obtain ⟨p, dx, i, j, rfl, _⟩ := h
    rfl
  · obtain ⟨p, dx, i, j, rfl, hj, hb, hp, q⟩ := h
    refine ⟨_, (pss_cons (ps_if (pt_not (pt_val (pe_call (ok_is_whole T) (hr.mono (by decide)) rfl T.mg_is_whole T.fun_is_whole.kp T.bd_is_whole .nil pass0 (pa_cons (pv 1) pa_nil)))) (pss_one ps_never) pss_nil)
 (pss_cons (ps_if (PW.pt (pw_or (pt_not (pt_val (pe_call (ok_is_whole T) (hr.mono (by decide)) rfl T.mg_is_whole T.fun_is_whole.kp T.bd_is_whole .nil pass0 (pa_cons (pv 2) pa_nil)))) (pw_or1 (pt_cmpR op_lt (pv 2) pe_int (nomark _))))) (pss_one ps_never) pss_nil)
 (pss_cons (ps_set (i := 3) (sc_Ratio_init).nd rfl (Or.inl rfl) (pe_callBfun cr_gcd rfl T.mgi_gcd (pa_cons (pv 1) (pa_cons (pv 2) pa_nil))))
 (pss_cons (ps_fld (pv 0) (pe_op op_fdivW (pv 1) (pv 3)) rfl)
 (pss_one (ps_fld (pv 0) (pe_op op_fdivW (pv 2) (pv 3)) rfl)))))), ?_⟩
    walk_at "wp"
    refine ⟨i, rfl, true, rfl, ?_⟩
    walk_at "wp"
    refine ⟨j, rfl, true, rfl, ?_⟩
    walk_at "wp"
    refine w_iteF (decide_eq_false (show ¬ j < 1 by omega)) ?_
    walk_at "wp"
    refine ⟨i, j, rfl, ?_⟩
    have g0 : (0 : Int) < (Int.gcd i j : Int) := by have := Int.gcd_pos_of_ne_zero_right i (show j ≠ 0 by omega); omega
    have gb : Bt 8000 (Int.gcd i j : Int) := hb.of_le (Nat.le_of_dvd (by omega) (Int.gcd_dvd_natAbs_right i j))
    have g0' : (0 : Int) < ((i.natAbs.gcd j.natAbs : Nat) : Int) := g0
    have gb' : Bt 8000 ((i.natAbs.gcd j.natAbs : Nat) : Int) := gb
    walk_at "wp"
    refine w_sfld1 hp T.cl_Ratio T.na_Ratio_top (by show 0 < 1000; decide) ?_
    walk_at "wp"
    refine w_sfld1 upd_same T.cl_Ratio T.na_Ratio_bottom (by show 1 < 1000; decide) ?_
    rw [upd_twice]
    exact q
theorem ok_Ratio_top (T : Txt K mg A) : FnOk P w K mg base CX0 1 A.a_Ratio_top A.d_Ratio_top ["self"] (getSp A.c_Ratio "_top") := by
  refine T.fun_Ratio_top.ok sc_Ratio_top (fun vs H Q E h => ?_) (fun cdv B outer s H vs Q E hr h => ?_)
  · obtain ⟨p, dx, fs, v, rfl, _⟩ := h
    rfl
  · obtain ⟨p, dx, fs, v, rfl, hp, hl, q⟩ := h
    refine ⟨_, (pss_one (ps_ret (pe_fld (pv 0) rfl))), ?_⟩
    walk_at "wp"
    exact w_fld1 hp T.cl_Ratio T.na_Ratio_top hl q
theorem ok_Ratio_bottom (T : Txt K mg A) : FnOk P w K mg base CX0 1 A.a_Ratio_bottom A.d_Ratio_bottom ["self"] (getSp A.c_Ratio "_bottom") := by
  refine T.fun_Ratio_bottom.ok sc_Ratio_bottom (fun vs H Q E h => ?_) (fun cdv B outer s H vs Q E hr h => ?_)
  · obtain ⟨p, dx, fs, v, rfl, _⟩ := h
    rfl
  · obtain ⟨p, dx, fs, v, rfl, hp, hl, q⟩ := h
    refine ⟨_, (pss_one (ps_ret (pe_fld (pv 0) rfl))), ?_⟩
    walk_at "wp"
    exact w_fld1 hp T.cl_Ratio T.na_Ratio_bottom hl q
theorem ok_law_source (T : Txt K mg A) : FnOk P w K mg base CX0 1 A.a_law_source A.d_law_source ["cell", "k"] spSource := by
  refine T.fun_law_source.ok sc_law_source (fun vs H Q E h => ?_) (fun cdv B outer s H vs Q E hr h => ?_)
  · obtain ⟨c, k, rfl, _⟩ := h
    rfl
  · obtain ⟨c, k, rfl, hk, hb, q⟩ := h
    refine ⟨_, (pss_one (ps_ret (pe_lst (pa_cons (pe_callB (call_max2 rfl) (by rfl) T.z_max (by decide +kernel) (pa_cons pe_int (pa_cons (pe_op op_sub (pv 0) (G.pe_powc (c := 1000000000000000000) (by decide +kernel) (by decide +kernel))) pa_nil))) (pa_cons (pe_op op_add (pe_op op_mulW (pe_op op_modW (pv 0) (pe_op op_add (G.pe_powc (c := 1000000000000000000000000000000000) (by decide +kernel) (by decide +kernel)) pe_int)) pe_int) (pv 1)) (pa_cons pe_int pa_nil)))))), ?_⟩
    walk_at "wp"
    intro p H' hp e h
    refine q p _ hp e ⟨_, _, _, h, ?_, ?_, ?_, Int.le_refl 0, Int.le_refl 0⟩
    · split <;> omega
    · have h := Int.emod_nonneg c (show (1000000000000000000000000000000000 : Int) + 153 ≠ 0 by decide +kernel)
      omega
    · refine Bt.mono (a := ?_) ?_ ?_
      rotate_left
      · walk_at "bt"
      · decide +kernel
theorem ok_law_draw (T : Txt K mg A) : FnOk P w K mg base CX0 1 A.a_law_draw A.d_law_draw ["source", "count"] spDraw := by
  refine T.fun_law_draw.ok sc_law_draw (fun vs H Q E h => ?_) (fun cdv B outer s H vs Q E hr h => ?_)
  · obtain ⟨a, n, b, rfl, _⟩ := h
    rfl
  · obtain ⟨a, n, b, rfl, ⟨x, y, z, ha, hx, hy, by_, hz, hzb⟩, hb, hn, bn, q⟩ := h
    refine ⟨_, (pss_cons (ps_if (pt_cmpR op_gt (pe_ix ix_list (pv 0) pe_int (fun _ _ => rfl)) pe_int (nomark _)) (pss_cons (ps_set (i := 2) (sc_law_draw).nd rfl (Or.inl rfl) (pe_op op_modW (pe_ix ix_list (pv 0) pe_int (fun _ _ => rfl)) (pv 1)))
 (pss_cons (ps_asg (pe_op op_fdivW (pe_ix ix_list (pv 0) pe_int (fun _ _ => rfl)) (pv 1)) (pg_sub (pv 0) pe_int set_list))
 (pss_one (ps_ret (pv 2))))) pss_nil)
 (pss_cons (ps_asg (pe_op op_add (pe_ix ix_list (pv 0) pe_int (fun _ _ => rfl)) pe_int) (pg_sub (pv 0) pe_int set_list))
 (pss_cons (ps_set (i := 3) (sc_law_draw).nd rfl (Or.inl rfl) (pe_op op_modW (pe_op op_powW (pe_op op_add (pe_ix ix_list (pv 0) pe_int (fun _ _ => rfl)) (pe_op op_mulW pe_int (pe_ix ix_list (pv 0) pe_int (fun _ _ => rfl)))) pe_int) (pe_op op_add (G.pe_powc (c := 1000000000000000000000000000000000000000) (by decide +kernel) (by decide +kernel)) pe_int)))
 (pss_cons (ps_set (i := 3) (sc_law_draw).nd rfl (Or.inl rfl) (pe_op op_modW (pe_op op_powW (pe_op op_add (pv 3) (pe_op op_mulW pe_int (pe_ix ix_list (pv 0) pe_int (fun _ _ => rfl)))) pe_int) (pe_op op_add (G.pe_powc (c := 1000000000000000000000000000000000000) (by decide +kernel) (by decide +kernel)) pe_int)))
 (pss_one (ps_ret (pe_op op_modW (pe_op op_fdivW (pv 3) pe_int) (pv 1)))))))), ?_⟩
    have bz : Bt 60 z := by
      unfold Bt
      omega
    walk_at "wp"
    refine w_ite (fun c => ?_) fun c => ?_
    · have c : 0 < x := of_decide_eq_true c
      walk_at "wp"
      refine q _ _ (Int.emod_nonneg x (by omega)) (Int.emod_lt_of_pos x hn) ⟨_, _, _, upd_same, Int.ediv_nonneg hx (by omega), hy, by_, hz, by omega⟩ Fr.at_
    · walk_at "wp"
      refine q _ _ (Int.emod_nonneg _ (by omega)) (Int.emod_lt_of_pos _ hn) ⟨_, _, _, upd_same, hx, hy, by_, by omega, by omega⟩ Fr.at_
theorem ok_law_size (T : Txt K mg A) : FnOk P w K mg base CX0 2 A.a_law_size A.d_law_size ["source"] spSize := by
  refine T.fun_law_size.ok sc_law_size (fun vs H Q E h => ?_) (fun cdv B outer s H vs Q E hr h => ?_)
  · obtain ⟨a, b, rfl, _⟩ := h
    rfl
  · obtain ⟨a, b, rfl, hS, hb, q⟩ := h
    refine ⟨_, (pss_one (ps_ret (pe_ix ix_list (pe_lst (pa_cons pe_int (pa_cons pe_int (pa_cons (G.pe_powc (c := 1000000) (by decide +kernel) (by decide +kernel)) (pa_cons (G.pe_powc (c := 1000000000000000) (by decide +kernel) (by decide +kernel)) (pa_cons (G.pe_powc (c := 10000000000000000000000000000000) (by decide +kernel) (by decide +kernel)) pa_nil)))))) (pe_call (ok_law_draw T) (hr.mono (by decide)) rfl T.mg_law_draw T.fun_law_draw.kp T.bd_law_draw .nil pass0 (pa_cons (pv 0) (pa_cons pe_int pa_nil))) (fun _ _ => rfl)))), ?_⟩
    walk_at "wp"
    intro p H' hp e' h'
    walk_at "wp"
    refine ⟨a, _, b, rfl, hS.same e', hb, by decide, by decide +kernel, fun d H1 d0 d1 S1 f1 => ?_⟩
    obtain ⟨n, n0, n1, e⟩ := size_at d0 d1
    walk_at "wp"
    refine w_ixL (SqL.of (f1 _ _ (hS.ne hp) h')) e ?_
    exact q n H1 n0 n1 S1 ((Fr.same e').trans f1)
theorem ok_law_pair (T : Txt K mg A) : FnOk P w K mg base CX0 3 A.a_law_pair A.d_law_pair ["source"] spPair := by
  refine T.fun_law_pair.ok sc_law_pair (fun vs H Q E h => ?_) (fun cdv B outer s H vs Q E hr h => ?_)
  · obtain ⟨a, b, rfl, _⟩ := h
    rfl
  · obtain ⟨a, b, rfl, hS, hb, q⟩ := h
    refine ⟨_, (pss_cons (ps_par (i := 1) (j := 2) (by rfl) (sc_law_pair).nd rfl rfl (by decide) rfl rfl (pa_cons (pe_ix ix_list (pe_lst (pa_cons pe_int (pa_cons pe_int (pa_cons (pe_un un_neg pe_int) pa_nil)))) (pe_call (ok_law_draw T) (hr.mono (by decide)) rfl T.mg_law_draw T.fun_law_draw.kp T.bd_law_draw .nil pass0 (pa_cons (pv 0) (pa_cons pe_int pa_nil))) (fun _ _ => rfl)) (pa_cons (pe_call (ok_law_draw T) (hr.mono (by decide)) rfl T.mg_law_draw T.fun_law_draw.kp T.bd_law_draw .nil pass0 (pa_cons (pv 0) (pa_cons pe_int pa_nil))) pa_nil)) (by rfl))
 (pss_cons (ps_par (i := 3) (j := 4) (by rfl) (sc_law_pair).nd rfl rfl (by decide) rfl rfl (pa_cons (pe_call (ok_law_draw T) (hr.mono (by decide)) rfl T.mg_law_draw T.fun_law_draw.kp T.bd_law_draw .nil pass0 (pa_cons (pv 0) (pa_cons (pe_call (ok_law_size T) (hr.mono (by decide)) rfl T.mg_law_size T.fun_law_size.kp T.bd_law_size .nil pass0 (pa_cons (pv 0) pa_nil)) pa_nil))) (pa_cons (pe_op op_add pe_int (pe_call (ok_law_draw T) (hr.mono (by decide)) rfl T.mg_law_draw T.fun_law_draw.kp T.bd_law_draw .nil pass0 (pa_cons (pv 0) (pa_cons (pe_op op_sub (pe_call (ok_law_size T) (hr.mono (by decide)) rfl T.mg_law_size T.fun_law_size.kp T.bd_law_size .nil pass0 (pa_cons (pv 0) pa_nil)) pe_int) pa_nil)))) pa_nil)) (by rfl))
 (pss_cons (ps_if (pt_cmpR op_eq (pv 2) pe_int (nomark _)) (pss_one (ps_set (i := 3) (sc_law_pair).nd rfl (Or.inl rfl) pe_int)) pss_nil)
 (pss_cons (ps_if (pt_cmpR op_eq (pv 2) pe_int (nomark _)) (pss_one (ps_set (i := 4) (sc_law_pair).nd rfl (Or.inl rfl) pe_int)) pss_nil)
 (pss_cons (ps_if (pt_cmpR op_eq (pv 2) pe_int (nomark _)) (pss_cons (ps_set (i := 5) (sc_law_pair).nd rfl (Or.inl rfl) (pe_op op_add pe_int (pe_call (ok_law_draw T) (hr.mono (by decide)) rfl T.mg_law_draw T.fun_law_draw.kp T.bd_law_draw .nil pass0 (pa_cons (pv 0) (pa_cons (G.pe_powc (c := 1000000) (by decide +kernel) (by decide +kernel)) pa_nil)))))
 (pss_one (ps_par (i := 3) (j := 4) (by rfl) (sc_law_pair).nd rfl rfl (by decide) rfl rfl (pa_cons (pe_op op_mulW (pe_op op_modW (pv 3) (G.pe_powc (c := 1000000000000000000000000) (by decide +kernel) (by decide +kernel))) (pv 5)) (pa_cons (pe_op op_mulW (pe_op op_add pe_int (pe_op op_modW (pv 4) (G.pe_powc (c := 1000000000000000000000000) (by decide +kernel) (by decide +kernel)))) (pv 5)) pa_nil)) (by rfl)))) pss_nil)
 (pss_cons (ps_if (pt_cmpR op_eq (pv 2) pe_int (nomark _)) (pss_cons (ps_set (i := 3) (sc_law_pair).nd rfl (Or.inl rfl) (pe_op op_mulW (pv 4) (pe_op op_modW (pv 3) pe_int)))
 (pss_one (ps_set (i := 3) (sc_law_pair).nd rfl (Or.inl rfl) (pe_ifExp (pt_cmpR op_lt (pv 3) (G.pe_powc (c := 10000000000000000000000000000000) (by decide +kernel) (by decide +kernel)) (nomark _)) (pv 3) (pv 4))))) pss_nil)
 (pss_one (ps_ret (pe_tup (pa_cons (pe_op op_mulW (pv 1) (pv 3)) (pa_cons (pv 4) pa_nil))))))))))), ?_⟩
    walk_at "wp"
    intro p H' hp e' h'
    walk_at "wp"
    refine ⟨a, _, b, rfl, hS.same e', by omega, by decide, by decide +kernel, fun d H1 d0 d1 S1 f1 => ?_⟩
    have g1 : Fr a H H1 := (Fr.same e').trans f1
    obtain ⟨sg, hsg, e⟩ := sign_at d0 d1
    have bsg : Bt 1 sg := by rcases hsg with rfl | rfl <;> decide
    walk_at "wp"
    refine w_ixL (SqL.of (f1 _ _ (hS.ne hp) h')) e ?_
    walk_at "wp"
    refine ⟨a, _, b + 1, rfl, S1, by omega, by decide, by decide +kernel, fun w H2 w0 w1 S2 f2 => ?_⟩
    walk_at "wp"
    refine ⟨a, b + 2, rfl, S2, by omega, fun n H3 n0 n1 S3 f3 => ?_⟩
    walk_at "wp"
    refine ⟨a, n, b + 3, rfl, S3, by omega, by omega, (bt_31 (by omega) n1).mono (by decide), fun u H4 u0 u1 S4 f4 => ?_⟩
    walk_at "wp"
    refine ⟨a, b + 4, rfl, S4, by omega, fun m H5 m0 m1 S5 f5 => ?_⟩
    walk_at "wp"
    refine ⟨a, m - 1, b + 5, rfl, S5, by omega, by omega, (bt_31 (by omega) (by omega)).mono (by decide), fun v H6 v0 v1 S6 f6 => ?_⟩
    have g6 : Fr a H H6 := ((((g1.trans f2).trans f3).trans f4).trans f5).trans f6
    have bu : Bt 104 u := bt_31 u0 (by omega)
    have bv : Bt 104 v := bt_31 v0 (by omega)
    have fin : ∀ (x y : Int) (H7 : Hp), Fr a H H7 → Src (b + 10) H7 a → x.natAbs < 10 ^ 31 → 0 < y → y < 10 ^ 31 → ∀ p H8, H7 p = none → Same H7 H8 → H8 p = some (.tup [.int (sg * x), .int y]) → Q (.ref p) H8 := by
      intro x y H7 g7 S7 hx hy0 hy p H8 hp e8 h8
      refine q _ _ p _ ?_ hy0 hy h8 (S7.ne hp) (S7.same e8) (g7.trans (Fr.same e8))
      rw [Int.natAbs_mul]
      rcases hsg with rfl | rfl <;> simpa using hx
    have c : w = 0 ∨ w = 1 ∨ w = 2 ∨ w = 3 ∨ w = 4 ∨ w = 5 := by omega
    rcases c with rfl | rfl | rfl | rfl | rfl | rfl
    · walk_at "wp"
      exact fin _ _ _ g6 (S6.mono (by omega)) (by omega) (by omega) (by omega)
    · walk_at "wp"
      exact fin _ _ _ g6 (S6.mono (by omega)) (by omega) (by omega) (by omega)
    · walk_at "wp"
      refine ⟨a, _, b + 6, rfl, S6, by omega, by decide, by decide +kernel, fun k H7 k0 k1 S7 f7 => ?_⟩
      have bk : Bt 20 k := by unfold Bt; omega
      walk_at "wp"
      have r0 : (0 : Int) ≤ u % 1000000000000000000000000 := Int.emod_nonneg _ (by decide)
      have r1 : u % 1000000000000000000000000 < 10 ^ 24 := Int.emod_lt_of_pos _ (by decide)
      have s0 : (0 : Int) ≤ (1 + v) % 1000000000000000000000000 := Int.emod_nonneg _ (by decide)
      have s1 : (1 + v) % 1000000000000000000000000 < 10 ^ 24 := Int.emod_lt_of_pos _ (by decide)
      have p0 : 0 ≤ u % 1000000000000000000000000 * (1 + k) := Int.mul_nonneg r0 (by omega)
      have p1 : u % 1000000000000000000000000 * (1 + k) ≤ 10 ^ 24 * (1 + k) := Int.mul_le_mul_of_nonneg_right (by omega) (by omega)
      have q0 : 0 < (1 + (1 + v) % 1000000000000000000000000) * (1 + k) := Int.mul_pos (by omega) (by omega)
      have q1 : (1 + (1 + v) % 1000000000000000000000000) * (1 + k) ≤ 10 ^ 24 * (1 + k) := Int.mul_le_mul_of_nonneg_right (by omega) (by omega)
      exact fin _ _ _ (g6.trans f7) (S7.mono (by omega)) (by omega) q0 (by omega)
    · walk_at "wp"
      have p0 : 0 ≤ (1 + v) * (u % 9) := Int.mul_nonneg (by omega) (by omega)
      refine w_ite (fun c => ?_) fun c => ?_
      · have c : (1 + v) * (u % 9) < 10 ^ 31 := of_decide_eq_true c
        walk_at "wp"
        exact fin _ _ _ g6 (S6.mono (by omega)) (by omega) (by omega) (by omega)
      · walk_at "wp"
        exact fin _ _ _ g6 (S6.mono (by omega)) (by omega) (by omega) (by omega)
    · walk_at "wp"
      exact fin _ _ _ g6 (S6.mono (by omega)) (by omega) (by omega) (by omega)
    · walk_at "wp"
      exact fin _ _ _ g6 (S6.mono (by omega)) (by omega) (by omega) (by omega)
/-! ### how a ratio is made -/
theorem b2_Ratio (T : Txt K mg A) : ∃ ds, Vals [] ds ∧ Binds K A.d_Ratio_init ["self", "top", "bottom"] ds :=
  T.fun_Ratio_init.binds1 3 1 (by simp) (by decide) fun _ _ _ _ _ _ _ us its h1 h2 => match us, its, h1, h2 with | [_, _, _], [_], _, _ => ⟨_, rfl, rfl⟩
theorem b1_Ratio (T : Txt K mg A) : ∃ ds, Vals [.int 1] ds ∧ Binds K A.d_Ratio_init ["self", "top", "bottom"] ds :=
  T.fun_Ratio_init.binds1 2 0 (by simp) (by decide) fun _ _ _ _ _ _ _ us its h1 h2 => match us, its, h1, h2 with | [_, _], [_], _, _ => ⟨_, rfl, rfl⟩
theorem kb_tb (T : Txt K mg A) : ∃ its : List Value, KBn K A.d_Ratio_init ["self", "top", "bottom"] 1 ["top", "bottom"] (fun us ws => us ++ ws) (fun vs zs => vs ++ zs) :=
  T.fun_Ratio_init.kbindsD 1 ["top", "bottom"] (fun us _ ws => us ++ ws) (by simp) (fun r1 _ r3 => r1.append r3) fun _ _ _ _ _ _ _ us its ws h1 h2 h3 => match us, its, ws, h1, h2, h3 with | [_], [_], [_, _], _, _, _ => ⟨_, rfl, rfl⟩
theorem kb_bt (T : Txt K mg A) : ∃ its : List Value, KBn K A.d_Ratio_init ["self", "top", "bottom"] 1 ["bottom", "top"] (fun us ws => us ++ ws.reverse) (fun vs zs => vs ++ zs.reverse) :=
  T.fun_Ratio_init.kbindsD 1 ["bottom", "top"] (fun us _ ws => us ++ ws.reverse) (by simp) (fun r1 _ r3 => r1.append r3.reverse) fun _ _ _ _ _ _ _ us its ws h1 h2 h3 => match us, its, ws, h1, h2, h3 with | [_], [_], [_, _], _, _, _ => ⟨_, rfl, rfl⟩
theorem kb_t (T : Txt K mg A) : ∃ its : List Value, KBn K A.d_Ratio_init ["self", "top", "bottom"] 1 ["top"] (fun us ws => us ++ ws ++ its) (fun vs zs => vs ++ zs ++ [.int 1]) :=
  T.fun_Ratio_init.kbindsD 1 ["top"] (fun us its ws => us ++ ws ++ its) (by simp) (fun r1 r2 r3 => (r1.append r3).append r2) fun _ _ _ _ _ _ _ us its ws h1 h2 h3 => match us, its, ws, h1, h2, h3 with | [_], [_], [_], _, _, _ => ⟨_, rfl, rfl⟩
theorem kb_is_ratio_value (T : Txt K mg A) : KBn K A.d_is_ratio ["value"] 0 ["value"] (fun _ ws => ws) (fun _ zs => zs) := by
  obtain ⟨oc, od, kV, doc, pm, an, cdv, ct, osl, e, _⟩ := T.fun_is_ratio.ex
  rw [e]
  exact kbn_all fun ws h => match ws, h with | [_], _ => rfl
end
end K06

namespace K06
open PySem L2 G
local macro_rules | `(tactic| walk_at "pos") => `(tactic| first | assumption | (decide +kernel) | omega)
local macro_rules | `(tactic| walk_at "bt") => `(tactic| first
  | assumption
  | (decide +kernel)
  | exact Bt.mono (by assumption) (by decide)
  | (refine' Bt.add ?b1 ?b2; (case b1 => walk_at "bt"); (case b2 => walk_at "bt"))
  | (refine' Bt.sub ?b1 ?b2; (case b1 => walk_at "bt"); (case b2 => walk_at "bt"))
  | (refine' Bt.mul ?b1 ?b2; (case b1 => walk_at "bt"); (case b2 => walk_at "bt"))
  | (refine' Bt.mod ?b1 ?b2; (case b2 => walk_at "bt"); (case b1 => walk_at "pos"))
  | (refine' Bt.div ?b1 ?b2; (case b2 => walk_at "bt"); (case b1 => walk_at "pos"))
  | (refine' Bt.pow3 ?b1; (case b1 => walk_at "bt"))
  | (refine' Bt.neg ?b1; (case b1 => walk_at "bt"))
  | exact Bt.any)
local macro_rules | `(tactic| walk_at "btm") => `(tactic| ((refine' Bt.mono ?m1 ?m2); (case m1 => walk_at "bt"); (case m2 => (decide +kernel))))
local macro_rules | `(tactic| walk_at "ne") => `(tactic| first
  | assumption
  | (refine' Ne.symm ?q1; (case q1 => assumption))
  | (refine' ne_of_none (by assumption) ?q1; (case q1 => assumption))
  | (refine' Ne.symm (ne_of_none (by assumption) ?q1); (case q1 => assumption)))
local macro_rules | `(tactic| walk_at "hp") => `(tactic| first
  | assumption
  | exact upd_same
  | ((refine' lst_same ?q1 (by assumption : Same _ _)); (case q1 => walk_at "hp"))
  | ((refine' (by assumption : Fr _ _ _) _ _ ?n ?h); (case n => walk_at "ne"); (case h => walk_at "hp"))
  | ((refine (upd_ne (by assumption)).trans ?_); walk_at "hp")
  | ((refine (upd_ne (Ne.symm (by assumption))).trans ?_); walk_at "hp"))
local macro_rules | `(tactic| walk_at "sr") => `(tactic| first
  | assumption
  | ((refine' Src.same ?q1 (by assumption : Same _ _)); (case q1 => walk_at "sr")))
local macro_rules | `(tactic| walk_at "rt") => `(tactic| first
  | assumption
  | ((refine' Rat.same ?q1 (by assumption : Same _ _)); (case q1 => walk_at "rt"))
  | ((refine' Rat.fr ?q1 ?q2 (by assumption : Fr _ _ _)); (case q2 => walk_at "sr"); (case q1 => walk_at "rt")))
local macro_rules | `(tactic| walk_at "tp") => `(tactic| first
  | assumption
  | ((refine' tup_same ?q1 (by assumption : Same _ _)); (case q1 => walk_at "tp"))
  | ((refine' tup_fr ?q1 ?q2 (by assumption : Fr _ _ _)); (case q2 => walk_at "sr"); (case q1 => walk_at "tp")))
local macro_rules | `(tactic| walk_at "ls") => `(tactic| first
  | assumption
  | ((refine' lst_same ?q1 (by assumption : Same _ _)); (case q1 => walk_at "ls"))
  | ((refine' lst_fr ?q1 ?q2 (by assumption : Fr _ _ _)); (case q2 => assumption); (case q1 => walk_at "ls")))
local macro_rules | `(tactic| walk_at "sm") => `(tactic| first
  | exact Same.refl _
  | assumption
  | ((refine Same.trans ?_ (by assumption : Same _ _)); walk_at "sm"))
local macro_rules | `(tactic| walk_at "fr") => `(tactic| first
  | exact Fr.refl _ _
  | assumption
  | ((refine Fr.trans ?_ (Fr.same (by assumption : Same _ _))); walk_at "fr")
  | ((refine Fr.trans ?_ (by assumption : Fr _ _ _)); walk_at "fr"))
local macro_rules | `(tactic| walk_at "wp1") => `(tactic| first
  | (with_reducible refine w_seq ?_) | (with_reducible refine w_next ?_) | (with_reducible refine w_ret ?_) | (with_reducible refine w_asg ?_) | (with_reducible refine w_gn ?_) | (with_reducible refine w_if ?_)
  | (with_reducible refine w_cons ?_) | (with_reducible refine w_nil ?_) | (with_reducible refine w_c ?_) | (with_reducible refine w_op ?_) | (with_reducible refine w_cb ?_)
  | ((with_reducible refine' w_var ?h ?_); (case h => exact rfl))
  | (with_reducible refine w_I0 ?_) | (with_reducible refine w_eqI ?_) | (with_reducible refine w_neI ?_) | (with_reducible refine w_test ?_) | (with_reducible refine w_tB ?_) | (with_reducible refine w_bl ?_) | (with_reducible refine w_par ?_) | (with_reducible refine w_par2 ?_)
  | (with_reducible refine w_not ?_) | (with_reducible refine w_and ?_) | (with_reducible refine w_or ?_) | (with_reducible refine w_andV ?_) | (with_reducible refine w_orV ?_) | (with_reducible refine w_notV ?_) | (with_reducible refine w_tif ?_)
  | (with_reducible refine w_tup ?_) | (with_reducible refine w_lst ?_) | (with_reducible refine w_un ?_) | (with_reducible refine w_U ?_) | (with_reducible refine w_drop ?_) | (with_reducible refine w_brk ?_) | (with_reducible refine w_cont ?_) | (with_reducible refine w_retN ?_)
  | (with_reducible refine w_call ?_) | (with_reducible refine w_fld ?_) | (with_reducible refine w_sfld ?_) | (with_reducible refine w_prop ?_) | (with_reducible refine w_make ?_) | (with_reducible refine w_meth ?_) | (with_reducible refine w_methN ?_) | (with_reducible refine w_revL ?_) | (with_reducible refine w_gsub ?_)
  | ((with_reducible refine' w_powN ?c1 ?c2 ?_); (case c2 => (decide +kernel)); (case c1 => exact rfl))
  | ((with_reducible refine' w_powV ?c1 ?c2 ?c3 ?c4 ?_); (case c2 => walk_at "bt"); (case c3 => (decide +kernel)); (case c4 => (decide +kernel)); (case c1 => exact rfl))
  | ((with_reducible refine' w_I (C := CMulW) ?c1 ?_); (case c1 => (refine' mulOk ?k1 ?k2 ?k3; (case k1 => walk_at "bt"); (case k2 => walk_at "bt"); (case k3 => decide +kernel))))
  | ((with_reducible refine' w_I (C := CDivW) ?c1 ?_); (case c1 => (refine' divOk ?k1 ?k2 ?k3; (case k1 => walk_at "pos"); (case k2 => walk_at "bt"); (case k3 => decide +kernel))))
  | ((with_reducible refine' w_I (C := fun _ j => 0 < j) ?c1 ?_); (case c1 => walk_at "pos"))
  | (with_reducible refine w_isB ?_) | (with_reducible refine w_notB ?_) | (with_reducible refine w_neS ?_) | (with_reducible refine w_eqS ?_)
  | (with_reducible refine w_iRng1 ?_) | (with_reducible refine w_for ?_) | (with_reducible refine w_iEnum ?_) | (with_reducible refine w_iList ?_) | (with_reducible refine w_iTup ?_) | (with_reducible refine w_noPart ?_) | (with_reducible refine w_part ?_) | (with_reducible refine w_int ?_)
  | (with_reducible refine w_sl ?_)
  | (with_reducible refine w_two ?_) | (with_reducible refine w_one ?_)
  | ((with_reducible refine' w_ixL ?hs ?he ?_); (case hs => first | (refine' SqL.of ?q0; (case q0 => walk_at "hp")) | assumption); (case he => exact rfl))
  | ((with_reducible refine' w_ixT ?hs ?he ?_); (case hs => first | (refine' SqT.of ?q0; (case q0 => walk_at "tp")) | assumption); (case he => exact rfl))
  | ((with_reducible refine' w_setL ?hs ?he ?_); (case hs => walk_at "hp"); (case he => exact rfl))
  | (with_reducible refine w_iteT rfl ?_) | (with_reducible refine w_iteF rfl ?_) | ((with_reducible refine w_alloc ?h ?_); (case h => exact rfl))
  | (with_reducible refine w_makeS ?_) | (with_reducible refine w_methS ?_) | (with_reducible refine w_callS ?_) | (with_reducible refine w_bm ?_) | (with_reducible refine w_makeK ?_) | (with_reducible refine w_callN ?_))
local macro_rules | `(tactic| walk_at "wp") => `(tactic| repeat (walk_at "wp1"))

section
variable {P : Program} {w : World} {K : PySem.W.Frag} {mg : Str → Option Value} {base : Heap} {A : Ad}
theorem ins_ty (T : Txt K mg A) : InsTy K A.c_Ratio := fun _ _ _ _ h => .base (.ins h T.cl_Ratio T.cc_Ratio T.sg_ T.st_ T.mo_Ratio)
/-! ### the operators of ratios -/
theorem ok_Ratio_add (T : Txt K mg A) : FnOk P w K mg base CX0 4 A.a_Ratio_add A.d_Ratio_add ["self", "other"] (spBin A.c_Ratio 0) := by
  refine T.fun_Ratio_add.ok sc_Ratio_add (fun vs H Q E h => ?_) (fun cdv B outer s H vs Q E hr h => ?_)
  · obtain ⟨p, q, x, y, n, rfl, _⟩ := h
    rfl
  · obtain ⟨p, q, x, y, n, rfl, ⟨dx, hp⟩, ⟨dy, hq⟩, hx, hy, hn, k⟩ := h
    refine ⟨_, (pss_cons (ps_if (pt_not (pt_val (pe_callB call_isi (by rfl) T.z_isinstance (by decide +kernel) (pa_cons (pv 1) (pa_cons (pe_glob (v := .ref A.c_Ratio) rfl T.mgc_Ratio rfl) pa_nil))))) (pss_one ps_never) pss_nil)
 (pss_cons (ps_set (i := 2) (sc_Ratio_add).nd rfl (Or.inl rfl) (pe_op op_add (pe_op op_mulW (pe_fld (pv 0) rfl) (pe_fld (pv 1) rfl)) (pe_op op_mulW (pe_fld (pv 1) rfl) (pe_fld (pv 0) rfl))))
 (pss_one (ps_ret (pe_make T.mk_Ratio (ok_Ratio_init T) (hr.mono (by decide)) rfl T.mgc_Ratio (b2_Ratio T).choose_spec.2 (b2_Ratio T).choose_spec.1 pass0 (pa_cons (pv 2) (pa_cons (pe_op op_mulW (pe_fld (pv 0) rfl) (pe_fld (pv 1) rfl)) pa_nil))))))), ?_⟩
    obtain ⟨x1, x2, x3, x4⟩ := hx
    obtain ⟨y1, y2, y3, y4⟩ := hy
    walk_at "wp"
    refine ⟨_, _, _, _, true, rfl, .own _, .base (.ins hq T.cl_Ratio T.cc_Ratio T.sg_ T.st_ T.mo_Ratio), T.ki_Ratio_Ratio, ?_⟩
    walk_at "wp"
    have a1 := x3.mono (show n ≤ 3500 by omega)
    have a2 := x4.mono (show n ≤ 3500 by omega)
    have b1 := y3.mono (show n ≤ 3500 by omega)
    have b2 := y4.mono (show n ≤ 3500 by omega)
    clear x3 x4 y3 y4
    refine w_fld1 hp T.cl_Ratio T.na_Ratio_top (rf_top _ _) ?_
    walk_at "wp"
    refine w_fld1 hq T.cl_Ratio T.na_Ratio_bottom (rf_bottom _ _) ?_
    walk_at "wp"
    refine w_fld1 hq T.cl_Ratio T.na_Ratio_top (rf_top _ _) ?_
    walk_at "wp"
    refine w_fld1 hp T.cl_Ratio T.na_Ratio_bottom (rf_bottom _ _) ?_
    walk_at "wp"
    refine w_fld1 hp T.cl_Ratio T.na_Ratio_bottom (rf_bottom _ _) ?_
    walk_at "wp"
    refine w_fld1 hq T.cl_Ratio T.na_Ratio_bottom (rf_bottom _ _) ?_
    walk_at "wp"
    refine ratio_of (Int.mul_pos x1 y1) (Bt.mono (Bt.mul a2 b2) (by decide)) fun r H1 hr1 e1 R => ?_
    exact k r H1 hr1 e1 (by rw [jn_add]; exact R)
theorem ok_Ratio_eq (T : Txt K mg A) : FnOk P w K mg base CX0 4 A.a_Ratio_eq A.d_Ratio_eq ["self", "other"] (spEq K A.c_Ratio) := by
  refine T.fun_Ratio_eq.ok sc_Ratio_eq (fun vs H Q E h => ?_) (fun cdv B outer s H vs Q E hr h => ?_)
  · rcases h with ⟨p, q, x, y, rfl, _⟩ | ⟨p, x, v, t, rfl, _⟩
    · rfl
    · rfl
  · refine ⟨_, (pss_one (ps_ret (pe_and (pe_callB call_isi (by rfl) T.z_isinstance (by decide +kernel) (pa_cons (pv 1) (pa_cons (pe_glob (v := .ref A.c_Ratio) rfl T.mgc_Ratio rfl) pa_nil))) (pe_and (pe_cmpR op_eq (pe_fld (pv 0) rfl) (pe_fld (pv 1) rfl) (nomark _)) (pe_one (pe_cmpR op_eq (pe_fld (pv 0) rfl) (pe_fld (pv 1) rfl) (nomark _))))))), ?_⟩
    rcases h with ⟨p, q, x, y, rfl, ⟨dx, hp⟩, ⟨dy, hq⟩, k⟩ | ⟨p, x, v, t, rfl, ⟨dx, hp⟩, ty, ki, k⟩
    · walk_at "wp"
      refine ⟨_, _, _, _, true, rfl, .own _, .base (.ins hq T.cl_Ratio T.cc_Ratio T.sg_ T.st_ T.mo_Ratio), T.ki_Ratio_Ratio, ?_⟩
      walk_at "wp"
      refine w_fld1 hp T.cl_Ratio T.na_Ratio_top (rf_top _ _) ?_
      walk_at "wp"
      refine w_fld1 hq T.cl_Ratio T.na_Ratio_top (rf_top _ _) ?_
      walk_at "wp"
      refine w_ite (fun c => ?_) fun c => ?_
      · have c : x.1 = y.1 := of_decide_eq_true c
        walk_at "wp"
        refine w_fld1 hp T.cl_Ratio T.na_Ratio_bottom (rf_bottom _ _) ?_
        walk_at "wp"
        refine w_fld1 hq T.cl_Ratio T.na_Ratio_bottom (rf_bottom _ _) ?_
        walk_at "wp"
        have e : decide (x.2 = y.2) = decide (x = y) := by
          by_cases h : x.2 = y.2
          · rw [decide_eq_true h, decide_eq_true (Prod.ext c h)]
          · rw [decide_eq_false h, decide_eq_false fun z => h (by rw [z])]
        rw [e]
        exact k
      · have c : ¬ x.1 = y.1 := of_decide_eq_false c
        have e : decide (x = y) = false := decide_eq_false fun z => c (by rw [z])
        rw [e] at k
        exact k
    · walk_at "wp"
      refine ⟨_, _, _, _, false, rfl, .own _, ty, ki, ?_⟩
      walk_at "wp"
      exact k
theorem okG_is_whole (T : Txt K mg A) : FnOk P w K mg base CX0 1 A.a_is_whole A.d_is_whole ["value"] (spWholeG K) := by
  refine T.fun_is_whole.ok sc_is_whole (fun vs H Q E h => ?_) (fun cdv B outer s H vs Q E hr h => ?_)
  · obtain ⟨x, t, b1, b2, rfl, _⟩ := h
    rfl
  · obtain ⟨x, t, b1, b2, rfl, ty, k1, k2, q⟩ := h
    refine ⟨_, (pss_one (ps_ret (pe_and (pe_callB call_isi (by rfl) T.z_isinstance (by decide +kernel) (pa_cons (pv 0) (pa_cons (pe_bltn (by rfl) T.z_int (by decide +kernel) (show RelV (.ty "int") _ from rfl)) pa_nil))) (pe_one (pe_not (pe_callB call_isi (by rfl) T.z_isinstance (by decide +kernel) (pa_cons (pv 0) (pa_cons (pe_bltn (by rfl) T.z_bool (by decide +kernel) (show RelV (.ty "bool") _ from rfl)) pa_nil)))))))), ?_⟩
    refine w_ret (w_andV (w_cb (w_cons (w_var rfl (w_cons (w_c (w_nil ?_)))))))
    refine ⟨_, _, _, _, b1, rfl, .ty "int", ty, k1, b1, rfl, ?_⟩
    cases b1 with
    | true =>
      refine w_iteT rfl (w_notV (w_cb (w_cons (w_var rfl (w_cons (w_c (w_nil ?_)))))))
      refine ⟨_, _, _, _, b2, rfl, .ty "bool", ty, k2, b2, rfl, ?_⟩
      cases b2 <;> exact q
    | false => exact w_iteF rfl q
theorem int_whole (T : Txt K mg A) {H : Hp} (i : Int) : TyX K H (.int i) (.type "int") ∧ PySem.W.kitOne K (.type "int") (.type "int") = some true ∧ PySem.W.kitOne K (.type "int") (.type "bool") = some false := ⟨.base (.int i), T.ki_int_int, T.ki_int_bool⟩
theorem okN_Ratio_init (T : Txt K mg A) : FnOk P w K mg base (L2N.CX P w) 2 A.a_Ratio_init A.d_Ratio_init ["self", "top", "bottom"] (spInitN K A.c_Ratio A.c_InvalidRatioError) := by
  refine T.fun_Ratio_init.ok (CX := L2N.CX P w) sc_Ratio_init (fun vs H Q E h => ?_) (fun cdv B outer s H vs Q E hr h => ?_)
  · obtain ⟨p, dx, x, y, rfl, _⟩ := h
    rfl
  · obtain ⟨p, dx, x, y, rfl, hp, h⟩ := h
    refine ⟨_, (pss_cons (ps_if (pt_not (pt_val (pe_call (okG_is_whole T) (hr.mono (by decide)) rfl T.mg_is_whole T.fun_is_whole.kp T.bd_is_whole .nil pass0 (pa_cons (pv 1) pa_nil)))) (pss_one (L2N.ps_raise rfl (L2N.takes_of rfl rfl rfl rfl) (L2N.pmk_own PySem.F.excBase_ValueError T.ex_InvalidRatioError T.mgc_InvalidRatioError T.ke_InvalidRatioError (raises_own T.eb_InvalidRatioError T.et_InvalidRatioError) rfl))) pss_nil)
 (pss_cons (ps_if (PW.pt (pw_or (pt_not (pt_val (pe_call (okG_is_whole T) (hr.mono (by decide)) rfl T.mg_is_whole T.fun_is_whole.kp T.bd_is_whole .nil pass0 (pa_cons (pv 2) pa_nil)))) (pw_or1 (pt_cmpR op_lt (pv 2) pe_int (nomark _))))) (pss_one (L2N.ps_raise rfl (L2N.takes_of rfl rfl rfl rfl) (L2N.pmk_own PySem.F.excBase_ValueError T.ex_InvalidRatioError T.mgc_InvalidRatioError T.ke_InvalidRatioError (raises_own T.eb_InvalidRatioError T.et_InvalidRatioError) rfl))) pss_nil)
 (pss_cons (ps_set (i := 3) (sc_Ratio_init).nd rfl (Or.inl rfl) (pe_callBfun cr_gcd rfl T.mgi_gcd (pa_cons (pv 1) (pa_cons (pv 2) pa_nil))))
 (pss_cons (ps_fld (pv 0) (pe_op op_fdivW (pv 1) (pv 3)) rfl)
 (pss_one (ps_fld (pv 0) (pe_op op_fdivW (pv 2) (pv 3)) rfl)))))), ?_⟩
    walk_at "wp"
    rcases h with ⟨⟨t, b1, b2, ty, k1, k2, hb⟩, e⟩ | ⟨i, rfl, h⟩
    · refine ⟨x, t, b1, b2, rfl, ty, k1, k2, ?_⟩
      rw [hb]
      walk_at "wp"
      exact e
    · refine ⟨_, _, true, false, rfl, (int_whole T i).1, (int_whole T (H := H) i).2.1, (int_whole T (H := H) i).2.2, ?_⟩
      walk_at "wp"
      rcases h with ⟨⟨t, b1, b2, ty, k1, k2, hb⟩, e⟩ | ⟨j, rfl, h⟩
      · refine ⟨y, t, b1, b2, rfl, ty, k1, k2, ?_⟩
        rw [hb]
        walk_at "wp"
        exact e
      · refine ⟨_, _, true, false, rfl, (int_whole T j).1, (int_whole T (H := H) j).2.1, (int_whole T (H := H) j).2.2, ?_⟩
        walk_at "wp"
        rcases h with ⟨hj, e⟩ | ⟨hj, hb, q⟩
        · refine w_iteT (decide_eq_true hj) ?_
          walk_at "wp"
          exact e
        · refine w_iteF (decide_eq_false (show ¬ j < 1 by omega)) ?_
          walk_at "wp"
          refine ⟨i, j, rfl, ?_⟩
          have g0 : (0 : Int) < (Int.gcd i j : Int) := by have := Int.gcd_pos_of_ne_zero_right i (show j ≠ 0 by omega); omega
          have gb : Bt 8000 (Int.gcd i j : Int) := hb.of_le (Nat.le_of_dvd (by omega) (Int.gcd_dvd_natAbs_right i j))
          have g0' : (0 : Int) < ((i.natAbs.gcd j.natAbs : Nat) : Int) := g0
          have gb' : Bt 8000 ((i.natAbs.gcd j.natAbs : Nat) : Int) := gb
          walk_at "wp"
          refine w_sfld1 hp T.cl_Ratio T.na_Ratio_top (by show 0 < 1000; decide) ?_
          walk_at "wp"
          refine w_sfld1 upd_same T.cl_Ratio T.na_Ratio_bottom (by show 1 < 1000; decide) ?_
          rw [upd_twice]
          exact q
theorem okN_Ratio_is_less (T : Txt K mg A) : FnOk P w K mg base (L2N.CX P w) 4 A.a_Ratio_is_less A.d_Ratio_is_less ["self", "other"] (spLessN K A.c_Ratio A.c_InvalidRatioError) := by
  refine G.fun_okN T.fun_Ratio_is_less sc_Ratio_is_less (fun vs H Q E h => ?_) (fun cdv B outer s H vs Q E hr h => ?_)
  · obtain ⟨p, v, x, n, rfl, _⟩ := h
    rfl
  · obtain ⟨p, v, x, n, rfl, ⟨dx, hp⟩, hx, hn, h⟩ := h
    refine ⟨_, (pss_cons (ps_if (pt_not (pt_val (pe_call (ok_is_ratio T) (hr.mono (by decide)) rfl T.mg_is_ratio T.fun_is_ratio.kp T.bd_is_ratio .nil pass0 (pa_cons (pv 1) pa_nil)))) (pss_one (L2N.ps_raise rfl (L2N.takes_of rfl rfl rfl rfl) (L2N.pmk_own PySem.F.excBase_ValueError T.ex_InvalidRatioError T.mgc_InvalidRatioError T.ke_InvalidRatioError (raises_own T.eb_InvalidRatioError T.et_InvalidRatioError) rfl))) pss_nil)
 (pss_one (ps_ret (pe_cmpR op_lt (pe_op op_mulW (pe_fld (pv 0) rfl) (pe_fld (pv 1) rfl)) (pe_op op_mulW (pe_fld (pv 1) rfl) (pe_fld (pv 0) rfl)) (nomark _))))), ?_⟩
    have IT := ins_ty T
    obtain ⟨x1, x2, x3, x4⟩ := hx
    have a1 := x3.mono (show n ≤ 3500 by omega)
    have a2 := x4.mono (show n ≤ 3500 by omega)
    walk_at "wp"
    rcases h with ⟨⟨t, ty, kt⟩, e⟩ | ⟨q, y, rfl, ⟨dy, hq⟩, hy, k⟩
    · refine ⟨v, t, false, rfl, ty, kt, ?_⟩
      walk_at "wp"
      exact e
    · obtain ⟨y1, y2, y3, y4⟩ := hy
      have b1 := y3.mono (show n ≤ 3500 by omega)
      have b2 := y4.mono (show n ≤ 3500 by omega)
      clear x3 x4 y3 y4
      refine w_isR IT T.ki_Ratio_Ratio ⟨dy, hq⟩ ?_
      walk_at "wp"
      refine w_fld1 hp T.cl_Ratio T.na_Ratio_top (rf_top _ _) ?_
      walk_at "wp"
      refine w_fld1 hq T.cl_Ratio T.na_Ratio_bottom (rf_bottom _ _) ?_
      walk_at "wp"
      refine w_fld1 hq T.cl_Ratio T.na_Ratio_top (rf_top _ _) ?_
      walk_at "wp"
      refine w_fld1 hp T.cl_Ratio T.na_Ratio_bottom (rf_bottom _ _) ?_
      walk_at "wp"
      exact k _
theorem okN_Ratio_over (T : Txt K mg A) : FnOk P w K mg base (L2N.CX P w) 4 A.a_Ratio_over A.d_Ratio_over ["self", "other"] (spOverN K A.c_Ratio A.c_InvalidRatioError A.c_ZeroRatioError) := by
  refine G.fun_okN T.fun_Ratio_over sc_Ratio_over (fun vs H Q E h => ?_) (fun cdv B outer s H vs Q E hr h => ?_)
  · obtain ⟨p, v, x, n, rfl, _⟩ := h
    rfl
  · obtain ⟨p, v, x, n, rfl, ⟨dx, hp⟩, hx, hn, h⟩ := h
    refine ⟨_, (pss_cons (ps_if (pt_not (pt_val (pe_call (ok_is_ratio T) (hr.mono (by decide)) rfl T.mg_is_ratio T.fun_is_ratio.kp T.bd_is_ratio .nil pass0 (pa_cons (pv 1) pa_nil)))) (pss_one (L2N.ps_raise rfl (L2N.takes_of rfl rfl rfl rfl) (L2N.pmk_own PySem.F.excBase_ValueError T.ex_InvalidRatioError T.mgc_InvalidRatioError T.ke_InvalidRatioError (raises_own T.eb_InvalidRatioError T.et_InvalidRatioError) rfl))) pss_nil)
 (pss_cons (ps_if (pt_cmpR op_eq (pe_fld (pv 1) rfl) pe_int (nomark _)) (pss_one (L2N.ps_raise rfl (L2N.takes_of rfl rfl rfl rfl) (L2N.pmk_own PySem.F.excBase_ValueError T.ex_ZeroRatioError T.mgc_ZeroRatioError T.ke_ZeroRatioError (raises_own T.eb_ZeroRatioError T.et_ZeroRatioError) rfl))) pss_nil)
 (pss_cons (ps_set (i := 2) (sc_Ratio_over).nd rfl (Or.inl rfl) (pe_op op_mulW (pe_fld (pv 0) rfl) (pe_fld (pv 1) rfl)))
 (pss_cons (ps_set (i := 3) (sc_Ratio_over).nd rfl (Or.inl rfl) (pe_op op_mulW (pe_fld (pv 0) rfl) (pe_fld (pv 1) rfl)))
 (pss_cons (ps_if (pt_cmpR op_lt (pv 3) pe_int (nomark _)) (pss_one (ps_ret (pe_make T.mk_Ratio (ok_Ratio_init T) (hr.mono (by decide)) rfl T.mgc_Ratio (b2_Ratio T).choose_spec.2 (b2_Ratio T).choose_spec.1 pass0 (pa_cons (pe_un un_neg (pv 2)) (pa_cons (pe_un un_neg (pv 3)) pa_nil))))) pss_nil)
 (pss_one (ps_ret (pe_make T.mk_Ratio (ok_Ratio_init T) (hr.mono (by decide)) rfl T.mgc_Ratio (b2_Ratio T).choose_spec.2 (b2_Ratio T).choose_spec.1 pass0 (pa_cons (pv 2) (pa_cons (pv 3) pa_nil)))))))))), ?_⟩
    have IT := ins_ty T
    walk_at "wp"
    rcases h with ⟨⟨t, ty, kt⟩, e⟩ | ⟨q, y, rfl, ⟨dy, hq⟩, hy, h⟩
    · refine ⟨v, t, false, rfl, ty, kt, ?_⟩
      walk_at "wp"
      exact e
    · refine w_isR IT T.ki_Ratio_Ratio ⟨dy, hq⟩ ?_
      walk_at "wp"
      refine w_fld1 hq T.cl_Ratio T.na_Ratio_top (rf_top _ _) ?_
      walk_at "wp"
      rcases h with ⟨h0, e⟩ | ⟨h0, k⟩
      · refine w_iteT (decide_eq_true h0) ?_
        walk_at "wp"
        exact e
      · refine w_iteF (decide_eq_false h0) ?_
        have hm := mul_ne hx h0
        obtain ⟨x1, x2, x3, x4⟩ := hx
        obtain ⟨y1, y2, y3, y4⟩ := hy
        have a1 := x3.mono (show n ≤ 3500 by omega)
        have a2 := x4.mono (show n ≤ 3500 by omega)
        have b1 := y3.mono (show n ≤ 3500 by omega)
        have b2 := y4.mono (show n ≤ 3500 by omega)
        clear x3 x4 y3 y4
        walk_at "wp"
        refine w_fld1 hp T.cl_Ratio T.na_Ratio_top (rf_top _ _) ?_
        walk_at "wp"
        refine w_fld1 hq T.cl_Ratio T.na_Ratio_bottom (rf_bottom _ _) ?_
        walk_at "wp"
        refine w_fld1 hp T.cl_Ratio T.na_Ratio_bottom (rf_bottom _ _) ?_
        walk_at "wp"
        refine w_fld1 hq T.cl_Ratio T.na_Ratio_top (rf_top _ _) ?_
        walk_at "wp"
        refine w_ite (fun c => ?_) fun c => ?_
        · have c : x.2 * y.1 < 0 := of_decide_eq_true c
          walk_at "wp"
          refine ratio_of (show 0 < -(x.2 * y.1) by omega) (Bt.mono (Bt.mul a2 b1).neg (by decide)) fun r H1 hr1 e1 R => ?_
          refine k r H1 hr1 e1 ?_
          unfold qt
          rw [if_neg (by omega)]
          exact R
        · have c : ¬ x.2 * y.1 < 0 := of_decide_eq_false c
          walk_at "wp"
          refine ratio_of (show 0 < x.2 * y.1 by omega) (Bt.mono (Bt.mul a2 b1) (by decide)) fun r H1 hr1 e1 R => ?_
          refine k r H1 hr1 e1 ?_
          unfold qt
          rw [if_pos (by omega)]
          exact R
theorem okN_total (T : Txt K mg A) : FnOk P w K mg base (L2N.CX P w) 5 A.a_total A.d_total ["ratios"] (spTotalN K A.c_Ratio A.c_InvalidRatioError) := by
  refine G.fun_okN T.fun_total sc_total (fun vs H Q E h => ?_) (fun cdv B outer s H vs Q E hr h => ?_)
  · obtain ⟨v, rfl, _⟩ := h
    rfl
  · obtain ⟨v, rfl, h⟩ := h
    refine ⟨_, (pss_cons (ps_if (pt_cmpR G.op_notTyA (pe_callTy G.call_typeA (by rfl) T.z_type (by decide +kernel) (pa_cons (pv 0) pa_nil)) (pe_bltn (by rfl) T.z_list (by decide +kernel) (show RelV (.ty "list") _ from rfl)) (nomark _)) (pss_one (L2N.ps_raise rfl (L2N.takes_of rfl rfl rfl rfl) (L2N.pmk_own PySem.F.excBase_ValueError T.ex_InvalidRatioError T.mgc_InvalidRatioError T.ke_InvalidRatioError (raises_own T.eb_InvalidRatioError T.et_InvalidRatioError) rfl))) pss_nil)
 (pss_cons (ps_set (i := 1) (sc_total).nd rfl (Or.inl rfl) (pe_make T.mk_Ratio (ok_Ratio_init T) (hr.mono (by decide)) rfl T.mgc_Ratio (b1_Ratio T).choose_spec.2 (b1_Ratio T).choose_spec.1 pass0 (pa_cons pe_int pa_nil)))
 (pss_cons (ps_for (passes_of rfl) rfl (pi_list (pv 0)) (pg_name (i := 2) (sc_total).nd rfl (Or.inl rfl)) (pss_cons (ps_if (pt_not (pt_val (pe_call (ok_is_ratio T) (hr.mono (by decide)) rfl T.mg_is_ratio T.fun_is_ratio.kp T.bd_is_ratio .nil pass0 (pa_cons (pv 2) pa_nil)))) (pss_one (L2N.ps_raise rfl (L2N.takes_of rfl rfl rfl rfl) (L2N.pmk_own PySem.F.excBase_ValueError T.ex_InvalidRatioError T.mgc_InvalidRatioError T.ke_InvalidRatioError (raises_own T.eb_InvalidRatioError T.et_InvalidRatioError) rfl))) pss_nil)
 (pss_one (ps_set (i := 1) (sc_total).nd rfl (Or.inl rfl) (pe_op (G.op_own (ok_Ratio_add T) (hr.mono (by decide)) T.bd_Ratio_add pass0 T.om_Ratio_add T.sf_Ratio) (pv 1) (pv 2))))))
 (pss_one (ps_ret (pv 1)))))), ?_⟩
    have IT := ins_ty T
    walk_at "wp"
    rcases h with ⟨nl, e⟩ | ⟨l, rs, ws, xs, rfl, hl, hR, hn, hx, ht, h⟩
    · cases nl with
      | @pl _ t pl nt =>
        refine .inl ⟨v, t, rfl, pl.tb, ?_⟩
        walk_at "wp"
        refine ⟨"list", rfl, .inl ⟨t, rfl, ?_⟩⟩
        rw [decide_eq_false nt]
        walk_at "wp"
        exact e
      | ins hp =>
        refine .inr ⟨_, _, _, _, rfl, hp, ?_⟩
        walk_at "wp"
        refine ⟨"list", rfl, .inr ⟨_, rfl, ?_⟩⟩
        walk_at "wp"
        exact e
    · refine .inl ⟨_, "list", rfl, .lst (SqL.of hl), ?_⟩
      walk_at "wp"
      refine ⟨"list", rfl, .inl ⟨"list", rfl, ?_⟩⟩
      walk_at "wp"
      refine ratio_lp (x := (0, 1)) lp_zero rfl fun r0 H1 n1 e1 R0 => ?_
      walk_at "wp"
      have lR := hR.len
      refine w_walkL (xs := rs ++ ws) (SqL.of (e1 _ _ hl)) (fun i σ' H' => ∃ (r : Addr) (v2 : Option V), σ' = [some (.ref l), some (.ref r), v2] ∧ Same H H' ∧ H r = none ∧ i ≤ rs.length ∧ Rat A.c_Ratio H' r (tot (xs.take i)).1 (tot (xs.take i)).2) ⟨r0, none, rfl, e1, n1, Nat.zero_le _, R0⟩ ?_ ?_ ?_
      · rintro i σ' H' _ ⟨r, v2, rfl, e2, _, _, _⟩
        exact SqL.of (e2 _ _ hl)
      · rintro i x σ' H2 hi ⟨r, v2, rfl, e2, n2, hir, R2⟩
        by_cases hlt : i < rs.length
        · rw [List.getElem?_append_left hlt] at hi
          obtain ⟨p, x, rfl, hi', Rx⟩ := hR.get hi
          have hi2 : i < xs.length := (List.getElem?_eq_some_iff.mp hi').1
          have Rx := Rx.same e2
          walk_at "wp"
          refine w_isR IT T.ki_Ratio_Ratio Rx ?_
          walk_at "wp"
          refine w_binR R2 Rx (ht i (by omega)) (hx x (List.mem_of_getElem? hi')) rfl fun r3 H3 n3 e3 R3 => ?_
          walk_at "wp"
          refine ⟨r3, _, rfl, e2.trans e3, e2.free n3, hlt, ?_⟩
          rw [take_snoc hi', tot_snoc]
          exact R3
        · have hie : i = rs.length := by omega
          subst hie
          rw [List.getElem?_append_right (Nat.le_refl _), Nat.sub_self] at hi
          rcases h with ⟨w1, wr, rfl, ⟨t, ty, kt⟩, e⟩ | ⟨rfl, _⟩
          · obtain rfl : w1 = x := by simpa using hi
            walk_at "wp"
            refine ⟨w1, t, false, rfl, tyX_same ty e2, kt, ?_⟩
            walk_at "wp"
            exact e _ e2
          · simp at hi
      · rintro σ' H2 ⟨r, v2, rfl, e2, n2, hir, R2⟩
        rcases h with ⟨w1, wr, rfl, _⟩ | ⟨rfl, k⟩
        · exact absurd hir (by rw [List.length_append]; simp)
        · rw [List.length_append, List.length_nil, Nat.add_zero, lR, List.take_length] at R2
          walk_at "wp"
          exact k r H2 n2 e2 R2
theorem ok_law_name_of (T : Txt K mg A) : FnP P w K mg base 1 A.a_law_name_of A.d_law_name_of ["caught"] (spNameP A.c_InvalidRatioError A.c_ZeroRatioError) := by
  refine G.fun_okP T.fun_law_name_of sc_law_name_of (fun p vs H Q E h => ?_) (fun cdv B outer s H vs Q E p hot hr h => ?_)
  · obtain ⟨cls, d, _, _, rfl, _⟩ := h
    rfl
  · obtain ⟨cls, d, hz0, hf, rfl, rfl, h⟩ := h
    have hp : p ∈ [p] := List.mem_cons_self
    rcases h with ⟨rfl, k⟩ | ⟨rfl, k⟩
    · have hC := T.exc_InvalidRatioError
      have hz := hz0.zc
      refine ⟨_, (pss_cons (ps_set (i := 1) (sc_law_name_of).nd rfl (Or.inl rfl) (pe_callB (G.call_isPT hC hp hz hf) (by rfl) T.z_isinstance (by decide +kernel) (pa_cons (pv 0) (pa_cons (pe_tup (pa_cons (pe_glob (v := .ref A.c_EmptyHistoryError) rfl T.mgc_EmptyHistoryError rfl) (pa_cons (pe_glob (v := .ref A.c_FullError) rfl T.mgc_FullError rfl) (pa_cons (pe_glob (v := .ref A.c_InvalidContentsError) rfl T.mgc_InvalidContentsError rfl) (pa_cons (pe_glob (v := .ref A.c_InvalidGroupError) rfl T.mgc_InvalidGroupError rfl) pa_nil))))) pa_nil))))
 (pss_cons (ps_set (i := 1) (sc_law_name_of).nd rfl (Or.inl rfl) (pe_or (pv 1) (pe_one (pe_callB (G.call_isPT hC hp hz hf) (by rfl) T.z_isinstance (by decide +kernel) (pa_cons (pv 0) (pa_cons (pe_tup (pa_cons (pe_glob (v := .ref A.c_InvalidNumberError) rfl T.mgc_InvalidNumberError rfl) (pa_cons (pe_glob (v := .ref A.c_InvalidVesselError) rfl T.mgc_InvalidVesselError rfl) (pa_cons (pe_glob (v := .ref A.c_NotClosedError) rfl T.mgc_NotClosedError rfl) (pa_cons (pe_glob (v := .ref A.c_NotStartedError) rfl T.mgc_NotStartedError rfl) pa_nil))))) pa_nil))))))
 (pss_cons (ps_set (i := 1) (sc_law_name_of).nd rfl (Or.inl rfl) (pe_or (pv 1) (pe_one (pe_callB (G.call_isPT hC hp hz hf) (by rfl) T.z_isinstance (by decide +kernel) (pa_cons (pv 0) (pa_cons (pe_tup (pa_cons (pe_glob (v := .ref A.c_OverfullError) rfl T.mgc_OverfullError rfl) (pa_cons (pe_glob (v := .ref A.c_SealedError) rfl T.mgc_SealedError rfl) (pa_cons (pe_glob (v := .ref A.c_StartedError) rfl T.mgc_StartedError rfl) (pa_cons (pe_glob (v := .ref A.c_TooManyError) rfl T.mgc_TooManyError rfl) (pa_cons (pe_glob (v := .ref A.c_TooSmallError) rfl T.mgc_TooSmallError rfl) pa_nil)))))) pa_nil))))))
 (pss_cons (ps_set (i := 2) (sc_law_name_of).nd rfl (Or.inl rfl) (pe_lst (pa_cons (pe_callB (G.call_isP hC hp hz hf) (by rfl) T.z_isinstance (by decide +kernel) (pa_cons (pv 0) (pa_cons (pe_glob (v := .ref A.c_InvalidRatioError) rfl T.mgc_InvalidRatioError rfl) pa_nil))) (pa_cons (pe_callB (G.call_isP hC hp hz hf) (by rfl) T.z_isinstance (by decide +kernel) (pa_cons (pv 0) (pa_cons (pe_glob (v := .ref A.c_ZeroRatioError) rfl T.mgc_ZeroRatioError rfl) pa_nil))) pa_nil))))
 (pss_cons (ps_set (i := 2) (sc_law_name_of).nd rfl (Or.inl rfl) (pe_op G.op_catL (pv 2) (pe_lst (pa_cons (pe_callB (G.call_isP hC hp hz hf) (by rfl) T.z_isinstance (by decide +kernel) (pa_cons (pv 0) (pa_cons (pe_glob (v := .ref A.c_InvalidMixtureError) rfl T.mgc_InvalidMixtureError rfl) pa_nil))) (pa_cons (pe_callB (G.call_isP hC hp hz hf) (by rfl) T.z_isinstance (by decide +kernel) (pa_cons (pv 0) (pa_cons (pe_glob (v := .ref A.c_InvalidSubstanceError) rfl T.mgc_InvalidSubstanceError rfl) pa_nil))) pa_nil)))))
 (pss_cons (ps_set (i := 2) (sc_law_name_of).nd rfl (Or.inl rfl) (pe_op G.op_catL (pv 2) (pe_lst (pa_cons (pe_callB (G.call_isP hC hp hz hf) (by rfl) T.z_isinstance (by decide +kernel) (pa_cons (pv 0) (pa_cons (pe_glob (v := .ref A.c_InvalidRowsError) rfl T.mgc_InvalidRowsError rfl) pa_nil))) (pa_cons (pe_callB (G.call_isP hC hp hz hf) (by rfl) T.z_isinstance (by decide +kernel) (pa_cons (pv 0) (pa_cons (pe_glob (v := .ref A.c_InvalidTransfersError) rfl T.mgc_InvalidTransfersError rfl) pa_nil))) pa_nil)))))
 (pss_cons (ps_set (i := 2) (sc_law_name_of).nd rfl (Or.inl rfl) (pe_op G.op_catL (pv 2) (pe_lst (pa_cons (pe_callB (G.call_isP hC hp hz hf) (by rfl) T.z_isinstance (by decide +kernel) (pa_cons (pv 0) (pa_cons (pe_glob (v := .ref A.c_InvalidVolumesError) rfl T.mgc_InvalidVolumesError rfl) pa_nil))) (pa_cons (pe_callB (G.call_isP hC hp hz hf) (by rfl) T.z_isinstance (by decide +kernel) (pa_cons (pv 0) (pa_cons (pe_glob (v := .ref A.c_TooMuchError) rfl T.mgc_TooMuchError rfl) pa_nil))) pa_nil)))))
 (pss_cons (ps_expr (pe_bm PySem.F.plainAttrs_list PySem.F.slot_list_append PySem.F.type_list_append mt_append (pv 2) (pa_cons (pe_callB (G.call_isP hC hp hz hf) (by rfl) T.z_isinstance (by decide +kernel) (pa_cons (pv 0) (pa_cons (pe_glob (v := .ref A.c_InvalidFormatError) rfl T.mgc_InvalidFormatError rfl) pa_nil))) pa_nil)))
 (pss_cons (ps_set (i := 3) (sc_law_name_of).nd rfl (Or.inl rfl) (pe_lst (pa_cons pe_str (pa_cons pe_str (pa_cons pe_str (pa_cons pe_str (pa_cons pe_str (pa_cons pe_str (pa_cons pe_str (pa_cons pe_str (pa_cons pe_str pa_nil)))))))))))
 (pss_cons (ps_if (PW.pt (pw_or (pt_val (pv 1)) (pw_or (pt_not (pt_val (pe_callB (G.call_isP hC hp hz hf) (by rfl) T.z_isinstance (by decide +kernel) (pa_cons (pv 0) (pa_cons (pe_bltn (by rfl) T.z_ValueError (by decide +kernel) (show RelV (.ty "ValueError") _ from rfl)) pa_nil))))) (pw_or1 (pt_cmpR op_ne (pe_bm PySem.F.plainAttrs_list PySem.F.slot_list_count PySem.F.type_list_count G.mt_countF (pv 2) (pa_cons pe_bl pa_nil)) pe_int (nomark _)))))) (pss_one (ps_ret pe_str)) pss_nil)
 (pss_one (ps_ret (pe_ix ix_list (pv 3) (pe_bm PySem.F.plainAttrs_list PySem.F.slot_list_index PySem.F.type_list_index mt_index (pv 2) (pa_cons pe_bl pa_nil)) (fun _ _ => rfl)))))))))))))), ?_⟩
      walk_at "wp"
      intro p1 H1 n1 e1 h1
      walk_at "wp"
      refine ⟨p1, _, _, false, rfl, h1, (.cons (.own _) (.cons (.own _) (.cons (.own _) (.cons (.own _) .nil)))), (kany_cons T.ki_InvalidRatioError_EmptyHistoryError (kany_cons T.ki_InvalidRatioError_FullError (kany_cons T.ki_InvalidRatioError_InvalidContentsError (kany_cons T.ki_InvalidRatioError_InvalidGroupError kany_nil)))), ?_⟩
      walk_at "wp"
      intro p2 H2 n2 e2 h2
      walk_at "wp"
      refine ⟨p2, _, _, false, rfl, h2, (.cons (.own _) (.cons (.own _) (.cons (.own _) (.cons (.own _) .nil)))), (kany_cons T.ki_InvalidRatioError_InvalidNumberError (kany_cons T.ki_InvalidRatioError_InvalidVesselError (kany_cons T.ki_InvalidRatioError_NotClosedError (kany_cons T.ki_InvalidRatioError_NotStartedError kany_nil)))), ?_⟩
      walk_at "wp"
      intro p3 H3 n3 e3 h3
      walk_at "wp"
      refine ⟨p3, _, _, false, rfl, h3, (.cons (.own _) (.cons (.own _) (.cons (.own _) (.cons (.own _) (.cons (.own _) .nil))))), (kany_cons T.ki_InvalidRatioError_OverfullError (kany_cons T.ki_InvalidRatioError_SealedError (kany_cons T.ki_InvalidRatioError_StartedError (kany_cons T.ki_InvalidRatioError_TooManyError (kany_cons T.ki_InvalidRatioError_TooSmallError kany_nil))))), ?_⟩
      walk_at "wp"
      refine ⟨_, _, true, rfl, clsOwn _, T.ki_InvalidRatioError_InvalidRatioError, ?_⟩
      walk_at "wp"
      refine ⟨_, _, false, rfl, clsOwn _, T.ki_InvalidRatioError_ZeroRatioError, ?_⟩
      walk_at "wp"
      intro p4 H4 n4 e4 h4
      walk_at "wp"
      refine ⟨_, _, false, rfl, clsOwn _, T.ki_InvalidRatioError_InvalidMixtureError, ?_⟩
      walk_at "wp"
      refine ⟨_, _, false, rfl, clsOwn _, T.ki_InvalidRatioError_InvalidSubstanceError, ?_⟩
      walk_at "wp"
      intro p5 H5 n5 e5 h5
      walk_at "wp"
      refine ⟨p4, p5, _, _, rfl, rfl, SqL.of (by walk_at "ls"), SqL.of h5, (by show (4 : Nat) ≤ 1000000; decide), fun p6 H6 n6 e6 h6 => ?_⟩
      walk_at "wp"
      refine ⟨_, _, false, rfl, clsOwn _, T.ki_InvalidRatioError_InvalidRowsError, ?_⟩
      walk_at "wp"
      refine ⟨_, _, false, rfl, clsOwn _, T.ki_InvalidRatioError_InvalidTransfersError, ?_⟩
      walk_at "wp"
      intro p7 H7 n7 e7 h7
      walk_at "wp"
      refine ⟨p6, p7, _, _, rfl, rfl, SqL.of (by walk_at "ls"), SqL.of h7, (by show (6 : Nat) ≤ 1000000; decide), fun p8 H8 n8 e8 h8 => ?_⟩
      walk_at "wp"
      refine ⟨_, _, false, rfl, clsOwn _, T.ki_InvalidRatioError_InvalidVolumesError, ?_⟩
      walk_at "wp"
      refine ⟨_, _, false, rfl, clsOwn _, T.ki_InvalidRatioError_TooMuchError, ?_⟩
      walk_at "wp"
      intro p9 H9 n9 e9 h9
      walk_at "wp"
      refine ⟨p8, p9, _, _, rfl, rfl, SqL.of (by walk_at "ls"), SqL.of h9, (by show (8 : Nat) ≤ 1000000; decide), fun p10 H10 n10 e10 h10 => ?_⟩
      walk_at "wp"
      refine w_bmL (by walk_at "ls") ?_
      walk_at "wp"
      refine ⟨_, _, false, rfl, clsOwn _, T.ki_InvalidRatioError_InvalidFormatError, ?_⟩
      walk_at "wp"
      refine w_append (by walk_at "ls") (fun H11 f11 h11 => ?_)
      walk_at "wp"
      intro p12 H12 n12 e12 h12
      walk_at "wp"
      refine ⟨_, _, true, rfl, clsTy _, T.ki_InvalidRatioError_ValueError, ?_⟩
      walk_at "wp"
      refine w_bmL (by walk_at "ls") ?_
      walk_at "wp"
      refine ⟨p10, _, _, rfl, rfl, SqL.of (by walk_at "ls"), rfl, rfl, ?_⟩
      walk_at "wp"
      refine w_bmL (by walk_at "ls") ?_
      walk_at "wp"
      refine ⟨p10, _, _, 0, _, rfl, rfl, SqL.of (by walk_at "ls"), rfl, rfl, rfl, rfl, ?_, ?_⟩
      · intro m z hm; omega
      walk_at "wp"
      have s9 : Same H H9 := by walk_at "sm"
      exact k _ ((Fr.unseen (s9.free n10) (s9.trans e10) f11).trans e12)
    · have hC := T.exc_ZeroRatioError
      have hz := hz0.zc
      refine ⟨_, (pss_cons (ps_set (i := 1) (sc_law_name_of).nd rfl (Or.inl rfl) (pe_callB (G.call_isPT hC hp hz hf) (by rfl) T.z_isinstance (by decide +kernel) (pa_cons (pv 0) (pa_cons (pe_tup (pa_cons (pe_glob (v := .ref A.c_EmptyHistoryError) rfl T.mgc_EmptyHistoryError rfl) (pa_cons (pe_glob (v := .ref A.c_FullError) rfl T.mgc_FullError rfl) (pa_cons (pe_glob (v := .ref A.c_InvalidContentsError) rfl T.mgc_InvalidContentsError rfl) (pa_cons (pe_glob (v := .ref A.c_InvalidGroupError) rfl T.mgc_InvalidGroupError rfl) pa_nil))))) pa_nil))))
 (pss_cons (ps_set (i := 1) (sc_law_name_of).nd rfl (Or.inl rfl) (pe_or (pv 1) (pe_one (pe_callB (G.call_isPT hC hp hz hf) (by rfl) T.z_isinstance (by decide +kernel) (pa_cons (pv 0) (pa_cons (pe_tup (pa_cons (pe_glob (v := .ref A.c_InvalidNumberError) rfl T.mgc_InvalidNumberError rfl) (pa_cons (pe_glob (v := .ref A.c_InvalidVesselError) rfl T.mgc_InvalidVesselError rfl) (pa_cons (pe_glob (v := .ref A.c_NotClosedError) rfl T.mgc_NotClosedError rfl) (pa_cons (pe_glob (v := .ref A.c_NotStartedError) rfl T.mgc_NotStartedError rfl) pa_nil))))) pa_nil))))))
 (pss_cons (ps_set (i := 1) (sc_law_name_of).nd rfl (Or.inl rfl) (pe_or (pv 1) (pe_one (pe_callB (G.call_isPT hC hp hz hf) (by rfl) T.z_isinstance (by decide +kernel) (pa_cons (pv 0) (pa_cons (pe_tup (pa_cons (pe_glob (v := .ref A.c_OverfullError) rfl T.mgc_OverfullError rfl) (pa_cons (pe_glob (v := .ref A.c_SealedError) rfl T.mgc_SealedError rfl) (pa_cons (pe_glob (v := .ref A.c_StartedError) rfl T.mgc_StartedError rfl) (pa_cons (pe_glob (v := .ref A.c_TooManyError) rfl T.mgc_TooManyError rfl) (pa_cons (pe_glob (v := .ref A.c_TooSmallError) rfl T.mgc_TooSmallError rfl) pa_nil)))))) pa_nil))))))
 (pss_cons (ps_set (i := 2) (sc_law_name_of).nd rfl (Or.inl rfl) (pe_lst (pa_cons (pe_callB (G.call_isP hC hp hz hf) (by rfl) T.z_isinstance (by decide +kernel) (pa_cons (pv 0) (pa_cons (pe_glob (v := .ref A.c_InvalidRatioError) rfl T.mgc_InvalidRatioError rfl) pa_nil))) (pa_cons (pe_callB (G.call_isP hC hp hz hf) (by rfl) T.z_isinstance (by decide +kernel) (pa_cons (pv 0) (pa_cons (pe_glob (v := .ref A.c_ZeroRatioError) rfl T.mgc_ZeroRatioError rfl) pa_nil))) pa_nil))))
 (pss_cons (ps_set (i := 2) (sc_law_name_of).nd rfl (Or.inl rfl) (pe_op G.op_catL (pv 2) (pe_lst (pa_cons (pe_callB (G.call_isP hC hp hz hf) (by rfl) T.z_isinstance (by decide +kernel) (pa_cons (pv 0) (pa_cons (pe_glob (v := .ref A.c_InvalidMixtureError) rfl T.mgc_InvalidMixtureError rfl) pa_nil))) (pa_cons (pe_callB (G.call_isP hC hp hz hf) (by rfl) T.z_isinstance (by decide +kernel) (pa_cons (pv 0) (pa_cons (pe_glob (v := .ref A.c_InvalidSubstanceError) rfl T.mgc_InvalidSubstanceError rfl) pa_nil))) pa_nil)))))
 (pss_cons (ps_set (i := 2) (sc_law_name_of).nd rfl (Or.inl rfl) (pe_op G.op_catL (pv 2) (pe_lst (pa_cons (pe_callB (G.call_isP hC hp hz hf) (by rfl) T.z_isinstance (by decide +kernel) (pa_cons (pv 0) (pa_cons (pe_glob (v := .ref A.c_InvalidRowsError) rfl T.mgc_InvalidRowsError rfl) pa_nil))) (pa_cons (pe_callB (G.call_isP hC hp hz hf) (by rfl) T.z_isinstance (by decide +kernel) (pa_cons (pv 0) (pa_cons (pe_glob (v := .ref A.c_InvalidTransfersError) rfl T.mgc_InvalidTransfersError rfl) pa_nil))) pa_nil)))))
 (pss_cons (ps_set (i := 2) (sc_law_name_of).nd rfl (Or.inl rfl) (pe_op G.op_catL (pv 2) (pe_lst (pa_cons (pe_callB (G.call_isP hC hp hz hf) (by rfl) T.z_isinstance (by decide +kernel) (pa_cons (pv 0) (pa_cons (pe_glob (v := .ref A.c_InvalidVolumesError) rfl T.mgc_InvalidVolumesError rfl) pa_nil))) (pa_cons (pe_callB (G.call_isP hC hp hz hf) (by rfl) T.z_isinstance (by decide +kernel) (pa_cons (pv 0) (pa_cons (pe_glob (v := .ref A.c_TooMuchError) rfl T.mgc_TooMuchError rfl) pa_nil))) pa_nil)))))
 (pss_cons (ps_expr (pe_bm PySem.F.plainAttrs_list PySem.F.slot_list_append PySem.F.type_list_append mt_append (pv 2) (pa_cons (pe_callB (G.call_isP hC hp hz hf) (by rfl) T.z_isinstance (by decide +kernel) (pa_cons (pv 0) (pa_cons (pe_glob (v := .ref A.c_InvalidFormatError) rfl T.mgc_InvalidFormatError rfl) pa_nil))) pa_nil)))
 (pss_cons (ps_set (i := 3) (sc_law_name_of).nd rfl (Or.inl rfl) (pe_lst (pa_cons pe_str (pa_cons pe_str (pa_cons pe_str (pa_cons pe_str (pa_cons pe_str (pa_cons pe_str (pa_cons pe_str (pa_cons pe_str (pa_cons pe_str pa_nil)))))))))))
 (pss_cons (ps_if (PW.pt (pw_or (pt_val (pv 1)) (pw_or (pt_not (pt_val (pe_callB (G.call_isP hC hp hz hf) (by rfl) T.z_isinstance (by decide +kernel) (pa_cons (pv 0) (pa_cons (pe_bltn (by rfl) T.z_ValueError (by decide +kernel) (show RelV (.ty "ValueError") _ from rfl)) pa_nil))))) (pw_or1 (pt_cmpR op_ne (pe_bm PySem.F.plainAttrs_list PySem.F.slot_list_count PySem.F.type_list_count G.mt_countF (pv 2) (pa_cons pe_bl pa_nil)) pe_int (nomark _)))))) (pss_one (ps_ret pe_str)) pss_nil)
 (pss_one (ps_ret (pe_ix ix_list (pv 3) (pe_bm PySem.F.plainAttrs_list PySem.F.slot_list_index PySem.F.type_list_index mt_index (pv 2) (pa_cons pe_bl pa_nil)) (fun _ _ => rfl)))))))))))))), ?_⟩
      walk_at "wp"
      intro p1 H1 n1 e1 h1
      walk_at "wp"
      refine ⟨p1, _, _, false, rfl, h1, (.cons (.own _) (.cons (.own _) (.cons (.own _) (.cons (.own _) .nil)))), (kany_cons T.ki_ZeroRatioError_EmptyHistoryError (kany_cons T.ki_ZeroRatioError_FullError (kany_cons T.ki_ZeroRatioError_InvalidContentsError (kany_cons T.ki_ZeroRatioError_InvalidGroupError kany_nil)))), ?_⟩
      walk_at "wp"
      intro p2 H2 n2 e2 h2
      walk_at "wp"
      refine ⟨p2, _, _, false, rfl, h2, (.cons (.own _) (.cons (.own _) (.cons (.own _) (.cons (.own _) .nil)))), (kany_cons T.ki_ZeroRatioError_InvalidNumberError (kany_cons T.ki_ZeroRatioError_InvalidVesselError (kany_cons T.ki_ZeroRatioError_NotClosedError (kany_cons T.ki_ZeroRatioError_NotStartedError kany_nil)))), ?_⟩
      walk_at "wp"
      intro p3 H3 n3 e3 h3
      walk_at "wp"
      refine ⟨p3, _, _, false, rfl, h3, (.cons (.own _) (.cons (.own _) (.cons (.own _) (.cons (.own _) (.cons (.own _) .nil))))), (kany_cons T.ki_ZeroRatioError_OverfullError (kany_cons T.ki_ZeroRatioError_SealedError (kany_cons T.ki_ZeroRatioError_StartedError (kany_cons T.ki_ZeroRatioError_TooManyError (kany_cons T.ki_ZeroRatioError_TooSmallError kany_nil))))), ?_⟩
      walk_at "wp"
      refine ⟨_, _, false, rfl, clsOwn _, T.ki_ZeroRatioError_InvalidRatioError, ?_⟩
      walk_at "wp"
      refine ⟨_, _, true, rfl, clsOwn _, T.ki_ZeroRatioError_ZeroRatioError, ?_⟩
      walk_at "wp"
      intro p4 H4 n4 e4 h4
      walk_at "wp"
      refine ⟨_, _, false, rfl, clsOwn _, T.ki_ZeroRatioError_InvalidMixtureError, ?_⟩
      walk_at "wp"
      refine ⟨_, _, false, rfl, clsOwn _, T.ki_ZeroRatioError_InvalidSubstanceError, ?_⟩
      walk_at "wp"
      intro p5 H5 n5 e5 h5
      walk_at "wp"
      refine ⟨p4, p5, _, _, rfl, rfl, SqL.of (by walk_at "ls"), SqL.of h5, (by show (4 : Nat) ≤ 1000000; decide), fun p6 H6 n6 e6 h6 => ?_⟩
      walk_at "wp"
      refine ⟨_, _, false, rfl, clsOwn _, T.ki_ZeroRatioError_InvalidRowsError, ?_⟩
      walk_at "wp"
      refine ⟨_, _, false, rfl, clsOwn _, T.ki_ZeroRatioError_InvalidTransfersError, ?_⟩
      walk_at "wp"
      intro p7 H7 n7 e7 h7
      walk_at "wp"
      refine ⟨p6, p7, _, _, rfl, rfl, SqL.of (by walk_at "ls"), SqL.of h7, (by show (6 : Nat) ≤ 1000000; decide), fun p8 H8 n8 e8 h8 => ?_⟩
      walk_at "wp"
      refine ⟨_, _, false, rfl, clsOwn _, T.ki_ZeroRatioError_InvalidVolumesError, ?_⟩
      walk_at "wp"
      refine ⟨_, _, false, rfl, clsOwn _, T.ki_ZeroRatioError_TooMuchError, ?_⟩
      walk_at "wp"
      intro p9 H9 n9 e9 h9
      walk_at "wp"
      refine ⟨p8, p9, _, _, rfl, rfl, SqL.of (by walk_at "ls"), SqL.of h9, (by show (8 : Nat) ≤ 1000000; decide), fun p10 H10 n10 e10 h10 => ?_⟩
      walk_at "wp"
      refine w_bmL (by walk_at "ls") ?_
      walk_at "wp"
      refine ⟨_, _, false, rfl, clsOwn _, T.ki_ZeroRatioError_InvalidFormatError, ?_⟩
      walk_at "wp"
      refine w_append (by walk_at "ls") (fun H11 f11 h11 => ?_)
      walk_at "wp"
      intro p12 H12 n12 e12 h12
      walk_at "wp"
      refine ⟨_, _, true, rfl, clsTy _, T.ki_ZeroRatioError_ValueError, ?_⟩
      walk_at "wp"
      refine w_bmL (by walk_at "ls") ?_
      walk_at "wp"
      refine ⟨p10, _, _, rfl, rfl, SqL.of (by walk_at "ls"), rfl, rfl, ?_⟩
      walk_at "wp"
      refine w_bmL (by walk_at "ls") ?_
      walk_at "wp"
      refine ⟨p10, _, _, 1, _, rfl, rfl, SqL.of (by walk_at "ls"), rfl, rfl, rfl, rfl, ?_, ?_⟩
      · intro m z hm hz9
        have : m = 0 := by omega
        subst this
        cases hz9
        rfl
      walk_at "wp"
      have s9 : Same H H9 := by walk_at "sm"
      exact k _ ((Fr.unseen (s9.free n10) (s9.trans e10) f11).trans e12)
theorem ok_law_outcome (T : Txt K mg A) : FnOk P w K mg base CX0 6 A.a_law_outcome A.d_law_outcome ["number", "one", "other"] (spOut K A.c_Ratio) := by
  refine T.fun_law_outcome.ok sc_law_outcome (fun vs H Q E h => ?_) (fun cdv B outer s H vs Q E hr h => ?_)
  · obtain ⟨n, x, y, r, rfl, _⟩ := h
    rfl
  · obtain ⟨n, x, y, r, rfl, h, k⟩ := h
    refine ⟨_, (pss_cons (ps_set (i := 3) (sc_law_outcome).nd rfl (Or.inl rfl) pe_str)
 (pss_cons (L2N.ps_try_as (i := 4) rfl rfl (sc_law_outcome).nd rfl rfl ⟨rfl, by decide, .inl T.mgc_StirError⟩ G.takes0N (fun W pn xe tk _ => (pss_one (ps_if (pt_cmpR op_eq (pv 0) pe_int (nomark _)) (pss_one (ps_expr (G.pe_makeS T.mk_Ratio (okN_Ratio_init T) (hr.mono (by decide)) rfl T.mgc_Ratio (b2_Ratio T).choose_spec.2 (b2_Ratio T).choose_spec.1 (fun σ => L2N.passAt tk σ) (pa_cons (pv 1) (pa_cons (pv 2) pa_nil))))) (pss_one (ps_if (pt_cmpR op_eq (pv 0) pe_int (nomark _)) (pss_one (ps_expr (G.pe_makeS T.mk_Ratio (okN_Ratio_init T) (hr.mono (by decide)) rfl T.mgc_Ratio (b1_Ratio T).choose_spec.2 (b1_Ratio T).choose_spec.1 (fun σ => L2N.passAt tk σ) (pa_cons (pv 1) pa_nil)))) (pss_one (ps_if (pt_cmpR op_eq (pv 0) pe_int (nomark _)) (pss_one (ps_expr (G.pe_methS (pv 1) T.cl_Ratio T.me_Ratio_over (okN_Ratio_over T) (hr.mono (by decide)) T.bd_Ratio_over .nil (fun σ => L2N.passAt tk σ) (pa_cons (pv 2) pa_nil)))) (pss_one (ps_if (pt_cmpR op_eq (pv 0) pe_int (nomark _)) (pss_one (ps_expr (G.pe_methS (pv 1) T.cl_Ratio T.me_Ratio_is_less (okN_Ratio_is_less T) (hr.mono (by decide)) T.bd_Ratio_is_less .nil (fun σ => L2N.passAt tk σ) (pa_cons (pv 2) pa_nil)))) (pss_one (ps_expr (pe_callS (okN_total T) (hr.mono (by decide)) rfl T.mg_total T.fun_total.kp T.bd_total (fun σ => L2N.passAt tk σ) (pa_cons (pv 1) pa_nil))))))))))))) (fun a oe cls d pn hz hf => (pss_one (ps_set (i := 3) (sc_law_outcome).nd rfl (Or.inl rfl) (G.pe_callP (p := (a, oe)) (fun vs H Q E h => ⟨cls, d, hz, hf, h⟩) (ok_law_name_of T) (G.roomS (hr.mono (by decide))) ⟨rfl, hf.choose, hf.choose_spec, hz.2.2 _ hf.choose_spec⟩ List.mem_cons_self rfl T.mg_law_name_of T.fun_law_name_of.kp T.bd_law_name_of (pa_cons (pv 4) pa_nil))))))
 (pss_one (ps_ret (pv 3))))), ?_⟩
    have xR := PySem.W.exm_ref T.eb_StirError T.eh_StirError T.et_StirError T.es_InvalidRatioError_StirError
    have xZ := PySem.W.exm_ref T.eb_StirError T.eh_StirError T.et_StirError T.es_ZeroRatioError_StirError
    cases h with
    | i0a nw =>
      walk_at "wp"
      refine mkN (.inl ⟨nw, fun H8 e8 => ?_⟩)
      refine w_caught xR fun a0 n0 => ?_
      walk_at "wp"
      refine ⟨rfl, rfl, .inl ⟨rfl, fun H9 e9 => ?_⟩⟩
      walk_at "wp"
      exact k _ (e8.trans e9)
    | i0b nw =>
      walk_at "wp"
      refine mkN (.inr ⟨_, rfl, .inl ⟨nw, fun H8 e8 => ?_⟩⟩)
      refine w_caught xR fun a0 n0 => ?_
      walk_at "wp"
      refine ⟨rfl, rfl, .inl ⟨rfl, fun H9 e9 => ?_⟩⟩
      walk_at "wp"
      exact k _ (e8.trans e9)
    | i0c hj =>
      walk_at "wp"
      refine mkN (.inr ⟨_, rfl, .inr ⟨_, rfl, .inl ⟨hj, fun H8 e8 => ?_⟩⟩⟩)
      refine w_caught xR fun a0 n0 => ?_
      walk_at "wp"
      refine ⟨rfl, rfl, .inl ⟨rfl, fun H9 e9 => ?_⟩⟩
      walk_at "wp"
      exact k _ (e8.trans e9)
    | i0 hj hb =>
      walk_at "wp"
      refine mkN (.inr ⟨_, rfl, .inr ⟨_, rfl, .inr ⟨hj, hb, fun r8 H8 e8 => ?_⟩⟩⟩)
      walk_at "wp"
      exact k _ e8
    | i1a nw =>
      walk_at "wp"
      refine mkN (.inl ⟨nw, fun H8 e8 => ?_⟩)
      refine w_caught xR fun a0 n0 => ?_
      walk_at "wp"
      refine ⟨rfl, rfl, .inl ⟨rfl, fun H9 e9 => ?_⟩⟩
      walk_at "wp"
      exact k _ (e8.trans e9)
    | i1 =>
      walk_at "wp"
      refine mkN (.inr ⟨_, rfl, .inr ⟨1, rfl, .inr ⟨by decide, by decide, fun r8 H8 e8 => ?_⟩⟩⟩)
      walk_at "wp"
      exact k _ e8
    | o2a R1 hx hn nr =>
      walk_at "wp"
      refine w_ofR R1 rfl rfl ?_
      walk_at "wp"
      refine ⟨_, _, _, _, rfl, R1, hx, hn, .inl ⟨nr, ?_⟩⟩
      refine w_caught xR fun a0 n0 => ?_
      walk_at "wp"
      refine ⟨rfl, rfl, .inl ⟨rfl, fun H9 e9 => ?_⟩⟩
      walk_at "wp"
      exact k _ e9
    | o2z R1 hx hn R2 hy h0 =>
      walk_at "wp"
      refine w_ofR R1 rfl rfl ?_
      walk_at "wp"
      refine ⟨_, _, _, _, rfl, R1, hx, hn, .inr ⟨_, _, rfl, R2, hy, .inl ⟨h0, ?_⟩⟩⟩
      refine w_caught xZ fun a0 n0 => ?_
      walk_at "wp"
      refine ⟨rfl, rfl, .inr ⟨rfl, fun H9 e9 => ?_⟩⟩
      walk_at "wp"
      exact k _ e9
    | o2 R1 hx hn R2 hy h0 =>
      walk_at "wp"
      refine w_ofR R1 rfl rfl ?_
      walk_at "wp"
      refine ⟨_, _, _, _, rfl, R1, hx, hn, .inr ⟨_, _, rfl, R2, hy, .inr ⟨h0, fun r8 H8 n8 e8 _ => ?_⟩⟩⟩
      walk_at "wp"
      exact k _ e8
    | l4a R1 hx hn nr =>
      walk_at "wp"
      refine w_ofR R1 rfl rfl ?_
      walk_at "wp"
      refine ⟨_, _, _, _, rfl, R1, hx, hn, .inl ⟨nr, ?_⟩⟩
      refine w_caught xR fun a0 n0 => ?_
      walk_at "wp"
      refine ⟨rfl, rfl, .inl ⟨rfl, fun H9 e9 => ?_⟩⟩
      walk_at "wp"
      exact k _ e9
    | l4 R1 hx hn R2 hy =>
      walk_at "wp"
      refine w_ofR R1 rfl rfl ?_
      walk_at "wp"
      refine ⟨_, _, _, _, rfl, R1, hx, hn, .inr ⟨_, _, rfl, R2, hy, fun b8 => ?_⟩⟩
      walk_at "wp"
      exact k _ (Same.refl _)
    | t3a nl =>
      walk_at "wp"
      refine ⟨_, rfl, .inl ⟨nl, ?_⟩⟩
      refine w_caught xR fun a0 n0 => ?_
      walk_at "wp"
      refine ⟨rfl, rfl, .inl ⟨rfl, fun H9 e9 => ?_⟩⟩
      walk_at "wp"
      exact k _ e9
    | t3b hl hR hn hx ht nr =>
      walk_at "wp"
      refine ⟨_, rfl, .inr ⟨_, _, _, _, rfl, hl, hR, hn, hx, ht, .inl ⟨_, _, rfl, nr, fun H8 e8 => ?_⟩⟩⟩
      refine w_caught xR fun a0 n0 => ?_
      walk_at "wp"
      refine ⟨rfl, rfl, .inl ⟨rfl, fun H9 e9 => ?_⟩⟩
      walk_at "wp"
      exact k _ (e8.trans e9)
    | @t3 l rs _ xs hl hR hn hx ht =>
      walk_at "wp"
      refine ⟨_, rfl, .inr ⟨l, rs, [], xs, rfl, by rw [List.append_nil]; exact hl, hR, by rw [List.append_nil]; exact hn, hx, ht, .inr ⟨rfl, fun r8 H8 n8 e8 _ => ?_⟩⟩⟩
      walk_at "wp"
      exact k _ e8
end
end K06

namespace K06
open PySem L2 G
local macro_rules | `(tactic| walk_at "pos") => `(tactic| first | assumption | (decide +kernel) | omega)
local macro_rules | `(tactic| walk_at "bt") => `(tactic| first
  | assumption
  | (decide +kernel)
  | exact Bt.mono (by assumption) (by decide)
  | (refine' Bt.add ?b1 ?b2; (case b1 => walk_at "bt"); (case b2 => walk_at "bt"))
  | (refine' Bt.sub ?b1 ?b2; (case b1 => walk_at "bt"); (case b2 => walk_at "bt"))
  | (refine' Bt.mul ?b1 ?b2; (case b1 => walk_at "bt"); (case b2 => walk_at "bt"))
  | (refine' Bt.mod ?b1 ?b2; (case b2 => walk_at "bt"); (case b1 => walk_at "pos"))
  | (refine' Bt.div ?b1 ?b2; (case b2 => walk_at "bt"); (case b1 => walk_at "pos"))
  | (refine' Bt.pow3 ?b1; (case b1 => walk_at "bt"))
  | (refine' Bt.neg ?b1; (case b1 => walk_at "bt"))
  | exact Bt.any)
local macro_rules | `(tactic| walk_at "btm") => `(tactic| ((refine' Bt.mono ?m1 ?m2); (case m1 => walk_at "bt"); (case m2 => (decide +kernel))))
local macro_rules | `(tactic| walk_at "ne") => `(tactic| first
  | assumption
  | (refine' Ne.symm ?q1; (case q1 => assumption))
  | (refine' ne_of_none (by assumption) ?q1; (case q1 => assumption))
  | (refine' Ne.symm (ne_of_none (by assumption) ?q1); (case q1 => assumption)))
local macro_rules | `(tactic| walk_at "hp") => `(tactic| first
  | assumption
  | exact upd_same
  | ((refine' lst_same ?q1 (by assumption : Same _ _)); (case q1 => walk_at "hp"))
  | ((refine' (by assumption : Fr _ _ _) _ _ ?n ?h); (case n => walk_at "ne"); (case h => walk_at "hp"))
  | ((refine (upd_ne (by assumption)).trans ?_); walk_at "hp")
  | ((refine (upd_ne (Ne.symm (by assumption))).trans ?_); walk_at "hp"))
local macro_rules | `(tactic| walk_at "sr") => `(tactic| first
  | assumption
  | ((refine' Src.same ?q1 (by assumption : Same _ _)); (case q1 => walk_at "sr")))
local macro_rules | `(tactic| walk_at "rt") => `(tactic| first
  | assumption
  | ((refine' Rat.same ?q1 (by assumption : Same _ _)); (case q1 => walk_at "rt"))
  | ((refine' Rat.fr ?q1 ?q2 (by assumption : Fr _ _ _)); (case q2 => walk_at "sr"); (case q1 => walk_at "rt")))
local macro_rules | `(tactic| walk_at "tp") => `(tactic| first
  | assumption
  | ((refine' tup_same ?q1 (by assumption : Same _ _)); (case q1 => walk_at "tp"))
  | ((refine' tup_fr ?q1 ?q2 (by assumption : Fr _ _ _)); (case q2 => walk_at "sr"); (case q1 => walk_at "tp")))
local macro_rules | `(tactic| walk_at "ls") => `(tactic| first
  | assumption
  | ((refine' lst_same ?q1 (by assumption : Same _ _)); (case q1 => walk_at "ls"))
  | ((refine' lst_fr ?q1 ?q2 (by assumption : Fr _ _ _)); (case q2 => assumption); (case q1 => walk_at "ls")))
local macro_rules | `(tactic| walk_at "sm") => `(tactic| first
  | exact Same.refl _
  | assumption
  | ((refine Same.trans ?_ (by assumption : Same _ _)); walk_at "sm"))
local macro_rules | `(tactic| walk_at "fr") => `(tactic| first
  | exact Fr.refl _ _
  | assumption
  | ((refine Fr.trans ?_ (Fr.same (by assumption : Same _ _))); walk_at "fr")
  | ((refine Fr.trans ?_ (by assumption : Fr _ _ _)); walk_at "fr"))
local macro_rules | `(tactic| walk_at "wp1") => `(tactic| first
  | (with_reducible refine w_seq ?_) | (with_reducible refine w_next ?_) | (with_reducible refine w_ret ?_) | (with_reducible refine w_asg ?_) | (with_reducible refine w_gn ?_) | (with_reducible refine w_if ?_)
  | (with_reducible refine w_cons ?_) | (with_reducible refine w_nil ?_) | (with_reducible refine w_c ?_) | (with_reducible refine w_op ?_) | (with_reducible refine w_cb ?_)
  | ((with_reducible refine' w_var ?h ?_); (case h => exact rfl))
  | (with_reducible refine w_I0 ?_) | (with_reducible refine w_eqI ?_) | (with_reducible refine w_neI ?_) | (with_reducible refine w_test ?_) | (with_reducible refine w_tB ?_) | (with_reducible refine w_bl ?_) | (with_reducible refine w_par ?_) | (with_reducible refine w_par2 ?_)
  | (with_reducible refine w_not ?_) | (with_reducible refine w_and ?_) | (with_reducible refine w_or ?_) | (with_reducible refine w_andV ?_) | (with_reducible refine w_orV ?_) | (with_reducible refine w_notV ?_) | (with_reducible refine w_tif ?_)
  | (with_reducible refine w_tup ?_) | (with_reducible refine w_lst ?_) | (with_reducible refine w_un ?_) | (with_reducible refine w_U ?_) | (with_reducible refine w_drop ?_) | (with_reducible refine w_brk ?_) | (with_reducible refine w_cont ?_) | (with_reducible refine w_retN ?_)
  | (with_reducible refine w_call ?_) | (with_reducible refine w_fld ?_) | (with_reducible refine w_sfld ?_) | (with_reducible refine w_prop ?_) | (with_reducible refine w_make ?_) | (with_reducible refine w_meth ?_) | (with_reducible refine w_methN ?_) | (with_reducible refine w_revL ?_) | (with_reducible refine w_gsub ?_)
  | ((with_reducible refine' w_powN ?c1 ?c2 ?_); (case c2 => (decide +kernel)); (case c1 => exact rfl))
  | ((with_reducible refine' w_powV ?c1 ?c2 ?c3 ?c4 ?_); (case c2 => walk_at "bt"); (case c3 => (decide +kernel)); (case c4 => (decide +kernel)); (case c1 => exact rfl))
  | ((with_reducible refine' w_I (C := CMulW) ?c1 ?_); (case c1 => (refine' mulOk ?k1 ?k2 ?k3; (case k1 => walk_at "bt"); (case k2 => walk_at "bt"); (case k3 => decide +kernel))))
  | ((with_reducible refine' w_I (C := CDivW) ?c1 ?_); (case c1 => (refine' divOk ?k1 ?k2 ?k3; (case k1 => walk_at "pos"); (case k2 => walk_at "bt"); (case k3 => decide +kernel))))
  | ((with_reducible refine' w_I (C := fun _ j => 0 < j) ?c1 ?_); (case c1 => walk_at "pos"))
  | (with_reducible refine w_isB ?_) | (with_reducible refine w_notB ?_) | (with_reducible refine w_neS ?_) | (with_reducible refine w_eqS ?_)
  | (with_reducible refine w_iRng1 ?_) | (with_reducible refine w_for ?_) | (with_reducible refine w_iEnum ?_) | (with_reducible refine w_iList ?_) | (with_reducible refine w_iTup ?_) | (with_reducible refine w_noPart ?_) | (with_reducible refine w_part ?_) | (with_reducible refine w_int ?_)
  | (with_reducible refine w_sl ?_)
  | (with_reducible refine w_two ?_) | (with_reducible refine w_one ?_)
  | ((with_reducible refine' w_ixL ?hs ?he ?_); (case hs => first | (refine' SqL.of ?q0; (case q0 => walk_at "hp")) | assumption); (case he => exact rfl))
  | ((with_reducible refine' w_ixT ?hs ?he ?_); (case hs => first | (refine' SqT.of ?q0; (case q0 => walk_at "tp")) | assumption); (case he => exact rfl))
  | ((with_reducible refine' w_setL ?hs ?he ?_); (case hs => walk_at "hp"); (case he => exact rfl))
  | (with_reducible refine w_iteT rfl ?_) | (with_reducible refine w_iteF rfl ?_) | ((with_reducible refine w_alloc ?h ?_); (case h => exact rfl))
  | (with_reducible refine w_makeS ?_) | (with_reducible refine w_methS ?_) | (with_reducible refine w_callS ?_) | (with_reducible refine w_bm ?_) | (with_reducible refine w_makeK ?_) | (with_reducible refine w_callN ?_))
local macro_rules | `(tactic| walk_at "wp") => `(tactic| repeat (walk_at "wp1"))

section
variable {P : Program} {w : World} {K : PySem.W.Frag} {mg : Str → Option Value} {base : Heap} {A : Ad}
def spHolds : Sp := fun vs H Q _ => ∃ a n, vs = [.ref a, .int n] ∧ Src 0 H a ∧ 0 ≤ n ∧ n ≤ 100 ∧ ∀ H', Fr a H H' → Q (.bl true) H'
theorem at_mem {xs : List V} {d : Int} (h0 : 0 ≤ d) (h : d < xs.length) : ∃ z, atI xs d = some z ∧ z ∈ xs := by
  obtain ⟨k, rfl⟩ : ∃ k : Nat, d = k := ⟨d.toNat, by omega⟩
  have hk : k < xs.length := by omega
  refine ⟨xs[k], atI_nat (List.getElem?_eq_getElem hk), List.getElem_mem hk⟩
theorem low_zero {j : Int} : (low 0 j).1 = 0 := by
  show (0 : Int) / _ = 0
  exact Int.zero_ediv _
theorem od_nw (T : Txt K mg A) {H : Hp} {r a : Addr} {z : V} {x : Int × Int} (R : Rat A.c_Ratio H r x.1 x.2) (h : OD H r a z) : NW K H z := by
  rcases h with rfl | ⟨t, p, n, _⟩
  · obtain ⟨dx, R⟩ := R
    exact ⟨_, false, false, ins_ty T _ _ _ _ R, T.ki_Ratio_int, T.ki_Ratio_bool, rfl⟩
  · exact p.nw n
theorem pl_kit (T : Txt K mg A) {H : Hp} {x : V} {t : String} (h : Pl H x t) : PySem.W.kitOne K (.type t) (.ref A.c_Ratio) = some false := by
  cases h with
  | non => exact T.ki_NoneType_Ratio
  | bl x => exact T.ki_bool_Ratio
  | int i => exact T.ki_int_Ratio
  | str x => exact T.ki_str_Ratio
  | lst e => exact T.ki_list_Ratio
  | tup e => exact T.ki_tuple_Ratio
  | dK e => exact T.ki_dict_Ratio
theorem ok_law_holds (T : Txt K mg A) : FnG P w K mg base 7 A.a_law_holds A.d_law_holds ["source", "most"] spHolds := by
  refine G.fun_ok T.fun_law_holds sc_law_holds (fun vs H Q E h => ?_) (fun cdv B outer s H vs Q E hgd hr h => ?_)
  · obtain ⟨a, n, rfl, _⟩ := h
    rfl
  · obtain ⟨a, n, rfl, hS, n0, n1, q⟩ := h
    refine ⟨_, (pss_cons (ps_set (i := 2) (sc_law_holds).nd rfl (Or.inl rfl) pe_int)
 (pss_cons (ps_for PassesOwn.never rfl (pi_range1 rfl T.z_range (pa_cons pe_int pa_nil)) (pg_name (i := 3) (sc_law_holds).nd rfl (Or.inl rfl)) (pss_one (ps_set (i := 2) (sc_law_holds).nd rfl (Or.inl rfl) (pe_lst (pa_cons (pv 2) pa_nil)))))
 (pss_cons (ps_for PassesOwn.never rfl (pi_range1 rfl T.z_range (pa_cons (pv 1) pa_nil)) (pg_name (i := 3) (sc_law_holds).nd rfl (Or.inl rfl)) (pss_cons (ps_set (i := 4) (sc_law_holds).nd rfl (Or.inl rfl) (pe_call (ok_law_pair T) (hr.mono (by decide)) rfl T.mg_law_pair T.fun_law_pair.kp T.bd_law_pair .nil pass0 (pa_cons (pv 0) pa_nil)))
 (pss_cons (ps_set (i := 5) (sc_law_holds).nd rfl (Or.inl rfl) (pe_make T.mk_Ratio (ok_Ratio_init T) (hr.mono (by decide)) rfl T.mgc_Ratio (b2_Ratio T).choose_spec.2 (b2_Ratio T).choose_spec.1 pass0 (pa_cons (pe_ix ix_tup (pv 4) pe_int (fun _ _ => rfl)) (pa_cons (pe_ix ix_tup (pv 4) pe_int (fun _ _ => rfl)) pa_nil))))
 (pss_cons (ps_set (i := 6) (sc_law_holds).nd rfl (Or.inl rfl) (pe_lst (pa_cons pe_non (pa_cons pe_bl (pa_cons pe_bl (pa_cons pe_str (pa_cons pe_str (pa_cons (pe_lst (pa_cons pe_int pa_nil)) (pa_cons (pe_tup (pa_cons pe_int pa_nil)) (pa_cons pe_dnewK (pa_cons (pv 5) (pa_cons (pv 2) (pa_cons (pe_callTy call_str_int (by rfl) T.z_str (by decide +kernel) (pa_cons (pe_ix ix_tup (pv 4) pe_int (fun _ _ => rfl)) pa_nil)) (pa_cons (pe_tup (pa_cons (pe_ix ix_tup (pv 4) pe_int (fun _ _ => rfl)) (pa_cons (pe_ix ix_tup (pv 4) pe_int (fun _ _ => rfl)) pa_nil))) pa_nil))))))))))))))
 (pss_cons (ps_par (i := 7) (j := 8) (by rfl) (sc_law_holds).nd rfl rfl (by decide) rfl rfl (pa_cons (pe_ix ix_list (pv 6) (pe_call (ok_law_draw T) (hr.mono (by decide)) rfl T.mg_law_draw T.fun_law_draw.kp T.bd_law_draw .nil pass0 (pa_cons (pv 0) (pa_cons pe_int pa_nil))) (fun _ _ => rfl)) (pa_cons (pe_ix ix_list (pe_lst (pa_cons pe_int (pa_cons (pe_un un_neg pe_int) (pa_cons (pe_op op_sub pe_int (pe_ix ix_tup (pv 4) pe_int (fun _ _ => rfl))) (pa_cons (pe_un un_neg (G.pe_powc (c := 1000000000000000000000000000000) (by decide +kernel) (by decide +kernel))) pa_nil))))) (pe_call (ok_law_draw T) (hr.mono (by decide)) rfl T.mg_law_draw T.fun_law_draw.kp T.bd_law_draw .nil pass0 (pa_cons (pv 0) (pa_cons pe_int pa_nil))) (fun _ _ => rfl)) pa_nil)) (by rfl))
 (pss_cons (ps_set (i := 9) (sc_law_holds).nd rfl (Or.inl rfl) (pe_lst (pa_cons (pe_call (ok_law_outcome T) (hr.mono (by decide)) rfl T.mg_law_outcome T.fun_law_outcome.kp T.bd_law_outcome .nil pass0 (pa_cons pe_int (pa_cons (pv 7) (pa_cons (pe_ix ix_tup (pv 4) pe_int (fun _ _ => rfl)) pa_nil)))) (pa_cons (pe_call (ok_law_outcome T) (hr.mono (by decide)) rfl T.mg_law_outcome T.fun_law_outcome.kp T.bd_law_outcome .nil pass0 (pa_cons pe_int (pa_cons (pe_ix ix_tup (pv 4) pe_int (fun _ _ => rfl)) (pa_cons (pv 7) pa_nil)))) (pa_cons (pe_call (ok_law_outcome T) (hr.mono (by decide)) rfl T.mg_law_outcome T.fun_law_outcome.kp T.bd_law_outcome .nil pass0 (pa_cons pe_int (pa_cons (pe_ix ix_tup (pv 4) pe_int (fun _ _ => rfl)) (pa_cons (pv 8) pa_nil)))) pa_nil)))))
 (pss_cons (ps_set (i := 9) (sc_law_holds).nd rfl (Or.inl rfl) (pe_op G.op_catL (pv 9) (pe_lst (pa_cons (pe_call (ok_law_outcome T) (hr.mono (by decide)) rfl T.mg_law_outcome T.fun_law_outcome.kp T.bd_law_outcome .nil pass0 (pa_cons pe_int (pa_cons (pv 7) (pa_cons (pv 8) pa_nil)))) (pa_cons (pe_call (ok_law_outcome T) (hr.mono (by decide)) rfl T.mg_law_outcome T.fun_law_outcome.kp T.bd_law_outcome .nil pass0 (pa_cons pe_int (pa_cons (pv 7) (pa_cons pe_non pa_nil)))) (pa_cons (pe_call (ok_law_outcome T) (hr.mono (by decide)) rfl T.mg_law_outcome T.fun_law_outcome.kp T.bd_law_outcome .nil pass0 (pa_cons pe_int (pa_cons (pv 7) (pa_cons (pv 7) pa_nil)))) pa_nil))))))
 (pss_cons (ps_if (pt_cmpR (op_neD hr.units) (pv 9) (pe_op op_rep (pe_lst (pa_cons pe_str pa_nil)) pe_int) (nomark _)) (pss_one (ps_ret pe_bl)) pss_nil)
 (pss_cons (ps_set (i := 10) (sc_law_holds).nd rfl (Or.inl rfl) (pe_ix ix_list (pe_op G.op_catL (pv 6) (pe_lst (pa_cons (pe_ix ix_tup (pv 4) pe_int (fun _ _ => rfl)) (pa_cons pe_int pa_nil)))) (pe_call (ok_law_draw T) (hr.mono (by decide)) rfl T.mg_law_draw T.fun_law_draw.kp T.bd_law_draw .nil pass0 (pa_cons (pv 0) (pa_cons pe_int pa_nil))) (fun _ _ => rfl)))
 (C8.pss_cut (ps_set (i := 10) (sc_law_holds).nd rfl (Or.inl rfl) (pe_ifExp (pt_cmpR (G.op_eqA (ok_Ratio_eq T) (hr.mono (by decide)) T.bd_Ratio_eq pass0 T.om_Ratio_eq T.far_Ratio) (pv 10) (pv 5) (nomark _)) pe_non (pv 10)))
 (pss_cons (ps_if (PW.pt (pw_or (pt_cmpR op_ne (pe_call (ok_law_outcome T) (hr.mono (by decide)) rfl T.mg_law_outcome T.fun_law_outcome.kp T.bd_law_outcome .nil pass0 (pa_cons pe_int (pa_cons (pv 5) (pa_cons (pv 10) pa_nil)))) pe_str (nomark _)) (pw_or1 (pt_cmpR op_ne (pe_call (ok_law_outcome T) (hr.mono (by decide)) rfl T.mg_law_outcome T.fun_law_outcome.kp T.bd_law_outcome .nil pass0 (pa_cons pe_int (pa_cons (pv 5) (pa_cons (pe_make T.mk_Ratio (ok_Ratio_init T) (hr.mono (by decide)) rfl T.mgc_Ratio (b2_Ratio T).choose_spec.2 (b2_Ratio T).choose_spec.1 pass0 (pa_cons pe_int (pa_cons (pe_ix ix_tup (pv 4) pe_int (fun _ _ => rfl)) pa_nil))) pa_nil)))) pe_str (nomark _))))) (pss_one (ps_ret pe_bl)) pss_nil)
 (pss_cons (ps_if (PW.pt (pw_or (pt_cmpR op_ne (pe_call (ok_law_outcome T) (hr.mono (by decide)) rfl T.mg_law_outcome T.fun_law_outcome.kp T.bd_law_outcome .nil pass0 (pa_cons pe_int (pa_cons (pv 5) (pa_cons (pv 10) pa_nil)))) pe_str (nomark _)) (pw_or1 (pt_cmpR op_ne (pe_call (ok_law_outcome T) (hr.mono (by decide)) rfl T.mg_law_outcome T.fun_law_outcome.kp T.bd_law_outcome .nil pass0 (pa_cons pe_int (pa_cons (pv 5) (pa_cons (pv 5) pa_nil)))) pe_str (nomark _))))) (pss_one (ps_ret pe_bl)) pss_nil)
 (pss_cons (ps_if (PW.pt (pw_or (pt_cmpR op_ne (pe_call (ok_law_outcome T) (hr.mono (by decide)) rfl T.mg_law_outcome T.fun_law_outcome.kp T.bd_law_outcome .nil pass0 (pa_cons pe_int (pa_cons (pe_make T.mk_Ratio (ok_Ratio_init T) (hr.mono (by decide)) rfl T.mgc_Ratio (b1_Ratio T).choose_spec.2 (b1_Ratio T).choose_spec.1 pass0 (pa_cons pe_int pa_nil)) (pa_cons (pe_make T.mk_Ratio (ok_Ratio_init T) (hr.mono (by decide)) rfl T.mgc_Ratio (b1_Ratio T).choose_spec.2 (b1_Ratio T).choose_spec.1 pass0 (pa_cons pe_int pa_nil)) pa_nil)))) pe_str (nomark _)) (pw_or1 (pt_cmpR op_ne (pe_call (ok_law_outcome T) (hr.mono (by decide)) rfl T.mg_law_outcome T.fun_law_outcome.kp T.bd_law_outcome .nil pass0 (pa_cons pe_int (pa_cons (pv 5) (pa_cons (pe_make T.mk_Ratio (ok_Ratio_init T) (hr.mono (by decide)) rfl T.mgc_Ratio (b2_Ratio T).choose_spec.2 (b2_Ratio T).choose_spec.1 pass0 (pa_cons pe_int (pa_cons (pe_ix ix_tup (pv 4) pe_int (fun _ _ => rfl)) pa_nil))) pa_nil)))) pe_str (nomark _))))) (pss_one (ps_ret pe_bl)) pss_nil)
 (pss_cons (ps_setLc (i := 11) (own := [("turn", 15)]) (g := gName 15) rfl (sc_law_holds).nd rfl rfl (sw_true rfl rfl rfl (by decide +kernel)) (pi_range1 rfl T.z_range (pa_cons (pe_call (ok_law_draw T) (hr.mono (by decide)) rfl T.mg_law_draw T.fun_law_draw.kp T.bd_law_draw .nil pass0 (pa_cons (pv 0) (pa_cons pe_int pa_nil))) pa_nil)) (blkOk_by (own := [("turn", 15)]) (N := N_law_holds) (sc := defScope s_law_holds) (by decide +kernel)) (fun _ _ _ _ _ => pg_name (i := 15) (sc_law_holds).nd rfl (Or.inl rfl)) (fun _ _ _ _ _ => pts_nil) (fun _ _ _ _ _ => (pe_make T.mk_Ratio (ok_Ratio_init T) (hr.mono (by decide)) rfl T.mgc_Ratio (b2_Ratio T).choose_spec.2 (b2_Ratio T).choose_spec.1 pass0 (pa_cons pe_int (pa_cons (pe_op op_add pe_int (pv 15)) pa_nil)))))
 (pss_cons (ps_set (i := 12) (sc_law_holds).nd rfl (Or.inl rfl) (pe_call (ok_law_draw T) (hr.mono (by decide)) rfl T.mg_law_draw T.fun_law_draw.kp T.bd_law_draw .nil pass0 (pa_cons (pv 0) (pa_cons (pe_op op_add (pe_callB call_len (by rfl) T.z_len (by decide +kernel) (pa_cons (pv 11) pa_nil)) pe_int) pa_nil))))
 (pss_cons (ps_set (i := 13) (sc_law_holds).nd rfl (Or.inl rfl) (pe_lst (pa_cons (pe_op G.op_catL (pe_op G.op_catL (pe_slice sl_list (pv 11) po_none (po_some (pv 12))) (pe_lst (pa_cons (pv 10) pa_nil))) (pe_slice sl_list (pv 11) (po_some (pv 12)) po_none)) (pa_cons (pe_callTy call_tuple_of (by rfl) T.z_tuple (by decide +kernel) (pa_cons (pv 11) pa_nil)) (pa_cons pe_non (pa_cons pe_int (pa_cons pe_str (pa_cons pe_dnewK (pa_cons (pv 5) (pa_cons (pe_lst (pa_cons (pv 11) pa_nil)) (pa_cons (pv 2) (pa_cons (pe_ix ix_tup (pv 4) pe_int (fun _ _ => rfl)) (pa_cons (pe_disp (pps_cons pe_int (pv 5) pps_nil) (by rfl) (by rfl) (fun z => by cases z) (by decide)) pa_nil)))))))))))))
 (pss_cons (ps_set (i := 14) (sc_law_holds).nd rfl (Or.inl rfl) (pe_ix ix_list (pv 13) (pe_ix ix_list (pe_lst (pa_cons pe_int (pa_cons pe_int (pa_cons (pe_call (ok_law_draw T) (hr.mono (by decide)) rfl T.mg_law_draw T.fun_law_draw.kp T.bd_law_draw .nil pass0 (pa_cons (pv 0) (pa_cons pe_int pa_nil))) pa_nil)))) (pe_call (ok_law_draw T) (hr.mono (by decide)) rfl T.mg_law_draw T.fun_law_draw.kp T.bd_law_draw .nil pass0 (pa_cons (pv 0) (pa_cons pe_int pa_nil))) (fun _ _ => rfl)) (fun _ _ => rfl)))
 (pss_cons (ps_if (PW.pt (pw_or (pt_cmpR op_ne (pe_call (ok_law_outcome T) (hr.mono (by decide)) rfl T.mg_law_outcome T.fun_law_outcome.kp T.bd_law_outcome .nil pass0 (pa_cons pe_int (pa_cons (pv 14) (pa_cons pe_non pa_nil)))) pe_str (nomark _)) (pw_or1 (pt_cmpR op_ne (pe_call (ok_law_outcome T) (hr.mono (by decide)) rfl T.mg_law_outcome T.fun_law_outcome.kp T.bd_law_outcome .nil pass0 (pa_cons pe_int (pa_cons (pv 11) (pa_cons pe_non pa_nil)))) pe_str (nomark _))))) (pss_one (ps_ret pe_bl)) pss_nil)
 (pss_cons (ps_set (i := 9) (sc_law_holds).nd rfl (Or.inl rfl) (pe_lst (pa_cons (pe_call (ok_law_outcome T) (hr.mono (by decide)) rfl T.mg_law_outcome T.fun_law_outcome.kp T.bd_law_outcome .nil pass0 (pa_cons pe_int (pa_cons (pe_ix ix_tup (pv 4) pe_int (fun _ _ => rfl)) (pa_cons (pe_ix ix_tup (pv 4) pe_int (fun _ _ => rfl)) pa_nil)))) (pa_cons (pe_call (ok_law_outcome T) (hr.mono (by decide)) rfl T.mg_law_outcome T.fun_law_outcome.kp T.bd_law_outcome .nil pass0 (pa_cons pe_int (pa_cons (pe_ix ix_tup (pv 4) pe_int (fun _ _ => rfl)) (pa_cons pe_non pa_nil)))) pa_nil))))
 (pss_one (ps_if (pt_cmpR (op_neD hr.units) (pe_op G.op_catL (pv 9) (pe_lst (pa_cons (pe_call (ok_law_outcome T) (hr.mono (by decide)) rfl T.mg_law_outcome T.fun_law_outcome.kp T.bd_law_outcome .nil pass0 (pa_cons pe_int (pa_cons (pe_op op_sub pe_int (G.pe_powc (c := 10000000000000000000000000000000) (by decide +kernel) (by decide +kernel))) (pa_cons (pe_op op_sub (G.pe_powc (c := 10000000000000000000000000000000) (by decide +kernel) (by decide +kernel)) pe_int) pa_nil)))) pa_nil))) (pe_op op_rep (pe_lst (pa_cons pe_str pa_nil)) pe_int) (nomark _)) (pss_one (ps_ret pe_bl)) pss_nil)))))))))))))))))))))
 (pss_one (ps_ret pe_bl))))), ?_⟩
    have IT := ins_ty T
    walk_at "wp"
    refine w_walkR (n := 39) ⟨by decide, by decide⟩ (fun i σ' H' => ∃ (v : V) (v3 : Option V), σ' = [some (.ref a), some (.int n), some v, v3, none, none, none, none, none, none, none, none, none, none, none, none] ∧ Same H H' ∧
      ((i = 0 ∧ v = .int 1) ∨ ∃ l w, v = .ref l ∧ l ≠ a ∧ H' l = some (.lst [w]) ∧ ((i = 1 ∧ w = .int 1) ∨ ∃ m ws, w = .ref m ∧ m ≠ a ∧ H' m = some (.lst ws)))) ⟨_, _, rfl, Same.refl _, .inl ⟨rfl, rfl⟩⟩ ?_ ?_
    · rintro i σ' H1 hi ⟨v, v3, rfl, e1, h⟩
      walk_at "wp"
      intro l2 H2 n2 e2 h2
      walk_at "wp"
      refine ⟨_, _, rfl, e1.trans e2, .inr ⟨l2, v, rfl, (hS.same e1).ne n2, h2, ?_⟩⟩
      rcases h with ⟨rfl, rfl⟩ | ⟨l, w, rfl, hla, hl, _⟩
      · exact .inl ⟨rfl, rfl⟩
      · exact .inr ⟨l, _, rfl, hla, e2 _ _ hl⟩
    · rintro σ' H1 ⟨v, v3, rfl, e1, h⟩
      rcases h with ⟨h, _⟩ | ⟨nl, w, rfl, hna, hnl, ⟨h, _⟩ | ⟨m, ws, rfl, hma, hm⟩⟩
      · exact absurd h (by decide)
      · exact absurd h (by decide)
      · have S0 := hS.same e1
        have G0 : Fr a H H1 := .same e1
        clear e1 hS
        refine w_seq (w_forR1 (fun R h => w_cons (w_var rfl (w_nil h))) ⟨n0, by omega⟩ (fun i σ H' => ∃ v3 v4 v5 v6 v7 v8 v9 v10 v11 v12 v13 v14 v15 : Option V, σ = [some (.ref a), some (.int n), some (.ref nl), v3, v4, v5, v6, v7, v8, v9, v10, v11, v12, v13, v14, v15] ∧ Src (100 * i) H' a ∧ Fr a H H' ∧ H' nl = some (.lst [.ref m]) ∧ H' m = some (.lst ws)) ⟨_, _, _, _, _, _, _, _, _, _, _, _, _, rfl, S0, G0, hnl, hm⟩ ?_ ?_)
        · clear S0 G0 hnl hm
          rintro i σ H1 hi ⟨v3, v4, v5, v6, v7, v8, v9, v10, v11, v12, v13, v14, v15, rfl, S1, G1, N1, M1⟩
          walk_at "wp"
          refine ⟨a, _, rfl, S1, by omega, fun i1 j1 p1 H2 hi1 hj1 hk1 hp1 hpa1 S2 f2 => ?_⟩
          have bj : Bt 8000 j1 := bt_of_p31 hj1 hk1 rfl
          have bi : Bt 1900 i1 := bt_of_31 hi1 rfl
          walk_at "wp"
          refine ratio_of hj1 bj fun r1 H3 n3 e3 R1 => ?_
          obtain ⟨x, hx, R1⟩ : ∃ x, Lp 104 x ∧ Rat A.c_Ratio H3 r1 x.1 x.2 := ⟨low i1 j1, lp_drawn hi1 hj1 hk1, R1⟩
          have N3 : H3 nl = some (.lst [.ref m]) := by walk_at "ls"
          have M3 : H3 m = some (.lst ws) := by walk_at "ls"
          have P3 : H3 p1 = some (.tup [.int i1, .int j1]) := by walk_at "tp"
          have S3 : Src (100 * i + 10) H3 a := by walk_at "sr"
          have G3 : Fr a H H3 := by walk_at "fr"
          clear S1 G1 N1 M1 hp1 S2 f2 e3
          walk_at "wp"
          intro l1 H4 n4 e4 h4
          walk_at "wp"
          intro t1 H5 n5 e5 h5
          walk_at "wp"
          refine w_dnew fun d1 H6 n6 e6 h6 => ?_
          walk_at "wp"
          refine w_strI2 bi ?_
          walk_at "wp"
          intro t2 H7 n7 e7 h7
          walk_at "wp"
          intro L H8 n8 e8 h8
          walk_at "wp"
          have S8 : Src (100 * i + 10) H8 a := by walk_at "sr"
          have La : L ≠ a := (by walk_at "sr" : Src (100 * i + 10) H7 a).ne n8
          have R8 : Rat A.c_Ratio H8 r1 x.1 x.2 := by walk_at "rt"
          have N8 : H8 nl = some (.lst [.ref m]) := by walk_at "ls"
          have M8 : H8 m = some (.lst ws) := by walk_at "ls"
          have P8 : H8 p1 = some (.tup [.int i1, .int j1]) := by walk_at "tp"
          have G8 : Fr a H H8 := by walk_at "fr"
          have l1a : l1 ≠ a := S3.ne n4
          have t1a : t1 ≠ a := (S3.same e4).ne n5
          have d1a : d1 ≠ a := ((S3.same e4).same e5).ne n6
          have t2a : t2 ≠ a := (((S3.same e4).same e5).same e6).ne n7
          obtain ⟨odds, hod, lod, pls⟩ : ∃ odds : List V, odds = [.non, .bl true, .bl false, .str ("1" : Str), .str ("" : Str), .ref l1, .ref t1, .ref d1, .ref r1, .ref nl, .str (toString i1), .ref t2] ∧ odds.length = 12 ∧ ∀ z ∈ odds, OD H8 r1 a z := by
            refine ⟨_, rfl, rfl, fun z hz => ?_⟩
            have ref_ne : ∀ {b : Addr}, b ≠ a → V.ref b ≠ V.ref a := fun h z => h (by injection z)
            simp only [List.mem_cons, List.not_mem_nil, or_false] at hz
            rcases hz with rfl | rfl | rfl | rfl | rfl | rfl | rfl | rfl | rfl | rfl | rfl | rfl
            · exact .inr ⟨_, .non, by decide, fun z => by cases z⟩
            · exact .inr ⟨_, .bl _, by decide, fun z => by cases z⟩
            · exact .inr ⟨_, .bl _, by decide, fun z => by cases z⟩
            · exact .inr ⟨_, .str _, by decide, fun z => by cases z⟩
            · exact .inr ⟨_, .str _, by decide, fun z => by cases z⟩
            · exact .inr ⟨_, .lst (by walk_at "ls" : H8 l1 = some (.lst [.int 1])), by decide, ref_ne l1a⟩
            · exact .inr ⟨_, .tup (by walk_at "tp" : H8 t1 = some (.tup [.int 1])), by decide, ref_ne t1a⟩
            · exact .inr ⟨_, .dK (e8 _ _ (e7 _ _ h6)), by decide, ref_ne d1a⟩
            · exact .inl rfl
            · exact .inr ⟨_, .lst N8, by decide, ref_ne hna⟩
            · exact .inr ⟨_, .str _, by decide, fun z => by cases z⟩
            · exact .inr ⟨_, .tup (by walk_at "tp" : H8 t2 = some (.tup [.int i1, .int j1])), by decide, ref_ne t2a⟩
          rw [← hod] at h8
          clear R1 N3 M3 P3 S3 G3 e4 e5 e6 e7 e8 h4 h5 h6 h7 hod n4 n5 n6 n7 n8 n3 hpa1
          refine ⟨a, _, _, rfl, S8, by omega, by decide, by decide +kernel, fun k1 H9 k1a k1b S9 f9 => ?_⟩
          obtain ⟨z, hz, hzm⟩ := at_mem k1a (by rw [lod]; exact k1b)
          walk_at "wp"
          refine w_ixL (SqL.of (f9 _ _ La h8)) hz ?_
          have R9 : Rat A.c_Ratio H9 r1 x.1 x.2 := by walk_at "rt"
          have N9 : H9 nl = some (.lst [.ref m]) := by walk_at "ls"
          have M9 : H9 m = some (.lst ws) := by walk_at "ls"
          have P9 : H9 p1 = some (.tup [.int i1, .int j1]) := by walk_at "tp"
          have G9 : Fr a H H9 := by walk_at "fr"
          have L9 := f9 _ _ La h8
          have pls9 : ∀ z ∈ odds, OD H9 r1 a z := fun z hz => (pls z hz).fr f9
          clear R8 N8 M8 P8 G8 S8 f9 h8 pls
          walk_at "wp"
          intro l4 Ha na ea ha
          walk_at "wp"
          refine ⟨a, _, _, rfl, S9.same ea, by omega, by decide, by decide +kernel, fun k2 Hb k2a k2b Sb fb => ?_⟩
          have l4a : l4 ≠ a := S9.ne na
          obtain ⟨u, hu, hu1⟩ : ∃ u : Int, atI [V.int 0, .int (-1), .int (0 - j1), .int (-1000000000000000000000000000000)] k2 = some (.int u) ∧ u < 1 := by
            have cs : k2 = 0 ∨ k2 = 1 ∨ k2 = 2 ∨ k2 = 3 := by omega
            rcases cs with rfl | rfl | rfl | rfl
            · exact ⟨0, rfl, by decide⟩
            · exact ⟨-1, rfl, by decide⟩
            · exact ⟨0 - j1, rfl, by omega⟩
            · exact ⟨-1000000000000000000000000000000, rfl, by decide⟩
          walk_at "wp"
          refine w_ixL (SqL.of (fb _ _ l4a ha)) hu ?_
          have Sa := S9.same ea
          have Rb : Rat A.c_Ratio Hb r1 x.1 x.2 := by walk_at "rt"
          have Nb : Hb nl = some (.lst [.ref m]) := by walk_at "ls"
          have Mb : Hb m = some (.lst ws) := by walk_at "ls"
          have Pb : Hb p1 = some (.tup [.int i1, .int j1]) := by walk_at "tp"
          have Lb : Hb L = some (.lst odds) := by walk_at "ls"
          have Gb : Fr a H Hb := by walk_at "fr"
          have plsb : ∀ z ∈ odds, OD Hb r1 a z := fun z hz => ((pls9 z hz).same ea).fr fb
          clear R9 N9 M9 P9 G9 S9 Sa fb ea ha L9 pls9 na
          have nz : NW K Hb z := od_nw T Rb (plsb z hzm)
          walk_at "wp"
          refine ⟨0, z, .int j1, _, rfl, .i0a nz, fun Hc ec => ?_⟩
          walk_at "wp"
          refine ⟨0, .int i1, z, _, rfl, .i0b (nz.same ec), fun Hd ed => ?_⟩
          walk_at "wp"
          refine ⟨0, .int i1, .int u, _, rfl, .i0c hu1, fun He ee => ?_⟩
          walk_at "wp"
          intro l5 Hf nf ef hf
          walk_at "wp"
          refine ⟨0, z, .int u, _, rfl, .i0a ((((nz.same ec).same ed).same ee).same ef), fun Hg eg => ?_⟩
          walk_at "wp"
          refine ⟨1, z, .non, _, rfl, .i1a (((((nz.same ec).same ed).same ee).same ef).same eg), fun Hh eh => ?_⟩
          walk_at "wp"
          refine ⟨0, z, z, _, rfl, .i0a ((((((nz.same ec).same ed).same ee).same ef).same eg).same eh), fun Hi ei => ?_⟩
          walk_at "wp"
          intro l6 Hj nj ej hj
          refine ⟨l5, l6, _, _, rfl, rfl, SqL.of (by walk_at "ls"), SqL.of hj, (by show (6 : Nat) ≤ 1000000; decide), fun l7 Hk nk ek hk => ?_⟩
          walk_at "wp"
          intro l8 Hl nl' el hl
          walk_at "wp"
          refine w_rep hl rfl rfl rfl fun l9 Hm nm em hm' => ?_
          refine w_neD (d := .list [.str ("ratio" : Str), .str ("ratio" : Str), .str ("ratio" : Str), .str ("ratio" : Str), .str ("ratio" : Str), .str ("ratio" : Str)]) (e := .list [.str ("ratio" : Str), .str ("ratio" : Str), .str ("ratio" : Str), .str ("ratio" : Str), .str ("ratio" : Str), .str ("ratio" : Str)]) (b := true) (.lst (SqL.of (by walk_at "ls")) (.cons (.str _) (.cons (.str _) (.cons (.str _) (.cons (.str _) (.cons (.str _) (.cons (.str _) .nil))))))) (.lst (SqL.of hm') (.cons (.str _) (.cons (.str _) (.cons (.str _) (.cons (.str _) (.cons (.str _) (.cons (.str _) .nil))))))) (by decide +kernel) (by decide +kernel) (by decide +kernel) ?_
          walk_at "wp"
          have eB : Same Hb Hm := by walk_at "sm"
          have Rm := Rb.same eB
          have Nm := eB _ _ Nb
          have Mm := eB _ _ Mb
          have Pm := eB _ _ Pb
          have Lm := eB _ _ Lb
          have plsm : ∀ z ∈ odds, OD Hm r1 a z := fun z hz => (plsb z hz).same eB
          have Sm := Sb.same eB
          have Gm : Fr a H Hm := Gb.trans (.same eB)
          clear Rb Nb Mb Pb Lb plsb Sb Gb ec ed ee ef eg eh ei ej ek el em hf hj hk hl hm' eB nz hzm hz hu
          intro l10 Hn nn en hn
          walk_at "wp"
          refine ⟨L, l10, _, _, rfl, rfl, SqL.of (by walk_at "ls"), SqL.of hn, (by show odds.length + 2 ≤ 1000000; omega), fun l11 Ho no eo ho => ?_⟩
          walk_at "wp"
          have So : Src (100 * i + 10 + 1 + 1) Ho a := by walk_at "sr"
          have l11a : l11 ≠ a := (by walk_at "sr" : Src (100 * i + 10 + 1 + 1) Hn a).ne no
          refine ⟨a, _, _, rfl, So, by omega, by decide, by decide +kernel, fun k3 Hp k3a k3b Sp fp => ?_⟩
          have lo : (odds ++ [V.int i1, V.int 0]).length = 14 := by rw [List.length_append, lod]; rfl
          obtain ⟨z2, hz2, hzm2⟩ := at_mem (xs := odds ++ [V.int i1, V.int 0]) k3a (by rw [lo]; exact k3b)
          walk_at "wp"
          refine w_ixL (SqL.of (fp _ _ l11a ho)) hz2 ?_
          have Rp : Rat A.c_Ratio Hp r1 x.1 x.2 := by walk_at "rt"
          have Np : Hp nl = some (.lst [.ref m]) := by walk_at "ls"
          have Mp : Hp m = some (.lst ws) := by walk_at "ls"
          have Pp : Hp p1 = some (.tup [.int i1, .int j1]) := by walk_at "tp"
          have plz : z2 = .ref r1 ∨ ∃ T, Pl Hp z2 T ∧ z2 ≠ .ref a := by
            rcases List.mem_append.mp hzm2 with h | h
            · exact (((plsm z2 h).same en).same eo).fr fp |>.imp id fun ⟨T, p, _, m⟩ => ⟨T, p, m⟩
            · simp only [List.mem_cons, List.not_mem_nil, or_false] at h
              rcases h with rfl | rfl
              · exact .inr ⟨_, .int _, fun z => by cases z⟩
              · exact .inr ⟨_, .int _, fun z => by cases z⟩
          have Gp : Fr a H Hp := by walk_at "fr"
          clear Rm Nm Mm Pm Lm plsm Sm Gm en eo hn ho So fp hzm2 hz2 lo
          walk_at "wp"
          refine w_cut (fun σ' H' => ∃ (z3 : V) (T : String), σ' = [some (.ref a), some (.int n), some (.ref nl), some (.int i), some (.ref p1), some (.ref r1), some (.ref L), some z, some (.int u), some (.ref l7), some z3, v11, v12, v13, v14, v15] ∧ H' = Hp ∧ Pl Hp z3 T ∧ z3 ≠ .ref a) ?_ ?_
          · walk_at "wp"
            rcases plz with rfl | ⟨t, pz, nza⟩
            · refine .inr (w_eqR IT Rp Rp ?_)
              rw [decide_eq_true (rfl : x = x)]
              walk_at "wp"
              exact ⟨.non, _, rfl, rfl, .non, fun z => by cases z⟩
            · refine .inl (w_eqPr Rp pz (pl_kit T pz) ?_)
              walk_at "wp"
              exact ⟨z2, t, rfl, rfl, pz, nza⟩
          · rintro σ' H' ⟨z3, t3, rfl, rfl, pz, nza⟩
            clear plz
            have nr3 : NR K A.c_Ratio H' z3 := pz.nr (pl_kit T pz)
            walk_at "wp"
            refine ⟨2, .ref r1, z3, _, rfl, .o2a Rp hx (by decide) nr3, fun H9 e9 => ?_⟩
            walk_at "wp"
            refine ratio_of hj1 bj fun r2 Ha na ea R2 => ?_
            have hz0 : Lp 104 (low 0 j1) := Lp.low hj1 (by decide) (bt_of_p31 hj1 hk1 rfl)
            walk_at "wp"
            refine ⟨2, .ref r1, .ref r2, _, rfl, .o2z (y := low 0 j1) (by walk_at "rt") hx (by decide) R2 hz0 low_zero, fun Hb eb => ?_⟩
            walk_at "wp"
            refine ⟨4, .ref r1, z3, _, rfl, .l4a (by walk_at "rt") hx (by decide) (((nr3.same e9).same ea).same eb), fun Hc ec => ?_⟩
            walk_at "wp"
            refine ⟨4, .ref r1, .ref r1, _, rfl, .l4 (by walk_at "rt") hx (by decide) (by walk_at "rt") hx, fun Hd ed => ?_⟩
            walk_at "wp"
            refine ratio_lp (x := (0, 1)) lp_zero rfl fun r3 He ne ee R3 => ?_
            walk_at "wp"
            refine ratio_lp (x := (0, 1)) lp_zero rfl fun r4 Hf nf ef R4 => ?_
            walk_at "wp"
            refine ⟨2, .ref r3, .ref r4, _, rfl, .o2z (x := (0, 1)) (y := (0, 1)) (by walk_at "rt") lp_zero (by decide) R4 lp_zero rfl, fun Hg eg => ?_⟩
            walk_at "wp"
            refine ratio_of hj1 bj fun r5 Hh nh eh R5 => ?_
            have h1z : Lp 104 (low 1 j1) := Lp.low hj1 (by decide) (bt_of_p31 hj1 hk1 rfl)
            walk_at "wp"
            refine ⟨2, .ref r1, .ref r5, _, rfl, .o2 (y := low 1 j1) (by walk_at "rt") hx (by decide) R5 h1z (low_pos1 Int.one_pos hj1), fun Hi ei => ?_⟩
            walk_at "wp"
            have eI : Same H' Hi := by walk_at "sm"
            have Ri := Rp.same eI
            have Ni := eI _ _ Np
            have Mi := eI _ _ Mp
            have Pi := eI _ _ Pp
            have pzi := pz.same eI
            have Si := Sp.same eI
            have Gi : Fr a H Hi := Gp.trans (.same eI)
            clear Rp Np Mp Pp Sp Gp R2 R3 R4 R5 e9 ea eb ec ed ee ef eg eh ei eI nr3 pz
            refine w_lc ?_
            walk_at "wp"
            refine ⟨a, _, _, rfl, Si, by omega, by decide, by decide +kernel, fun k4 Hj k4a k4b Sj fj => ?_⟩
            have Rj : Rat A.c_Ratio Hj r1 x.1 x.2 := by walk_at "rt"
            have Nj : Hj nl = some (.lst [.ref m]) := by walk_at "ls"
            have Mj : Hj m = some (.lst ws) := by walk_at "ls"
            have Pj : Hj p1 = some (.tup [.int i1, .int j1]) := by walk_at "tp"
            have pzj := pzi.fr nza fj
            have Gj : Fr a H Hj := by walk_at "fr"
            clear Ri Ni Mi Pi pzi Si Gi fj
            have lpt : ∀ t : Nat, t < 5 → Lp 104 (1, 2 + (t : Int)) := fun t ht => ⟨by show (0 : Int) < 2 + (t : Int); omega, Int.gcd_one_left _, (by show Bt 104 (1 : Int); decide), by show Bt 104 (2 + (t : Int)); unfold Bt; omega⟩
            walk_at "wp"
            refine ⟨by omega, by omega, w_lcRange (kept_rat (C := A.c_Ratio)) ((List.range k4.toNat).map fun (t : Nat) => ((1 : Int), (2 + (t : Int)))) (by simp) (by omega) ?_ ?_⟩
            · intro t y Hk R ht hy ek r
              have ey : y = (1, 2 + (t : Int)) := by
                rw [List.getElem?_map, List.getElem?_range ht] at hy
                exact (Option.some.inj hy).symm
              subst ey
              walk_at "wp"
              refine ratio_lp (lpt t (by omega)) rfl fun r6 Hl nl6 el R6 => ?_
              walk_at "wp"
              exact r _ _ el ⟨r6, rfl, R6⟩
            · intro M rs Hk nM ek hM ps
              obtain ⟨ys, hys, ly, hxy⟩ : ∃ ys, ys = ((List.range k4.toNat).map fun (t : Nat) => ((1 : Int), (2 + (t : Int)))) ∧ ys.length ≤ 4 ∧ ∀ y ∈ ys, Lp 104 y := by
                refine ⟨_, rfl, by simp; omega, fun y hy => ?_⟩
                obtain ⟨t, ht, rfl⟩ := List.mem_map.mp hy
                exact lpt t (by have := List.mem_range.mp ht; omega)
              rw [← hys] at ps
              have rR : Rats A.c_Ratio Hk rs ys := ps.rats
              have lR : rs.length = ys.length := rR.len
              have Ma : M ≠ a := Sj.ne nM
              have Rk := Rj.same ek
              have Nk := ek _ _ Nj
              have Mk := ek _ _ Mj
              have Pk := ek _ _ Pj
              have pzk := pzj.same ek
              have Sk := Sj.same ek
              have Gk : Fr a H Hk := Gj.trans (.same ek)
              clear Rj Nj Mj Pj pzj Sj Gj ek ps hys nM lpt
              walk_at "wp"
              refine w_lenL (SqL.of hM) ?_
              walk_at "wp"
              refine ⟨a, _, _, rfl, Sk, by omega, by omega, Bt.mono (a := 6) (by unfold Bt; omega) (by decide), fun cut Hl c0 c9 Sl fl => ?_⟩
              have rL : Rats A.c_Ratio Hl rs ys := let ⟨_, _, _, h1, _⟩ := Sk; rR.fr h1 fl
              have hMl : Hl M = some (.lst rs) := fl _ _ Ma hM
              have Rl : Rat A.c_Ratio Hl r1 x.1 x.2 := by walk_at "rt"
              have Nl : Hl nl = some (.lst [.ref m]) := by walk_at "ls"
              have Ml : Hl m = some (.lst ws) := by walk_at "ls"
              have Pl1 : Hl p1 = some (.tup [.int i1, .int j1]) := by walk_at "tp"
              have pzl := pzk.fr nza fl
              have Gl' : Fr a H Hl := by walk_at "fr"
              clear Rk Nk Mk Pk pzk Sk Gk fl hM rR
              walk_at "wp"
              refine w_slL (SqL.of hMl) fun q1 Hm nm em hm1 => ?_
              rw [cut_take c0 (by omega)] at hm1
              walk_at "wp"
              intro q2 Hn nn en hn
              walk_at "wp"
              refine ⟨q1, q2, _, _, rfl, rfl, SqL.of (by walk_at "ls"), SqL.of hn, (by rw [List.length_take]; show _ + 1 ≤ 1000000; omega), fun q3 Ho no eo ho => ?_⟩
              walk_at "wp"
              refine w_slL (SqL.of (by walk_at "ls" : Ho M = some (.lst rs))) fun q4 Hp' np ep hp4 => ?_
              rw [cut_drop c0 (by omega)] at hp4
              refine ⟨q3, q4, _, _, rfl, rfl, SqL.of (by walk_at "ls"), SqL.of hp4, (by rw [List.length_append, List.length_take, List.length_drop]; show _ + 1 + _ ≤ 1000000; omega), fun q5 Hq nq eq hq => ?_⟩
              walk_at "wp"
              refine ⟨M, rs, rfl, .inl ⟨SqL.of (by walk_at "ls"), fun q6 nr => ?_⟩⟩
              have er : Same Hq (upd Hq q6 (.tup rs)) := same_new nr
              have hr6 : upd Hq q6 (.tup rs) q6 = some (.tup rs) := upd_same
              generalize upd Hq q6 (.tup rs) = Hr at *
              walk_at "wp"
              refine w_dnew fun q7 Hs ns es hs7 => ?_
              walk_at "wp"
              intro q8 Ht nt et ht8
              walk_at "wp"
              refine w_disp1 rfl fun q9 Hu nu eu hu9 => ?_
              walk_at "wp"
              intro LL Hv nv ev hv
              walk_at "wp"
              have hq5 : Hv q5 = some (.lst (rs.take cut.toNat ++ z3 :: rs.drop cut.toNat)) := by
                have h : Hv q5 = some (.lst ((rs.take cut.toNat ++ [z3]) ++ rs.drop cut.toNat)) := by walk_at "ls"
                rw [List.append_assoc] at h
                exact h
              have hq6 : Hv q6 = some (.tup rs) := by walk_at "tp"
              have hq7 : Hv q7 = some (.dK []) := ev _ _ (eu _ _ (et _ _ hs7))
              have hq8 : Hv q8 = some (.lst [.ref M]) := by walk_at "ls"
              have hq9 : Hv q9 = some (.dK [(Sum.inl 1, .ref r1)]) := ev _ _ hu9
              have q5a : q5 ≠ a := (by walk_at "sr" : Src (100 * i + 10 + 1 + 1 + 1 + 1 + 1) Hp' a).ne nq
              have q6a : q6 ≠ a := (by walk_at "sr" : Src (100 * i + 10 + 1 + 1 + 1 + 1 + 1) Hq a).ne nr
              have q7a : q7 ≠ a := (by walk_at "sr" : Src (100 * i + 10 + 1 + 1 + 1 + 1 + 1) Hr a).ne ns
              have q8a : q8 ≠ a := (by walk_at "sr" : Src (100 * i + 10 + 1 + 1 + 1 + 1 + 1) Hs a).ne nt
              have q9a : q9 ≠ a := (by walk_at "sr" : Src (100 * i + 10 + 1 + 1 + 1 + 1 + 1) Ht a).ne nu
              have LLa : LL ≠ a := (by walk_at "sr" : Src (100 * i + 10 + 1 + 1 + 1 + 1 + 1) Hu a).ne nv
              have eV : Same Hl Hv := by walk_at "sm"
              have Sv := Sl.same eV
              have rV := rL.same eV
              have hMv := eV _ _ hMl
              have Rv := Rl.same eV
              have Nv := eV _ _ Nl
              have Mv := eV _ _ Ml
              have Pv := eV _ _ Pl1
              have pzv := pzl.same eV
              have Gv : Fr a H Hv := Gl'.trans (.same eV)
              clear rL hMl Rl Nl Ml Pl1 pzl Gl' em en eo ep eq er es et eu ev eV hm1 hn ho hp4 hq hr6 hs7 ht8 hu9 Sl nm nn no np nq nr ns nt nu nv
              refine ⟨a, _, _, rfl, Sv, by omega, by decide, by decide +kernel, fun k5 Hw k5a k5b Sw fw => ?_⟩
              walk_at "wp"
              intro q10 Hx nx ex hx10
              walk_at "wp"
              have Sx := Sw.same ex
              have q10a : q10 ≠ a := Sw.ne nx
              refine ⟨a, _, _, rfl, Sx, by omega, by decide, by decide +kernel, fun k6 Hy k6a k6b Sy fy => ?_⟩
              have D : ∀ c o, c ≠ a → Hv c = some o → Hy c = some o := fun c o n h => fy _ _ n (ex _ _ (fw _ _ n h))
              obtain ⟨dd, hdd, dd0, dd9⟩ : ∃ dd : Int, atI [V.int 0, .int 0, .int k5] k6 = some (.int dd) ∧ 0 ≤ dd ∧ dd < 11 := by
                have cs : k6 = 0 ∨ k6 = 1 ∨ k6 = 2 := by omega
                rcases cs with rfl | rfl | rfl
                · exact ⟨0, rfl, by decide, by decide⟩
                · exact ⟨0, rfl, by decide, by decide⟩
                · exact ⟨k5, rfl, k5a, k5b⟩
              walk_at "wp"
              refine w_ixL (SqL.of (fy _ _ q10a hx10)) hdd ?_
              obtain ⟨its, hits, lits⟩ : ∃ its : List V, its = [.ref q5, .ref q6, .non, .int 0, .str ("" : Str), .ref q7, .ref r1, .ref q8, .ref nl, .int i1, .ref q9] ∧ its.length = 11 := ⟨_, rfl, rfl⟩
              rw [← hits] at hv
              obtain ⟨z4, hz4, hzm4⟩ := at_mem (xs := its) dd0 (by rw [lits]; exact dd9)
              refine w_ixL (SqL.of (D _ _ LLa hv)) hz4 ?_
              have rY : Rats A.c_Ratio Hy rs ys := let ⟨_, _, _, h1, _⟩ := Sx; let ⟨_, _, _, h2, _⟩ := Sv; ((rV.fr h2 fw).same ex).fr h1 fy
              have hMy := D _ _ Ma hMv
              have Ny := D _ _ hna Nv
              have My := D _ _ hma Mv
              have pzy := ((pzv.fr nza fw).same ex).fr nza fy
              have Ry : Rat A.c_Ratio Hy r1 x.1 x.2 := by walk_at "rt"
              have Py : Hy p1 = some (.tup [.int i1, .int j1]) := by walk_at "tp"
              have x35 : ∀ x ∈ ys, Lp 3500 x := fun x h => (hxy x h).mono (by decide)
              have t35 : ∀ k, k ≤ ys.length → Lp 3500 (tot (ys.take k)) := tot_take hxy (by omega)
              have xt : ∀ x ∈ ys.take cut.toNat, Lp 104 x := fun x h => hxy x (List.mem_of_mem_take h)
              have nil35 : ∀ k, k ≤ ([] : List (Int × Int)).length → Lp 3500 (tot (([] : List (Int × Int)).take k)) := fun k _ => by
                rw [List.take_nil]
                exact lp_zero.mono (by decide)
              have out4 : Out K A.c_Ratio Hy 3 z4 .non "ratio" := by
                rw [hits] at hzm4
                simp only [List.mem_cons, List.not_mem_nil, or_false] at hzm4
                rcases hzm4 with rfl | rfl | rfl | rfl | rfl | rfl | rfl | rfl | rfl | rfl | rfl
                · exact .t3b (D _ _ q5a hq5) (rY.cut cut.toNat).1 (by rw [List.length_append, List.length_cons, List.length_take, List.length_drop]; omega) (fun x h => (xt x h).mono (by decide)) (tot_take xt (by rw [List.length_take]; omega)) (pzy.nr (pl_kit T pzy))
                · exact .t3a (.pl (.tup (D _ _ q6a hq6)) (by decide))
                · exact .t3a (.pl .non (by decide))
                · exact .t3a (.pl (.int _) (by decide))
                · exact .t3a (.pl (.str _) (by decide))
                · exact .t3a (.pl (.dK (D _ _ q7a hq7)) (by decide))
                · obtain ⟨dx, h⟩ := Ry
                  exact .t3a (.ins h)
                · exact .t3b (rs := []) (xs := []) (D _ _ q8a hq8) .nil (by show (1 : Nat) ≤ 1000; decide) (by intro x h; cases h) nil35 ((Pl.lst hMy).nr T.ki_list_Ratio)
                · exact .t3b (rs := []) (xs := []) Ny .nil (by show (1 : Nat) ≤ 1000; decide) (by intro x h; cases h) nil35 ((Pl.lst My).nr T.ki_list_Ratio)
                · exact .t3a (.pl (.int _) (by decide))
                · exact .t3a (.pl (.dK (D _ _ q9a hq9)) (by decide))
              have Gy : Fr a H Hy := by walk_at "fr"
              clear rV hMv Rv Nv Mv Pv pzv Gv fw ex fy D hq5 hq6 hq7 hq8 hq9 Sv Sw Sx hx10 hv hits hzm4 hz4 hdd
              walk_at "wp"
              refine ⟨3, z4, .non, _, rfl, out4, fun Ha ea => ?_⟩
              walk_at "wp"
              refine ⟨3, .ref M, .non, _, rfl, .t3 (by walk_at "ls") (rY.same ea) (by omega) x35 t35, fun Hb eb => ?_⟩
              walk_at "wp"
              refine ⟨0, .int i1, .int j1, _, rfl, .i0 hj1 bj, fun Hc ec => ?_⟩
              walk_at "wp"
              refine ⟨1, .int i1, .non, _, rfl, .i1, fun Hd ed => ?_⟩
              walk_at "wp"
              intro s1 He ne ee he
              walk_at "wp"
              refine ⟨0, .int _, .int _, _, rfl, .i0 (by decide) (by decide +kernel), fun Hf ef => ?_⟩
              walk_at "wp"
              intro s2 Hg ng eg hg
              refine ⟨s1, s2, _, _, rfl, rfl, SqL.of (by walk_at "ls"), SqL.of hg, (by show (3 : Nat) ≤ 1000000; decide), fun s3 Hh nh eh hh3 => ?_⟩
              walk_at "wp"
              intro s4 Hi1 ni ei hi4
              walk_at "wp"
              refine w_rep hi4 rfl rfl rfl fun s5 Hj1 nj1 ej1 hj5 => ?_
              refine w_neD (d := .list [.str ("returned" : Str), .str ("returned" : Str), .str ("returned" : Str)]) (e := .list [.str ("returned" : Str), .str ("returned" : Str), .str ("returned" : Str)]) (b := true) (.lst (SqL.of (by walk_at "ls")) (.cons (.str _) (.cons (.str _) (.cons (.str _) .nil)))) (.lst (SqL.of hj5) (.cons (.str _) (.cons (.str _) (.cons (.str _) .nil)))) (by decide +kernel) (by decide +kernel) (by decide +kernel) ?_
              walk_at "wp"
              have eZ : Same Hy Hj1 := by walk_at "sm"
              exact ⟨_, _, _, _, _, _, _, _, _, _, _, _, _, rfl, (Sy.same eZ).mono (by omega), Gy.trans (.same eZ), eZ _ _ Ny, eZ _ _ My⟩
        · rintro σ H1 ⟨v3, v4, v5, v6, v7, v8, v9, v10, v11, v12, v13, v14, v15, rfl, S1, G1, N1, M1⟩
          walk_at "wp"
          exact q _ G1
end
end K06

namespace K06
open PySem L2 G
local macro_rules | `(tactic| walk_at "pos") => `(tactic| first | assumption | (decide +kernel) | omega)
local macro_rules | `(tactic| walk_at "bt") => `(tactic| first
  | assumption
  | (decide +kernel)
  | exact Bt.mono (by assumption) (by decide)
  | (refine' Bt.add ?b1 ?b2; (case b1 => walk_at "bt"); (case b2 => walk_at "bt"))
  | (refine' Bt.sub ?b1 ?b2; (case b1 => walk_at "bt"); (case b2 => walk_at "bt"))
  | (refine' Bt.mul ?b1 ?b2; (case b1 => walk_at "bt"); (case b2 => walk_at "bt"))
  | (refine' Bt.mod ?b1 ?b2; (case b2 => walk_at "bt"); (case b1 => walk_at "pos"))
  | (refine' Bt.div ?b1 ?b2; (case b2 => walk_at "bt"); (case b1 => walk_at "pos"))
  | (refine' Bt.pow3 ?b1; (case b1 => walk_at "bt"))
  | (refine' Bt.neg ?b1; (case b1 => walk_at "bt"))
  | exact Bt.any)
local macro_rules | `(tactic| walk_at "btm") => `(tactic| ((refine' Bt.mono ?m1 ?m2); (case m1 => walk_at "bt"); (case m2 => (decide +kernel))))
local macro_rules | `(tactic| walk_at "ne") => `(tactic| first
  | assumption
  | (refine' Ne.symm ?q1; (case q1 => assumption))
  | (refine' ne_of_none (by assumption) ?q1; (case q1 => assumption))
  | (refine' Ne.symm (ne_of_none (by assumption) ?q1); (case q1 => assumption)))
local macro_rules | `(tactic| walk_at "hp") => `(tactic| first
  | assumption
  | exact upd_same
  | ((refine' lst_same ?q1 (by assumption : Same _ _)); (case q1 => walk_at "hp"))
  | ((refine' (by assumption : Fr _ _ _) _ _ ?n ?h); (case n => walk_at "ne"); (case h => walk_at "hp"))
  | ((refine (upd_ne (by assumption)).trans ?_); walk_at "hp")
  | ((refine (upd_ne (Ne.symm (by assumption))).trans ?_); walk_at "hp"))
local macro_rules | `(tactic| walk_at "sr") => `(tactic| first
  | assumption
  | ((refine' Src.same ?q1 (by assumption : Same _ _)); (case q1 => walk_at "sr")))
local macro_rules | `(tactic| walk_at "rt") => `(tactic| first
  | assumption
  | ((refine' Rat.same ?q1 (by assumption : Same _ _)); (case q1 => walk_at "rt"))
  | ((refine' Rat.fr ?q1 ?q2 (by assumption : Fr _ _ _)); (case q2 => walk_at "sr"); (case q1 => walk_at "rt")))
local macro_rules | `(tactic| walk_at "tp") => `(tactic| first
  | assumption
  | ((refine' tup_same ?q1 (by assumption : Same _ _)); (case q1 => walk_at "tp"))
  | ((refine' tup_fr ?q1 ?q2 (by assumption : Fr _ _ _)); (case q2 => walk_at "sr"); (case q1 => walk_at "tp")))
local macro_rules | `(tactic| walk_at "ls") => `(tactic| first
  | assumption
  | ((refine' lst_same ?q1 (by assumption : Same _ _)); (case q1 => walk_at "ls"))
  | ((refine' lst_fr ?q1 ?q2 (by assumption : Fr _ _ _)); (case q2 => assumption); (case q1 => walk_at "ls")))
local macro_rules | `(tactic| walk_at "sm") => `(tactic| first
  | exact Same.refl _
  | assumption
  | ((refine Same.trans ?_ (by assumption : Same _ _)); walk_at "sm"))
local macro_rules | `(tactic| walk_at "fr") => `(tactic| first
  | exact Fr.refl _ _
  | assumption
  | ((refine Fr.trans ?_ (Fr.same (by assumption : Same _ _))); walk_at "fr")
  | ((refine Fr.trans ?_ (by assumption : Fr _ _ _)); walk_at "fr"))
local macro_rules | `(tactic| walk_at "wp1") => `(tactic| first
  | (with_reducible refine w_seq ?_) | (with_reducible refine w_next ?_) | (with_reducible refine w_ret ?_) | (with_reducible refine w_asg ?_) | (with_reducible refine w_gn ?_) | (with_reducible refine w_if ?_)
  | (with_reducible refine w_cons ?_) | (with_reducible refine w_nil ?_) | (with_reducible refine w_c ?_) | (with_reducible refine w_op ?_) | (with_reducible refine w_cb ?_)
  | ((with_reducible refine' w_var ?h ?_); (case h => exact rfl))
  | (with_reducible refine w_I0 ?_) | (with_reducible refine w_eqI ?_) | (with_reducible refine w_neI ?_) | (with_reducible refine w_test ?_) | (with_reducible refine w_tB ?_) | (with_reducible refine w_bl ?_) | (with_reducible refine w_par ?_) | (with_reducible refine w_par2 ?_)
  | (with_reducible refine w_not ?_) | (with_reducible refine w_and ?_) | (with_reducible refine w_or ?_) | (with_reducible refine w_andV ?_) | (with_reducible refine w_orV ?_) | (with_reducible refine w_notV ?_) | (with_reducible refine w_tif ?_)
  | (with_reducible refine w_tup ?_) | (with_reducible refine w_lst ?_) | (with_reducible refine w_un ?_) | (with_reducible refine w_U ?_) | (with_reducible refine w_drop ?_) | (with_reducible refine w_brk ?_) | (with_reducible refine w_cont ?_) | (with_reducible refine w_retN ?_)
  | (with_reducible refine w_call ?_) | (with_reducible refine w_fld ?_) | (with_reducible refine w_sfld ?_) | (with_reducible refine w_prop ?_) | (with_reducible refine w_make ?_) | (with_reducible refine w_meth ?_) | (with_reducible refine w_methN ?_) | (with_reducible refine w_revL ?_) | (with_reducible refine w_gsub ?_)
  | ((with_reducible refine' w_powN ?c1 ?c2 ?_); (case c2 => (decide +kernel)); (case c1 => exact rfl))
  | ((with_reducible refine' w_powV ?c1 ?c2 ?c3 ?c4 ?_); (case c2 => walk_at "bt"); (case c3 => (decide +kernel)); (case c4 => (decide +kernel)); (case c1 => exact rfl))
  | ((with_reducible refine' w_I (C := CMulW) ?c1 ?_); (case c1 => (refine' mulOk ?k1 ?k2 ?k3; (case k1 => walk_at "bt"); (case k2 => walk_at "bt"); (case k3 => decide +kernel))))
  | ((with_reducible refine' w_I (C := CDivW) ?c1 ?_); (case c1 => (refine' divOk ?k1 ?k2 ?k3; (case k1 => walk_at "pos"); (case k2 => walk_at "bt"); (case k3 => decide +kernel))))
  | ((with_reducible refine' w_I (C := fun _ j => 0 < j) ?c1 ?_); (case c1 => walk_at "pos"))
  | (with_reducible refine w_isB ?_) | (with_reducible refine w_notB ?_) | (with_reducible refine w_neS ?_) | (with_reducible refine w_eqS ?_)
  | (with_reducible refine w_iRng1 ?_) | (with_reducible refine w_for ?_) | (with_reducible refine w_iEnum ?_) | (with_reducible refine w_iList ?_) | (with_reducible refine w_iTup ?_) | (with_reducible refine w_noPart ?_) | (with_reducible refine w_part ?_) | (with_reducible refine w_int ?_)
  | (with_reducible refine w_sl ?_)
  | (with_reducible refine w_two ?_) | (with_reducible refine w_one ?_)
  | ((with_reducible refine' w_ixL ?hs ?he ?_); (case hs => first | (refine' SqL.of ?q0; (case q0 => walk_at "hp")) | assumption); (case he => exact rfl))
  | ((with_reducible refine' w_ixT ?hs ?he ?_); (case hs => first | (refine' SqT.of ?q0; (case q0 => walk_at "tp")) | assumption); (case he => exact rfl))
  | ((with_reducible refine' w_setL ?hs ?he ?_); (case hs => walk_at "hp"); (case he => exact rfl))
  | (with_reducible refine w_iteT rfl ?_) | (with_reducible refine w_iteF rfl ?_) | ((with_reducible refine w_alloc ?h ?_); (case h => exact rfl))
  | (with_reducible refine w_makeS ?_) | (with_reducible refine w_methS ?_) | (with_reducible refine w_callS ?_) | (with_reducible refine w_bm ?_) | (with_reducible refine w_makeK ?_) | (with_reducible refine w_callN ?_))
local macro_rules | `(tactic| walk_at "wp") => `(tactic| repeat (walk_at "wp1"))

section
variable {P : Program} {w : World} {K : PySem.W.Frag} {mg : Str → Option Value} {base : Heap} {A : Ad}
def spLaw (K : PySem.W.Frag) : Sp := fun vs H Q _ => ∃ (a : Addr) (ns : List Int), vs = [.ref a] ∧ SqL K H a (ns.map V.int) ∧ ns.length ≤ 63 ∧ ∀ H', Q (.bl true) H'
theorem ok_law (T : Txt K mg A) : FnG P w K mg base 8 A.a_law A.d_law ["script"] (spLaw K) := by
  refine G.fun_ok T.fun_law sc_law (fun vs H Q E h => ?_) (fun cdv B outer s H vs Q E hgd hr h => ?_)
  · obtain ⟨a, ns, rfl, _⟩ := h
    rfl
  · obtain ⟨a, ns, rfl, hS, hl, q⟩ := h
    refine ⟨_, (pss_cons (ps_for PassesOwn.never rfl (pi_enum rfl T.z_enumerate (pa_cons (pe_slice sl_list (pe_op G.op_catL (pv 0) (pe_lst (pa_cons pe_int pa_nil))) po_none (po_some (pe_callB (call_max2 rfl) (by rfl) T.z_max (by decide +kernel) (pa_cons pe_int (pa_cons (pe_callB (call_min2 rfl) (by rfl) T.z_min (by decide +kernel) (pa_cons (pe_callB call_len (by rfl) T.z_len (by decide +kernel) (pa_cons (pv 0) pa_nil)) (pa_cons pe_int pa_nil))) pa_nil))))) pa_nil)) (pg_tup rfl (pgs_cons (pg_name (i := 1) (sc_law).nd rfl (Or.inl rfl)) (pgs_cons (pg_name (i := 2) (sc_law).nd rfl (Or.inl rfl)) pgs_nil))) (pss_one (ps_if (pt_not (pt_val (G.pe_callG (ok_law_holds T) hgd (hr.mono (by decide)) rfl T.mg_law_holds T.fun_law_holds.kp T.bd_law_holds .nil (pa_cons (pe_call (ok_law_source T) (hr.mono (by decide)) rfl T.mg_law_source T.fun_law_source.kp T.bd_law_source .nil pass0 (pa_cons (pv 2) (pa_cons (pv 1) pa_nil))) (pa_cons (pe_ifExp (pt_cmpR (op_eqD hr.units) (pv 0) (pe_lst pa_nil) (nomark _)) pe_int pe_int) pa_nil))))) (pss_one (ps_ret pe_bl)) pss_nil)))
 (pss_one (ps_ret pe_bl))), ?_⟩
    walk_at "wp"
    intro z H1 _ e1 hz
    walk_at "wp"
    have hS1 := e1.seq hS
    refine ⟨a, z, _, _, rfl, rfl, hS1, SqL.of hz, by rw [List.length_map]; show ns.length + 1 ≤ 1000000; omega, fun y H2 _ e2 hy => ?_⟩
    walk_at "wp"
    refine w_lenL (e2.seq hS1) ?_
    walk_at "wp"
    refine w_slL (SqL.of hy) fun x H3 _ e3 hx => ?_
    walk_at "wp"
    have E3 : Same H H3 := (e1.trans e2).trans e3
    have hS3 := E3.seq hS
    refine w_walkE (SqL.of hx) rfl (fun _ σ' H' => ∃ v1 v2, σ' = [some (.ref a), v1, v2] ∧ Same H3 H') ⟨_, _, rfl, Same.refl _⟩ (fun _ _ _ _ ⟨_, _, _, e⟩ => e.seq (SqL.of hx)) ?_ ?_
    · rintro k c σ' H4 H5 hc ⟨v1, v2, rfl, e4⟩ e5
      obtain ⟨n, rfl⟩ : ∃ n, c = V.int n := by
        rcases List.mem_append.mp (cut_mem (List.mem_of_getElem? hc)) with h | h
        · obtain ⟨n, _, e⟩ := List.mem_map.mp h
          exact ⟨n, e.symm⟩
        · exact ⟨0, List.mem_singleton.mp h⟩
      have hk : k < 65 := by
        have h1 := Nat.lt_of_lt_of_le (List.getElem?_eq_some_iff.mp hc).1 cut_len
        rw [List.length_append, List.length_map] at h1
        have h3 : [V.int 0].length = 1 := rfl
        omega
      walk_at "wp"
      refine ⟨n, k, rfl, by omega, by unfold Bt; omega, fun s0 H6 ns0 e6 S6 => ?_⟩
      walk_at "wp"
      intro l0 H7 _ e7 hl0
      have E7 : Same H3 H7 := ((e4.trans e5).trans e6).trans e7
      refine ⟨_, .list [], dp_ints (E7.seq hS3), .lst (SqL.of hl0) .nil, shaped_ints ns, rfl, ?_⟩
      have S7 := S6.same e7
      walk_at "wp"
      refine w_ite (fun _ => ?_) fun _ => ?_
      · walk_at "wp"
        refine ⟨s0, _, rfl, S7, by decide, by decide, fun H8 f8 => ?_⟩
        walk_at "wp"
        exact ⟨_, _, rfl, e4.trans (e5.trans (Fr.unseen ns0 (e6.trans e7) f8))⟩
      · walk_at "wp"
        refine ⟨s0, _, rfl, S7, by decide, by decide, fun H8 f8 => ?_⟩
        walk_at "wp"
        exact ⟨_, _, rfl, e4.trans (e5.trans (Fr.unseen ns0 (e6.trans e7) f8))⟩
    · rintro σ' H4 ⟨v1, v2, rfl, e4⟩
      walk_at "wp"
      exact q _
end
end K06
namespace K06
open PySem L2 G
theorem fin {P : Program} {w : World} {K : PySem.W.Frag} {mg : Str → Option Value} {A : Ad} {fa : Addr} (hfa : mg "law" = some (.ref fa)) (T : Txt K mg A) :
    ∃ fd : FuncData, (∀ (s : Shared) (u : Value), BindsTo s fd ⟨[u], []⟩ [("script", u)]) ∧ ∀ base : Heap, K.In base → base.Ns mainGlobals mg → FnG P w K mg base 8 fa fd ["script"] (spLaw K) := by
  have e := hfa.symm.trans T.mg_law
  cases e
  refine ⟨A.d_law, ?_, fun base _ _ => ok_law T⟩
  obtain ⟨oc, od, kV, doc, pm, an, cdv, ct, osl, e, _⟩ := T.fun_law.ex
  rw [e]
  exact fun s u => .of_eq rfl
theorem walk {l : PySem.W.OpenLaw} {q : Program} {loose : List Str} {XP : (Str → Option Value) → Heap → Prop} {YP : World → Heap → Prop} {d : DefRec} {K : Params → PySem.W.Frag}
    (hn : l.most = some 63) (hdf : d.params.defaults = []) (hY : ∀ (w : World) (h : Heap), YP w h → (K w.params).In h)
    (F : ∀ (w : World) (mg : Str → Option Value) (fa : Addr) (h : Heap), (K w.params).In h → h.Ns mainGlobals mg → mg d.name = some (.ref fa) → ∃ fd : FuncData,
      (∀ (s : Shared) (u : Value), BindsTo s fd ⟨[u], []⟩ [("script", u)]) ∧ ∀ base : Heap, (K w.params).In base → base.Ns mainGlobals mg → FnG l.prog w (K w.params) mg base 8 fa fd ["script"] (spLaw (K w.params))) :
    PySem.W.WalkO q loose XP YP l.row.toRowW d [] (fun f vs => PySem.call f vs) :=
  G.walk_ofG (n := 63) (k := 8) (x := "script") (sp := fun w => spLaw (K w.params)) hn (by decide) hdf ⟨rfl, by decide, by decide⟩ hY F fun _ _ a ns hl _ hS => ⟨a, ns, rfl, hS, hl, fun _ => rfl⟩
end K06
open PySem PySem.W PyProof.Rows
set_option maxRecDepth 100000 in
set_option maxHeartbeats 0 in
theorem PySem.Challenge.cw_stirred_k06_errors_of_ratios_holds : PySem.Challenge.rw_stirred_k06_errors_of_ratios.Holds := by
  w_on; o_law; k_head; (case hw => w_witness2)
  k_fill
  refine K06.walk (l := PySem.Challenge.rw_stirred_k06_errors_of_ratios) rfl rfl (fun w h Y => PySem.W.kIn_of Y) ?F
  case F =>
    intro w mg fa h KX G hmg
    refine' K06.fin hmg ?T
    case T =>
      refine' K06.txt_mk KX G ?m_Ratio ?kc_Ratio ?pg_Ratio ?hd_Ratio ?po_Ratio ?sa_Ratio ?cc_Ratio ?mo_Ratio ?sf_Ratio ?ne_Ratio ?fai_Ratio ?fab_Ratio ?fas_Ratio ?fan_Ratio ?fal_Ratio ?fat_Ratio ?fad_Ratio ?na_Ratio_top ?na_Ratio_bottom ?m_StirError ?kc_StirError ?eb_StirError ?et_StirError ?eh_StirError ?m_InvalidRatioError ?kc_InvalidRatioError ?eb_InvalidRatioError ?et_InvalidRatioError ?eh_InvalidRatioError ?ex_InvalidRatioError ?eg_InvalidRatioError ?ek_InvalidRatioError ?ec_InvalidRatioError ?em_InvalidRatioError ?es_InvalidRatioError_StirError ?m_ZeroRatioError ?kc_ZeroRatioError ?eb_ZeroRatioError ?et_ZeroRatioError ?eh_ZeroRatioError ?ex_ZeroRatioError ?eg_ZeroRatioError ?ek_ZeroRatioError ?ec_ZeroRatioError ?em_ZeroRatioError ?es_ZeroRatioError_StirError ?m_InvalidMixtureError ?kc_InvalidMixtureError ?m_InvalidSubstanceError ?kc_InvalidSubstanceError ?m_InvalidVolumesError ?kc_InvalidVolumesError ?m_InvalidTransfersError ?kc_InvalidTransfersError ?m_InvalidVesselError ?kc_InvalidVesselError ?m_InvalidRowsError ?kc_InvalidRowsError ?m_InvalidContentsError ?kc_InvalidContentsError ?m_InvalidGroupError ?kc_InvalidGroupError ?m_InvalidNumberError ?kc_InvalidNumberError ?m_InvalidFormatError ?kc_InvalidFormatError ?m_NotClosedError ?kc_NotClosedError ?m_TooSmallError ?kc_TooSmallError ?m_OverfullError ?kc_OverfullError ?m_SealedError ?kc_SealedError ?m_FullError ?kc_FullError ?m_StartedError ?kc_StartedError ?m_NotStartedError ?kc_NotStartedError ?m_EmptyHistoryError ?kc_EmptyHistoryError ?m_TooMuchError ?kc_TooMuchError ?m_TooManyError ?kc_TooManyError ?m_is_whole ?l_is_whole ?k_is_whole ?e_is_whole ?i_Ratio_init ?f_Ratio_init ?l_Ratio_init ?k_Ratio_init ?e_Ratio_init ?t_Ratio_init_ ?mk_Ratio ?pa_Ratio_top ?pg_Ratio_top ?pt_Ratio_top ?pr_Ratio_top ?l_Ratio_top ?k_Ratio_top ?e_Ratio_top ?pa_Ratio_bottom ?pg_Ratio_bottom ?pt_Ratio_bottom ?pr_Ratio_bottom ?l_Ratio_bottom ?k_Ratio_bottom ?e_Ratio_bottom ?m_is_ratio ?l_is_ratio ?k_is_ratio ?e_is_ratio ?i_Ratio_eq ?f_Ratio_eq ?l_Ratio_eq ?k_Ratio_eq ?e_Ratio_eq ?i_Ratio_add ?f_Ratio_add ?l_Ratio_add ?k_Ratio_add ?e_Ratio_add ?i_Ratio_over ?f_Ratio_over ?l_Ratio_over ?k_Ratio_over ?e_Ratio_over ?i_Ratio_is_less ?f_Ratio_is_less ?l_Ratio_is_less ?k_Ratio_is_less ?e_Ratio_is_less ?m_total ?l_total ?k_total ?e_total ?m_law_source ?l_law_source ?k_law_source ?e_law_source ?m_law_draw ?l_law_draw ?k_law_draw ?e_law_draw ?m_law_size ?l_law_size ?k_law_size ?e_law_size ?m_law_pair ?l_law_pair ?k_law_pair ?e_law_pair ?m_law_holds ?l_law_holds ?k_law_holds ?e_law_holds ?m_law ?l_law ?k_law ?e_law ?m_law_name_of ?l_law_name_of ?k_law_name_of ?e_law_name_of ?m_law_outcome ?l_law_outcome ?k_law_outcome ?e_law_outcome ?sg_ ?st_ ?ki_int_Ratio ?ki_tuple_Ratio ?ki_list_Ratio ?ki_NoneType_Ratio ?ki_bool_Ratio ?ki_str_Ratio ?ki_dict_Ratio ?ki_Ratio_Ratio ?ki_InvalidRatioError_InvalidRatioError ?ki_InvalidRatioError_ZeroRatioError ?ki_InvalidRatioError_InvalidMixtureError ?ki_InvalidRatioError_InvalidSubstanceError ?ki_InvalidRatioError_InvalidVolumesError ?ki_InvalidRatioError_InvalidTransfersError ?ki_InvalidRatioError_InvalidVesselError ?ki_InvalidRatioError_InvalidRowsError ?ki_InvalidRatioError_InvalidContentsError ?ki_InvalidRatioError_InvalidGroupError ?ki_InvalidRatioError_InvalidNumberError ?ki_InvalidRatioError_InvalidFormatError ?ki_InvalidRatioError_NotClosedError ?ki_InvalidRatioError_TooSmallError ?ki_InvalidRatioError_OverfullError ?ki_InvalidRatioError_SealedError ?ki_InvalidRatioError_FullError ?ki_InvalidRatioError_StartedError ?ki_InvalidRatioError_NotStartedError ?ki_InvalidRatioError_EmptyHistoryError ?ki_InvalidRatioError_TooMuchError ?ki_InvalidRatioError_TooManyError ?ki_ZeroRatioError_InvalidRatioError ?ki_ZeroRatioError_ZeroRatioError ?ki_ZeroRatioError_InvalidMixtureError ?ki_ZeroRatioError_InvalidSubstanceError ?ki_ZeroRatioError_InvalidVolumesError ?ki_ZeroRatioError_InvalidTransfersError ?ki_ZeroRatioError_InvalidVesselError ?ki_ZeroRatioError_InvalidRowsError ?ki_ZeroRatioError_InvalidContentsError ?ki_ZeroRatioError_InvalidGroupError ?ki_ZeroRatioError_InvalidNumberError ?ki_ZeroRatioError_InvalidFormatError ?ki_ZeroRatioError_NotClosedError ?ki_ZeroRatioError_TooSmallError ?ki_ZeroRatioError_OverfullError ?ki_ZeroRatioError_SealedError ?ki_ZeroRatioError_FullError ?ki_ZeroRatioError_StartedError ?ki_ZeroRatioError_NotStartedError ?ki_ZeroRatioError_EmptyHistoryError ?ki_ZeroRatioError_TooMuchError ?ki_ZeroRatioError_TooManyError ?ki_InvalidRatioError_ValueError ?ki_ZeroRatioError_ValueError ?ki_Ratio_int ?ki_Ratio_bool ?z_isinstance ?z_int ?z_bool ?z_max ?z_min ?z_len ?z_abs ?z_repr ?z_range ?z_enumerate ?z_str ?z_list ?z_tuple ?z_type ?z_ValueError ?mi_gcd
      (case m_Ratio => k_is)
      (case kc_Ratio => k_is)
      (case pg_Ratio => k_is)
      (case hd_Ratio => k_is)
      (case po_Ratio => k_is)
      (case sa_Ratio => k_is)
      (case cc_Ratio => k_is)
      (case mo_Ratio => k_is)
      (case sf_Ratio => k_is)
      (case ne_Ratio => k_is)
      (case fai_Ratio => k_is)
      (case fab_Ratio => k_is)
      (case fas_Ratio => k_is)
      (case fan_Ratio => k_is)
      (case fal_Ratio => k_is)
      (case fat_Ratio => k_is)
      (case fad_Ratio => k_is)
      (case na_Ratio_top => k_is)
      (case na_Ratio_bottom => k_is)
      (case m_StirError => k_is)
      (case kc_StirError => k_is)
      (case eb_StirError => k_is)
      (case et_StirError => k_is)
      (case eh_StirError => k_is)
      (case m_InvalidRatioError => k_is)
      (case kc_InvalidRatioError => k_is)
      (case eb_InvalidRatioError => k_is)
      (case et_InvalidRatioError => k_is)
      (case eh_InvalidRatioError => k_is)
      (case ex_InvalidRatioError => k_exc)
      (case eg_InvalidRatioError => k_is)
      (case ek_InvalidRatioError => k_is)
      (case ec_InvalidRatioError => k_is)
      (case em_InvalidRatioError => k_is)
      (case es_InvalidRatioError_StirError => k_is)
      (case m_ZeroRatioError => k_is)
      (case kc_ZeroRatioError => k_is)
      (case eb_ZeroRatioError => k_is)
      (case et_ZeroRatioError => k_is)
      (case eh_ZeroRatioError => k_is)
      (case ex_ZeroRatioError => k_exc)
      (case eg_ZeroRatioError => k_is)
      (case ek_ZeroRatioError => k_is)
      (case ec_ZeroRatioError => k_is)
      (case em_ZeroRatioError => k_is)
      (case es_ZeroRatioError_StirError => k_is)
      (case m_InvalidMixtureError => k_is)
      (case kc_InvalidMixtureError => k_is)
      (case m_InvalidSubstanceError => k_is)
      (case kc_InvalidSubstanceError => k_is)
      (case m_InvalidVolumesError => k_is)
      (case kc_InvalidVolumesError => k_is)
      (case m_InvalidTransfersError => k_is)
      (case kc_InvalidTransfersError => k_is)
      (case m_InvalidVesselError => k_is)
      (case kc_InvalidVesselError => k_is)
      (case m_InvalidRowsError => k_is)
      (case kc_InvalidRowsError => k_is)
      (case m_InvalidContentsError => k_is)
      (case kc_InvalidContentsError => k_is)
      (case m_InvalidGroupError => k_is)
      (case kc_InvalidGroupError => k_is)
      (case m_InvalidNumberError => k_is)
      (case kc_InvalidNumberError => k_is)
      (case m_InvalidFormatError => k_is)
      (case kc_InvalidFormatError => k_is)
      (case m_NotClosedError => k_is)
      (case kc_NotClosedError => k_is)
      (case m_TooSmallError => k_is)
      (case kc_TooSmallError => k_is)
      (case m_OverfullError => k_is)
      (case kc_OverfullError => k_is)
      (case m_SealedError => k_is)
      (case kc_SealedError => k_is)
      (case m_FullError => k_is)
      (case kc_FullError => k_is)
      (case m_StartedError => k_is)
      (case kc_StartedError => k_is)
      (case m_NotStartedError => k_is)
      (case kc_NotStartedError => k_is)
      (case m_EmptyHistoryError => k_is)
      (case kc_EmptyHistoryError => k_is)
      (case m_TooMuchError => k_is)
      (case kc_TooMuchError => k_is)
      (case m_TooManyError => k_is)
      (case kc_TooManyError => k_is)
      (case m_is_whole => k_is)
      (case l_is_whole => k_is)
      (case k_is_whole => k_is)
      (case e_is_whole => k_is)
      (case i_Ratio_init => k_is)
      (case f_Ratio_init => k_is)
      (case l_Ratio_init => k_is)
      (case k_Ratio_init => k_is)
      (case e_Ratio_init => k_is)
      (case t_Ratio_init_ => k_is)
      (case mk_Ratio => k_is)
      (case pa_Ratio_top => k_is)
      (case pg_Ratio_top => k_is)
      (case pt_Ratio_top => k_is)
      (case pr_Ratio_top => k_is)
      (case l_Ratio_top => k_is)
      (case k_Ratio_top => k_is)
      (case e_Ratio_top => k_is)
      (case pa_Ratio_bottom => k_is)
      (case pg_Ratio_bottom => k_is)
      (case pt_Ratio_bottom => k_is)
      (case pr_Ratio_bottom => k_is)
      (case l_Ratio_bottom => k_is)
      (case k_Ratio_bottom => k_is)
      (case e_Ratio_bottom => k_is)
      (case m_is_ratio => k_is)
      (case l_is_ratio => k_is)
      (case k_is_ratio => k_is)
      (case e_is_ratio => k_is)
      (case i_Ratio_eq => k_is)
      (case f_Ratio_eq => k_is)
      (case l_Ratio_eq => k_is)
      (case k_Ratio_eq => k_is)
      (case e_Ratio_eq => k_is)
      (case i_Ratio_add => k_is)
      (case f_Ratio_add => k_is)
      (case l_Ratio_add => k_is)
      (case k_Ratio_add => k_is)
      (case e_Ratio_add => k_is)
      (case i_Ratio_over => k_is)
      (case f_Ratio_over => k_is)
      (case l_Ratio_over => k_is)
      (case k_Ratio_over => k_is)
      (case e_Ratio_over => k_is)
      (case i_Ratio_is_less => k_is)
      (case f_Ratio_is_less => k_is)
      (case l_Ratio_is_less => k_is)
      (case k_Ratio_is_less => k_is)
      (case e_Ratio_is_less => k_is)
      (case m_total => k_is)
      (case l_total => k_is)
      (case k_total => k_is)
      (case e_total => k_is)
      (case m_law_source => k_is)
      (case l_law_source => k_is)
      (case k_law_source => k_is)
      (case e_law_source => k_is)
      (case m_law_draw => k_is)
      (case l_law_draw => k_is)
      (case k_law_draw => k_is)
      (case e_law_draw => k_is)
      (case m_law_size => k_is)
      (case l_law_size => k_is)
      (case k_law_size => k_is)
      (case e_law_size => k_is)
      (case m_law_pair => k_is)
      (case l_law_pair => k_is)
      (case k_law_pair => k_is)
      (case e_law_pair => k_is)
      (case m_law_holds => k_is)
      (case l_law_holds => k_is)
      (case k_law_holds => k_is)
      (case e_law_holds => k_is)
      (case m_law => k_is)
      (case l_law => k_is)
      (case k_law => k_is)
      (case e_law => k_is)
      (case m_law_name_of => k_is)
      (case l_law_name_of => k_is)
      (case k_law_name_of => k_is)
      (case e_law_name_of => k_is)
      (case m_law_outcome => k_is)
      (case l_law_outcome => k_is)
      (case k_law_outcome => k_is)
      (case e_law_outcome => k_is)
      (case sg_ => k_is)
      (case st_ => k_is)
      (case ki_int_Ratio => kit_is)
      (case ki_tuple_Ratio => kit_is)
      (case ki_list_Ratio => kit_is)
      (case ki_NoneType_Ratio => kit_is)
      (case ki_bool_Ratio => kit_is)
      (case ki_str_Ratio => kit_is)
      (case ki_dict_Ratio => kit_is)
      (case ki_Ratio_Ratio => kit_is)
      (case ki_InvalidRatioError_InvalidRatioError => kit_is)
      (case ki_InvalidRatioError_ZeroRatioError => kit_is)
      (case ki_InvalidRatioError_InvalidMixtureError => kit_is)
      (case ki_InvalidRatioError_InvalidSubstanceError => kit_is)
      (case ki_InvalidRatioError_InvalidVolumesError => kit_is)
      (case ki_InvalidRatioError_InvalidTransfersError => kit_is)
      (case ki_InvalidRatioError_InvalidVesselError => kit_is)
      (case ki_InvalidRatioError_InvalidRowsError => kit_is)
      (case ki_InvalidRatioError_InvalidContentsError => kit_is)
      (case ki_InvalidRatioError_InvalidGroupError => kit_is)
      (case ki_InvalidRatioError_InvalidNumberError => kit_is)
      (case ki_InvalidRatioError_InvalidFormatError => kit_is)
      (case ki_InvalidRatioError_NotClosedError => kit_is)
      (case ki_InvalidRatioError_TooSmallError => kit_is)
      (case ki_InvalidRatioError_OverfullError => kit_is)
      (case ki_InvalidRatioError_SealedError => kit_is)
      (case ki_InvalidRatioError_FullError => kit_is)
      (case ki_InvalidRatioError_StartedError => kit_is)
      (case ki_InvalidRatioError_NotStartedError => kit_is)
      (case ki_InvalidRatioError_EmptyHistoryError => kit_is)
      (case ki_InvalidRatioError_TooMuchError => kit_is)
      (case ki_InvalidRatioError_TooManyError => kit_is)
      (case ki_ZeroRatioError_InvalidRatioError => kit_is)
      (case ki_ZeroRatioError_ZeroRatioError => kit_is)
      (case ki_ZeroRatioError_InvalidMixtureError => kit_is)
      (case ki_ZeroRatioError_InvalidSubstanceError => kit_is)
      (case ki_ZeroRatioError_InvalidVolumesError => kit_is)
      (case ki_ZeroRatioError_InvalidTransfersError => kit_is)
      (case ki_ZeroRatioError_InvalidVesselError => kit_is)
      (case ki_ZeroRatioError_InvalidRowsError => kit_is)
      (case ki_ZeroRatioError_InvalidContentsError => kit_is)
      (case ki_ZeroRatioError_InvalidGroupError => kit_is)
      (case ki_ZeroRatioError_InvalidNumberError => kit_is)
      (case ki_ZeroRatioError_InvalidFormatError => kit_is)
      (case ki_ZeroRatioError_NotClosedError => kit_is)
      (case ki_ZeroRatioError_TooSmallError => kit_is)
      (case ki_ZeroRatioError_OverfullError => kit_is)
      (case ki_ZeroRatioError_SealedError => kit_is)
      (case ki_ZeroRatioError_FullError => kit_is)
      (case ki_ZeroRatioError_StartedError => kit_is)
      (case ki_ZeroRatioError_NotStartedError => kit_is)
      (case ki_ZeroRatioError_EmptyHistoryError => kit_is)
      (case ki_ZeroRatioError_TooMuchError => kit_is)
      (case ki_ZeroRatioError_TooManyError => kit_is)
      (case ki_InvalidRatioError_ValueError => kit_is)
      (case ki_ZeroRatioError_ValueError => kit_is)
      (case ki_Ratio_int => kit_is)
      (case ki_Ratio_bool => kit_is)
      (case z_isinstance => k_is)
      (case z_int => k_is)
      (case z_bool => k_is)
      (case z_max => k_is)
      (case z_min => k_is)
      (case z_len => k_is)
      (case z_abs => k_is)
      (case z_repr => k_is)
      (case z_range => k_is)
      (case z_enumerate => k_is)
      (case z_str => k_is)
      (case z_list => k_is)
      (case z_tuple => k_is)
      (case z_type => k_is)
      (case z_ValueError => k_is)
      (case mi_gcd => k_is)
