import PyProof.Rows.All
import Wide.All
import OpenK.AllK
import Wide.FinOn
import HandS.ForMost
import HandS.Evl
import HandS.Zip
import HandS.RaiseMore
import PyProof.ReprRoads
import HandS.IsInst
import HandS.Defaults
import HandS.Walk
import HandS.TryOnly
import HandS.StrMore
import HandS.SetFor
import HandS.Strs
import HandS.TupLe
import PySem.Challenge.RW_tidewaits_k02_waits_and_costs
set_option Elab.async false
set_option linter.all false
set_option maxRecDepth 100000
set_option maxHeartbeats 4000000
namespace Tw
open PySem PySem.Spec PyProof.Rows L2 Evl
/-! data that stays -/
mutual
theorem dp_ex {K : PySem.W.Frag} {H H' : Hp} (e : Ex H H') : ∀ {v : V} {d : PyData}, Dp K H v d → Dp K H' v d
  | _, _, .non => .non
  | _, _, .bl b => .bl b
  | _, _, .int i => .int i
  | _, _, .str x => .str x
  | _, _, .lst h a => .lst (ex_l e h) (dpa_ex e a)
  | _, _, .tup h a => .tup (ex_t e h) (dpa_ex e a)
theorem dpa_ex {K : PySem.W.Frag} {H H' : Hp} (e : Ex H H') : ∀ {vs : List V} {ds : List PyData}, DpAll K H vs ds → DpAll K H' vs ds
  | _, _, .nil => .nil
  | _, _, .cons h a => .cons (dp_ex e h) (dpa_ex e a)
end
/-! repr of data -/
section
variable {X : Cx}
def rRepr (K : PySem.W.Frag) : List V → Hp → VK → Prop := fun xs H Q => ∃ (a : Addr) (d : PyData), xs = [.ref a] ∧ Dp K H (.ref a) d ∧ d.showable = true ∧ d.hasDict = false ∧ d.depth ≤ 60 ∧ d.shown.length ≤ sizeLine ∧ Q (.str d.shown) H
theorem call_repr (hg : X.A.guards = some []) (hu : X.A.units + 64 < cLine) : CallR X (.builtin "repr") (rRepr X.K) := by
  intro pins s σ H xs us Q I r h
  obtain ⟨a, d, rfl, hd, hs, hn, hz, hl, q⟩ := h
  cases r with
  | cons r1 r2 =>
    cases r2
    cases r1
    obtain ⟨as, rd⟩ := Dp.reads I d _ _ hd rfl
    exact repr_of_reads' rd hs (PyData.noDict_hsm hn) hg (by omega) (fun _ _ e => e) (fun h' u tk hk => ⟨.str d.shown, H, I.kept hk, ⟨u, rfl⟩, q⟩) hl
end
end Tw

set_option Elab.async false
set_option linter.all false
set_option maxRecDepth 100000
set_option maxHeartbeats 4000000
namespace Tw
open PySem PySem.Spec PyProof.Rows L2 Evl
/-! a def's promise where no repr is under way -/
structure FnG (P : Program) (w : World) (K : PySem.W.Frag) (mg : Str → Option Value) (base : Heap) (k : Nat) (f : Addr) (fd : FuncData) (ps : List Str) (sp : Sp) : Prop where
  len : ∀ vs H Q E, sp vs H Q E → vs.length = ps.length
  run : ∀ (A : Around) (outer : List Env) (s : Shared) (H : Hp) (args : Args) (us : List Value) (vs : List V) (Q : VK) (E : XK), A.guards = some [] → Room k A →
    Env0 P w K mg base A outer s H → BindsTo s fd args (ps.zip us) → Vals vs us → sp vs H Q E →
    codeAny (model P w) A (.call (.ref f) args) (CR CX0 outer P w H s Q E) s
theorem fnG_of {P : Program} {w : World} {K : PySem.W.Frag} {mg : Str → Option Value} {base : Heap} {x qual : Str} {st : Stmt} {f : Addr} {fd : FuncData} {N ps : List Str} {k : Nat} {sp : Sp}
    (F : Fun K x qual st f fd) (S : FnScope N ps (defScope st)) (len : ∀ vs H Q E, sp vs H Q E → vs.length = ps.length)
    (body : ∀ (cdv : Value) (A : Around) (outer : List Env) (s : Shared) (H : Hp) (vs : List V) (Q : VK) (E : XK), A.guards = some [] → Room k (A.deeper (envOfC qual (defScope st) s.heap.objs.size f cdv)) → sp vs H Q E →
      ∃ t, PSs (cxOf CX0 P w K mg base N qual (defScope st) f cdv A outer s H E).nox (defBody st) t ∧ t { nx := fun _ H' => Q .non H', rt := Q } (start N vs) H) :
    FnG P w K mg base (k + 1) f fd ps sp := by
  obtain ⟨_, _, _, _, _, _, cdv, _, _, rfl, lk, hcd⟩ := F.ex
  constructor
  · exact len
  intro A outer s H args us vs Q E gd room e0 bt rv hq
  have lenV := len _ _ _ _ hq
  have kin : K.In s.heap := by
    have h := e0.mod.kin
    exact h.keeps fun c u z => (e0.bs c u z).1
  have nol : s.heap.NoLimit := by
    have h := e0.mod.nolimit
    exact h.keeps fun c u z => (e0.bs c u z).1
  have kinds : ∀ y ∈ ps.zip us, (defScope st).names.lookup y.1 = some .local ∨
      ((defScope st).names.lookup y.1 = some .cell ∧ ((cellsFrom (s.heap.objs.size + 1) (defScope st).names []).lookup y.1).isSome = true) := by
    rintro ⟨n, u⟩ hy
    have hn := (List.of_mem_zip hy).1
    cases S.par n hn with
    | inl h => exact .inl h
    | inr h => exact .inr ⟨h, PySem.W.cellsFrom_some _ _ _ (.inl h)⟩
  refine codeAny_call_function room.depth (kin _ _ lk) rfl S.co S.gen rfl
    (PySem.W.codeRec_of kin hcd) (bt _ _ _ _ ?_)
  refine wpAny_newFunctionEnv_cells S.kind kinds ?_
  intro env he s1 inc
  cases he
  refine ⟨nol.keeps inc.toInCall.keep, codeAny_func ?_⟩
  obtain ⟨t, ht', hb⟩ := body cdv A outer s H vs Q E gd (room.deeper _) hq
  have ht := ht'.nox
  have J := inv_start (CX := CX0) (E := E) S room.hd e0 lenV rv inc
  have goal := ht.run [] s1 (start N vs) H _ J hb
  refine wpAny_mono goal ?_ ?_
  · intro fl s' hs
    cases fl with
    | ret u =>
      obtain ⟨v, σ', H', I, r, q⟩ := hs
      exact ⟨v, H', I.os, I.bare, I.base, I.hok, r, q⟩
    | next =>
      obtain ⟨σ', H', I, q⟩ := hs
      exact ⟨.non, H', I.os, I.bare, I.base, I.hok, rfl, q⟩
    | brk =>
      obtain ⟨_, _, _, q⟩ := hs
      exact q.elim
    | cont =>
      obtain ⟨_, _, _, q⟩ := hs
      exact q.elim
  · intro e s' hs
    exact hs
theorem law_callG {P : Program} {w : World} {K : PySem.W.Frag} {mg mb : Str → Option Value} {k : Nat} {fa a : Addr} {fd : FuncData} {x : Str} {sp : Sp} {s₁ : Shared} {vs : List Value} {ns : List Int}
    (KX : K.In s₁.heap) (gl : s₁.heap.Ns mainGlobals mg) (bl : s₁.heap.Ns builtinsNs mb) (bb : ∀ x : Str, x ≠ "__name__" → mb x = bootBuiltins x) (nl : s₁.heap.NoLimit) (ng : s₁.gens = #[])
    (ha : s₁.heap.get? a = some { cls := .type "list", data := .seq vs.toArray }) (hi : IntsAre vs ns) (hl : ns.length ≤ sizeLine) (room : Room k callerA)
    (F : ∀ base : Heap, K.In base → base.Ns mainGlobals mg → FnG P w K mg base k fa fd [x] sp) (bt : ∀ (s : Shared) (u : Value), BindsTo s fd ⟨[u], []⟩ [(x, u)])
    (hsp : ∀ H : Hp, SqL K H a (ns.map V.int) → sp [.ref a] H (fun v _ => v = .bl true) fun _ _ _ => False) :
    codeAny (model P w) callerA (.call (.ref fa) ⟨[.ref a], []⟩) (fun r s' => r = .ok (.ret (.bool true)) ∧ OldK s₁.heap s'.heap ∧ s'.os = s₁.os ∧ AllBare s'.gens) s₁ := by
  have rv := vals_ints hi
  have lenV := hi.length
  have main : ∀ H : Hp, Only H → SqL K H a (ns.map V.int) → HOk P w H s₁.heap → (∀ b, H b ≠ none → b = a) → (H a ≠ none → K.lookup a = none) →
      codeAny (model P w) callerA (.call (.ref fa) ⟨[.ref a], []⟩) (fun r s' => r = .ok (.ret (.bool true)) ∧ OldK s₁.heap s'.heap ∧ s'.os = s₁.os ∧ AllBare s'.gens) s₁ := by
    intro H only sq hok onlyA notK
    have hide : ∀ {b : Addr} {m : Str → Option Value}, s₁.heap.Ns b m → (hidT s₁.heap H).Ns b m := by
      rintro b m ⟨o, es, ep, e1, e2, r⟩
      refine ⟨o, es, ep, hidT_get e1 ?_, e2, r⟩
      cases q : H b with
      | none => rfl
      | some u =>
        have eb : b = a := onlyA b (by rw [q]; exact Option.some_ne_none u)
        subst eb
        rw [ha] at e1
        cases e1
        cases e2
    have kinB : K.In (hidT s₁.heap H) := by
      intro b o e
      refine hidT_get (KX b o e) ?_
      cases q : H b with
      | none => rfl
      | some u =>
        have eb : b = a := onlyA b (by rw [q]; exact Option.some_ne_none u)
        subst eb
        have := notK (by rw [q]; exact Option.some_ne_none u)
        rw [this] at e
        cases e
    obtain ⟨mc, c1, c2⟩ := nl
    have md : Mod K mg (hidT s₁.heap H) := ⟨kinB, hide gl, ⟨mb, hide bl, bb⟩, ⟨mc, hide c1, c2⟩⟩
    have env : Env0 P w K mg (hidT s₁.heap H) callerA [] s₁ H := by
      refine ⟨rfl, md, fun b o e => of_hidT e, Nat.le_of_eq (hidT_size _ _), trivial, ?_, hok, .of_eq ng⟩
      intro b hb
      exact absurd (show b ∈ ([] : List Addr) from hb) List.not_mem_nil
    have FF := F _ kinB (hide gl)
    have go := FF.run callerA [] s₁ H ⟨[.ref a], []⟩ [.ref a] [.ref a] _ _ rfl room env (bt s₁ (.ref a)) (.cons rfl .nil) (hsp H sq)
    refine codeAny_mono go ?_
    intro r s' hr
    match r, hr with
    | .error e, hr => exact False.elim hr
    | .ok .next, hr => exact False.elim hr
    | .ok .brk, hr => exact False.elim hr
    | .ok .cont, hr => exact False.elim hr
    | .ok (.ret u), hr =>
      obtain ⟨v, H', os, bare, un, hok', r', q⟩ := hr
      cases (show v = .bl true from q)
      cases (show u = Value.bool true from r')
      refine ⟨rfl, OldK.of_keep ?_, os, bare⟩
      intro b o e
      cases q : H b with
      | none => exact un.keep b o e q (fun z => absurd (show b ∈ ([] : List Addr) from z) List.not_mem_nil) (fun z => absurd z List.not_mem_nil)
      | some u =>
        rcases only b with z | ⟨ob, xs, z⟩
        · rw [q] at z
          cases z
        · obtain ⟨e1, _⟩ := hok b _ z
          obtain ⟨e2, _⟩ := hok' b _ (un.frzs b ob _ z)
          rw [e] at e1
          cases e1
          exact e2
  cases hk : K.lookup a with
  | some o =>
    have e := KX a o hk
    rw [ha] at e
    cases e
    refine main (fun _ => none) (fun _ => .inl rfl) (.inr ⟨_, vs.toArray, _, hk, rfl, rfl, rfl, ?_, by simpa using rv⟩) (fun b u z => by cases z) (fun b z => absurd rfl z) fun z => absurd rfl z
    rw [List.size_toArray, lenV]
    exact hl
  | none =>
    let Ha : Hp := fun b => if b = a then some (.frz { cls := .type "list", data := .seq vs.toArray } (.lst (ns.map V.int))) else none
    have at_a : Ha a = some (.frz { cls := .type "list", data := .seq vs.toArray } (.lst (ns.map V.int))) := if_pos rfl
    have off : ∀ b, b ≠ a → Ha b = none := fun b hb => if_neg hb
    refine main Ha ?_ (.inl (.inr ⟨_, at_a⟩)) ?_ ?_ fun _ => hk
    · intro b
      by_cases hb : b = a
      · subst hb
        exact .inr ⟨_, _, at_a⟩
      · exact .inl (off b hb)
    · intro b u z
      by_cases hb : b = a
      · subst hb
        rw [at_a] at z
        cases z
        exact ⟨ha, by rw [List.length_map]; exact hl, vs, _, rv, ha⟩
      · rw [off b hb] at z
        cases z
    · intro b z
      by_cases hb : b = a
      · exact hb
      · exact absurd (off b hb) z
theorem walk_G {l : PySem.W.OpenLaw} {n k : Nat} {q : Program} {loose : List Str} {XP : (Str → Option Value) → Heap → Prop} {YP : World → Heap → Prop} {d : DefRec} {K : Params → PySem.W.Frag} {sp : PySem.W.Frag → Sp} {x : Str}
    (hn : l.most = some n) (hn2 : n ≤ sizeLine) (hdf : d.params.defaults = []) (room : Room k callerA) (hY : ∀ (w : World) (h : Heap), YP w h → (K w.params).In h)
    (F : ∀ (w : World) (mg : Str → Option Value) (fa : Addr) (h : Heap), (K w.params).In h → h.Ns mainGlobals mg → mg d.name = some (.ref fa) →
      ∃ fd : FuncData, (∀ (s : Shared) (u : Value), BindsTo s fd ⟨[u], []⟩ [(x, u)]) ∧
        ∀ base : Heap, (K w.params).In base → base.Ns mainGlobals mg → FnG l.prog w (K w.params) mg base k fa fd [x] (sp (K w.params)))
    (hsp : ∀ (K : PySem.W.Frag) (H : Hp) (a : Addr) (ns : List Int), ns.length ≤ n → SqL K H a (ns.map V.int) → sp K [.ref a] H (fun v _ => v = .bl true) fun _ _ _ => False) :
    PySem.W.WalkO q loose XP YP l.row.toRowW d [] (fun f vs => PySem.call f vs) := by
  refine Att.attach_call hn hdf ?_
  intro w s₀ s₁ mg mb fa o pm cd doc a vs ns G Y ho hd hcd hmg hobj hints hlen hg
  have KX := hY w _ Y
  obtain ⟨fd, hb, hF⟩ := F w mg fa _ KX G.T.g hmg
  exact law_callG KX G.T.g G.T.b G.T.builtins G.T.nolimit hg hobj hints (Nat.le_trans hlen hn2) room hF hb fun H hS => hsp _ H a ns hlen hS
end Tw

set_option Elab.async false
set_option linter.all false
set_option maxRecDepth 100000
set_option maxHeartbeats 4000000
namespace Tw
open PySem PySem.Spec PyProof.Rows L2 Evl
/-! data, its lists plain -/
mutual
inductive Da (K : PySem.W.Frag) (H : Hp) : V → PyData → Prop
  | non : Da K H .non .none
  | bl (b : Bool) : Da K H (.bl b) (.bool b)
  | int (i : Int) : Da K H (.int i) (.int i)
  | str (x : Str) : Da K H (.str x) (.str x)
  | lst {a : Addr} {xs : List V} {ds : List PyData} : H a = some (.lst xs) → DaAll K H xs ds → Da K H (.ref a) (.list ds)
  | tup {a : Addr} {xs : List V} {ds : List PyData} : SqT K H a xs → DaAll K H xs ds → Da K H (.ref a) (.tuple ds)
inductive DaAll (K : PySem.W.Frag) (H : Hp) : List V → List PyData → Prop
  | nil : DaAll K H [] []
  | cons {v : V} {vs : List V} {d : PyData} {ds : List PyData} : Da K H v d → DaAll K H vs ds → DaAll K H (v :: vs) (d :: ds)
end
section
variable {K : PySem.W.Frag} {H H' : Hp}
mutual
theorem da_ex (e : Ex H H') : ∀ {v : V} {d : PyData}, Da K H v d → Da K H' v d
  | _, _, .non => .non
  | _, _, .bl b => .bl b
  | _, _, .int i => .int i
  | _, _, .str x => .str x
  | _, _, .lst h a => .lst (e _ _ h) (daa_ex e a)
  | _, _, .tup h a => .tup (ex_t e h) (daa_ex e a)
theorem daa_ex (e : Ex H H') : ∀ {vs : List V} {ds : List PyData}, DaAll K H vs ds → DaAll K H' vs ds
  | _, _, .nil => .nil
  | _, _, .cons h a => .cons (da_ex e h) (daa_ex e a)
end
mutual
theorem da_dp : ∀ {v : V} {d : PyData}, Da K H v d → Dp K H v d
  | _, _, .non => .non
  | _, _, .bl b => .bl b
  | _, _, .int i => .int i
  | _, _, .str x => .str x
  | _, _, .lst h a => .lst (sq_of h) (daa_dp a)
  | _, _, .tup h a => .tup h (daa_dp a)
theorem daa_dp : ∀ {vs : List V} {ds : List PyData}, DaAll K H vs ds → DpAll K H vs ds
  | _, _, .nil => .nil
  | _, _, .cons h a => .cons (da_dp h) (daa_dp a)
end
theorem daa_len : ∀ {vs : List V} {ds : List PyData}, DaAll K H vs ds → vs.length = ds.length
  | _, _, .nil => rfl
  | _, _, .cons _ a => by rw [List.length_cons, List.length_cons, daa_len a]
theorem daa_get : ∀ {vs : List V} {ds : List PyData}, DaAll K H vs ds → ∀ (i : Nat) (d : PyData), ds[i]? = some d → ∃ v, vs[i]? = some v ∧ Da K H v d
  | _, _, .nil, i, d, h => by simp at h
  | _, _, .cons (v := v) h a, 0, d, e => ⟨v, rfl, by
      have e' := Option.some.inj e
      rw [← e']
      exact h⟩
  | _, _, .cons h a, i + 1, d, e => daa_get a i d e
theorem daa_getV : ∀ {vs : List V} {ds : List PyData}, DaAll K H vs ds → ∀ (i : Nat) (v : V), vs[i]? = some v → ∃ d, ds[i]? = some d ∧ Da K H v d
  | _, _, .nil, i, d, h => by simp at h
  | _, _, .cons (d := d) h a, 0, v, e => ⟨d, rfl, by
      have e' := Option.some.inj e
      rw [← e']
      exact h⟩
  | _, _, .cons h a, i + 1, v, e => daa_getV a i v e
theorem daa_app : ∀ {vs ws : List V} {ds es : List PyData}, DaAll K H vs ds → DaAll K H ws es → DaAll K H (vs ++ ws) (ds ++ es)
  | _, _, _, _, .nil, b => b
  | _, _, _, _, .cons h a, b => .cons h (daa_app a b)
theorem daa_drop : ∀ {vs : List V} {ds : List PyData} (n : Nat), DaAll K H vs ds → DaAll K H (vs.drop n) (ds.drop n)
  | _, _, 0, h => h
  | _, _, n + 1, .nil => .nil
  | _, _, n + 1, .cons _ a => daa_drop n a
theorem daa_take : ∀ {vs : List V} {ds : List PyData} (n : Nat), DaAll K H vs ds → DaAll K H (vs.take n) (ds.take n)
  | _, _, 0, h => .nil
  | _, _, n + 1, .nil => .nil
  | _, _, n + 1, .cons h a => .cons h (daa_take n a)
theorem daa_ints : ∀ (ns : List Int), DaAll K H (ns.map V.int) (ns.map PyData.int)
  | [] => .nil
  | n :: r => .cons (.int n) (daa_ints r)
theorem daa_intsV : ∀ {ns : List Int} {vs : List V}, DaAll K H vs (ns.map PyData.int) → vs = ns.map V.int
  | [], _, .nil => rfl
  | n :: r, _, .cons (.int _) a => by rw [daa_intsV a]; rfl
theorem daa_strsV : ∀ {ns : List Str} {vs : List V}, DaAll K H vs (ns.map PyData.str) → vs = ns.map V.str
  | [], _, .nil => rfl
  | n :: r, _, .cons (.str _) a => by rw [daa_strsV a]; rfl
end
/-! what is had behind an evaluation: v tells d, by old things of the anchor H and new ones alone -/
structure Sep (H H1 H2 G : Hp) : Prop where
  up : Ex H1 H2
  an : Ex H G
  inn : Ex G H2
  sep : ∀ b, H b = none → H1 b ≠ none → G b = none
theorem Sep.refl {H H1 : Hp} (e : Ex H H1) : Sep H H1 H1 H := ⟨Ex.refl _, Ex.refl _, e, fun _ h _ => h⟩
theorem Sep.trans {H H1 H2 H3 G G2 : Hp} (a : Sep H H1 H2 G) (b : Sep G H2 H3 G2) : Sep H H1 H3 G2 :=
  ⟨a.up.trans b.up, a.an.trans b.an, b.inn, fun c h h1 => b.sep c (a.sep c h h1) fun z => by
    cases q : H1 c with
    | none => exact h1 q
    | some o =>
      rw [a.up c o q] at z
      cases z⟩
theorem Sep.new {H H1 : Hp} {p : Addr} {o : HO} (e : Ex H H1) (h : H1 p = none) : Sep H H1 (upd H1 p o) (upd H p o) := by
  have hp : H p = none := fresh_back e h
  refine ⟨Ex.new h, Ex.new hp, fun b u hb => ?_, fun b hb h1 => ?_⟩
  · by_cases q : b = p
    · subst q
      rw [upd_same] at hb ⊢
      exact hb
    · rw [upd_ne q] at hb ⊢
      exact e b u hb
  · have q : b ≠ p := fun z => by
      rw [z] at h1
      exact h1 h
    rw [upd_ne q]
    exact hb
/-- a place outside the anchor stays outside, and stays -/
theorem Sep.out {H H1 H2 G : Hp} (a : Sep H H1 H2 G) {p : Addr} {o : HO} (h : H p = none) (h1 : H1 p = some o) : G p = none ∧ H2 p = some o :=
  ⟨a.sep p h (by rw [h1]; exact Option.some_ne_none o), a.up p o h1⟩
/-- the place changes; the anchor stands -/
theorem ex_chg {G H : Hp} {p : Addr} {o : HO} (e : Ex G H) (h : G p = none) : Ex G (upd H p o) := Ex.mut e h

def ED (K : PySem.W.Frag) (te : TE) (σ : L2.St) (H : Hp) (d : PyData) : Prop :=
  ∀ H1, Ex H H1 → ∀ Q : VK, (∀ v H2 G, Sep H H1 H2 G → Da K G v d → Q v H2) → te σ H1 Q
def EDA (K : PySem.W.Frag) (ta : TA) (σ : L2.St) (H : Hp) (ds : List PyData) : Prop :=
  ∀ H1, Ex H H1 → ∀ Q : List V → Hp → Prop, (∀ vs H2 G, Sep H H1 H2 G → DaAll K G vs ds → Q vs H2) → ta σ H1 Q
section
variable {K : PySem.W.Frag} {σ : L2.St} {H H' : Hp} {ta tb te : TE} {d e : PyData} {ds es : List PyData}
theorem ED.mono (x : Ex H H') (h : ED K te σ H d) : ED K te σ H' d := fun H1 a Q q => h H1 (x.trans a) Q fun v H2 G s g => by
  -- the anchor grows: what is new stands beside it
  refine q v H2 (fun b => if (H' b).isSome then H' b else G b) ⟨s.up, fun b o hb => ?_, fun b o hb => ?_, fun b hb hb1 => ?_⟩ (da_ex (fun b o hb => ?_) g)
  · show (if (H' b).isSome then H' b else G b) = some o
    rw [hb]
    rfl
  · have hb' : (if (H' b).isSome then H' b else G b) = some o := hb
    cases z : H' b with
    | none =>
      rw [z] at hb'
      exact s.inn b o hb'
    | some u =>
      rw [z] at hb'
      have : u = o := Option.some.inj hb'
      subst this
      exact s.up b u (a b u z)
  · show (if (H' b).isSome then H' b else G b) = none
    rw [hb]
    exact s.sep b (fresh_back x hb) hb1
  · show (if (H' b).isSome then H' b else G b) = some o
    cases z : H' b with
    | none => exact hb
    | some u =>
      have h2 := s.up b u (a b u z)
      rw [s.inn b o hb] at h2
      exact h2.symm
theorem ed_is (h : ED K te σ H d) (x : d = e) : ED K te σ H e := x ▸ h
theorem ed_ev {v : V} (h : Ev te σ H v) (g : Da K H v d) : ED K te σ H d := fun H1 x Q q => h H1 x Q fun H2 x2 =>
  q v H2 H ⟨x2, Ex.refl H, x.trans x2, fun _ h _ => h⟩ g
theorem ev_int {i : Int} (h : ED K te σ H (.int i)) : Ev te σ H (.int i) := fun H1 x Q q => h H1 x Q fun v H2 G s g => by
  cases g
  exact q H2 s.up
theorem ev_bool {b : Bool} (h : ED K te σ H (.bool b)) : Ev te σ H (.bl b) := fun H1 x Q q => h H1 x Q fun v H2 G s g => by
  cases g
  exact q H2 s.up
theorem ev_str {x : Str} (h : ED K te σ H (.str x)) : Ev te σ H (.str x) := fun H1 x Q q => h H1 x Q fun v H2 G s g => by
  cases g
  exact q H2 s.up
theorem ev_non (h : ED K te σ H .none) : Ev te σ H .non := fun H1 x Q q => h H1 x Q fun v H2 G s g => by
  cases g
  exact q H2 s.up
theorem ed_var {i : Nat} {v : V} (h : σ[i]? = some (some v)) (g : Da K H v d) : ED K (tVar i) σ H d := ed_ev (ev_var h) g
theorem ed_int {i : Int} : ED K (tC (.int i)) σ H (.int i) := ed_ev ev_c (.int i)
theorem ed_str {x : Str} : ED K (tC (.str x)) σ H (.str x) := ed_ev ev_c (.str x)
theorem ed_bl {b : Bool} : ED K (tC (.bl b)) σ H (.bool b) := ed_ev ev_c (.bl b)
theorem ed_non : ED K (tC .non) σ H .none := ed_ev ev_c .non
theorem ed_op0 {g : Int → Int → V} {i j k : Int} (ha : ED K ta σ H (.int i)) (hb : ED K tb σ H (.int j)) (hg : g i j = .int k) : ED K (tOp (rI0 g) ta tb) σ H (.int k) :=
  ed_ev (ev_op (ev_int ha) (ev_int hb) rv_I0) (by rw [hg]; exact .int k)
theorem ed_opC {C : Int → Int → Prop} {g : Int → Int → V} {i j k : Int} (ha : ED K ta σ H (.int i)) (hb : ED K tb σ H (.int j)) (hc : C i j) (hg : g i j = .int k) : ED K (tOp (rI C g) ta tb) σ H (.int k) :=
  ed_ev (ev_op (ev_int ha) (ev_int hb) (rv_I hc)) (by rw [hg]; exact .int k)
theorem ed_add {i j : Int} (ha : ED K ta σ H (.int i)) (hb : ED K tb σ H (.int j)) : ED K (tOp (rI0 fun i j => .int (i + j)) ta tb) σ H (.int (i + j)) := ed_op0 ha hb rfl
theorem ed_sub {i j : Int} (ha : ED K ta σ H (.int i)) (hb : ED K tb σ H (.int j)) : ED K (tOp (rI0 fun i j => .int (i - j)) ta tb) σ H (.int (i - j)) := ed_op0 ha hb rfl
theorem ed_mul {i j : Int} (ha : ED K ta σ H (.int i)) (hb : ED K tb σ H (.int j)) (hc : CMul i j) : ED K (tOp (rI CMul fun i j => .int (i * j)) ta tb) σ H (.int (i * j)) := ed_opC ha hb hc rfl
theorem ed_mod {i j : Int} (ha : ED K ta σ H (.int i)) (hb : ED K tb σ H (.int j)) (hc : 0 < j) : ED K (tOp (rI (fun _ j => 0 < j) fun i j => .int (i % j)) ta tb) σ H (.int (i % j)) := ed_opC ha hb hc rfl
theorem ed_fdiv {i j : Int} (ha : ED K ta σ H (.int i)) (hb : ED K tb σ H (.int j)) (hc : CDiv i j) : ED K (tOp (rI CDiv fun i j => .int (i / j)) ta tb) σ H (.int (i / j)) := ed_opC ha hb hc rfl
/-- arguments -/
theorem eda_nil : EDA K tNil σ H [] := fun H1 x Q q => q [] H1 H (Sep.refl x) .nil
theorem EDA.mono' {tr : TA} : True := trivial
theorem eda_cons {tr : TA} (h : ED K te σ H d) (hr : ∀ G, Ex H G → EDA K tr σ G ds) : EDA K (tCons te tr) σ H (d :: ds) := fun H1 x Q q =>
  h H1 x _ fun v H2 G s g => hr G s.an H2 s.inn _ fun vs H3 G2 s2 g2 => q (v :: vs) H3 G2 (s.trans s2) (.cons (da_ex s2.an g) g2)
theorem ed_lst {t : TA} (h : EDA K t σ H ds) (hl : ds.length ≤ 100000) : ED K (tLst t) σ H (.list ds) := fun H1 x Q q =>
  h H1 x _ fun vs H2 G s g => ⟨by rw [daa_len g]; exact sz_of hl, fun p hp => by
    refine q (.ref p) _ (upd G p (.lst vs)) (s.trans (Sep.new s.inn hp)) (.lst upd_same (daa_ex (Ex.new (fresh_back s.inn hp)) g))⟩
theorem ed_tup {t : TA} (h : EDA K t σ H ds) (hl : ds.length ≤ 100000) : ED K (tTup t) σ H (.tuple ds) := fun H1 x Q q =>
  h H1 x _ fun vs H2 G s g => ⟨by rw [daa_len g]; exact sz_of hl, fun p hp => by
    refine q (.ref p) _ (upd G p (.tup vs)) (s.trans (Sep.new s.inn hp)) (.tup (st_of upd_same) (daa_ex (Ex.new (fresh_back s.inn hp)) g))⟩
/-- int(n) -/
theorem ed_toInt {i : Int} (h : ED K ta σ H (.int i)) : ED K (tCB (fun xs H Q => (∃ i, xs = [V.int i] ∧ Q (.int i) H) ∨ ∃ k, xs = [.bl k] ∧ Q (.int (if k then 1 else 0)) H) (tCons ta tNil)) σ H (.int i) := fun H1 x Q q =>
  ev_int h H1 x _ fun H2 x2 => .inl ⟨i, rfl, q (.int i) H2 H ⟨x2, Ex.refl H, x.trans x2, fun _ h _ => h⟩ (.int i)⟩
/-- xs[i], t[i] -/
theorem at_of {vs : List V} (g : DaAll K H vs ds) {n : Nat} (hd : ds[n]? = some d) : ∃ v, atI vs (n : Int) = some v ∧ Da K H v d := by
  obtain ⟨v, hv, gv⟩ := daa_get g n d hd
  exact ⟨v, atI_nat hv, gv⟩
theorem ed_ix {i : Int} {n : Nat} (ha : ED K ta σ H (.list ds)) (hb : ∀ G, Ex H G → ED K tb σ G (.int i)) (hi : i = n) (hd : ds[n]? = some d) : ED K (tOp (rIxL K) ta tb) σ H d := fun H1 x Q q =>
  ha H1 x _ fun v H2 G s g => ev_int (hb G s.an) H2 s.inn _ fun H3 x3 => by
    cases g with
    | @lst a xs _ e g =>
      obtain ⟨v, hv, gv⟩ := at_of g hd
      subst hi
      exact ⟨a, xs, n, v, rfl, rfl, sq_of (x3 _ _ (s.inn _ _ e)), hv, q v H3 G ⟨s.up.trans x3, s.an, s.inn.trans x3, s.sep⟩ gv⟩
theorem ed_ixT {i : Int} {n : Nat} (ha : ED K ta σ H (.tuple ds)) (hb : ∀ G, Ex H G → ED K tb σ G (.int i)) (hi : i = n) (hd : ds[n]? = some d) : ED K (tOp (rIxT K) ta tb) σ H d := fun H1 x Q q =>
  ha H1 x _ fun v H2 G s g => ev_int (hb G s.an) H2 s.inn _ fun H3 x3 => by
    cases g with
    | @tup a xs _ e g =>
      obtain ⟨v, hv, gv⟩ := at_of g hd
      subst hi
      exact ⟨a, xs, n, v, rfl, rfl, ex_t (s.inn.trans x3) e, hv, q v H3 G ⟨s.up.trans x3, s.an, s.inn.trans x3, s.sep⟩ gv⟩
/-- xs + ys -/
theorem ed_cat (ha : ED K ta σ H (.list ds)) (hb : ∀ G, Ex H G → ED K tb σ G (.list es)) (hl : ds.length + es.length ≤ 100000) : ED K (tOp rCat ta tb) σ H (.list (ds ++ es)) := fun H1 x Q q =>
  ha H1 x _ fun v H2 G s g => hb G s.an H2 s.inn _ fun w H3 G2 s2 g2 => by
    cases g with
    | @lst a xs _ e g =>
      cases g2 with
      | @lst b ys _ e2 g2 =>
        refine ⟨a, b, xs, ys, rfl, rfl, s2.up _ _ (s.inn _ _ e), s2.inn _ _ e2, by rw [daa_len g, daa_len g2]; exact sz_of hl, fun p hp => ?_⟩
        have np : G2 p = none := fresh_back s2.inn hp
        exact q (.ref p) _ (upd G2 p (.lst (xs ++ ys))) ((s.trans s2).trans (Sep.new s2.inn hp)) (.lst upd_same (daa_app (daa_ex (s2.an.trans (Ex.new np)) g) (daa_ex (Ex.new np) g2)))
/-- xs[a:b] -/
def cutD (ds : List PyData) (lo hi : Option Int) : List PyData := (ds.drop (HT.sIx ds.length 0 lo)).take (HT.sIx ds.length ds.length hi - HT.sIx ds.length 0 lo)
theorem daa_cut {vs : List V} (g : DaAll K H vs ds) (lo hi : Option Int) : DaAll K H (cutV vs lo hi) (cutD ds lo hi) := by
  unfold cutV cutD
  rw [daa_len g]
  exact daa_take _ (daa_drop _ g)
theorem ed_cut {tl th : TO} {lo hi : Option Int} (ha : ED K ta σ H (.list ds)) (h1 : ∀ G, Ex H G → EvO tl σ G lo) (h2 : ∀ G, Ex H G → EvO th σ G hi) : ED K (tSl (rSlL K) ta tl th) σ H (.list (cutD ds lo hi)) := fun H1 x Q q =>
  ha H1 x _ fun v H2 G s g => h1 G s.an H2 s.inn _ fun H3 x3 => h2 G s.an H3 (s.inn.trans x3) _ fun H4 x4 => by
    cases g with
    | @lst a xs _ e g =>
      have x34 := x3.trans x4
      refine ⟨a, xs, rfl, sq_of (x34 _ _ (s.inn _ _ e)), fun p hp => ?_⟩
      have s' : Sep H H1 H4 G := ⟨s.up.trans x34, s.an, s.inn.trans x34, s.sep⟩
      exact q (.ref p) _ (upd G p (.lst (cutV xs lo hi))) (s'.trans (Sep.new s'.inn hp)) (.lst upd_same (daa_ex (Ex.new (fresh_back s'.inn hp)) (daa_cut g lo hi)))
/-- tuple(xs) of a list -/
theorem ed_tuple (ha : ED K ta σ H (.list ds)) : ED K (tCB (fun xs H Q => ∃ p ys, xs = [V.ref p] ∧ ((SqL K H p ys ∧ ∀ l, H l = none → Q (.ref l) (upd H l (.tup ys))) ∨ (SqT K H p ys ∧ Q (.ref p) H))) (tCons ta tNil)) σ H (.tuple ds) := fun H1 x Q q =>
  ha H1 x _ fun v H2 G s g => by
    cases g with
    | @lst a xs _ e g =>
      refine ⟨a, xs, rfl, .inl ⟨sq_of (s.inn _ _ e), fun p hp => ?_⟩⟩
      exact q (.ref p) _ (upd G p (.tup xs)) (s.trans (Sep.new s.inn hp)) (.tup (st_of upd_same) (daa_ex (Ex.new (fresh_back s.inn hp)) g))
/-- s + t -/
theorem ed_adds {x y : Str} (ha : ED K ta σ H (.str x)) (hb : ED K tb σ H (.str y)) (hl : x.length + y.length ≤ sizeLine) :
    ED K (tOp (fun x y H Q => ∃ i j, x = V.str i ∧ y = V.str j ∧ i.length + j.length ≤ sizeLine ∧ Q (.str (i ++ j)) H) ta tb) σ H (.str (x ++ y)) := fun H1 x1 Q q =>
  ev_str ha H1 x1 _ fun H2 x2 => ev_str hb H2 (x1.trans x2) _ fun H3 x3 => ⟨x, y, rfl, rfl, hl, q _ H3 H ⟨x2.trans x3, Ex.refl H, (x1.trans x2).trans x3, fun _ h _ => h⟩ (.str _)⟩
/-- sep.join(xs) -/
theorem ed_join {z : Str} {ys : List Str} (ha : ED K ta σ H (.str z)) (hb : ∀ G, Ex H G → ED K tb σ G (.list (ys.map .str))) (hl : (ys.map (·.length)).sum + ys.length * z.length ≤ 16777216) :
    ED K (tM1 (fun x xs H Q => ∃ a p, ∃ ys : List Str, x = V.str a ∧ xs = [V.ref p] ∧ (SqL K H p (ys.map V.str) ∨ SqT K H p (ys.map V.str)) ∧ (ys.map (·.length)).sum + ys.length * a.length ≤ 16777216 ∧ Q (.str (Txt.join a ys)) H) ta tb) σ H (.str (Txt.join z ys)) := fun H1 x1 Q q =>
  ev_str ha H1 x1 _ fun H2 x2 => ⟨⟨z, rfl⟩, hb H (Ex.refl H) H2 (x1.trans x2) _ fun v H3 G s g => by
    cases g with
    | @lst a xs _ e g =>
      have ex := daa_strsV g
      subst ex
      exact ⟨z, a, ys, rfl, rfl, .inl (sq_of (s.inn _ _ e)), hl, q _ H3 G ⟨x2.trans s.up, s.an, s.inn, fun b h h1 => s.sep b h fun zz => by
        cases qq : H1 b with
        | none => exact h1 qq
        | some o =>
          rw [x2 b o qq] at zz
          cases zz⟩ (.str _)⟩⟩
/-- len(xs) -/
def rLenS2 (K : PySem.W.Frag) : List V → Hp → VK → Prop := fun xs H Q => ∃ p ys, xs = [.ref p] ∧ (SqL K H p ys ∨ SqT K H p ys) ∧ Q (.int ys.length) H
theorem ed_len (ha : ED K ta σ H (.list ds)) : ED K (tCB (fun xs H Q => ∃ p ys, xs = [V.ref p] ∧ (SqL K H p ys ∨ SqT K H p ys) ∧ Q (.int ys.length) H) (tCons ta tNil)) σ H (.int ds.length) := fun H1 x Q q =>
  ha H1 x _ fun v H2 G s g => by
    cases g with
    | @lst a xs _ e g =>
      refine ⟨a, xs, rfl, .inl (sq_of (s.inn _ _ e)), ?_⟩
      rw [daa_len g]
      exact q _ H2 G s (.int _)
/-- a def's promise -/
def spF (K : PySem.W.Frag) (R : List PyData → PyData → Prop) : Sp := fun vs H1 Q _ => ∃ G0 ds d, Ex G0 H1 ∧ DaAll K G0 vs ds ∧ R ds d ∧ ∀ v H2 G, Sep G0 H1 H2 G → Da K G v d → Q v H2
theorem ed_call {R : List PyData → PyData → Prop} {E : XK} {t : TA} (h : EDA K t σ H ds) (hr : R ds d) : ED K (tCall (spF K R) [] E t) σ H d := fun H1 x Q q =>
  h H1 x _ fun vs H2 G s g => ⟨G, ds, d, s.inn, by rw [List.append_nil]; exact g, hr, fun v H3 G2 s2 g2 => q v H3 G2 (s.trans s2) g2⟩
theorem spF_len {R : List PyData → PyData → Prop} {n : Nat} (h : ∀ ds d, R ds d → ds.length = n) : ∀ vs H Q E, spF K R vs H Q E → vs.length = n := by
  rintro vs H Q E ⟨G0, ds, d, _, g, hr, _⟩
  rw [daa_len g]
  exact h ds d hr
end
/-! statements: the anchor G, the heap H over it -/
section
variable {K : PySem.W.Frag} {σ : L2.St} {G H : Hp} {ta tb te : TE} {d : PyData} {ds : List PyData} {D : Ends} {tu tz : TS}
theorem d_asg {i : Nat} (h : ED K te σ G d) (x : Ex G H) (k : ∀ v H2 G2, Sep G H H2 G2 → Da K G2 v d → tz D (σ.set i (some v)) H2) : tSeq (tAsg te (gName i)) tz D σ H := h H x _ k
theorem d_asg1 {i : Nat} (h : ED K te σ G d) (x : Ex G H) (k : ∀ v H2 G2, Sep G H H2 G2 → Da K G2 v d → D.nx (σ.set i (some v)) H2) : tAsg te (gName i) D σ H := h H x _ k
theorem d_ret (h : ED K te σ G d) (x : Ex G H) (k : ∀ v H2 G2, Sep G H H2 G2 → Da K G2 v d → D.rt v H2) : tRet te D σ H := h H x _ k
/-- xs.append(e), xs outside the anchor, its items within -/
theorem d_app {l : Addr} {xs : List V} {i : Nat} (hG : G l = none) (hl : H l = some (.lst xs)) (hx : DaAll K G xs ds) (hi : σ[i]? = some (some (.ref l))) (h : ED K te σ G d) (x : Ex G H) (hz : xs.length < 100000)
    (k : ∀ v H2 G2, Sep G H H2 G2 → G2 l = none → Da K G2 v d → DaAll K G2 (xs ++ [v]) (ds ++ [d]) → Ex G2 (upd H2 l (.lst (xs ++ [v]))) → tz D σ (upd H2 l (.lst (xs ++ [v])))) :
    tSeq (tDrop (tBM K "list" rAppend (tVar i) (tCons te tNil))) tz D σ H :=
  ⟨_, hi, .inl ⟨rfl, xs, sq_of hl⟩, h H x _ fun v H2 G2 s g => by
    obtain ⟨o1, o2⟩ := s.out hG hl
    exact ⟨l, xs, v, rfl, rfl, o2, sz_lt hz, k v H2 G2 s o1 g (daa_app (daa_ex s.an hx) (.cons g .nil)) (Ex.mut s.inn o1)⟩⟩
theorem d_app1 {l : Addr} {xs : List V} {i : Nat} (hG : G l = none) (hl : H l = some (.lst xs)) (hx : DaAll K G xs ds) (hi : σ[i]? = some (some (.ref l))) (h : ED K te σ G d) (x : Ex G H) (hz : xs.length < 100000)
    (k : ∀ v H2 G2, Sep G H H2 G2 → G2 l = none → Da K G2 v d → DaAll K G2 (xs ++ [v]) (ds ++ [d]) → Ex G2 (upd H2 l (.lst (xs ++ [v]))) → D.nx σ (upd H2 l (.lst (xs ++ [v])))) :
    tDrop (tBM K "list" rAppend (tVar i) (tCons te tNil)) D σ H := d_app (tz := tNext) hG hl hx hi h x hz k
/-- a new empty list, kept outside the anchor -/
theorem d_new {i : Nat} (x : Ex G H) (k : ∀ p, H p = none → G p = none → Ex G (upd H p (.lst [])) → Ex H (upd H p (.lst [])) → tz D (σ.set i (some (.ref p))) (upd H p (.lst []))) : tSeq (tAsg (tLst tNil) (gName i)) tz D σ H :=
  ⟨Nat.zero_le _, fun p hp => k p hp (fresh_back x hp) (Ex.mut x (fresh_back x hp)) (Ex.new hp)⟩
/-- if -/
theorem d_if {t : TT} {tw : TS} {b : Bool} (h : EvT t σ G b) (x : Ex G H) (h1 : b = true → ∀ H1, Ex H H1 → tu { D with nx := tz D } σ H1) (h2 : b = false → ∀ H1, Ex H H1 → tw { D with nx := tz D } σ H1) : tSeq (tIfS t tu tw) tz D σ H := h H x _ fun H1 e => by
  cases b with
  | true => exact h1 rfl H1 e
  | false => exact h2 rfl H1 e
theorem d_if1 {t : TT} {tw : TS} {b : Bool} (h : EvT t σ G b) (x : Ex G H) (h1 : b = true → ∀ H1, Ex H H1 → tu D σ H1) (h2 : b = false → ∀ H1, Ex H H1 → tw D σ H1) : tIfS t tu tw D σ H := h H x _ fun H1 e => by
  cases b with
  | true => exact h1 rfl H1 e
  | false => exact h2 rfl H1 e
/-- for i in range(n) -/
theorem d_range {j : Nat} {n : Int} (h : ED K te σ G (.int n)) (x : Ex G H) (hn : 0 ≤ n ∧ n ≤ 100000) (Pv : Nat → L2.St → Hp → Prop) (h0 : ∀ H1, Ex H H1 → Pv 0 σ H1)
    (hs : ∀ (i : Nat) σ' H', (i : Int) < n → Pv i σ' H' → tu { D with nx := Pv (i + 1), ct := Pv (i + 1), bk := tz D } (σ'.set j (some (.int (i : Int)))) H') (hd : ∀ σ' H', Pv n.toNat σ' H' → tz D σ' H') : tSeq (tFor (iRng1 (tCons te tNil)) (gName j) tu) tz D σ H := by
  have e : EvA (tCons te tNil) σ G [.int n] := ea_cons (ev_int h) ea_nil
  exact q_forR1 (EvA.mono x e) hn Pv h0 hs hd
end
end Tw

set_option Elab.async false
set_option linter.all false
set_option maxRecDepth 100000
set_option maxHeartbeats 4000000
namespace Tw
open PySem PySem.Spec PyProof.Rows L2 Evl
/-! comprehensions -/
theorem et_yes {σ : L2.St} {H : Hp} : EvT tYes σ H true := fun H1 _ Q q => q H1 (Ex.refl H1)
def Lw (K : PySem.W.Frag) (A H2 : Hp) (D : Addr) (out : Nat → List PyData) (i : Nat) (H' : Hp) : Prop :=
  H2 D = none ∧ ∃ G acc, Sep A H2 H' G ∧ G D = none ∧ H' D = some (.lst acc) ∧ DaAll K G acc (out i) ∧ acc.length ≤ i
theorem Lw.start {K : PySem.W.Frag} {A H2 : Hp} {D : Addr} {out : Nat → List PyData} (x : Ex A H2) (hD : H2 D = none) (h0 : out 0 = []) : Lw K A H2 D out 0 (upd H2 D (.lst [])) :=
  ⟨hD, A, [], ⟨Ex.new hD, Ex.refl A, Ex.mut x (fresh_back x hD), fun _ h _ => h⟩, fresh_back x hD, upd_same, by rw [h0]; exact .nil, Nat.le_refl 0⟩
theorem Lw.turn {K : PySem.W.Frag} {A H2 H' : Hp} {D : Addr} {out : Nat → List PyData} {i : Nat} {t : TT} {te : TE} {σ2 : L2.St} {f : Bool} {e : PyData} (p : Lw K A H2 D out i H') (hi : i < 50000)
    (ht : ∀ G, Ex A G → EvT t σ2 G f) (he : f = true → ∀ G, Ex A G → ED K te σ2 G e) (ho : out (i + 1) = if f = true then out i ++ [e] else out i) :
    t σ2 H' fun b H3 => if b = true then te σ2 H3 fun y H4 => ∃ acc, H4 D = some (.lst acc) ∧ acc.length < sizeLine ∧ Lw K A H2 D out (i + 1) (upd H4 D (.lst (acc ++ [y]))) else Lw K A H2 D out (i + 1) H3 := by
  obtain ⟨hD, G, acc, s, gD, hacc, ga, la⟩ := p
  refine ht G s.an H' s.inn _ fun H3 x3 => ?_
  cases f with
  | true =>
    rw [if_pos rfl] at ho
    show te σ2 H3 fun y H4 => ∃ acc, H4 D = some (.lst acc) ∧ acc.length < sizeLine ∧ Lw K A H2 D out (i + 1) (upd H4 D (.lst (acc ++ [y])))
    refine he rfl G s.an H3 (s.inn.trans x3) _ fun v H4 G4 s4 g4 => ?_
    obtain ⟨o1, o2⟩ := s4.out gD (x3 _ _ hacc)
    refine ⟨acc, o2, sz_lt (by omega), hD, G4, acc ++ [v], ⟨Ex.mut ((s.up.trans x3).trans s4.up) hD, s.an.trans s4.an, Ex.mut s4.inn o1, fun b h h1 => ?_⟩, o1, upd_same, ?_, by rw [List.length_append]; exact Nat.add_le_add_right la 1⟩
    · refine s4.sep b (s.sep b h h1) fun z => ?_
      cases q : H2 b with
      | none => exact h1 q
      | some o =>
        rw [(s.up.trans x3) b o q] at z
        cases z
    · rw [ho]
      exact daa_app (daa_ex s4.an ga) (.cons g4 .nil)
  | false =>
    rw [if_neg Bool.false_ne_true] at ho
    show Lw K A H2 D out (i + 1) H3
    refine ⟨hD, G, acc, ⟨s.up.trans x3, s.an, s.inn.trans x3, s.sep⟩, gD, x3 _ _ hacc, ?_, Nat.le_succ_of_le la⟩
    rw [ho]
    exact ga
theorem Lw.stop {K : PySem.W.Frag} {A H2 H' : Hp} {D : Addr} {out : Nat → List PyData} {n : Nat} (p : Lw K A H2 D out n H') : ∃ G, Sep A H2 H' G ∧ Da K G (.ref D) (.list (out n)) := by
  obtain ⟨hD, G, acc, s, gD, hacc, ga, _⟩ := p
  refine ⟨upd G D (.lst acc), ⟨s.up, s.an.trans (Ex.new gD), fun b u hb => ?_, fun b h h1 => ?_⟩, .lst upd_same (daa_ex (Ex.new gD) ga)⟩
  · by_cases q : b = D
    · subst q
      rw [upd_same] at hb
      rw [← hb]
      exact hacc
    · rw [upd_ne q] at hb
      exact s.inn b u hb
  · have q : b ≠ D := fun z => by
      rw [z] at h1
      exact h1 hD
    rw [upd_ne q]
    exact s.sep b h h1
theorem take_one {α : Type} {l : List α} {i : Nat} {x : α} (h : l[i]? = some x) : l.take (i + 1) = l.take i ++ [x] := by
  rw [List.take_add_one, h]
  rfl
theorem filt_step {l : List PyData} {p : PyData → Bool} {g : PyData → PyData} {i : Nat} {x : PyData} (h : l[i]? = some x) :
    ((l.take (i + 1)).filter p).map g = if p x = true then ((l.take i).filter p).map g ++ [g x] else ((l.take i).filter p).map g := by
  rw [take_one h, List.filter_append, List.map_append]
  by_cases q : p x = true
  · rw [if_pos q, List.filter_cons, if_pos q]
    rfl
  · rw [if_neg q, List.filter_cons, if_neg q]
    show _ ++ [] = _
    rw [List.append_nil]
section
variable {K : PySem.W.Frag} {σ : L2.St} {H : Hp} {ta te tl : TE} {t : TT} {ds : List PyData} {j : Nat} {vs : List Nat}
theorem lc_fin {A H2 H1 : Hp} {D : Addr} {out : Nat → List PyData} {n : Nat} {Q : VK} {H' : Hp} (s : Sep H H1 H2 A) (q : ∀ v H2 G, Sep H H1 H2 G → Da K G v (.list (out n)) → Q v H2) (p : Lw K A H2 D out n H') : Q (.ref D) H' := by
  obtain ⟨G, s2, g⟩ := p.stop
  exact q _ _ G (s.trans s2) g
/-- [e for i in range(n) if t] -/
theorem ed_lcRf {n : Int} (f : Nat → Bool) (g : Nat → PyData) (h : ED K ta σ H (.int n)) (hn : 0 ≤ n ∧ n ≤ 40000) (hw : ∀ x, wipe ((wipe σ vs).set j (some x)) vs = wipe σ vs)
    (ht : ∀ (i : Nat) G, Ex H G → (i : Int) < n → EvT t ((wipe σ vs).set j (some (.int (i : Int)))) G (f i)) (he : ∀ (i : Nat) G, Ex H G → (i : Int) < n → f i = true → ED K te ((wipe σ vs).set j (some (.int (i : Int)))) G (g i)) :
    ED K (tLc (iRng1 (tCons ta tNil)) (gName j) t te vs) σ H (.list (((List.range n.toNat).filter f).map g)) := fun H1 x Q q =>
  ev_int h H1 x _ fun H2 x2 => ⟨n, rfl, by omega, by omega, fun D hD => by
    have s0 : Sep H H1 H2 H := ⟨x2, Ex.refl H, x.trans x2, fun _ h _ => h⟩
    refine lc_range (lo := 0) (n := n.toNat) (Lw K H H2 D fun i => ((List.range i).filter f).map g) (Lw.start (x.trans x2) hD rfl) (fun i H' hi p => ?_) fun H' p => lc_fin s0 q p
    have e0 : (0 : Int) + (i : Int) = (i : Int) := Int.zero_add _
    show wipe ((wipe σ vs).set j (some (.int ((0 : Int) + (i : Int))))) vs = wipe σ vs ∧ t ((wipe σ vs).set j (some (.int ((0 : Int) + (i : Int))))) H' fun b H3 => if b = true then te ((wipe σ vs).set j (some (.int ((0 : Int) + (i : Int))))) H3 fun y H4 => ∃ acc, H4 D = some (.lst acc) ∧ acc.length < sizeLine ∧ Lw K H H2 D (fun i => ((List.range i).filter f).map g) (i + 1) (upd H4 D (.lst (acc ++ [y]))) else Lw K H H2 D (fun i => ((List.range i).filter f).map g) (i + 1) H3
    rw [e0]
    refine ⟨hw _, p.turn (by omega) (fun G xg => ht i G xg (by omega)) (fun hf G xg => he i G xg (by omega) hf) ?_⟩
    show ((List.range (i + 1)).filter f).map g = _
    rw [List.range_succ, List.filter_append, List.map_append]
    by_cases z : f i = true
    · rw [if_pos z, List.filter_cons, if_pos z]
      rfl
    · rw [if_neg z, List.filter_cons, if_neg z]
      show _ ++ [] = _
      rw [List.append_nil]⟩
theorem ed_lcR {n : Int} (g : Nat → PyData) (h : ED K ta σ H (.int n)) (hn : 0 ≤ n ∧ n ≤ 40000) (hw : ∀ x, wipe ((wipe σ vs).set j (some x)) vs = wipe σ vs)
    (he : ∀ (i : Nat) G, Ex H G → (i : Int) < n → ED K te ((wipe σ vs).set j (some (.int (i : Int)))) G (g i)) :
    ED K (tLc (iRng1 (tCons ta tNil)) (gName j) tYes te vs) σ H (.list ((List.range n.toNat).map g)) := by
  have h1 := ed_lcRf (t := tYes) (fun _ => true) g h hn hw (fun _ _ _ _ => et_yes) (fun i G x hi _ => he i G x hi)
  rw [List.filter_eq_self.mpr fun _ _ => rfl] at h1
  exact h1
/-- [e for x in xs if t] -/
theorem ed_lcLf (p : PyData → Bool) (g : PyData → PyData) (h : ED K tl σ H (.list ds)) (hz : ds.length ≤ 40000) (hw : ∀ x, wipe ((wipe σ vs).set j (some x)) vs = wipe σ vs)
    (ht : ∀ d v G, d ∈ ds → Ex H G → Da K G v d → EvT t ((wipe σ vs).set j (some v)) G (p d)) (he : ∀ d v G, d ∈ ds → Ex H G → Da K G v d → p d = true → ED K te ((wipe σ vs).set j (some v)) G (g d)) :
    ED K (tLc (iList K tl) (gName j) t te vs) σ H (.list ((ds.filter p).map g)) := fun H1 x Q q =>
  h H1 x _ fun v H2 A s gv => by
    cases gv with
    | @lst a xs _ ea ga =>
      refine ⟨a, rfl, ⟨xs, sq_of (s.inn _ _ ea)⟩, fun D hD => ?_⟩
      have hlen := daa_len ga
      refine lc_list (K := K) (a := a) (xs := xs) (Lw K A H2 D fun i => ((ds.take i).filter p).map g) (Lw.start s.inn hD (by rw [List.take_zero]; rfl)) (fun i H' _ pw => ?_) (fun i y H' hi pw => ?_) fun H' pw => ?_
      · obtain ⟨_, G, acc, s2, _⟩ := pw
        exact sq_of (s2.up _ _ (s.inn _ _ ea))
      · obtain ⟨d, hd, gd⟩ := daa_getV ga i y hi
        have hm : d ∈ ds := List.mem_of_getElem? hd
        have hlt := (List.getElem?_eq_some_iff.mp hi).1
        refine ⟨hw y, pw.turn (by omega) (fun G xg => ht d y G hm (s.an.trans xg) (da_ex xg gd)) (fun hf G xg => he d y G hm (s.an.trans xg) (da_ex xg gd) hf) ?_⟩
        exact filt_step hd
      · have e : ds.take xs.length = ds := List.take_of_length_le (by omega)
        refine lc_fin (out := fun i => ((ds.take i).filter p).map g) s (fun v H2 G s2 g2 => q v H2 G s2 ?_) pw
        have g3 : Da K G v (.list (((ds.take xs.length).filter p).map g)) := g2
        rw [e] at g3
        exact g3
theorem ed_lcL (g : PyData → PyData) (h : ED K tl σ H (.list ds)) (hz : ds.length ≤ 40000) (hw : ∀ x, wipe ((wipe σ vs).set j (some x)) vs = wipe σ vs)
    (he : ∀ d v G, d ∈ ds → Ex H G → Da K G v d → ED K te ((wipe σ vs).set j (some v)) G (g d)) :
    ED K (tLc (iList K tl) (gName j) tYes te vs) σ H (.list (ds.map g)) := by
  have h1 := ed_lcLf (t := tYes) (fun _ => true) g h hz hw (fun _ _ _ _ _ _ => et_yes) (fun d v G hm x gd _ => he d v G hm x gd)
  rw [List.filter_eq_self.mpr fun _ _ => rfl] at h1
  exact h1
theorem ed_lcT (g : PyData → PyData) (h : ED K tl σ H (.tuple ds)) (hz : ds.length ≤ 40000) (hw : ∀ x, wipe ((wipe σ vs).set j (some x)) vs = wipe σ vs)
    (he : ∀ d v G, d ∈ ds → Ex H G → Da K G v d → ED K te ((wipe σ vs).set j (some v)) G (g d)) :
    ED K (tLc (iTup K tl) (gName j) tYes te vs) σ H (.list (ds.map g)) := fun H1 x Q q =>
  h H1 x _ fun v H2 A s gv => by
    cases gv with
    | @tup a xs _ ea ga =>
      refine ⟨a, rfl, ⟨xs, ex_t s.inn ea⟩, fun D hD => ?_⟩
      have hlen := daa_len ga
      refine lc_tup (K := K) (a := a) (xs := xs) (Lw K A H2 D fun i => (ds.take i).map g) (Lw.start s.inn hD (by rw [List.take_zero]; rfl)) (fun i H' _ pw => ?_) (fun i y H' hi pw => ?_) fun H' pw => ?_
      · obtain ⟨_, G, acc, s2, _⟩ := pw
        exact ex_t (s.inn.trans s2.up) ea
      · obtain ⟨d, hd, gd⟩ := daa_getV ga i y hi
        have hm : d ∈ ds := List.mem_of_getElem? hd
        have hlt := (List.getElem?_eq_some_iff.mp hi).1
        refine ⟨hw y, pw.turn (f := true) (e := g d) (by omega) (fun G xg => et_yes) (fun hf G xg => he d y G hm (s.an.trans xg) (da_ex xg gd)) ?_⟩
        show (ds.take (i + 1)).map g = if true = true then (ds.take i).map g ++ [g d] else (ds.take i).map g
        rw [if_pos rfl, take_one hd, List.map_append]
        rfl
      · have e : ds.take xs.length = ds := List.take_of_length_le (by omega)
        refine lc_fin (out := fun i => (ds.take i).map g) s (fun v H2 G s2 g2 => q v H2 G s2 ?_) pw
        have g3 : Da K G v (.list ((ds.take xs.length).map g)) := g2
        rw [e] at g3
        exact g3
end
/-! a list or a tuple walked -/
def iSeq (K : PySem.W.Frag) (tl : TE) : TI := fun σ H R => tl σ H fun x H1 => ∃ a, x = .ref a ∧ (((∃ xs, SqL K H1 a xs) ∧ R (Itl K a) H1) ∨ ((∃ xs, SqT K H1 a xs) ∧ R (Itt K a) H1))
theorem pi_seq {X : Cx} {tg l : Expr} {tl : TE} (hl : PE X l tl) : PI X tg l (iSeq X.K tl) := by
  constructor
  intro pn s σ H R I h
  refine thn (hl.run pn s σ H _ I h) ?_
  rintro v s1 ⟨x, H1, J, rx, a, ex, q⟩
  cases ex
  cases rx
  have fresh : ∀ b ∈ [s1.heap.objs.size], FpOk X pn H1 b := by
    intro b hb
    cases List.mem_singleton.mp hb
    exact J.fpOk (Nat.le_refl _) (J.hok.fresh (Nat.le_refl _))
  rcases q with ⟨⟨xs, hx⟩, q⟩ | ⟨⟨xs, hx⟩, q⟩
  · obtain ⟨its, rv, pl, _⟩ := J.list hx
    refine wpAny_pyIter_list pl.isList ⟨_, _, _, _, H1, rfl, ?_, turn_list a s1.heap.objs.size, ?_, fresh, q⟩
    · exact J.kept (t' := s1.toks) fun c u z => Heap.get?_push_of_some _ z
    · exact ⟨_, Heap.get?_push_size _ rfl, rfl, rfl⟩
  · obtain ⟨its, rv, pl, _⟩ := J.tuple hx
    refine wpAny_pyIter_tuple (show s1.heap.IsTuple a its.toArray from pl) ⟨_, _, _, _, H1, rfl, ?_, turn_tuple a s1.heap.objs.size, ?_, fresh, q⟩
    · exact J.kept (t' := s1.toks) fun c u z => Heap.get?_push_of_some _ z
    · exact ⟨_, Heap.get?_push_size _ rfl, rfl, rfl⟩
section
variable {K : PySem.W.Frag} {σ : L2.St} {H : Hp} {te tl : TE} {d : PyData} {ds : List PyData} {j : Nat} {vs : List Nat}
theorem ed_lcS (g : PyData → PyData) (h : ED K tl σ H d) (hd : d = .list ds ∨ d = .tuple ds) (hz : ds.length ≤ 40000) (hw : ∀ x, wipe ((wipe σ vs).set j (some x)) vs = wipe σ vs)
    (he : ∀ d v G, d ∈ ds → Ex H G → Da K G v d → ED K te ((wipe σ vs).set j (some v)) G (g d)) :
    ED K (tLc (iSeq K tl) (gName j) tYes te vs) σ H (.list (ds.map g)) := fun H1 x Q q => by
  rcases hd with rfl | rfl
  · have h2 : ED K (tLc (iList K tl) (gName j) tYes te vs) σ H (.list (ds.map g)) := ed_lcL g h hz hw he
    -- the value first, then the walk of a list
    refine h H1 x _ fun v H2 A s gv => ?_
    cases gv with
    | @lst a xs _ ea ga =>
      have h3 : ED K (tLc (iList K (tC (.ref a))) (gName j) tYes te vs) σ A (.list (ds.map g)) := ed_lcL g (ed_ev ev_c (.lst ea ga)) hz hw fun d v G hm xg gd => he d v G hm (s.an.trans xg) gd
      have h4 := h3 H2 s.inn Q fun v H3 G s3 g3 => q v H3 G (s.trans s3) g3
      obtain ⟨b, eb, hx, r⟩ := h4
      cases eb
      exact ⟨a, rfl, .inl ⟨hx, r⟩⟩
  · refine h H1 x _ fun v H2 A s gv => ?_
    cases gv with
    | @tup a xs _ ea ga =>
      have h3 : ED K (tLc (iTup K (tC (.ref a))) (gName j) tYes te vs) σ A (.list (ds.map g)) := ed_lcT g (ed_ev ev_c (.tup ea ga)) hz hw fun d v G hm xg gd => he d v G hm (s.an.trans xg) gd
      have h4 := h3 H2 s.inn Q fun v H3 G s3 g3 => q v H3 G (s.trans s3) g3
      obtain ⟨b, eb, hx, r⟩ := h4
      cases eb
      exact ⟨a, rfl, .inr ⟨hx, r⟩⟩
end
/-! str(x) of an int or a text -/
def rStrX : List V → Hp → VK → Prop := fun xs H Q => (∃ i, xs = [.int i] ∧ i.natAbs.log2 < 1920 ∧ Q (.str (toString i)) H) ∨ ∃ a, xs = [.str a] ∧ Q (.str a) H
theorem call_strX {X : Cx} : CallR X (.type "str") rStrX := by
  intro pins s σ H xs us Q I r h
  rcases h with ⟨i, h1, h2, q⟩ | ⟨a, h1, q⟩
  · exact call_str_int pins s σ H xs us Q I r ⟨i, h1, h2, q⟩
  · exact SkE.call_str_str pins s σ H xs us Q I r ⟨a, h1, q⟩
section
variable {K : PySem.W.Frag} {σ : L2.St} {H : Hp} {ta : TE}
theorem ed_strI {i : Int} (h : ED K ta σ H (.int i)) (hi : i.natAbs.log2 < 1920) : ED K (tCB rStrX (tCons ta tNil)) σ H (.str (toString i)) := fun H1 x Q q =>
  ev_int h H1 x _ fun H2 x2 => .inl ⟨i, rfl, hi, q _ H2 H ⟨x2, Ex.refl H, x.trans x2, fun _ h _ => h⟩ (.str _)⟩
theorem ed_strS {a : Str} (h : ED K ta σ H (.str a)) : ED K (tCB rStrX (tCons ta tNil)) σ H (.str a) := fun H1 x Q q =>
  ev_str h H1 x _ fun H2 x2 => .inr ⟨a, rfl, q _ H2 H ⟨x2, Ex.refl H, x.trans x2, fun _ h _ => h⟩ (.str _)⟩
end
end Tw

set_option Elab.async false
set_option linter.all false
set_option maxRecDepth 100000
set_option maxHeartbeats 4000000
namespace Tw
open PySem PySem.Spec PyProof.Rows L2 Evl
/-! the law's own promise; the drawn numbers -/
def spLaw (K : PySem.W.Frag) : Sp := fun vs H Q _ => ∃ (a : Addr) (ns : List Int), vs = [.ref a] ∧ SqL K H a (ns.map V.int) ∧ ns.length ≤ 63 ∧ ∀ H', Q (.bl true) H'
theorem spLaw_len {K : PySem.W.Frag} : ∀ vs H Q E, spLaw K vs H Q E → vs.length = 1 := by
  rintro vs H Q E ⟨a, ns, rfl, _⟩
  rfl
/-- so many, from 0 to 999 -/
def Drawn (n : Nat) (ds : List Int) : Prop := ds.length = n ∧ ∀ d ∈ ds, 0 ≤ d ∧ d < 1000
theorem Drawn.get {n : Nat} {ds : List Int} (h : Drawn n ds) {i : Nat} (hi : i < n) : ∃ d, ds[i]? = some d ∧ 0 ≤ d ∧ d < 1000 := by
  have hl : i < ds.length := by rw [h.1]; exact hi
  exact ⟨ds[i], List.getElem?_eq_getElem hl, h.2 _ (List.getElem_mem hl)⟩
theorem Drawn.getD {n : Nat} {ds : List Int} (h : Drawn n ds) {i : Nat} (hi : i < n) : ds[i]? = some (ds.getD i 0) ∧ 0 ≤ ds.getD i 0 ∧ ds.getD i 0 < 1000 := by
  obtain ⟨d, hd, h0, h1⟩ := h.get hi
  have e : ds.getD i 0 = d := by rw [List.getD_eq_getElem?_getD, hd]; rfl
  rw [e]
  exact ⟨hd, h0, h1⟩
def spDraws (K : PySem.W.Frag) : Sp := fun vs H Q _ => ∃ (a : Addr) (ns : List Int) (n : Nat), vs = [.ref a, .int (n : Int)] ∧ SqL K H a (ns.map V.int) ∧ ns.length ≤ 63 ∧ n ≤ 1000 ∧
  ∀ ds p H2, Drawn n ds → H p = none → Ex H H2 → H2 p = some (.lst (ds.map V.int)) → Q (.ref p) H2
def WD (H : Hp) (a : Addr) (n m : Nat) (R L : Addr) (i : Nat) (σ' : L2.St) (H' : Hp) : Prop := ∃ (x3 x5 x6 x7 x8 : Option V) (rs ds : List Int), σ' = [some (.ref a), some (.int (n : Int)), some (.ref R), x3, some (.ref L), x5, x6, x7, x8] ∧
  Ex H H' ∧ H' R = some (.lst (rs.map V.int)) ∧ H' L = some (.lst (ds.map V.int)) ∧ rs.length = m ∧ Drawn i ds
theorem ev_toInt {te : TE} {σ : L2.St} {H : Hp} {i : Int} (h : Ev te σ H (.int i)) : Ev (tCB (fun xs H Q => (∃ i, xs = [V.int i] ∧ Q (.int i) H) ∨ ∃ k, xs = [.bl k] ∧ Q (.int (if k then 1 else 0)) H) (tCons te tNil)) σ H (.int i) := fun H1 x Q q =>
  h H1 x _ fun H2 x2 => .inl ⟨i, rfl, q H2 x2⟩
theorem mod1000 (x : Int) : 0 ≤ x % 1000 ∧ x % 1000 < 1000 := ⟨Int.emod_nonneg x (by decide), Int.emod_lt_of_pos x (by decide)⟩
theorem at_int {rs : List Int} {j : Nat} (h : j < rs.length) : atI (rs.map V.int) (j : Int) = some (.int rs[j]) := atI_nat (by rw [List.getElem?_map, List.getElem?_eq_getElem h]; rfl)
theorem given_all (l : List V) : given l.length (fun _ => true) (fun i => l.getD i .non) = l := by
  unfold given
  rw [List.filter_eq_self.mpr fun _ _ => rfl]
  apply List.ext_getElem?
  intro i
  rw [List.getElem?_map]
  by_cases hi : i < l.length
  · rw [List.getElem?_range hi, List.getElem?_eq_getElem hi]
    show some (l.getD i .non) = _
    rw [List.getD_eq_getElem?_getD, List.getElem?_eq_getElem hi]
    rfl
  · rw [List.getElem?_eq_none (by rw [List.length_range]; omega), List.getElem?_eq_none (by omega)]
    rfl
section
variable {K : PySem.W.Frag} {σ : L2.St} {G H : Hp} {ta tb te : TE} {d : PyData} {ds : List PyData} {D : Ends} {tu tz : TS}
/-- draws = _law_draws(script, n) -/
theorem d_draws {a : Addr} {ns : List Int} {n : Nat} {i : Nat} {m : Int} {E : XK} (hm : m = (n : Int)) (h0 : σ[0]? = some (some (.ref a))) (hS : SqL K H a (ns.map V.int)) (hl : ns.length ≤ 63) (hn : n ≤ 1000)
    (k : ∀ ds p H2, Drawn n ds → Ex H H2 → Da K H2 (.ref p) (.list (ds.map .int)) → tz D (σ.set i (some (.ref p))) H2) : tSeq (tAsg (tCall (spDraws K) [] E (tCons (tVar 0) (tCons (tC (.int m)) tNil))) (gName i)) tz D σ H := by
  subst hm
  exact ⟨_, h0, a, ns, n, rfl, hS, hl, hn, fun ds p H2 dr hp e h2 => k ds p H2 dr e (.lst h2 (daa_ints ds))⟩
/-- a, b, .. = e -/
theorem d_unp {n : Nat} {gs : TGs} (h : ED K te σ G (.tuple ds)) (x : Ex G H) (hn : ds.length = n) (k : ∀ vs H2 G2, Sep G H H2 G2 → DaAll K G2 vs ds → gs vs σ H2 (tz D)) : tSeq (tAsg te (gTup K n gs)) tz D σ H := h H x _ fun v H2 G2 s g => by
  cases g with
  | @tup a xs _ e g =>
    exact ⟨a, xs, rfl, ex_t s.inn e, by rw [daa_len g]; exact hn, k xs H2 G2 s g⟩
/-- repr(e) -/
theorem ed_repr (h : ED K te σ G d) (hc : ∃ es, d = .list es ∨ d = .tuple es) (h1 : d.showable = true) (h2 : d.hasDict = false) (h3 : d.depth ≤ 60) (h4 : d.shown.length ≤ sizeLine) : ED K (tCB (rRepr K) (tCons te tNil)) σ G (.str d.shown) := fun H1 x Q q =>
  h H1 x _ fun v H2 G2 s g => by
    obtain ⟨es, hc⟩ := hc
    have hv : ∃ a, v = .ref a := by
      rcases hc with rfl | rfl
      · cases g
        exact ⟨_, rfl⟩
      · cases g
        exact ⟨_, rfl⟩
    obtain ⟨a, rfl⟩ := hv
    exact ⟨a, d, rfl, da_dp (da_ex s.inn g), h1, h2, h3, h4, q _ H2 G2 s (.str _)⟩
end
/-! numbers as texts, and their lengths -/
def nS (i : Int) : Str := Str.ofString (toString i)
theorem small_log {i : Int} (h0 : 0 ≤ i) (h1 : i < 100000) : i.natAbs.log2 < 1920 := by
  by_cases z : i.natAbs = 0
  · rw [z]
    decide
  · refine (Nat.log2_lt z).mpr (Nat.lt_of_lt_of_le (show i.natAbs < 2 ^ 17 by omega) (Nat.pow_le_pow_right (by decide) (by decide)))
theorem nS_len {i : Int} (h0 : 0 ≤ i) (h1 : i < 1000) : (nS i).length ≤ 4 := by
  unfold nS
  rw [PySem.ofString_length]
  exact int_text_length_le10 (k := 3) (by decide) (by omega)
theorem join_le {sep : Str} {ts : List Str} {m b c : Nat} (hm : ts.length ≤ m) (hb : ∀ t ∈ ts, t.length ≤ b) (hc : sep.length ≤ c) : (ts.map (·.length)).sum + ts.length * sep.length ≤ m * (b + c) := by
  have h : (ts.map (·.length)).sum + ts.length * sep.length ≤ ts.length * (b + c) := by
    clear hm
    induction ts with
    | nil => simp
    | cons t r ih =>
      have i := ih fun t ht => hb t (List.mem_cons_of_mem _ ht)
      have ht := hb t List.mem_cons_self
      simp only [List.map_cons, List.sum_cons, List.length_cons, Nat.succ_mul]
      omega
  exact Nat.le_trans h (Nat.mul_le_mul_right _ hm)
theorem join_len {sep : Str} {ts : List Str} {m b c : Nat} (hm : ts.length ≤ m) (hb : ∀ t ∈ ts, t.length ≤ b) (hc : sep.length ≤ c) : (Txt.join sep ts).length ≤ m * (b + c) := by
  have e : Txt.join sep ts = Str.join sep ts := StrLaws.glued_eq_join sep ts
  rw [e]
  exact Nat.le_trans (StrLaws.join_length_le sep ts) (join_le hm hb hc)
end Tw
namespace Tw
open PySem PySem.Spec PyProof.Rows L2 Evl
section
variable {K : PySem.W.Frag}
theorem daa_inv {H : Hp} {vs : List V} {d : PyData} {ds : List PyData} (h : DaAll K H vs (d :: ds)) : ∃ v r, vs = v :: r ∧ Da K H v d ∧ DaAll K H r ds := by
  cases h with
  | cons a b => exact ⟨_, _, rfl, a, b⟩
theorem daa_inv0 {H : Hp} {vs : List V} (h : DaAll K H vs []) : vs = [] := by
  cases h
  rfl
theorem Sep.mut {A B C G : Hp} {p : Addr} {o : HO} (s : Sep A B C G) (hB : B p = none) (hG : G p = none) : Sep A B (upd C p o) G := ⟨Ex.mut s.up hB, s.an, Ex.mut s.inn hG, s.sep⟩
/-- a list of one's own becomes data -/
theorem Sep.seal {A B C G : Hp} {p : Addr} {xs : List V} {ds : List PyData} (s : Sep A B C G) (hB : B p = none) (hG : G p = none) (hC : C p = some (.lst xs)) (g : DaAll K G xs ds) :
    Sep A B C (upd G p (.lst xs)) ∧ Da K (upd G p (.lst xs)) (.ref p) (.list ds) := by
  refine ⟨⟨s.up, s.an.trans (Ex.new hG), fun b u hb => ?_, fun b h h1 => ?_⟩, .lst upd_same (daa_ex (Ex.new hG) g)⟩
  · by_cases q : b = p
    · subst q
      rw [upd_same] at hb
      rw [← hb]
      exact hC
    · rw [upd_ne q] at hb
      exact s.inn b u hb
  · have q : b ≠ p := fun z => by
      rw [z] at h1
      exact h1 hB
    rw [upd_ne q]
    exact s.sep b h h1
end
theorem dr_ix {n : Nat} {ds : List Int} (h : Drawn n ds) {i : Nat} (hi : i < n) : (ds.map PyData.int)[i]? = some (.int (ds.getD i 0)) := by
  rw [List.getElem?_map, (h.getD hi).1]
  rfl
theorem sIx_nat' (n : Nat) (d : Nat) (i : Nat) : HT.sIx n d (some (i : Int)) = min i n := HT.sIx_nat n d i
theorem cut_ix {l : List PyData} {a b j : Nat} (hj : a + j < b) (hb : b ≤ l.length) : (cutD l (some (a : Int)) (some (b : Int)))[j]? = l[a + j]? := by
  unfold cutD
  rw [sIx_nat', sIx_nat', List.getElem?_take_of_lt (by omega), List.getElem?_drop]
  congr 1
  omega
def intsOf : PyData → List Int
  | .tuple ds => ds.filterMap fun d => match d with | .int i => some i | _ => none
  | .list ds => ds.filterMap fun d => match d with | .int i => some i | _ => none
  | _ => []
theorem intsOf_fm (s : List Int) : (s.map PyData.int).filterMap (fun d => match d with | .int i => some i | _ => none) = s := by
  induction s with
  | nil => rfl
  | cons a r ih =>
    rw [List.map_cons, List.filterMap_cons]
    show a :: _ = _
    rw [ih]
theorem intsOf_tup (s : List Int) : intsOf (.tuple (s.map .int)) = s := intsOf_fm s
theorem intsOf_lst (s : List Int) : intsOf (.list (s.map .int)) = s := intsOf_fm s
end Tw
namespace Tw
open PySem PySem.Spec PyProof.Rows L2 Evl
/-! the rules with the written part said (within a comprehension's block the context is not the reading's) -/
section
variable {X : Cx} (K : PySem.W.Frag)
theorem ixl (e : X.K = K := by rfl) : IxR X (rIxL K) := e ▸ ix_list
theorem ixt (e : X.K = K := by rfl) : IxR X (rIxT K) := e ▸ ix_tup
theorem slL (e : X.K = K := by rfl) : SlR X (rSlL K) := e ▸ sl_list
theorem lenK (e : X.K = K := by rfl) : CallR X (.builtin "len") (fun xs H Q => ∃ p ys, xs = [V.ref p] ∧ (SqL K H p ys ∨ SqT K H p ys) ∧ Q (.int ys.length) H) := e ▸ call_len_seq
theorem tupK (e : X.K = K := by rfl) : CallR X (.type "tuple") (fun xs H Q => ∃ p ys, xs = [V.ref p] ∧ ((SqL K H p ys ∧ ∀ l, H l = none → Q (.ref l) (upd H l (.tup ys))) ∨ (SqT K H p ys ∧ Q (.ref p) H))) := e ▸ call_tuple_of
theorem pi_listK {tg l : Expr} {tl : TE} (hl : PE X l tl) (e : X.K = K := by rfl) : PI X tg l (iList K tl) := e ▸ pi_list hl
theorem pi_tupK {tg l : Expr} {tl : TE} (hl : PE X l tl) (e : X.K = K := by rfl) : PI X tg l (iTup K tl) := e ▸ pi_tup hl
theorem pi_seqK {tg l : Expr} {tl : TE} (hl : PE X l tl) (e : X.K = K := by rfl) : PI X tg l (iSeq K tl) := e ▸ pi_seq hl
theorem joinK (e : X.K = K := by rfl) : MtR X "str.join" (fun x xs H Q => ∃ a p, ∃ ys : List Str, x = .str a ∧ xs = [.ref p] ∧ (SqL K H p (ys.map V.str) ∨ SqT K H p (ys.map V.str)) ∧ (ys.map (·.length)).sum + ys.length * a.length ≤ 16777216 ∧ Q (.str (Txt.join a ys)) H) := e ▸ mt_join
theorem pe_joinK {o e : Expr} {to te : TE} {apos pos : Pos} (ho : PE X o to) (he : PE X e te) (hK : X.K = K := by rfl) (hs : starEach [e] X.env = [(false, eval e X.env)] := by rfl) (hbase : attributeBase o "join" X.env (eval o X.env) = eval o X.env := by rfl) (hline : (apos.endLine == pos.line) = true := by rfl) :
    PE X (.Call (.Attribute o "join" apos) [e] [] pos) (tM1 (fun x xs H Q => ∃ a p, ∃ ys : List Str, x = .str a ∧ xs = [.ref p] ∧ (SqL K H p (ys.map V.str) ∨ SqT K H p (ys.map V.str)) ∧
      (ys.map (·.length)).sum + ys.length * a.length ≤ 16777216 ∧ Q (.str (Txt.join a ys)) H) to te) :=
  pe_m1 PySem.F.slot_str_join PySem.F.type_str_join (joinK K hK) ho he hs hbase hline
theorem reprK (hg : X.A.guards = some []) (hu : X.A.units + 64 < cLine) (e : X.K = K := by rfl) : CallR X (.builtin "repr") (rRepr K) := e ▸ call_repr hg hu
theorem appendK : MtM X "list.append" rAppend := mt_append
end
end Tw
namespace Tw
open PySem PySem.Spec PyProof.Rows L2 Evl
/-! data of a small size: what repr and == ask -/
structure Ok (n w : Nat) (d : PyData) : Prop where
  sh : d.showable = true
  nd : d.hasDict = false
  dp : d.depth ≤ n
  ls : d.leavesShort 20 = true
  cl : d.canLay0 = true
  wt : d.weight ≤ w
theorem Ok.mono {n w n' w' : Nat} {d : PyData} (h : Ok n w d) (hn : n ≤ n') (hw : w ≤ w') : Ok n' w' d := ⟨h.sh, h.nd, Nat.le_trans h.dp hn, h.ls, h.cl, Nat.le_trans h.wt hw⟩
theorem ok_int {i : Int} (h0 : -100000 < i) (h1 : i < 100000) : Ok 0 17 (.int i) := by
  have hl : i.natAbs.log2 < 17 := by
    by_cases z : i.natAbs = 0
    · rw [z]
      decide
    · exact (Nat.log2_lt z).mpr (show i.natAbs < 2 ^ 17 by omega)
  refine ⟨decide_eq_true (by omega), rfl, Nat.le_refl 0, decide_eq_true ?_, rfl, ?_⟩
  · show (Str.ofString (toString i)).length ≤ 20
    rw [PySem.ofString_length]
    have := int_text_length_le10 (a := i) (k := 5) (by decide) (by omega)
    omega
  · show (if i == 0 then 0 else i.natAbs.log2 + 1) ≤ 17
    split <;> omega
theorem ok_none : Ok 0 17 .none := ⟨rfl, rfl, Nat.le_refl 0, rfl, rfl, Nat.zero_le _⟩
theorem ok_bool (b : Bool) : Ok 0 17 (.bool b) := ⟨rfl, rfl, Nat.le_refl 0, rfl, rfl, Nat.zero_le _⟩
theorem ok_all {n w : Nat} : ∀ {ds : List PyData}, (∀ d ∈ ds, Ok n w d) → PyData.showableAll ds = true ∧ PyData.hasDictAll ds = false ∧ PyData.depthAll ds ≤ n ∧ PyData.leavesShortAll 20 ds = true ∧ PyData.canLayAll0 ds = true ∧ PyData.weightAll ds ≤ ds.length * (w + 1)
  | [], _ => ⟨rfl, rfl, Nat.zero_le _, rfl, rfl, Nat.zero_le _⟩
  | d :: r, h => by
    have hd := h d List.mem_cons_self
    obtain ⟨a1, a2, a3, a4, a5, a6⟩ := ok_all (ds := r) fun x hx => h x (List.mem_cons_of_mem _ hx)
    refine ⟨?_, ?_, ?_, ?_, ?_, ?_⟩
    · show (d.showable && PyData.showableAll r) = true
      rw [hd.sh, a1]
      rfl
    · show (d.hasDict || PyData.hasDictAll r) = false
      rw [hd.nd, a2]
      rfl
    · show max d.depth (PyData.depthAll r) ≤ n
      have := hd.dp
      omega
    · show (d.leavesShort 20 && PyData.leavesShortAll 20 r) = true
      rw [hd.ls, a4]
      rfl
    · show (d.canLay0 && PyData.canLayAll0 r) = true
      rw [hd.cl, a5]
      rfl
    · show d.weight + 1 + PyData.weightAll r ≤ (r.length + 1) * (w + 1)
      have := hd.wt
      rw [Nat.succ_mul]
      omega
theorem ok_list {n w m : Nat} {ds : List PyData} (h : ∀ d ∈ ds, Ok n w d) (hm : ds.length * (w + 1) ≤ m) : Ok (n + 1) m (.list ds) := by
  obtain ⟨a1, a2, a3, a4, a5, a6⟩ := ok_all h
  exact ⟨a1, a2, Nat.succ_le_succ a3, a4, a5, Nat.le_trans a6 hm⟩
theorem ok_tup {n w m : Nat} {ds : List PyData} (h : ∀ d ∈ ds, Ok n w d) (hm : ds.length * (w + 1) ≤ m) : Ok (n + 1) m (.tuple ds) := by
  obtain ⟨a1, a2, a3, a4, a5, a6⟩ := ok_all h
  exact ⟨a1, a2, Nat.succ_le_succ a3, a4, a5, Nat.le_trans a6 hm⟩
theorem Ok.fits {n w : Nat} {d : PyData} (h : Ok n w d) (hw : w ≤ 700000) : d.shown.length ≤ sizeLine := by
  have h1 := PyData.shown_le 20 (by decide) d h.ls
  have h2 := h.wt
  have e : sizeLine = 16777216 := by decide
  rw [e]
  omega
theorem Ok.shaped {n w : Nat} {d : PyData} (h : Ok n w d) (hn : n ≤ 60) : SeqAt.shaped d = true := by
  show (d.canLay0 && decide (d.depth ≤ 64)) = true
  have := h.dp
  rw [h.cl, Bool.true_and, decide_eq_true_eq]
  omega
theorem mem2 {P : PyData → Prop} {a b : PyData} (ha : P a) (hb : P b) : ∀ d ∈ [a, b], P d := by
  intro d hd
  simp only [List.mem_cons, List.not_mem_nil, or_false] at hd
  rcases hd with rfl | rfl <;> assumption
section
variable {K : PySem.W.Frag} {σ : L2.St} {G H : Hp} {te : TE} {d : PyData}
theorem ed_reprO {n w : Nat} (h : ED K te σ G d) (hc : ∃ es, d = .list es ∨ d = .tuple es) (ho : Ok n w d) (hn : n ≤ 60) (hw : w ≤ 700000) : ED K (tCB (rRepr K) (tCons te tNil)) σ G (.str d.shown) :=
  ed_repr h hc ho.sh ho.nd (Nat.le_trans ho.dp hn) (ho.fits hw)
/-- isinstance(x, str) of a text -/
theorem et_isStr {x : Str} (h : ED K te σ G (.str x)) : EvT (tB (tCB RZ.rIsTy (tCons te (tCons (tC (.ty "str")) tNil)))) σ G true := fun H1 e Q q =>
  ev_str h H1 e _ fun H2 e2 => ⟨.str x, "str", rfl, .str x, true, rfl, q H2 e2⟩
theorem et_neS {ta tb : TE} {x y : Str} (ha : ED K ta σ G (.str x)) (hb : ED K tb σ G (.str y)) : EvT (tTest (tOp rNe ta tb)) σ G (!decide (V.str x = V.str y)) := et_test (ev_op (ev_str ha) (ev_str hb) (rv_ne rfl))
theorem ed_eqS {ta tb : TE} {x y : Str} (ha : ED K ta σ G (.str x)) (hb : ED K tb σ G (.str y)) : ED K (tOp rEq ta tb) σ G (.bool (decide (V.str x = V.str y))) := ed_ev (ev_op (ev_str ha) (ev_str hb) (rv_eq rfl)) (.bl _)
end
end Tw

set_option Elab.async false
set_option linter.all false
set_option maxRecDepth 100000
set_option maxHeartbeats 4000000
namespace Tw
open PySem PySem.Spec PyProof.Rows L2 Evl
/-! more of expressions -/
section
variable {K : PySem.W.Frag} {σ : L2.St} {G H : Hp} {ta tb te : TE} {d e : PyData} {ds es : List PyData}
theorem et_bool {b : Bool} (h : ED K te σ G (.bool b)) : EvT (tB te) σ G b := et_B (ev_bool h)
theorem et_cmp0 {p : Int → Int → Bool} {i j : Int} (ha : ED K ta σ G (.int i)) (hb : ED K tb σ G (.int j)) : EvT (tTest (tOp (rI0 fun i j => .bl (p i j)) ta tb)) σ G (p i j) := et_test (ev_op (ev_int ha) (ev_int hb) rv_I0)
theorem ed_cmp0 {p : Int → Int → Bool} {i j : Int} (ha : ED K ta σ G (.int i)) (hb : ED K tb σ G (.int j)) : ED K (tOp (rI0 fun i j => .bl (p i j)) ta tb) σ G (.bool (p i j)) := ed_ev (ev_op (ev_int ha) (ev_int hb) rv_I0) (.bl _)
theorem ed_neg {i : Int} (h : ED K te σ G (.int i)) : ED K (tUn (rU fun i => .int (-i)) te) σ G (.int (-i)) := ed_ev (ev_un (ev_int h) ru_neg) (.int _)
theorem ed_modN {i j : Int} (ha : ED K ta σ G (.int i)) (hb : ED K tb σ G (.int j)) (h0 : 0 < j) : ED K (tOp (rI (fun _ j => j ≠ 0) fun i j => .int (i.fmod j)) ta tb) σ G (.int (i % j)) :=
  ed_opC ha hb (by omega) (by rw [Int.fmod_eq_emod_of_nonneg i (by omega)])
/-- scalars -/
def sc : PyData → Bool
  | .none | .bool _ | .int _ | .str _ => true
  | _ => false
def vOf : PyData → V
  | .none => .non
  | .bool b => .bl b
  | .int i => .int i
  | .str x => .str x
  | _ => .non
theorem da_sc {v : V} (h : Da K H v d) (hs : sc d = true) : v = vOf d := by
  cases h <;> first | rfl | cases hs
theorem ev_sc (h : ED K te σ G d) (hs : sc d = true) : Ev te σ G (vOf d) := fun H1 x Q q => h H1 x Q fun v H2 G2 s g => by
  rw [da_sc g hs] at *
  exact q H2 s.up
theorem ed_vOf {σ : L2.St} (h : Ev te σ G (vOf d)) (hs : sc d = true) : ED K te σ G d := ed_ev h (by
  cases d <;> first | exact .non | exact .bl _ | exact .int _ | exact .str _ | cases hs)
theorem ed_eqSc (ha : ED K ta σ G d) (hb : ED K tb σ G e) (hd : sc d = true) (he : sc e = true) (h : scal (vOf d) (vOf e) = true) : ED K (tOp rEq ta tb) σ G (.bool (decide (vOf d = vOf e))) := ed_ev (ev_op (ev_sc ha hd) (ev_sc hb he) (rv_eq h)) (.bl _)
theorem et_eqSc (ha : ED K ta σ G d) (hb : ED K tb σ G e) (hd : sc d = true) (he : sc e = true) (h : scal (vOf d) (vOf e) = true) : EvT (tTest (tOp rEq ta tb)) σ G (decide (vOf d = vOf e)) := et_test (ev_op (ev_sc ha hd) (ev_sc hb he) (rv_eq h))
theorem et_neSc (ha : ED K ta σ G d) (hb : ED K tb σ G e) (hd : sc d = true) (he : sc e = true) (h : scal (vOf d) (vOf e) = true) : EvT (tTest (tOp rNe ta tb)) σ G (!decide (vOf d = vOf e)) := et_test (ev_op (ev_sc ha hd) (ev_sc hb he) (rv_ne h))
theorem et_eqI {i j : Int} (ha : ED K ta σ G (.int i)) (hb : ED K tb σ G (.int j)) : EvT (tTest (tOp rEq ta tb)) σ G (decide (i = j)) := et_is (et_eqSc ha hb rfl rfl rfl) (by
  show decide (V.int i = V.int j) = decide (i = j)
  by_cases h : i = j
  · rw [h, decide_eq_true rfl, decide_eq_true rfl]
  · rw [decide_eq_false h, decide_eq_false fun z => h (V.int.inj z)])
theorem ed_eqI {i j : Int} (ha : ED K ta σ G (.int i)) (hb : ED K tb σ G (.int j)) : ED K (tOp rEq ta tb) σ G (.bool (decide (i = j))) := ed_is (ed_eqSc ha hb rfl rfl rfl) (by
  show PyData.bool (decide (V.int i = V.int j)) = .bool (decide (i = j))
  by_cases h : i = j
  · rw [h, decide_eq_true rfl, decide_eq_true rfl]
  · rw [decide_eq_false h, decide_eq_false fun z => h (V.int.inj z)])
/-- x is None, x is not None -/
def isN : PyData → Bool
  | .none => true
  | _ => false
theorem da_isN {v : V} (h : Da K H v d) : decide (v = .non) = isN d := by
  cases h <;> first | rfl | exact decide_eq_false fun z => nomatch z
theorem ed_isN (h : ED K ta σ G d) : ED K (tOp (fun x y H Q => y = V.non ∧ Q (.bl (decide (x = .non))) H) ta (tC .non)) σ G (.bool (isN d)) := fun H1 x Q q => h H1 x _ fun v H2 G2 s g => ⟨rfl, by
  rw [da_isN g]
  exact q _ H2 G2 s (.bl _)⟩
theorem et_isN (h : ED K ta σ G d) : EvT (tTest (tOp (fun x y H Q => y = V.non ∧ Q (.bl (decide (x = .non))) H) ta (tC .non))) σ G (isN d) := et_test (ev_bool (ed_isN h))
theorem ed_notN (h : ED K ta σ G d) : ED K (tOp (fun x y H Q => y = V.non ∧ Q (.bl (!decide (x = .non))) H) ta (tC .non)) σ G (.bool (!isN d)) := fun H1 x Q q => h H1 x _ fun v H2 G2 s g => ⟨rfl, by
  rw [da_isN g]
  exact q _ H2 G2 s (.bl _)⟩
theorem et_notN (h : ED K ta σ G d) : EvT (tTest (tOp (fun x y H Q => y = V.non ∧ Q (.bl (!decide (x = .non))) H) ta (tC .non))) σ G (!isN d) := et_test (ev_bool (ed_notN h))
/-- isinstance(x, T) by the type's name -/
def tyD : PyData → String
  | .none => "NoneType"
  | .bool _ => "bool"
  | .int _ => "int"
  | .str _ => "str"
  | .list _ => "list"
  | .tuple _ => "tuple"
  | .dict _ => "dict"
theorem da_ty {v : V} (h : Da K H v d) : TyX K H v (.type (tyD d)) := by
  cases h with
  | non => exact .base .non
  | bl b => exact .base (.bl b)
  | int i => exact .base (.int i)
  | str x => exact .base (.str x)
  | lst e _ => exact .base (.lst e)
  | tup e _ =>
    rcases e with (e | ⟨o, e⟩) | ⟨o, its, n, e, c, _⟩
    · exact .base (.tup e)
    · exact .fTuple e
    · exact .kTuple e c
theorem ed_isi {T : String} {b : Bool} (h : ED K ta σ G d) (hb : kitB (tyD d) T = some b) : ED K (tCB (rIsi K) (tCons ta (tCons (tC (.ty T)) tNil))) σ G (.bool b) := fun H1 x Q q => h H1 x _ fun v H2 G2 s g =>
  ⟨v, .ty T, _, .type T, b, rfl, .ty T, da_ty (da_ex s.inn g), hb, q _ H2 G2 s (.bl b)⟩
/-- max, all, any, sum of a list -/
def mxI : List Int → Int
  | [] => 0
  | x :: r => r.foldl (fun a b => if a < b then b else a) x
theorem mx_fold : ∀ (r : List Int) (x : Int), (r.foldl (fun a b => if a < b then b else a) x ∈ x :: r) ∧ ∀ y ∈ x :: r, y ≤ r.foldl (fun a b => if a < b then b else a) x
  | [], x => ⟨List.mem_cons_self, fun y hy => by cases List.mem_singleton.mp hy; exact Int.le_refl _⟩
  | z :: r, x => by
    obtain ⟨h1, h2⟩ := mx_fold r (if x < z then z else x)
    rw [List.foldl_cons]
    refine ⟨?_, fun y hy => ?_⟩
    · rcases List.mem_cons.mp h1 with h | h
      · rw [h]
        split
        · exact List.mem_cons_of_mem _ List.mem_cons_self
        · exact List.mem_cons_self
      · exact List.mem_cons_of_mem _ (List.mem_cons_of_mem _ h)
    · have h0 := h2 _ List.mem_cons_self
      have key : ∀ a b m : Int, (if a < b then b else a) ≤ m → a ≤ m ∧ b ≤ m := fun a b m h => by
        split at h <;> omega
      obtain ⟨k1, k2⟩ := key x z _ h0
      rcases List.mem_cons.mp hy with e | hy
      · rw [e]
        exact k1
      · rcases List.mem_cons.mp hy with e | hy
        · rw [e]
          exact k2
        · exact h2 y (List.mem_cons_of_mem _ hy)
theorem mx_mem {ns : List Int} (h : ns ≠ []) : mxI ns ∈ ns := by
  cases ns with
  | nil => exact absurd rfl h
  | cons x r => exact (mx_fold r x).1
theorem mx_le {ns : List Int} {y : Int} (h : y ∈ ns) : y ≤ mxI ns := by
  cases ns with
  | nil => exact absurd h List.not_mem_nil
  | cons x r => exact (mx_fold r x).2 y h
theorem mx_is {ns : List Int} {m : Int} (h : m ∈ ns) (hm : ∀ y ∈ ns, y ≤ m) : m = mxI ns := by
  have h1 := mx_le h
  have h2 := hm _ (mx_mem (ns := ns) fun z => by rw [z] at h; exact absurd h List.not_mem_nil)
  omega
theorem ed_max {ns : List Int} (h : ED K ta σ G (.list (ns.map .int))) (hn : ns ≠ []) : ED K (tCB (rMax K) (tCons ta tNil)) σ G (.int (mxI ns)) := fun H1 x Q q => h H1 x _ fun v H2 G2 s g => by
  cases g with
  | @lst a xs _ e g =>
    cases daa_intsV g
    refine ⟨a, ns, rfl, sq_of (s.inn _ _ e), List.length_pos_iff.mpr hn, fun m hm hle => ?_⟩
    rw [mx_is hm hle]
    exact q _ H2 G2 s (.int _)
theorem daa_boolsV : ∀ {bs : List Bool} {vs : List V}, DaAll K H vs (bs.map PyData.bool) → vs = bs.map V.bl
  | [], _, .nil => rfl
  | n :: r, _, .cons (.bl _) a => by rw [daa_boolsV a]; rfl
theorem ed_all {bs : List Bool} (h : ED K ta σ G (.list (bs.map .bool))) : ED K (tCB (rAll K) (tCons ta tNil)) σ G (.bool (bs.all id)) := fun H1 x Q q => h H1 x _ fun v H2 G2 s g => by
  cases g with
  | @lst a xs _ e g =>
    cases daa_boolsV g
    exact ⟨a, bs, rfl, sq_of (s.inn _ _ e), q _ H2 G2 s (.bl _)⟩
theorem ed_any {bs : List Bool} (h : ED K ta σ G (.list (bs.map .bool))) : ED K (tCB (rAny K) (tCons ta tNil)) σ G (.bool (bs.any id)) := fun H1 x Q q => h H1 x _ fun v H2 G2 s g => by
  cases g with
  | @lst a xs _ e g =>
    cases daa_boolsV g
    exact ⟨a, bs, rfl, sq_of (s.inn _ _ e), q _ H2 G2 s (.bl _)⟩
theorem ed_sum {ns : List Int} (h : ED K ta σ G (.list (ns.map .int))) : ED K (tCB (rSum K) (tCons ta tNil)) σ G (.int ns.sum) := fun H1 x Q q => h H1 x _ fun v H2 G2 s g => by
  cases g with
  | @lst a xs _ e g =>
    cases daa_intsV g
    exact ⟨a, ns, rfl, sq_of (s.inn _ _ e), q _ H2 G2 s (.int _)⟩
/-- xs * k -/
theorem daa_rep {vs : List V} (g : DaAll K H vs ds) : ∀ k : Nat, DaAll K H (List.replicate k vs).flatten (List.replicate k ds).flatten
  | 0 => .nil
  | k + 1 => by
    rw [List.replicate_succ, List.replicate_succ, List.flatten_cons, List.flatten_cons]
    exact daa_app g (daa_rep g k)
theorem ed_rep {k : Int} (ha : ED K ta σ G (.list ds)) (hb : ∀ G2, Ex G G2 → ED K tb σ G2 (.int k)) (h0 : 0 ≤ k) (h1 : k < 2 ^ 63) (hz : ds.length * k.toNat ≤ 100000) : ED K (tOp rRep ta tb) σ G (.list (List.replicate k.toNat ds).flatten) := fun H1 x Q q =>
  ha H1 x _ fun v H2 G2 s g => ev_int (hb G2 s.an) H2 s.inn _ fun H3 x3 => by
    cases g with
    | @lst a xs _ e g =>
      refine ⟨a, k, xs, rfl, rfl, x3 _ _ (s.inn _ _ e), by omega, h1, by rw [daa_len g]; exact sz_of hz, fun p hp => ?_⟩
      have s' : Sep G H1 H3 G2 := ⟨s.up.trans x3, s.an, s.inn.trans x3, s.sep⟩
      exact q (.ref p) _ (upd G2 p (.lst (List.replicate k.toNat xs).flatten)) (s'.trans (Sep.new s'.inn hp)) (.lst upd_same (daa_ex (Ex.new (fresh_back s'.inn hp)) (daa_rep g _)))
/-- == of data -/
theorem et_neD {n w m u : Nat} (ha : ED K ta σ G d) (hb : ∀ G2, Ex G G2 → ED K tb σ G2 e) (hd : Ok n w d) (hn : n ≤ 60) (he : Ok m u e) (hm : m ≤ 60) : EvT (tTest (tOp (rNeD K) ta tb)) σ G (!PyData.eqv d e) := fun H1 x Q q =>
  ha H1 x _ fun v H2 G2 s g => hb G2 s.an H2 s.inn _ fun v2 H3 G3 s3 g3 =>
    ⟨d, e, da_dp (da_ex (s3.an.trans s3.inn) g), da_dp (da_ex s3.inn g3), hd.shaped hn, he.shaped hm, _, rfl, q H3 (s.up.trans s3.up)⟩
theorem ed_eqD {n w m u : Nat} (ha : ED K ta σ G d) (hb : ∀ G2, Ex G G2 → ED K tb σ G2 e) (hd : Ok n w d) (hn : n ≤ 60) (he : Ok m u e) (hm : m ≤ 60) : ED K (tOp (rEqD K) ta tb) σ G (.bool (PyData.eqv d e)) := fun H1 x Q q =>
  ha H1 x _ fun v H2 G2 s g => hb G2 s.an H2 s.inn _ fun v2 H3 G3 s3 g3 =>
    ⟨d, e, da_dp (da_ex (s3.an.trans s3.inn) g), da_dp (da_ex s3.inn g3), hd.shaped hn, he.shaped hm, q _ H3 G3 (s.trans s3) (.bl _)⟩
theorem eqv_ints : ∀ a b : List Int, PyData.eqv (.list (a.map .int)) (.list (b.map .int)) = decide (a = b)
  | [], [] => rfl
  | [], y :: b => by
    rw [decide_eq_false fun z => nomatch z]
    simp only [List.map_cons, List.map_nil, PyData.eqv, PyData.eqvAll]
  | x :: a, [] => by
    rw [decide_eq_false fun z => nomatch z]
    simp only [List.map_cons, List.map_nil, PyData.eqv, PyData.eqvAll]
  | x :: a, y :: b => by
    have h := eqv_ints a b
    have e : PyData.eqv (.list ((x :: a).map .int)) (.list ((y :: b).map .int)) = ((x == y) && PyData.eqv (.list (a.map .int)) (.list (b.map .int))) := by simp only [List.map_cons, PyData.eqv, PyData.eqvAll]
    rw [e, h]
    by_cases h1 : x = y
    · subst h1
      by_cases h2 : a = b
      · subst h2
        simp
      · rw [decide_eq_false h2, decide_eq_false fun z => h2 (List.cons.inj z).2, Bool.and_false]
    · rw [decide_eq_false fun z => h1 (List.cons.inj z).1, beq_eq_false_iff_ne.mpr h1, Bool.false_and]
theorem eqv_same {n w : Nat} (h : Ok n w d) : PyData.eqv d d = true := SeqAt.eqv_refl d h.cl
/-- xs[-1] -/
theorem ed_last {i : Int} (ha : ED K ta σ G (.list ds)) (hb : ∀ G2, Ex G G2 → ED K tb σ G2 (.int i)) (hi : i = -1) (hd : ds.getLast? = some d) : ED K (tOp (rIxL K) ta tb) σ G d := fun H1 x Q q =>
  ha H1 x _ fun v H2 G2 s g => ev_int (hb G2 s.an) H2 s.inn _ fun H3 x3 => by
    cases g with
    | @lst a xs _ e g =>
      subst hi
      have hl := daa_len g
      have hne : ds ≠ [] := fun z => by rw [z] at hd; cases hd
      have hpos : 0 < ds.length := List.length_pos_iff.mpr hne
      rw [List.getLast?_eq_getElem?] at hd
      obtain ⟨v, hv, gv⟩ := daa_get g _ d hd
      have hat : atI xs (-1) = some v := by
        unfold atI ixN
        rw [if_neg (by omega), if_pos (by omega)]
        show xs[(-1 + (xs.length : Int)).toNat]? = some v
        rw [show (-1 + (xs.length : Int)).toNat = ds.length - 1 by omega]
        exact hv
      exact ⟨a, xs, -1, v, rfl, rfl, sq_of (x3 _ _ (s.inn _ _ e)), hat, q v H3 G2 ⟨s.up.trans x3, s.an, s.inn.trans x3, s.sep⟩ gv⟩
end
section
variable {X : Cx} (K : PySem.W.Frag)
theorem maxK (hc : X.calm = true) (e : X.K = K := by rfl) : CallR X (.builtin "max") (rMax K) := e ▸ cr_max hc
theorem allK (hc : X.calm = true) (e : X.K = K := by rfl) : CallR X (.builtin "all") (rAll K) := e ▸ cr_all hc
theorem anyK (hc : X.calm = true) (e : X.K = K := by rfl) : CallR X (.builtin "any") (rAny K) := e ▸ cr_any hc
theorem sumK (hc : X.calm = true) (e : X.K = K := by rfl) : CallR X (.builtin "sum") (rSum K) := e ▸ cr_sum hc
theorem isiK (e : X.K = K := by rfl) : CallR X (.builtin "isinstance") (rIsi K) := e ▸ call_isi
theorem neDK (hu : X.A.units + 64 < cLine) (e : X.K = K := by rfl) : OpR X (compareOp .NotEq) (rNeD K) := e ▸ op_neD hu
theorem eqDK (hu : X.A.units + 64 < cLine) (e : X.K = K := by rfl) : OpR X (compareOp .Eq) (rEqD K) := e ▸ op_eqD hu
end
/-! more of statements -/
section
variable {K : PySem.W.Frag} {σ : L2.St} {G H : Hp} {ta tb te : TE} {d : PyData} {ds : List PyData} {D : Ends} {tu tz : TS}
/-- for i in range(a, b) -/
theorem d_range2 {j : Nat} {lo n : Int} (ha : ED K ta σ G (.int lo)) (hb : ED K tb σ G (.int n)) (x : Ex G H) (hn : 0 ≤ lo ∧ lo ≤ 100000 ∧ -100000 ≤ n ∧ n ≤ 100000) (Pv : Nat → L2.St → Hp → Prop) (h0 : ∀ H1, Ex H H1 → Pv 0 σ H1)
    (hs : ∀ (i : Nat) σ' H', lo + (i : Int) < n → Pv i σ' H' → tu { D with nx := Pv (i + 1), ct := Pv (i + 1), bk := tz D } (σ'.set j (some (.int (lo + (i : Int))))) H') (hd : ∀ σ' H', Pv (n - lo).toNat σ' H' → tz D σ' H') : tSeq (tFor (iRng2 (tCons ta (tCons tb tNil))) (gName j) tu) tz D σ H := by
  have e : EvA (tCons ta (tCons tb tNil)) σ G [.int lo, .int n] := ea_cons (ev_int ha) (ea_cons (ev_int hb) ea_nil)
  exact q_forR2 (EvA.mono x e) hn Pv h0 hs hd
/-- xs[-1] = e, xs outside the anchor, its items within -/
theorem daa_set : ∀ {vs : List V} {ds : List PyData} (n : Nat) {v : V}, DaAll K H vs ds → Da K H v d → DaAll K H (vs.set n v) (ds.set n d)
  | _, _, _, _, .nil, _ => .nil
  | _, _, 0, _, .cons _ a, g => .cons g a
  | _, _, n + 1, _, .cons h a, g => .cons h (daa_set n a g)
theorem d_setLast {l : Addr} {xs : List V} {i : Nat} {m : Int} (hG : G l = none) (hl : H l = some (.lst xs)) (hx : DaAll K G xs ds) (hi : σ[i]? = some (some (.ref l))) (h : ED K te σ G d) (x : Ex G H) (hne : 0 < xs.length) (hm : ∀ H', Ev tb σ H' (.int m)) (em : m = -1)
    (k : ∀ v H2 G2, Sep G H H2 G2 → G2 l = none → DaAll K G2 (xs.set (xs.length - 1) v) (ds.set (ds.length - 1) d) → Ex G2 (upd H2 l (.lst (xs.set (xs.length - 1) v))) → D.nx σ (upd H2 l (.lst (xs.set (xs.length - 1) v)))) :
    tAsg te (gSub (tVar i) tb rSetL) D σ H := h H x _ fun v H2 G2 s g => ⟨_, hi, hm H2 H2 (Ex.refl _) _ fun H3 x3 => by
    obtain ⟨o1, o2⟩ := s.out hG hl
    subst em
    refine ⟨l, xs, -1, xs.length - 1, rfl, rfl, x3 _ _ o2, ?_, ?_⟩
    · unfold ixN
      rw [if_neg (by omega), if_pos (by omega)]
      congr 1
      omega
    · have s' : Sep G H H3 G2 := ⟨s.up.trans x3, s.an, s.inn.trans x3, s.sep⟩
      refine k v H3 G2 s' o1 ?_ (Ex.mut s'.inn o1)
      rw [daa_len hx]
      exact daa_set _ (daa_ex s.an hx) g⟩
end
end Tw
namespace Tw
open PySem PySem.Spec PyProof.Rows L2 Evl
section
variable {K : PySem.W.Frag} {σ : L2.St} {G H : Hp} {ta tb te : TE} {d : PyData} {ds : List PyData} {D : Ends} {tu tz : TS}
/-- one new thing beside the anchor -/
theorem Sep.one {H2 : Hp} {p : Addr} {o : HO} (x : Ex G H) (np : H p = none) (e : Ex H H2) (hp : H2 p = some o) : Sep G H H2 (upd G p o) := by
  have gp : G p = none := fresh_back x np
  refine ⟨e, Ex.new gp, fun b u hb => ?_, fun b h h1 => ?_⟩
  · by_cases q : b = p
    · subst q
      rw [upd_same] at hb
      rw [← hb]
      exact hp
    · rw [upd_ne q] at hb
      exact e b u (x b u hb)
  · have q : b ≠ p := fun z => by
      rw [z] at h1
      exact h1 np
    rw [upd_ne q]
    exact h
/-- xs[-1] = (a, ..), the tuple's items told by the heap at hand -/
theorem d_setLastU {l : Addr} {xs ys : List V} {es : List PyData} {i : Nat} {m : Int} (hG : G l = none) (hl : H l = some (.lst xs)) (hx : DaAll K G xs ds) (hi : σ[i]? = some (some (.ref l))) (h : EvU te σ H ys) (hy : DaAll K G ys es) (x : Ex G H) (hne : 0 < xs.length) (hm : ∀ H', Ev tb σ H' (.int m)) (em : m = -1)
    (k : ∀ v H2 G2, Sep G H H2 G2 → G2 l = none → DaAll K G2 (xs.set (xs.length - 1) v) (ds.set (ds.length - 1) (.tuple es)) → Ex G2 (upd H2 l (.lst (xs.set (xs.length - 1) v))) → D.nx σ (upd H2 l (.lst (xs.set (xs.length - 1) v)))) :
    tAsg te (gSub (tVar i) tb rSetL) D σ H := h H (Ex.refl H) _ fun p H2 np e2 hp => ⟨_, hi, hm H2 H2 (Ex.refl _) _ fun H3 x3 => by
    have s := Sep.one x np (e2.trans x3) (x3 _ _ hp)
    obtain ⟨o1, o2⟩ := s.out hG hl
    subst em
    refine ⟨l, xs, -1, xs.length - 1, rfl, rfl, o2, ?_, ?_⟩
    · unfold ixN
      rw [if_neg (by omega), if_pos (by omega)]
      congr 1
      omega
    · refine k (.ref p) H3 _ s o1 ?_ (Ex.mut s.inn o1)
      rw [daa_len hx]
      exact daa_set _ (daa_ex s.an hx) (.tup (st_of upd_same) (daa_ex s.an hy))⟩
end
end Tw
namespace Tw
open PySem L2 Evl
theorem Sep.stay {G H H' : Hp} (x : Ex G H) (e : Ex H H') : Sep G H H' G := ⟨e, Ex.refl _, x.trans e, fun _ h _ => h⟩
end Tw
namespace Tw
open PySem PySem.Spec PyProof.Rows L2 Evl
/-! keyword-only parameters, all of them written -/
theorem kbn_mk {K : PySem.W.Frag} {x qual : Str} {st : Stmt} {f : Addr} {fd : FuncData} {ps ks : List Str} {n : Nat} (F : Fun K x qual st f fd)
    (h : ∀ (kV doc pm : Value) (an : Option Addr) (cdv ct : Value) (us ws : List Value), us.length = n → ws.length = ks.length →
      bindArgs (PySem.W.fnOf x qual (defArgs st) (defBody st) (defScope st) .none kV doc pm an cdv ct) ⟨us, ks.zip ws⟩ = pure (ps.zip (us ++ ws))) : KBn K fd ps n ks (fun us ws => us ++ ws) (fun vs zs => vs ++ zs) := by
  obtain ⟨_, _, kV, doc, pm, an, cdv, ct, _, rfl, _, _⟩ := F.ex
  exact ⟨fun s us ws _ h1 h2 => .of_eq (h kV doc pm an cdv ct us ws h1 h2), fun a b => a.append b⟩
section
variable {K : PySem.W.Frag} {σ : L2.St} {H : Hp} {d : PyData} {ds es : List PyData}
theorem ed_callN {n m : Nat} {R : List PyData → PyData → Prop} {E : XK} {t tk : TA} (h : EDA K t σ H ds) (hk : ∀ G, Ex H G → EDA K tk σ G es) (h1 : ds.length = n) (h2 : es.length = m) (hr : R (ds ++ es) d) : ED K (tCallN n m (spF K R) (fun vs zs => vs ++ zs) E t tk) σ H d := fun H1 x Q q =>
  h H1 x _ fun vs H2 G s g => hk G s.an H2 s.inn _ fun zs H3 G3 s3 g3 => ⟨by rw [daa_len g]; exact h1, by rw [daa_len g3]; exact h2, G3, ds ++ es, d, s3.inn, daa_app (daa_ex s3.an g) g3, hr, fun v H4 G4 s4 g4 => q v H4 G4 ((s.trans s3).trans s4) g4⟩
end
end Tw

set_option Elab.async false
set_option linter.all false
set_option maxRecDepth 100000
set_option maxHeartbeats 4000000
namespace Tw
open PySem PySem.Spec PyProof.Rows L2 Evl
/-! constants of the module -/
def TupK (K : PySem.W.Frag) (a : Addr) (xs : List V) : Prop :=
  ∃ (o : Obj) (its : Array Value) (n : Nat), K.lookup a = some o ∧ o.cls = .type "tuple" ∧ o.data = .seq its n ∧ its.size ≤ sizeLine ∧ Vals xs its.toList
theorem tupK_of {K : PySem.W.Frag} {a : Addr} {xs : List V} {its : Array Value} {n : Nat} {od : Option Addr} {sl : Array (Option Value)} (r : K.lookup a = some ⟨.type "tuple", od, .seq its n, sl⟩) (hl : its.size ≤ sizeLine) (hv : Vals xs its.toList) : TupK K a xs :=
  ⟨_, its, n, r, rfl, rfl, hl, hv⟩
section
variable {K : PySem.W.Frag} {σ : L2.St} {G H : Hp} {ta tb tc te to : TE} {d e : PyData} {ds es : List PyData}
theorem TupK.st {a : Addr} {xs : List V} (h : TupK K a xs) : SqT K H a xs := .inr h
theorem daa_strs : ∀ (ns : List Str), DaAll K H (ns.map V.str) (ns.map PyData.str)
  | [] => .nil
  | n :: r => .cons (.str n) (daa_strs r)
theorem TupK.strs {a : Addr} {ns : List Str} (h : TupK K a (ns.map V.str)) : Da K H (.ref a) (.tuple (ns.map .str)) := .tup h.st (daa_strs ns)
theorem TupK.ints {a : Addr} {ns : List Int} (h : TupK K a (ns.map V.int)) : Da K H (.ref a) (.tuple (ns.map .int)) := .tup h.st (daa_ints ns)
/-! texts -/
theorem ed_m0 {p : Str → Bool} {a : Str} (h : ED K to σ G (.str a)) : ED K (tM0 (fun x xs H Q => ∃ a, x = V.str a ∧ xs = [] ∧ True ∧ Q (.bl (p a)) H) to) σ G (.bool (p a)) := fun H1 x Q q =>
  ev_str h H1 x _ fun H2 x2 => ⟨⟨a, rfl⟩, a, rfl, rfl, trivial, q _ H2 G ⟨x2, Ex.refl G, x.trans x2, fun _ h _ => h⟩ (.bl _)⟩
theorem ed_m1 {p : Str → Str → Bool} {a b : Str} (h : ED K to σ G (.str a)) (hb : ED K te σ G (.str b)) : ED K (tM1 (fun x xs H Q => ∃ a b, x = V.str a ∧ xs = [V.str b] ∧ Q (.bl (p a b)) H) to te) σ G (.bool (p a b)) := fun H1 x Q q =>
  ev_str h H1 x _ fun H2 x2 => ⟨⟨a, rfl⟩, ev_str hb H2 (x.trans x2) _ fun H3 x3 => ⟨a, b, rfl, rfl, q _ H3 G ⟨x2.trans x3, Ex.refl G, (x.trans x2).trans x3, fun _ h _ => h⟩ (.bl _)⟩⟩
theorem two_le {n : Nat} (h : n ≤ 100000) : n + 2 ≤ sizeLine := by
  have e : sizeLine = 16777216 := by decide
  omega
theorem ed_words {a : Str} (h : ED K to σ G (.str a)) (hz : a.length ≤ 100000) : ED K (tM0 (fun x xs H Q => ∃ a, x = V.str a ∧ xs = [] ∧ a.length + 2 ≤ sizeLine ∧ rNewStrs (Txt.words a) H Q) to) σ G (.list ((Txt.words a).map .str)) := fun H1 x Q q =>
  ev_str h H1 x _ fun H2 x2 => ⟨⟨a, rfl⟩, a, rfl, rfl, two_le hz, fun p hp => by
    refine q (.ref p) _ (upd G p (.lst ((Txt.words a).map V.str))) ?_ (.lst upd_same (daa_strs _))
    have s0 : Sep G H1 H2 G := ⟨x2, Ex.refl G, x.trans x2, fun _ h _ => h⟩
    exact s0.trans (Sep.new s0.inn hp)⟩
theorem ed_split {a b : Str} (h : ED K to σ G (.str a)) (hb : ED K te σ G (.str b)) (hz : a.length ≤ 100000) (hn : (b.length == 0) = false) : ED K (tM1 (fun x xs H Q => ∃ a b, x = V.str a ∧ xs = [V.str b] ∧ (b.length == 0) = false ∧ a.length + 2 ≤ sizeLine ∧ rNewStrs (Txt.split a b) H Q) to te) σ G (.list ((Txt.split a b).map .str)) := fun H1 x Q q =>
  ev_str h H1 x _ fun H2 x2 => ⟨⟨a, rfl⟩, ev_str hb H2 (x.trans x2) _ fun H3 x3 => ⟨a, b, rfl, rfl, hn, two_le hz, fun p hp => by
    refine q (.ref p) _ (upd G p (.lst ((Txt.split a b).map V.str))) ?_ (.lst upd_same (daa_strs _))
    have s0 : Sep G H1 H3 G := ⟨x2.trans x3, Ex.refl G, (x.trans x2).trans x3, fun _ h _ => h⟩
    exact s0.trans (Sep.new s0.inn hp)⟩⟩
theorem ed_intS {a : Str} {n : Int} (h : ED K te σ G (.str a)) (hn : intText? a = some n) (hl : a.length ≤ 640) : ED K (tCB (fun xs H Q => ∃ a n, xs = [V.str a] ∧ PySem.intText? a = some n ∧ a.length ≤ 640 ∧ Q (.int n) H) (tCons te tNil)) σ G (.int n) := fun H1 x Q q =>
  ev_str h H1 x _ fun H2 x2 => ⟨a, n, rfl, hn, hl, q _ H2 G ⟨x2, Ex.refl G, x.trans x2, fun _ h _ => h⟩ (.int _)⟩
theorem ed_lenS {a : Str} (h : ED K te σ G (.str a)) (hl : a.length ≤ 100000) : ED K (tCB (fun xs H Q => ∃ z, xs = [V.str z] ∧ z.length ≤ sizeLine ∧ Q (.int z.length) H) (tCons te tNil)) σ G (.int a.length) := fun H1 x Q q =>
  ev_str h H1 x _ fun H2 x2 => ⟨a, rfl, sz_of hl, q _ H2 G ⟨x2, Ex.refl G, x.trans x2, fun _ h _ => h⟩ (.int _)⟩
theorem ed_ixS {a : Str} {i : Int} {c : Nat} (h : ED K te σ G (.str a)) (hb : ED K tb σ G (.int i)) (hl : a.length ≤ 100000) (hc : atI a.cps.toList i = some c) : ED K (tOp rIxS te tb) σ G (.str ⟨#[c]⟩) :=
  ed_ev (ev_op (ev_str h) (ev_int hb) (rv_ixS hl hc)) (.str _)
theorem ed_lenT (ha : ED K ta σ H (.tuple ds)) : ED K (tCB (fun xs H Q => ∃ p ys, xs = [V.ref p] ∧ (SqL K H p ys ∨ SqT K H p ys) ∧ Q (.int ys.length) H) (tCons ta tNil)) σ H (.int ds.length) := fun H1 x Q q =>
  ha H1 x _ fun v H2 G s g => by
    cases g with
    | @tup a xs _ e g =>
      refine ⟨a, xs, rfl, .inr (ex_t s.inn e), ?_⟩
      rw [daa_len g]
      exact q _ H2 G s (.int _)
/-- a text among texts -/
theorem et_inS {z : Str} {zs : List Str} (ha : ED K ta σ G (.str z)) (hb : ED K tb σ G (.list (zs.map .str))) : EvT (tTest (tOp (rIn K false) ta tb)) σ G (inV (.str z) (zs.map V.str)) := fun H1 x Q q =>
  ev_str ha H1 x _ fun H2 x2 => hb H2 (x.trans x2) _ fun v H3 G3 s g => by
    cases g with
    | @lst a xs _ e g =>
      cases daa_strsV g
      refine ⟨a, _, rfl, .inl (sq_of (s.inn _ _ e)), rfl, ?_, _, rfl, q H3 (x2.trans s.up)⟩
      rw [List.all_eq_true]
      intro y hy
      obtain ⟨t, _, rfl⟩ := List.mem_map.mp hy
      rfl
/-! chains, tests -/
theorem et_chain0 {p p' : Int → Int → Bool} {i j k : Int} (ha : ED K ta σ G (.int i)) (hb : ED K tb σ G (.int j)) (hc : ED K tc σ G (.int k)) :
    EvT (tTest (tChain (rI0 fun i j => .bl (p i j)) (rI0 fun i j => .bl (p' i j)) ta tb tc)) σ G (p i j && p' j k) := fun H1 x Q q =>
  ev_int ha H1 x _ fun H2 x2 => ev_int hb H2 (x.trans x2) _ fun H3 x3 => ⟨i, j, rfl, rfl, p i j, rfl, by
    cases hp : p i j with
    | false =>
      rw [if_neg Bool.false_ne_true]
      rw [hp] at q
      exact ⟨false, rfl, q H3 (x2.trans x3)⟩
    | true =>
      rw [if_pos rfl]
      rw [hp] at q
      exact ev_int hc H3 ((x.trans x2).trans x3) _ fun H4 x4 => ⟨j, k, rfl, rfl, p' j k, rfl, q H4 ((x2.trans x3).trans x4)⟩⟩
theorem ed_chain0 {p p' : Int → Int → Bool} {i j k : Int} (ha : ED K ta σ G (.int i)) (hb : ED K tb σ G (.int j)) (hc : ED K tc σ G (.int k)) :
    ED K (tChain (rI0 fun i j => .bl (p i j)) (rI0 fun i j => .bl (p' i j)) ta tb tc) σ G (.bool (p i j && p' j k)) := by
  have h : Ev (tChain (rI0 fun i j => .bl (p i j)) (rI0 fun i j => .bl (p' i j)) ta tb tc) σ G (.bl (p i j && p' j k)) := fun H1 x Q q =>
    ev_int ha H1 x _ fun H2 x2 => ev_int hb H2 (x.trans x2) _ fun H3 x3 => ⟨i, j, rfl, rfl, p i j, rfl, by
      cases hp : p i j with
      | false =>
        rw [if_neg Bool.false_ne_true]
        rw [hp] at q
        exact q H3 (x2.trans x3)
      | true =>
        rw [if_pos rfl]
        rw [hp] at q
        exact ev_int hc H3 ((x.trans x2).trans x3) _ fun H4 x4 => ⟨j, k, rfl, rfl, q H4 ((x2.trans x3).trans x4)⟩⟩
  exact ed_ev h (.bl _)
theorem et_truL (h : ED K te σ G (.list ds)) : EvT (fun σ H Q => te σ H fun x H' => ∃ k, TruV K x H' k ∧ Q k H') σ G (!ds.isEmpty) := fun H1 x Q q =>
  h H1 x _ fun v H2 G2 s g => by
    cases g with
    | @lst a xs _ e g =>
      refine ⟨!ds.isEmpty, .inl ⟨xs, sq_of (s.inn _ _ e), ?_⟩, q H2 s.up⟩
      have hl := daa_len g
      cases xs <;> cases ds <;> first | rfl | cases hl
theorem ed_ifE {t : TT} {b : Bool} (h : EvT t σ G b) (h1 : b = true → ED K ta σ G d) (h2 : b = false → ED K tb σ G d) : ED K (tIf t ta tb) σ G d := fun H1 x Q q => h H1 x _ fun H2 x2 => by
  have k : ∀ v H3 G3, Sep G H2 H3 G3 → Da K G3 v d → Q v H3 := fun v H3 G3 s g => q v H3 G3 ⟨x2.trans s.up, s.an, s.inn, fun b hb h1 => s.sep b hb fun z => by
    cases q1 : H1 b with
    | none => exact h1 q1
    | some o =>
      rw [x2 b o q1] at z
      cases z⟩ g
  cases b with
  | true => exact h1 rfl H2 (x.trans x2) Q k
  | false => exact h2 rfl H2 (x.trans x2) Q k
/-! slices -/
theorem cut_to {l : List PyData} {n : Nat} : cutD l none (some (n : Int)) = l.take n := by
  unfold cutD
  rw [sIx_nat']
  show (l.drop 0).take (min n l.length - 0) = _
  rw [List.drop_zero, Nat.sub_zero]
  by_cases h : n ≤ l.length
  · rw [Nat.min_eq_left h]
  · rw [Nat.min_eq_right (by omega), List.take_length, List.take_of_length_le (by omega)]
theorem cut_from {l : List PyData} {n : Nat} : cutD l (some (n : Int)) none = l.drop n := by
  unfold cutD
  rw [sIx_nat']
  show (l.drop (min n l.length)).take (l.length - min n l.length) = _
  rw [List.take_of_length_le (by rw [List.length_drop]; omega)]
  by_cases h : n ≤ l.length
  · rw [Nat.min_eq_left h]
  · rw [Nat.min_eq_right (by omega), List.drop_length, List.drop_of_length_le (by omega)]
theorem cut_init {l : List PyData} {m : Int} (hm : m = -1) : cutD l none (some m) = l.dropLast := by
  subst hm
  unfold cutD
  have e : HT.sIx l.length l.length (some (-1)) = l.length - 1 := by
    show (if (-1 : Int) < 0 then (-1 + (l.length : Int)).toNat else min (-1 : Int).toNat l.length) = _
    rw [if_pos (by decide)]
    omega
  rw [e]
  show (l.drop 0).take (l.length - 1 - 0) = _
  rw [List.drop_zero, Nat.sub_zero, List.dropLast_eq_take]
end
end Tw

set_option Elab.async false
set_option linter.all false
set_option maxRecDepth 100000
set_option maxHeartbeats 4000000
namespace Tw
open PySem PySem.Spec PyProof.Rows L2 Evl
/-! what is wholly new -/
def Nil : Hp := fun _ => none
theorem ex_nil {H : Hp} : Ex Nil H := fun _ _ h => nomatch h
theorem Sep.back {H1 H2 H3 G F : Hp} (e : Ex H1 H2) (s : Sep G H2 H3 F) : Sep G H1 H3 F := ⟨e.trans s.up, s.an, s.inn, fun b hb h1 => s.sep b hb fun z => by
  cases q : H1 b with
  | none => exact h1 q
  | some o =>
    rw [e b o q] at z
    cases z⟩
/-- what is new stands beside any anchor -/
theorem Sep.join {H H1 H2 F : Hp} (x : Ex H H1) (s : Sep Nil H1 H2 F) : ∃ G, Sep H H1 H2 G ∧ Ex F G := by
  refine ⟨fun b => if (H b).isSome then H b else F b, ⟨s.up, fun b o hb => ?_, fun b o hb => ?_, fun b hb hb1 => ?_⟩, fun b o hb => ?_⟩
  · show (if (H b).isSome then H b else F b) = some o
    rw [hb]
    rfl
  · have hb' : (if (H b).isSome then H b else F b) = some o := hb
    cases z : H b with
    | none =>
      rw [z] at hb'
      exact s.inn b o hb'
    | some u =>
      rw [z] at hb'
      have : u = o := Option.some.inj hb'
      subst this
      exact s.up b u (x b u z)
  · show (if (H b).isSome then H b else F b) = none
    rw [hb]
    exact s.sep b rfl hb1
  · show (if (H b).isSome then H b else F b) = some o
    cases z : H b with
    | none => exact hb
    | some u =>
      have := s.sep b rfl (by rw [x b u z]; exact Option.some_ne_none u)
      rw [hb] at this
      cases this
def EN (K : PySem.W.Frag) (te : TE) (σ : L2.St) (H : Hp) (d : PyData) : Prop :=
  ∀ H1, Ex H H1 → ∀ Q : VK, (∀ v H2 F, Sep Nil H1 H2 F → Da K F v d → Q v H2) → te σ H1 Q
def spO (K : PySem.W.Frag) (R : List PyData → PyData → Prop) : Sp := fun vs H1 Q _ => ∃ G0 ds d, Ex G0 H1 ∧ DaAll K G0 vs ds ∧ R ds d ∧ ∀ v H2 F, Sep Nil H1 H2 F → Da K F v d → Q v H2
section
variable {K : PySem.W.Frag} {σ : L2.St} {G H : Hp} {ta tb te tl : TE} {d e : PyData} {ds es : List PyData} {D : Ends} {tu tz : TS}
theorem EN.ed (h : EN K te σ H d) : ED K te σ H d := fun H1 x Q q => h H1 x Q fun v H2 F s g => by
  obtain ⟨G, s2, e⟩ := s.join x
  exact q v H2 G s2 (da_ex e g)
theorem en_call {R : List PyData → PyData → Prop} {E : XK} {t : TA} (h : EDA K t σ H ds) (hr : R ds d) : EN K (tCall (spO K R) [] E t) σ H d := fun H1 x Q q =>
  h H1 x _ fun vs H2 G s g => ⟨G, ds, d, s.inn, by rw [List.append_nil]; exact g, hr, fun v H3 F s2 g2 => q v H3 F (s2.back s.up) g2⟩
theorem spO_len {R : List PyData → PyData → Prop} {n : Nat} (h : ∀ ds d, R ds d → ds.length = n) : ∀ vs H Q E, spO K R vs H Q E → vs.length = n := by
  rintro vs H Q E ⟨G0, ds, d, _, g, hr, _⟩
  rw [daa_len g]
  exact h ds d hr
theorem d_asgN {i : Nat} (h : EN K te σ G d) (x : Ex G H) (k : ∀ v H2 F, Sep Nil H H2 F → Da K F v d → tz D (σ.set i (some v)) H2) : tSeq (tAsg te (gName i)) tz D σ H := h H x _ k
/-- a statement that is a call, its answer dropped -/
theorem d_drop (h : ED K te σ G d) (x : Ex G H) (k : ∀ H2, Ex H H2 → tz D σ H2) : tSeq (tDrop te) tz D σ H := h H x _ fun v H2 G2 s g => k H2 s.up
theorem d_drop1 (h : ED K te σ G d) (x : Ex G H) (k : ∀ H2, Ex H H2 → D.nx σ H2) : tDrop te D σ H := h H x _ fun v H2 G2 s g => k H2 s.up
/-- a, b, .. = e, e a list -/
theorem d_unpL {n : Nat} {gs : TGs} (h : ED K te σ G (.list ds)) (x : Ex G H) (hn : ds.length = n) (k : ∀ vs H2 G2, Sep G H H2 G2 → DaAll K G2 vs ds → gs vs σ H2 (tz D)) : tSeq (tAsg te (gLst K n gs)) tz D σ H := h H x _ fun v H2 G2 s g => by
  cases g with
  | @lst a xs _ e g => exact ⟨a, xs, rfl, sq_of (s.inn _ _ e), by rw [daa_len g]; exact hn, k xs H2 G2 s g⟩
/-- xs.append(e), e wholly new, xs outside the anchor of what is kept -/
theorem d_appN {l : Addr} {xs : List V} {i : Nat} {A F : Hp} (xF : Ex F H) (hF : F l = none) (hl : H l = some (.lst xs)) (hx : DaAll K F xs ds) (hi : σ[i]? = some (some (.ref l))) (h : EN K te σ A d) (x : Ex A H) (hz : xs.length < 100000)
    (k : ∀ v H2 F2, Sep F H H2 F2 → F2 l = none → DaAll K F2 (xs ++ [v]) (ds ++ [d]) → H2 l = some (.lst xs) → Ex H H2 → D.nx σ (upd H2 l (.lst (xs ++ [v])))) :
    tDrop (tBM K "list" rAppend (tVar i) (tCons te tNil)) D σ H :=
  ⟨_, hi, .inl ⟨rfl, xs, sq_of hl⟩, h H x _ fun v H2 F1 s g => by
    obtain ⟨F2, s2, e2⟩ := s.join xF
    obtain ⟨o1, o2⟩ := s2.out hF hl
    exact ⟨l, xs, v, rfl, rfl, o2, sz_lt hz, k v H2 F2 s2 o1 (daa_app (daa_ex s2.an hx) (.cons (da_ex e2 g) .nil)) o2 s.up⟩⟩
/-- for a, b in enumerate(xs) -/
theorem d_enum {i j1 j2 : Nat} {v : V} (hi : σ[i]? = some (some v)) (g : Da K G v (.list ds)) (x : Ex G H) (Pv : Nat → L2.St → Hp → Prop) (h0 : Pv 0 σ H) (hx : ∀ i σ' H', Pv i σ' H' → Ex G H')
    (hs : ∀ (i : Nat) w d σ' H', ds[i]? = some d → Da K G w d → Pv i σ' H' → ∀ H2, Ex H' H2 → tu { D with nx := Pv (i + 1), ct := Pv (i + 1), bk := tz D } ((σ'.set j1 (some (.int (i : Int)))).set j2 (some w)) H2)
    (hd : ∀ σ' H', Pv ds.length σ' H' → tz D σ' H') : tSeq (tFor (iEnum K (tCons (tVar i) tNil)) (gTup K 2 (gCons (gName j1) (gCons (gName j2) gNil))) tu) tz D σ H := by
  cases g with
  | @lst a xs _ e g =>
    have hl := daa_len g
    refine ⟨_, hi, a, xs, rfl, sq_of (x _ _ e), ?_⟩
    refine for_it (D := { D with nx := tz D }) (walk_enum (K := K) (a := a) (xs := xs)) Pv h0 (fun i σ' H' _ p => sq_of (hx i σ' H' p _ _ e)) (fun i y σ' H' H2 hlt p yy => ?_) (fun σ' H' p => hd σ' H' (by rw [← hl]; exact p))
    obtain ⟨T, p1, p2, rfl, hT, rfl, e1, e2⟩ := yy
    cases Option.some.inj e1
    obtain ⟨d, hd', gd⟩ := daa_getV g i p2 e2
    exact ⟨T, _, rfl, st_of upd_same, rfl, _, _, rfl, _, _, rfl, rfl, hs i p2 d σ' _ hd' gd p _ (Ex.new hT)⟩
/-- for a in xs -/
theorem d_for {i j : Nat} {v : V} (hi : σ[i]? = some (some v)) (g : Da K G v (.list ds)) (x : Ex G H) (Pv : Nat → L2.St → Hp → Prop) (h0 : Pv 0 σ H) (hx : ∀ i σ' H', Pv i σ' H' → Ex G H')
    (hs : ∀ (i : Nat) w d σ' H', ds[i]? = some d → Da K G w d → Pv i σ' H' → tu { D with nx := Pv (i + 1), ct := Pv (i + 1), bk := tz D } (σ'.set j (some w)) H')
    (hd : ∀ σ' H', Pv ds.length σ' H' → tz D σ' H') : tSeq (tFor (iList K (tVar i)) (gName j) tu) tz D σ H := by
  cases g with
  | @lst a xs _ e g =>
    have hl := daa_len g
    refine ⟨_, hi, a, rfl, ⟨xs, sq_of (x _ _ e)⟩, ?_⟩
    refine for_it (D := { D with nx := tz D }) (walk_list (K := K) (a := a) (xs := xs)) Pv h0 (fun i σ' H' _ p => sq_of (hx i σ' H' p _ _ e)) (fun i y σ' H' H2 hlt p yy => ?_) (fun σ' H' p => hd σ' H' (by rw [← hl]; exact p))
    obtain ⟨rfl, e2⟩ := yy
    obtain ⟨d, hd', gd⟩ := daa_getV g i y e2
    exact hs i y d σ' _ hd' gd p
theorem d_for1 {i j : Nat} {v : V} (hi : σ[i]? = some (some v)) (g : Da K G v (.list ds)) (x : Ex G H) (Pv : Nat → L2.St → Hp → Prop) (h0 : Pv 0 σ H) (hx : ∀ i σ' H', Pv i σ' H' → Ex G H')
    (hs : ∀ (i : Nat) w d σ' H', ds[i]? = some d → Da K G w d → Pv i σ' H' → tu { D with nx := Pv (i + 1), ct := Pv (i + 1), bk := D.nx } (σ'.set j (some w)) H')
    (hd : ∀ σ' H', Pv ds.length σ' H' → D.nx σ' H') : tFor (iList K (tVar i)) (gName j) tu D σ H := d_for (tz := tNext) hi g x Pv h0 hx hs hd
theorem d_enum1 {i j1 j2 : Nat} {v : V} (hi : σ[i]? = some (some v)) (g : Da K G v (.list ds)) (x : Ex G H) (Pv : Nat → L2.St → Hp → Prop) (h0 : Pv 0 σ H) (hx : ∀ i σ' H', Pv i σ' H' → Ex G H')
    (hs : ∀ (i : Nat) w d σ' H', ds[i]? = some d → Da K G w d → Pv i σ' H' → ∀ H2, Ex H' H2 → tu { D with nx := Pv (i + 1), ct := Pv (i + 1), bk := D.nx } ((σ'.set j1 (some (.int (i : Int)))).set j2 (some w)) H2)
    (hd : ∀ σ' H', Pv ds.length σ' H' → D.nx σ' H') : tFor (iEnum K (tCons (tVar i) tNil)) (gTup K 2 (gCons (gName j1) (gCons (gName j2) gNil))) tu D σ H := d_enum (tz := tNext) hi g x Pv h0 hx hs hd
/-- two tuples walked at once -/
theorem walk_zipT {a b : Addr} {xs ys : List V} {n : Nat} (hn : n = min xs.length ys.length) : Walk (RZ.ItzT K a b) n (fun H => SqT K H a xs ∧ SqT K H b ys) (YPair (fun i => xs[i]?) (fun i => ys[i]?)) := by
  subst hn
  refine ⟨fun i _ hi q => ?_, fun _ q => ⟨xs, ys, q.1, q.2, by omega⟩, fun i H v H' _ q y => ?_⟩
  · have h1 : i < xs.length := by omega
    have h2 : i < ys.length := by omega
    exact ⟨xs, ys, xs[i], ys[i], q.1, q.2, by simp [h1], by simp [h2]⟩
  · obtain ⟨T, x, z, h1, h2, h3, h4, h5⟩ := y
    exact ⟨T, x, z, h1, h2, h3, h4 xs q.1, h5 ys q.2⟩
theorem range_step {f : Nat → PyData} {i : Nat} : (List.range (i + 1)).map f = if true = true then (List.range i).map f ++ [f i] else (List.range i).map f := by
  rw [if_pos rfl, List.range_succ, List.map_append]
  rfl
/-- [e for v, (lo, hi) in zip(t, bounds)] -/
theorem ed_lcZ {ta : TA} {vs : List Nat} {j1 j2 j3 : Nat} {bs : List (Int × Int)} (f : Nat → PyData) (h : EDA K ta σ H [.tuple ds, .tuple (bs.map fun b => .tuple [.int b.1, .int b.2])]) (hl : ds.length = bs.length) (hz : ds.length ≤ 1000)
    (hw : ∀ x y z, wipe ((((wipe σ vs).set j1 (some x)).set j2 (some y)).set j3 (some z)) vs = wipe σ vs)
    (he : ∀ (i : Nat) d v lo hi G, ds[i]? = some d → bs[i]? = some (lo, hi) → Ex H G → Da K G v d → ED K te ((((wipe σ vs).set j1 (some v)).set j2 (some (.int lo))).set j3 (some (.int hi))) G (f i)) :
    ED K (tLc (RZ.iZipA K ta) (gTup K 2 (gCons (gName j1) (gCons (gTup K 2 (gCons (gName j2) (gCons (gName j3) gNil))) gNil))) tYes te vs) σ H (.list ((List.range ds.length).map f)) := fun H1 x Q q =>
  h H1 x _ fun us H2 A s ga => by
    obtain ⟨v0, r, rfl, g0, ga⟩ := daa_inv ga
    obtain ⟨v1, r, rfl, g1, ga⟩ := daa_inv ga
    cases daa_inv0 ga
    cases g0 with
    | @tup a xs _ ea gx =>
      cases g1 with
      | @tup b ys _ eb gy =>
        have l1 := daa_len gx
        have l2 := daa_len gy
        rw [List.length_map] at l2
        refine ⟨a, b, xs, ys, rfl, .inr ⟨ex_t s.inn ea, ex_t s.inn eb, fun D hD => ?_⟩⟩
        refine lc_it (walk_zipT (K := K) (a := a) (b := b) (xs := xs) (ys := ys) (n := ds.length) (by omega)) (Lw K A H2 D fun i => (List.range i).map f) (Lw.start s.inn hD rfl) (fun i H' _ pw => ?_) (fun i y H' H3 hlt pw yy => ?_) fun H' pw => ?_
        · obtain ⟨_, G, acc, s2, _⟩ := pw
          exact ⟨ex_t (s.inn.trans s2.up) ea, ex_t (s.inn.trans s2.up) eb⟩
        · obtain ⟨T, p1, p2, rfl, hT, rfl, e1, e2⟩ := yy
          obtain ⟨d, hd', gd⟩ := daa_getV gx i p1 e1
          obtain ⟨d2, hd2, gd2⟩ := daa_getV gy i p2 e2
          rw [List.getElem?_map] at hd2
          obtain ⟨⟨lo, hi⟩, hb, rfl⟩ := Option.map_eq_some_iff.mp hd2
          cases gd2 with
          | @tup c zs _ ec gz =>
            obtain ⟨w1, r, rfl, q1, gz⟩ := daa_inv gz
            obtain ⟨w2, r, rfl, q2, gz⟩ := daa_inv gz
            cases daa_inv0 gz
            cases q1
            cases q2
            have pw' := pw
            obtain ⟨hD', G, acc, s2, gD, hacc, ga', la⟩ := pw
            have ex3 : Ex A (upd H' T (.tup [p1, .ref c])) := (s.inn.trans s2.up).trans (Ex.new hT)
            have TD : T ≠ D := fun z => by
              rw [z] at hT
              rw [hT] at hacc
              cases hacc
            have pw3 : Lw K A H2 D (fun i => (List.range i).map f) i (upd H' T (.tup [p1, .ref c])) := ⟨hD', G, acc, ⟨s2.up.trans (Ex.new hT), s2.an, s2.inn.trans (Ex.new hT), s2.sep⟩, gD, Ex.new hT _ _ hacc, ga', la⟩
            have tn := pw3.turn (t := tYes) (te := te) (σ2 := (((wipe σ vs).set j1 (some p1)).set j2 (some (.int lo))).set j3 (some (.int hi))) (f := true) (e := f i) (by omega) (fun _ _ => et_yes) (fun _ G xg => he i d p1 lo hi G hd' hb (s.an.trans xg) (da_ex xg gd)) range_step
            exact ⟨T, _, rfl, st_of upd_same, rfl, _, _, rfl, _, _, rfl, ⟨c, _, rfl, ex_t ex3 ec, rfl, _, _, rfl, _, _, rfl, rfl, ⟨rfl, hw p1 (.int lo) (.int hi), tn⟩⟩⟩
        · have g3 := lc_fin (out := fun i => (List.range i).map f) s q pw
          exact g3
end
end Tw

set_option Elab.async false
set_option linter.all false
set_option maxRecDepth 100000
set_option maxHeartbeats 4000000
namespace Tw
open PySem PySem.Spec PySem.Calls PyProof.Rows L2 Evl
/-! set(xs), xs a list of hints -/
abbrev bareS (w : World) : Obj := { cls := .type "set", dict := none, data := .set #[] 0 (.fresh 0 0 (!w.params.followText "set-order")) }
abbrev withS (w : World) (s : Shared) : Shared := { s with heap := s.heap.push (bareS w) }
/-- the set at S is made of ns; all else stands -/
def Full (w : World) (s : Shared) (ns : List Int) : Value → Shared → Prop := fun r s2 => r = .none ∧ ∃ h tk c, s2 = { s with heap := h, toks := tk } ∧ SetR w h s.heap.objs.size (fun j => decide (j ∈ ns)) c ∧ c ≤ ns.length ∧ ∀ b o, s.heap.get? b = some o → h.get? b = some o
section
variable {P : Program} {w : World} {A : Around} {E : Value → Shared → Prop} {s : Shared} {l : Addr} {items : Array Value} {ns : List Int}
/-- the loop that fills it -/
theorem fill_set {B : Around} (calm : B.in1.handled = none) (hl : s.heap.IsList l items) (hints : IntsAre items.toList ns) (room : ns.length + 1 < scanBound) {R : Result → Shared → Prop}
    (give : ∀ s2, Full w s ns .none s2 → R (.ok (.ret .none)) s2) :
    codeAny (model P w) B (.builtin "set.update.loop" ⟨[.ref s.heap.objs.size, .ref (withS w s).heap.objs.size], []⟩) R { withS w s with heap := (withS w s).heap.push { cls := .type "list_iterator", data := .fields #[.ref l, .int 0 0] } } := by
  have len : items.size = ns.length := by
    have z := IntsAre.length hints
    rwa [Array.length_toList] at z
  have size1 : (withS w s).heap.objs.size = s.heap.objs.size + 1 := Heap.size_push ..
  have there : (withS w s).heap.get? s.heap.objs.size = some (bareS w) := Heap.get?_push_size _ rfl
  obtain ⟨ol, gl, rest⟩ := id hl
  have below : l < s.heap.objs.size := Heap.lt_size gl
  have apart : l ≠ (withS w s).heap.objs.size := fun z => by
    have z2 : l = s.heap.objs.size + 1 := z.trans size1
    exact absurd below (by rw [z2]; exact Nat.not_lt.mpr (Nat.le_succ _))
  have value : ∀ (i : Nat) (v : Value), items[i]? = some v → ∃ k t, ns[i]? = some k ∧ v = .int k t := by
    intro i v hv
    have hi : i < ns.length := by
      have := (Array.getElem?_eq_some_iff.mp hv).1
      omega
    obtain ⟨t, e⟩ := IntsAre.int_at hints i v (by rw [Array.getElem?_toList]; exact hv)
    rw [List.getD_eq_getElem?_getD, List.getElem?_eq_getElem hi] at e
    exact ⟨ns[i], t, List.getElem?_eq_getElem hi, e⟩
  have hl1 : (withS w s).heap.IsList l items := hl.push _
  refine set_update_ints (Walks.list calm _ l apart items).toS s.heap.objs.size ?out ns len room value items.size 0 _ (by omega) (Nat.zero_le _) ⟨⟨_, Heap.get?_push_size _ rfl, rfl, rfl⟩, hl1.push _⟩ ⟨0, Nat.le_refl 0, setR_new_at (Heap.get?_push_of_some _ there)⟩ ?fin
  case out =>
    intro hm
    rcases List.mem_cons.mp hm with z | hm
    · exact absurd (z.trans size1) (Nat.ne_of_lt (Nat.lt_succ_self _))
    · rcases List.mem_cons.mp hm with z | hm
      · exact absurd z (Nat.ne_of_gt below)
      · cases hm
  case fin =>
    rintro ⟨h2, g2, d2, t2, o2⟩ c moved few done
    obtain rfl : g2 = s.gens := moved.gens
    obtain rfl : d2 = s.drawn := moved.drawn
    obtain rfl : o2 = s.os := moved.os
    refine give _ ⟨rfl, h2, t2, c, rfl, done, by omega, fun b o e => ?_⟩
    have hb := Heap.lt_size e
    refine moved.heap b o (fun hm => ?_) (Heap.get?_push_of_some _ (Heap.get?_push_of_some _ e))
    rcases List.mem_cons.mp hm with z | hm
    · exact absurd z (Nat.ne_of_lt hb)
    · rcases List.mem_cons.mp hm with z | hm
      · exact absurd (z.trans size1) (Nat.ne_of_lt (Nat.lt_succ_of_lt hb))
      · cases hm
/-- set(xs) -/
theorem call_set_listI (calm : A.handled = none) (hl : s.heap.IsList l items) (hints : IntsAre items.toList ns) (room : ns.length + 1 < scanBound) {Q : Value → Shared → Prop}
    (give : ∀ h tk c, SetR w h s.heap.objs.size (fun j => decide (j ∈ ns)) c → c ≤ ns.length → (∀ b o, s.heap.get? b = some o → h.get? b = some o) → Q (.ref s.heap.objs.size) { s with heap := h, toks := tk }) :
    wpAny (model P w) A (call (.type "set") [.ref l]) Q E s := by
  have there : (withS w s).heap.get? s.heap.objs.size = some (bareS w) := Heap.get?_push_size _ rfl
  obtain ⟨c0, tl0, mroS⟩ := F.called_set.mro
  have madeS := F.called_set.made
  have subS := F.called_set.sub
  have ntS := F.called_set.notType
  have ccS := F.called_set.canCreate
  have tcS := F.typeCall_set_1 (.ref l)
  refine wpAny_call (codeAny_of_tree (show wpAny _ _ (callAny (.type "set") _) _ _ _ from wpAny_pure ⟨Code.quiet_builtin _ (by decide +kernel), codeAny_builtin F.entry_type_call ?body⟩))
  rw [Around.under_plain (weight_type_call_type "set" [.ref l] []) rfl]
  repeat (any_goals (first | assumption | wp_step))
  refine codeAny_mono (code_set_led1 (.ref l) (E := E) (Q₁ := fun r s2 => r = .ref s.heap.objs.size ∧ s2 = withS w s) ⟨rfl, rfl⟩) ?made
  rintro (e | fl) s2 hr
  · exact hr
  cases fl with
  | next => exact hr.elim
  | brk => exact hr.elim
  | cont => exact hr.elim
  | ret obj =>
    obtain ⟨rfl, rfl⟩ := hr
    have tyS : Shared.TypeIs (withS w s) (.ref s.heap.objs.size) "set" := ⟨_, there, rfl⟩
    have liS := F.called_set.init.lookup
    have biS := F.called_set.init.bind (.ref s.heap.objs.size)
    repeat (any_goals (first | assumption | wp_step))
    refine codeAny_mono (codeAny_call_builtin (R := wants (Full w s ns) E) F.called_set.init.plain F.entry_set_init (check_set_init_1 tyS ?fill)) ?rest
    case fill =>
      have hl1 : (withS w s).heap.IsList l items := hl.push _
      obtain ⟨⟨ocls, odict, odata, oslots⟩, gol, hcl, nl, hdl⟩ := hl
      cases hcl
      cases hdl
      have gol1 : (withS w s).heap.get? l = some { cls := .type "list", dict := odict, data := .seq items nl, slots := oslots } := Heap.get?_push_of_some _ gol
      have no1 := F.sub_list_set
      have no2 := F.sub_list_frozenset
      have no3 : (Value.type "list" == Value.type "dict") = false := by decide
      unfold Builtin.«set.__init__» noKeywords Builtin.Frozenset.updateFrom
      generalize keep : pyIter = PI
      wp_walk
      subst keep
      refine wpAny_pyIter_list hl1 (wpAny_bind (wpAny_runValue ?_))
      refine fill_set (by simp [calm]) ⟨_, gol, rfl, nl, rfl⟩ hints room fun s3 done => ?_
      exact wpAny_pure (wpAny_pure done)
    case rest =>
      rintro (e | fl) s3 hr3
      · exact hr3
      cases fl with
      | next => exact hr3.elim
      | brk => exact hr3.elim
      | cont => exact hr3.elim
      | ret r =>
        obtain ⟨rfl, h, tk, c, rfl, done, few, old⟩ := hr3
        repeat (any_goals (first | assumption | wp_step))
        exact give _ _ _ done few old
end
end Tw

set_option Elab.async false
set_option linter.all false
set_option maxRecDepth 100000
set_option maxHeartbeats 4000000
namespace Tw
open PySem PySem.Spec PyProof.Rows L2 Evl
/-! set(xs) of a list of ints; sorted(set(xs)) -/
def rSetL (K : PySem.W.Frag) (w : World) : List V → Hp → VK → Prop := fun vs H Q => ∃ (p : Addr) (ns : List Int), vs = [.ref p] ∧ SqL K H p (ns.map V.int) ∧ ns.length ≤ 1000 ∧ ∀ a c, H a = none → c ≤ ns.length → Q (.ref a) (upd H a (SetO w a (fun j => decide (j ∈ ns)) c))
theorem call_setL {X : Cx} (hc : X.calm = true) : CallR X (.type "set") (rSetL X.K X.w) := by
  intro pins s σ H vs us Q I r h
  obtain ⟨p, ns, rfl, hS, few, q⟩ := h
  rw [Vals.ref1 r]
  obtain ⟨its, rv, pl, _⟩ := I.list hS
  refine call_set_listI (I.ok.hd hc) pl.isList (ints_of_vals rv) (by unfold scanBound; omega) fun h2 tk c R1 hc2 old => ?_
  have free := I.hok.fresh (Nat.le_refl s.heap.objs.size)
  exact ⟨.ref s.heap.objs.size, _, I.laid old (Nat.le_refl _) (setO_new R1), rfl, q _ c free hc2⟩
theorem setLK {X : Cx} {K : PySem.W.Frag} {w : World} (hc : X.calm = true) (e : X.K = K := by rfl) (e2 : X.w = w := by rfl) : CallR X (.type "set") (rSetL K w) := e ▸ e2 ▸ call_setL hc
section
variable {K : PySem.W.Frag} {w : World} {σ : L2.St} {G H : Hp} {ta tb te tl : TE} {d e : PyData} {ds es : List PyData} {D : Ends} {tu tz : TS}
/-- xs = sorted(set(e)): an ascending list of the same numbers -/
theorem d_sortedSet {ns : List Int} {i : Nat} (h : ED K te σ G (.list (ns.map .int))) (x : Ex G H) (few : ns.length < 60) (k : ∀ (ms : List Int) v H2 G2, ms.Pairwise (· < ·) → (∀ k : Int, k ∈ ms ↔ k ∈ ns) → Sep G H H2 G2 → Da K G2 v (.list (ms.map .int)) → tz D (σ.set i (some v)) H2) :
    tSeq (tAsg (tCB (rSortedSet w) (tCons (tCB (rSetL K w) (tCons te tNil)) tNil)) (gName i)) tz D σ H := h H x _ fun v H2 G2 s g => by
  cases g with
  | @lst a xs _ e g =>
    cases daa_intsV g
    refine ⟨a, ns, rfl, sq_of (s.inn _ _ e), by omega, fun b c fb hc => ⟨b, _, c, rfl, upd_same, by omega, fun ms p asc mem len fp => ?_⟩⟩
    have s' : Sep G H (upd H2 b (SetO w b (fun j => decide (j ∈ ns)) c)) G2 := s.mut (by
      cases q : H b with
      | none => rfl
      | some o =>
        rw [s.up b o q] at fb
        cases fb) (fresh_back s.inn fb)
    refine k ms (.ref p) _ (upd G2 p (.lst (ms.map V.int))) asc (fun k => ?_) (s'.trans (Sep.new s'.inn fp)) (.lst upd_same (daa_ints ms))
    rw [mem]
    exact decide_eq_true_iff
/-- comprehensions with any target -/
theorem ed_lcG {tg : TG} {t : TT} {vs : List Nat} (p : PyData → Bool) (g : PyData → PyData) (h : ED K tl σ H (.list ds)) (hz : ds.length ≤ 40000)
    (ht : ∀ d v G H', d ∈ ds → Ex H G → Da K G v d → Ex G H' → ∀ Q : L2.St → Hp → Prop, (∀ σ2, wipe σ2 vs = wipe σ vs → EvT t σ2 G (p d) → (p d = true → ED K te σ2 G (g d)) → Q σ2 H') → tg v (wipe σ vs) H' Q) :
    ED K (tLc (iList K tl) tg t te vs) σ H (.list ((ds.filter p).map g)) := fun H1 x Q q =>
  h H1 x _ fun v H2 A s gv => by
    cases gv with
    | @lst a xs _ ea ga =>
      refine ⟨a, rfl, ⟨xs, sq_of (s.inn _ _ ea)⟩, fun D hD => ?_⟩
      have hlen := daa_len ga
      refine lc_it (walk_list (K := K) (a := a) (xs := xs)) (Lw K A H2 D fun i => ((ds.take i).filter p).map g) (Lw.start s.inn hD (by rw [List.take_zero]; rfl)) (fun i H' _ pw => ?_) (fun i y H' H3 hlt pw yy => ?_) fun H' pw => ?_
      · obtain ⟨_, G, acc, s2, _⟩ := pw
        exact sq_of (s2.up _ _ (s.inn _ _ ea))
      · obtain ⟨rfl, hi⟩ := yy
        obtain ⟨d, hd, gd⟩ := daa_getV ga i y hi
        have hm : d ∈ ds := List.mem_of_getElem? hd
        obtain ⟨hD', G, acc, s2, rest⟩ := id pw
        refine ht d y A _ hm s.an gd (s.inn.trans s2.up) _ fun σ2 hw hT hE => ⟨hw, pw.turn (by omega) (fun G xg => hT.mono xg) (fun hf G xg => (hE hf).mono xg) (filt_step hd)⟩
      · have e : ds.take xs.length = ds := List.take_of_length_le (by omega)
        refine lc_fin (out := fun i => ((ds.take i).filter p).map g) s (fun v H2 G s2 g2 => q v H2 G s2 ?_) pw
        have g3 : Da K G v (.list (((ds.take xs.length).filter p).map g)) := g2
        rw [e] at g3
        exact g3
theorem ed_lcE {ta : TA} {tg : TG} {t : TT} {vs : List Nat} (p : Nat → Bool) (g : Nat → PyData) (h : EDA K ta σ H [.list ds]) (hz : ds.length ≤ 40000)
    (ht : ∀ (i : Nat) d v T G H', ds[i]? = some d → Ex H G → Da K G v d → SqT K H' T [.int (i : Int), v] → Ex G H' → ∀ Q : L2.St → Hp → Prop, (∀ σ2, wipe σ2 vs = wipe σ vs → EvT t σ2 G (p i) → (p i = true → ED K te σ2 G (g i)) → Q σ2 H') → tg (.ref T) (wipe σ vs) H' Q) :
    ED K (tLc (iEnum K ta) tg t te vs) σ H (.list (((List.range ds.length).filter p).map g)) := fun H1 x Q q =>
  h H1 x _ fun us H2 A s ga => by
    obtain ⟨v0, r, rfl, g0, ga⟩ := daa_inv ga
    cases daa_inv0 ga
    cases g0 with
    | @lst a xs _ ea ga =>
      refine ⟨a, xs, rfl, sq_of (s.inn _ _ ea), fun D hD => ?_⟩
      have hlen := daa_len ga
      refine lc_it (walk_enum (K := K) (a := a) (xs := xs)) (Lw K A H2 D fun i => ((List.range i).filter p).map g) (Lw.start s.inn hD rfl) (fun i H' _ pw => ?_) (fun i y H' H3 hlt pw yy => ?_) fun H' pw => ?_
      · obtain ⟨_, G, acc, s2, _⟩ := pw
        exact sq_of (s2.up _ _ (s.inn _ _ ea))
      · obtain ⟨T, p1, p2, rfl, hT, rfl, e1, e2⟩ := yy
        cases Option.some.inj e1
        obtain ⟨d, hd, gd⟩ := daa_getV ga i p2 e2
        obtain ⟨hD', G, acc, s2, gD, hacc, ga', la⟩ := pw
        have pw3 : Lw K A H2 D (fun i => ((List.range i).filter p).map g) i (upd H' T (.tup [.int (i : Nat), p2])) := ⟨hD', G, acc, ⟨s2.up.trans (Ex.new hT), s2.an, s2.inn.trans (Ex.new hT), s2.sep⟩, gD, Ex.new hT _ _ hacc, ga', la⟩
        refine ht i d p2 T A _ hd s.an gd (st_of upd_same) ((s.inn.trans s2.up).trans (Ex.new hT)) _ fun σ2 hw hTt hE => ⟨hw, pw3.turn (by omega) (fun G xg => hTt.mono xg) (fun hf G xg => (hE hf).mono xg) ?_⟩
        show ((List.range (i + 1)).filter p).map g = _
        rw [List.range_succ, List.filter_append, List.map_append]
        by_cases z : p i = true
        · rw [if_pos z, List.filter_cons, if_pos z]
          rfl
        · rw [if_neg z, List.filter_cons, if_neg z]
          show _ ++ [] = _
          rw [List.append_nil]
      · refine lc_fin (out := fun i => ((List.range i).filter p).map g) s (fun v H2 G s2 g2 => q v H2 G s2 ?_) pw
        have g3 : Da K G v (.list (((List.range xs.length).filter p).map g)) := g2
        rw [hlen] at g3
        exact g3
/-- n in (a, b) -/
theorem et_inT2 {n a b : Int} (hn : ED K ta σ G (.int n)) (h1 : ED K tb σ G (.int a)) (h2 : ED K te σ G (.int b)) : EvT (tTest (tOp (rIn K false) ta (tTup (tCons tb (tCons te tNil))))) σ G (decide (n = a) || decide (n = b)) := by
  refine et_is (et_test (ev_inU (ev_int hn) (eu_tup (ea_cons (ev_int h1) (ea_cons (ev_int h2) ea_nil)) (by show 2 ≤ 100000; decide)) rfl rfl)) ?_
  show ((a == n) || ((b == n) || false)) = _
  rw [Bool.or_false]
  congr 1
  · by_cases z : n = a
    · rw [decide_eq_true z, z]
      exact beq_self_eq_true a
    · rw [decide_eq_false z]
      exact beq_eq_false_iff_ne.mpr fun e => z e.symm
  · by_cases z : n = b
    · rw [decide_eq_true z, z]
      exact beq_self_eq_true b
    · rw [decide_eq_false z]
      exact beq_eq_false_iff_ne.mpr fun e => z e.symm
theorem ed_andV {a b : Bool} (ha : ED K ta σ G (.bool a)) (hb : a = true → ED K tb σ G (.bool b)) : ED K (tAndV ta tb) σ G (.bool (a && b)) := ed_ev (ev_andV (ev_bool ha) fun h => ev_bool (hb h)) (.bl _)
/-- the i-th of a tuple or a list, unpacked in a target -/
theorem tg_tup3 {H' : Hp} {v : V} {a b c : PyData} {gs : TGs} {Q : L2.St → Hp → Prop} {σ0 : L2.St} (g : Da K G v (.tuple [a, b, c])) (x : Ex G H') (k : ∀ v1 v2 v3, Da K G v1 a → Da K G v2 b → Da K G v3 c → gs [v1, v2, v3] σ0 H' Q) : gTup K 3 gs v σ0 H' Q := by
  cases g with
  | @tup p xs _ e g =>
    obtain ⟨v1, r, rfl, g1, g⟩ := daa_inv g
    obtain ⟨v2, r, rfl, g2, g⟩ := daa_inv g
    obtain ⟨v3, r, rfl, g3, g⟩ := daa_inv g
    cases daa_inv0 g
    exact ⟨p, _, rfl, ex_t x e, rfl, k v1 v2 v3 g1 g2 g3⟩
end
end Tw

set_option Elab.async false
set_option linter.all false
set_option maxRecDepth 100000
set_option maxHeartbeats 4000000
open PySem PySem.Spec PyProof.Rows L2 Evl Tw
/-! small steps of this text: a fact carried to a later anchor or heap; an expression evaluated from what is known -/
local macro_rules | `(tactic| walk_at "tw ex") => `(tactic| first
  | exact Ex.refl _
  | assumption
  | exact Sep.an (by assumption)
  | exact Sep.inn (by assumption)
  | exact Sep.up (by assumption)
  | ((refine Ex.trans ?_ (Sep.an (by assumption))); walk_at "tw ex")
  | ((refine Ex.trans ?_ (Sep.inn (by assumption))); walk_at "tw ex")
  | ((refine Ex.trans ?_ (Sep.up (by assumption))); walk_at "tw ex")
  | ((refine Ex.trans ?_ (by assumption)); walk_at "tw ex"))
local macro_rules | `(tactic| walk_at "tw at") => `(tactic| first | rfl | assumption | omega | skip)
local macro_rules | `(tactic| walk_at "tw ev") => `(tactic| first
  | exact ed_int | exact ed_str | exact ed_bl | exact ed_non
  | exact ed_var rfl (.int _) | exact ed_var rfl (.bl _) | exact ed_var rfl (.str _) | exact ed_var rfl .non
  | ((refine' ed_var rfl (da_ex ?hx ?hd)); (case hd => assumption); (case hx => walk_at "tw ex"))
  | exact eda_nil
  | ((refine' eda_cons ?a (fun _ _ => ?b)); (case a => walk_at "tw ev"); (case b => walk_at "tw ev"))
  | ((refine' ed_tup ?a ?b); (case a => walk_at "tw ev"); (case b => exact Nat.le_of_ble_eq_true rfl))
  | ((refine' ed_lst ?a ?b); (case a => walk_at "tw ev"); (case b => exact Nat.le_of_ble_eq_true rfl))
  | ((refine' ed_add ?a ?b); (case a => walk_at "tw ev"); (case b => walk_at "tw ev"))
  | ((refine' ed_sub ?a ?b); (case a => walk_at "tw ev"); (case b => walk_at "tw ev"))
  | ((refine' ed_mul ?a ?b ?c); (case a => walk_at "tw ev"); (case b => walk_at "tw ev"); (case c => first | exact .inl ⟨by decide, by decide⟩ | exact .inr ⟨by decide, by decide⟩ | skip))
  | ((refine' ed_mod ?a ?b ?c); (case a => walk_at "tw ev"); (case b => walk_at "tw ev"); (case c => first | decide | skip))
  | ((refine' ed_fdiv ?a ?b ?c); (case a => walk_at "tw ev"); (case b => walk_at "tw ev"); (case c => first | exact ⟨by decide, by decide⟩ | skip))
  | ((refine' ed_modN ?a ?b ?c); (case a => walk_at "tw ev"); (case b => walk_at "tw ev"); (case c => first | omega | skip))
  | ((refine' ed_toInt ?a); (case a => walk_at "tw ev"))
  | ((refine' ed_neg ?a); (case a => walk_at "tw ev"))
  | ((refine' ed_len ?a); (case a => walk_at "tw ev"))
  | ((refine' ed_tuple ?a); (case a => walk_at "tw ev"))
  | ((refine' ed_ixT (n := ?n) ?a (fun _ _ => ?b) ?c ?d); (case a => walk_at "tw ev"); (case b => walk_at "tw ev"); (case c => walk_at "tw at"); (case d => walk_at "tw at"))
  | ((refine' ed_ix (n := ?n) ?a (fun _ _ => ?b) ?c ?d); (case a => walk_at "tw ev"); (case b => walk_at "tw ev"); (case c => walk_at "tw at"); (case d => walk_at "tw at"))
  | ((refine' ed_cmp0 ?a ?b); (case a => walk_at "tw ev"); (case b => walk_at "tw ev"))
  | ((refine' ed_isN ?a); (case a => walk_at "tw ev"))
  | ((refine' et_cmp0 ?a ?b); (case a => walk_at "tw ev"); (case b => walk_at "tw ev"))
  | ((refine' et_isN ?a); (case a => walk_at "tw ev"))
  | ((refine' et_notN ?a); (case a => walk_at "tw ev"))
  | ((refine' et_eqI ?a ?b); (case a => walk_at "tw ev"); (case b => walk_at "tw ev"))
  | ((refine' et_bool ?a); (case a => walk_at "tw ev"))
  | ((refine' et_not ?a); (case a => walk_at "tw ev"))
  | ((refine' et_or ?a (fun _ => ?b)); (case a => walk_at "tw ev"); (case b => walk_at "tw ev"))
  | ((refine' et_and ?a (fun _ => ?b)); (case a => walk_at "tw ev"); (case b => walk_at "tw ev")))
local macro_rules | `(tactic| walk_at "tw inn") => `(tactic| first
  | exact Sep.inn (by assumption)
  | ((refine' Ex.trans (Sep.inn ?s) ?e); (case e => assumption); (case s => assumption))
  | ((refine' Ex.trans (Ex.trans (Sep.inn ?s) ?e) ?f); (case f => assumption); (case e => assumption); (case s => assumption))
  | assumption
  | ((refine' Ex.trans ?e ?f); (case f => assumption); (case e => assumption)))
local macro_rules | `(tactic| walk_at "tw set") => `(tactic| ((refine' d_asg (K := ?K) ?h ?x ?k); (case x => walk_at "tw inn"); (case h => walk_at "tw ev"); (any_goals first | (exact (by assumption : PySem.W.Frag)) | skip)))
local macro_rules | `(tactic| walk_at "tw ret") => `(tactic| ((refine' d_ret (K := ?K) ?h ?x ?k); (case x => walk_at "tw inn"); (case h => walk_at "tw ev"); (any_goals first | (exact (by assumption : PySem.W.Frag)) | skip)))
namespace K2
def topS (i : Nat) : Stmt := PySem.Challenge.pw_tidewaits_k02_waits_and_costs.main.body.getD i (.Pass ⟨0, 0, 0, 0⟩)
abbrev s_depth_at : Stmt := topS 1
abbrev N_depth_at : List Str := ["harbour", "hour", "depths"]
theorem scdepth_at : FnScope N_depth_at ["harbour", "hour"] (defScope s_depth_at) := ⟨rfl, rfl, rfl, by decide +kernel, rfl, by decide +kernel, by decide +kernel⟩
abbrev s__share_hour : Stmt := topS 2
abbrev N__share_hour : List Str := ["one", "other"]
theorem sc_share_hour : FnScope N__share_hour ["one", "other"] (defScope s__share_hour) := ⟨rfl, rfl, rfl, by decide +kernel, rfl, by decide +kernel, by decide +kernel⟩
abbrev s__wrong_with : Stmt := topS 3
abbrev N__wrong_with : List Str := ["harbour", "ships", "plan", "name", "_", "berths", "last", "ready", "length", "draught", "stay", "came", "berth", "left", "other"]
theorem sc_wrong_with : FnScope N__wrong_with ["harbour", "ships", "plan", "name"] (defScope s__wrong_with) := ⟨rfl, rfl, rfl, by decide +kernel, rfl, by decide +kernel, by decide +kernel⟩
abbrev s__movers : Stmt := topS 4
abbrev N__movers : List Str := ["plan", "hour", "name", "came", "_", "left"]
theorem sc_movers : FnScope N__movers ["plan", "hour"] (defScope s__movers) := ⟨rfl, rfl, rfl, by decide +kernel, rfl, by decide +kernel, by decide +kernel⟩
abbrev s__wrong_together : Stmt := topS 5
abbrev N__wrong_together : List Str := ["harbour", "ships", "plan", "_", "tugs", "pilots", "hours", "came", "left", "hour", "name"]
theorem sc_wrong_together : FnScope N__wrong_together ["harbour", "ships", "plan"] (defScope s__wrong_together) := ⟨rfl, rfl, rfl, by decide +kernel, rfl, by decide +kernel, by decide +kernel⟩
abbrev s_wrong_in : Stmt := topS 6
abbrev N_wrong_in : List Str := ["harbour", "ships", "plan", "name", "word"]
theorem scwrong_in : FnScope N_wrong_in ["harbour", "ships", "plan"] (defScope s_wrong_in) := ⟨rfl, rfl, rfl, by decide +kernel, rfl, by decide +kernel, by decide +kernel⟩
abbrev s_is_plan : Stmt := topS 7
abbrev N_is_plan : List Str := ["harbour", "ships", "plan"]
theorem scis_plan : FnScope N_is_plan ["harbour", "ships", "plan"] (defScope s_is_plan) := ⟨rfl, rfl, rfl, by decide +kernel, rfl, by decide +kernel, by decide +kernel⟩
abbrev s_waits : Stmt := topS 8
abbrev N_waits : List Str := ["ships", "plan", "found", "ship", "came", "_", "left", "ready", "stay"]
theorem scwaits : FnScope N_waits ["ships", "plan"] (defScope s_waits) := ⟨rfl, rfl, rfl, by decide +kernel, rfl, by decide +kernel, by decide +kernel⟩
abbrev s_cost_of : Stmt := topS 9
abbrev N_cost_of : List Str := ["ships", "plan", "cost", "ship", "at_sea", "at_berth", "_", "sea", "lie"]
theorem sccost_of : FnScope N_cost_of ["ships", "plan"] (defScope s_cost_of) := ⟨rfl, rfl, rfl, by decide +kernel, rfl, by decide +kernel, by decide +kernel⟩
abbrev s__cost_in_hour : Stmt := topS 10
abbrev N__cost_in_hour : List Str := ["ships", "plan", "hour", "cost", "ship", "came", "_", "left", "ready", "stay", "sea", "lie"]
theorem sc_cost_in_hour : FnScope N__cost_in_hour ["ships", "plan", "hour"] (defScope s__cost_in_hour) := ⟨rfl, rfl, rfl, by decide +kernel, rfl, by decide +kernel, by decide +kernel⟩
abbrev s_hour_costs : Stmt := topS 11
abbrev N_hour_costs : List Str := ["ships", "plan", "end", "_", "left", "hour"]
theorem schour_costs : FnScope N_hour_costs ["ships", "plan"] (defScope s_hour_costs) := ⟨rfl, rfl, rfl, by decide +kernel, rfl, by decide +kernel, by decide +kernel⟩
abbrev s__law_draws : Stmt := topS 13
abbrev N__law_draws : List Str := ["script", "count", "rests", "cell", "draws", "k", "value", "at", "mixed"]
theorem sc_law_draws : FnScope N__law_draws ["script", "count"] (defScope s__law_draws) := ⟨rfl, rfl, rfl, by decide +kernel, rfl, by decide +kernel, by decide +kernel⟩
abbrev s__law_harbour : Stmt := topS 15
abbrev N__law_harbour : List Str := ["draws", "depths", "k", "berths"]
theorem sc_law_harbour : FnScope N__law_harbour ["draws"] (defScope s__law_harbour) := ⟨rfl, rfl, rfl, by decide +kernel, rfl, by decide +kernel, by decide +kernel⟩
abbrev s__law_ship : Stmt := topS 16
abbrev N__law_ship : List Str := ["draws", "own"]
theorem sc_law_ship : FnScope N__law_ship ["draws"] (defScope s__law_ship) := ⟨rfl, rfl, rfl, by decide +kernel, rfl, by decide +kernel, by decide +kernel⟩
abbrev s__law_ships : Stmt := topS 17
abbrev N__law_ships : List Str := ["draws", "most", "k"]
theorem sc_law_ships : FnScope N__law_ships ["draws", "most"] (defScope s__law_ships) := ⟨rfl, rfl, rfl, by decide +kernel, rfl, by decide +kernel, by decide +kernel⟩
abbrev s__law_moves : Stmt := topS 18
abbrev N__law_moves : List Str := ["harbour", "ship", "depths", "berths", "tugs", "pilots", "last", "ready", "length", "draught", "stay", "needs", "sea", "lie", "deep", "hour", "found", "first", "out", "berth"]
theorem sc_law_moves : FnScope N__law_moves ["harbour", "ship"] (defScope s__law_moves) := ⟨rfl, rfl, rfl, by decide +kernel, rfl, by decide +kernel, by decide +kernel⟩
abbrev s__law_apart : Stmt := topS 19
abbrev N__law_apart : List Str := ["one", "other"]
theorem sc_law_apart : FnScope N__law_apart ["one", "other"] (defScope s__law_apart) := ⟨rfl, rfl, rfl, by decide +kernel, rfl, by decide +kernel, by decide +kernel⟩
abbrev s__law_fits : Stmt := topS 20
abbrev N__law_fits : List Str := ["harbour", "ships", "plan", "hour", "move", "names", "k"]
theorem sc_law_fits : FnScope N__law_fits ["harbour", "ships", "plan"] (defScope s__law_fits) := ⟨rfl, rfl, rfl, by decide +kernel, rfl, by decide +kernel, by decide +kernel⟩
abbrev s__law_cost : Stmt := topS 22
abbrev N__law_cost : List Str := ["ships", "plan", "total", "k"]
theorem sc_law_cost : FnScope N__law_cost ["ships", "plan"] (defScope s__law_cost) := ⟨rfl, rfl, rfl, by decide +kernel, rfl, by decide +kernel, by decide +kernel⟩
abbrev s__law_plan : Stmt := topS 23
abbrev N__law_plan : List Str := ["harbour", "ships", "draws", "plan", "k", "good", "move", "other"]
theorem sc_law_plan : FnScope N__law_plan ["harbour", "ships", "draws"] (defScope s__law_plan) := ⟨rfl, rfl, rfl, by decide +kernel, rfl, by decide +kernel, by decide +kernel⟩
abbrev s__law_hours : Stmt := topS 24
abbrev N__law_hours : List Str := ["ships", "plan", "found", "hour", "move", "price", "k"]
theorem sc_law_hours : FnScope N__law_hours ["ships", "plan"] (defScope s__law_hours) := ⟨rfl, rfl, rfl, by decide +kernel, rfl, by decide +kernel, by decide +kernel⟩
abbrev s__law_far : Stmt := topS 25
abbrev N__law_far : List Str := ["harbour", "ships", "draw", "depths", "berths", "tugs", "pilots", "last", "fleet", "ready", "length", "draught", "stay", "needs", "sea", "lie", "depth"]
theorem sc_law_far : FnScope N__law_far ["harbour", "ships", "draw"] (defScope s__law_far) := ⟨rfl, rfl, rfl, by decide +kernel, rfl, by decide +kernel, by decide +kernel⟩
abbrev s_law : Stmt := topS 26
abbrev N_law : List Str := ["script", "draws", "harbour", "ships", "plan", "kept", "hours", "pairs", "k", "dues", "turn", "actual", "one", "told"]
theorem sclaw : FnScope N_law ["script"] (defScope s_law) := ⟨rfl, rfl, rfl, by decide +kernel, rfl, by decide +kernel, by decide +kernel⟩
structure Tx (K : PySem.W.Frag) (mg : Str → Option Value) where
  f_depth_at : Addr
  d_depth_at : FuncData
  F_depth_at : Fun K "depth_at" "depth_at" s_depth_at f_depth_at d_depth_at
  g_depth_at : mg "depth_at" = some (.ref f_depth_at)
  b_depth_at : Binds K d_depth_at ["harbour", "hour"] []
  f__share_hour : Addr
  d__share_hour : FuncData
  F__share_hour : Fun K "_share_hour" "_share_hour" s__share_hour f__share_hour d__share_hour
  g__share_hour : mg "_share_hour" = some (.ref f__share_hour)
  b__share_hour : Binds K d__share_hour ["one", "other"] []
  f__wrong_with : Addr
  d__wrong_with : FuncData
  F__wrong_with : Fun K "_wrong_with" "_wrong_with" s__wrong_with f__wrong_with d__wrong_with
  g__wrong_with : mg "_wrong_with" = some (.ref f__wrong_with)
  b__wrong_with : Binds K d__wrong_with ["harbour", "ships", "plan", "name"] []
  f__movers : Addr
  d__movers : FuncData
  F__movers : Fun K "_movers" "_movers" s__movers f__movers d__movers
  g__movers : mg "_movers" = some (.ref f__movers)
  b__movers : Binds K d__movers ["plan", "hour"] []
  f__wrong_together : Addr
  d__wrong_together : FuncData
  F__wrong_together : Fun K "_wrong_together" "_wrong_together" s__wrong_together f__wrong_together d__wrong_together
  g__wrong_together : mg "_wrong_together" = some (.ref f__wrong_together)
  b__wrong_together : Binds K d__wrong_together ["harbour", "ships", "plan"] []
  f_wrong_in : Addr
  d_wrong_in : FuncData
  F_wrong_in : Fun K "wrong_in" "wrong_in" s_wrong_in f_wrong_in d_wrong_in
  g_wrong_in : mg "wrong_in" = some (.ref f_wrong_in)
  b_wrong_in : Binds K d_wrong_in ["harbour", "ships", "plan"] []
  f_is_plan : Addr
  d_is_plan : FuncData
  F_is_plan : Fun K "is_plan" "is_plan" s_is_plan f_is_plan d_is_plan
  g_is_plan : mg "is_plan" = some (.ref f_is_plan)
  b_is_plan : Binds K d_is_plan ["harbour", "ships", "plan"] []
  f_waits : Addr
  d_waits : FuncData
  F_waits : Fun K "waits" "waits" s_waits f_waits d_waits
  g_waits : mg "waits" = some (.ref f_waits)
  b_waits : Binds K d_waits ["ships", "plan"] []
  f_cost_of : Addr
  d_cost_of : FuncData
  F_cost_of : Fun K "cost_of" "cost_of" s_cost_of f_cost_of d_cost_of
  g_cost_of : mg "cost_of" = some (.ref f_cost_of)
  b_cost_of : Binds K d_cost_of ["ships", "plan"] []
  f__cost_in_hour : Addr
  d__cost_in_hour : FuncData
  F__cost_in_hour : Fun K "_cost_in_hour" "_cost_in_hour" s__cost_in_hour f__cost_in_hour d__cost_in_hour
  g__cost_in_hour : mg "_cost_in_hour" = some (.ref f__cost_in_hour)
  b__cost_in_hour : Binds K d__cost_in_hour ["ships", "plan", "hour"] []
  f_hour_costs : Addr
  d_hour_costs : FuncData
  F_hour_costs : Fun K "hour_costs" "hour_costs" s_hour_costs f_hour_costs d_hour_costs
  g_hour_costs : mg "hour_costs" = some (.ref f_hour_costs)
  b_hour_costs : Binds K d_hour_costs ["ships", "plan"] []
  f__law_draws : Addr
  d__law_draws : FuncData
  F__law_draws : Fun K "_law_draws" "_law_draws" s__law_draws f__law_draws d__law_draws
  g__law_draws : mg "_law_draws" = some (.ref f__law_draws)
  b__law_draws : Binds K d__law_draws ["script", "count"] []
  f__law_harbour : Addr
  d__law_harbour : FuncData
  F__law_harbour : Fun K "_law_harbour" "_law_harbour" s__law_harbour f__law_harbour d__law_harbour
  g__law_harbour : mg "_law_harbour" = some (.ref f__law_harbour)
  b__law_harbour : Binds K d__law_harbour ["draws"] []
  f__law_ship : Addr
  d__law_ship : FuncData
  F__law_ship : Fun K "_law_ship" "_law_ship" s__law_ship f__law_ship d__law_ship
  g__law_ship : mg "_law_ship" = some (.ref f__law_ship)
  b__law_ship : Binds K d__law_ship ["draws"] []
  f__law_ships : Addr
  d__law_ships : FuncData
  F__law_ships : Fun K "_law_ships" "_law_ships" s__law_ships f__law_ships d__law_ships
  g__law_ships : mg "_law_ships" = some (.ref f__law_ships)
  b__law_ships : Binds K d__law_ships ["draws", "most"] []
  f__law_moves : Addr
  d__law_moves : FuncData
  F__law_moves : Fun K "_law_moves" "_law_moves" s__law_moves f__law_moves d__law_moves
  g__law_moves : mg "_law_moves" = some (.ref f__law_moves)
  b__law_moves : Binds K d__law_moves ["harbour", "ship"] []
  f__law_apart : Addr
  d__law_apart : FuncData
  F__law_apart : Fun K "_law_apart" "_law_apart" s__law_apart f__law_apart d__law_apart
  g__law_apart : mg "_law_apart" = some (.ref f__law_apart)
  b__law_apart : Binds K d__law_apart ["one", "other"] []
  f__law_fits : Addr
  d__law_fits : FuncData
  F__law_fits : Fun K "_law_fits" "_law_fits" s__law_fits f__law_fits d__law_fits
  g__law_fits : mg "_law_fits" = some (.ref f__law_fits)
  b__law_fits : Binds K d__law_fits ["harbour", "ships", "plan"] []
  f__law_cost : Addr
  d__law_cost : FuncData
  F__law_cost : Fun K "_law_cost" "_law_cost" s__law_cost f__law_cost d__law_cost
  g__law_cost : mg "_law_cost" = some (.ref f__law_cost)
  b__law_cost : Binds K d__law_cost ["ships", "plan"] []
  f__law_plan : Addr
  d__law_plan : FuncData
  F__law_plan : Fun K "_law_plan" "_law_plan" s__law_plan f__law_plan d__law_plan
  g__law_plan : mg "_law_plan" = some (.ref f__law_plan)
  b__law_plan : Binds K d__law_plan ["harbour", "ships", "draws"] []
  f__law_hours : Addr
  d__law_hours : FuncData
  F__law_hours : Fun K "_law_hours" "_law_hours" s__law_hours f__law_hours d__law_hours
  g__law_hours : mg "_law_hours" = some (.ref f__law_hours)
  b__law_hours : Binds K d__law_hours ["ships", "plan"] []
  f__law_far : Addr
  d__law_far : FuncData
  F__law_far : Fun K "_law_far" "_law_far" s__law_far f__law_far d__law_far
  g__law_far : mg "_law_far" = some (.ref f__law_far)
  b__law_far : Binds K d__law_far ["harbour", "ships", "draw"] []
  f_law : Addr
  d_law : FuncData
  F_law : Fun K "law" "law" s_law f_law d_law
  g_law : mg "law" = some (.ref f_law)
  b_law : Binds K d_law ["script"] []
  m_len : mg "len" = none
  m_int : mg "int" = none
  m_range : mg "range" = none
  m_tuple : mg "tuple" = none
  m_repr : mg "repr" = none
  m_isinstance : mg "isinstance" = none
  m_bool : mg "bool" = none
  m_enumerate : mg "enumerate" = none
  m_zip : mg "zip" = none
  m_all : mg "all" = none
  m_any : mg "any" = none
  m_sum : mg "sum" = none
  m_max : mg "max" = none
  m_sorted : mg "sorted" = none
  m_set : mg "set" = none
  m_list : mg "list" = none

section
variable {P : Program} {w : World} {K : PySem.W.Frag} {mg : Str → Option Value} {base : Heap} {k : Nat}
theorem ok_draws (T : Tx K mg) : FnOk P w K mg base CX0 (k + 1) T.f__law_draws T.d__law_draws ["script", "count"] (spDraws K) := by
  refine T.F__law_draws.ok sc_law_draws (fun vs H Q E h => ?_) (fun cdv A outer s H vs Q E hr h => ?_)
  · obtain ⟨a, ns, n, rfl, _⟩ := h
    rfl
  obtain ⟨a, ns, n, rfl, hS, hlen, hn, q⟩ := h
  refine ⟨_, (pss_cons (ps_setLc (i := 2) (own := [("cell", 3)]) (g := gName 3) (tt := tYes) rfl sc_law_draws.nd rfl rfl (sw_true rfl rfl rfl (by decide +kernel)) (pi_list (pv 0)) (blkOk_by (N := N__law_draws) (sc := defScope s__law_draws) (by decide +kernel)) (fun _ _ _ _ _ => (pg_name (i := 3) sc_law_draws.nd rfl (.inl rfl))) (fun _ _ _ _ _ => pts_nil) (fun _ _ _ _ _ => (pv 3)))
    (pss_cons (ps_set (i := 4) sc_law_draws.nd rfl (.inl rfl) (pe_lst pa_nil))
    (pss_cons (ps_for PassesOwn.never rfl (pi_range1 (by rfl) T.m_range (pa_cons (pv 1) pa_nil)) (pg_name (i := 5) sc_law_draws.nd rfl (.inl rfl))
      (pss_cons (ps_set (i := 6) sc_law_draws.nd rfl (.inl rfl) pe_int)
      (pss_cons (ps_if (pt_cmpR op_gt (pe_callB call_len_seq (by rfl) T.m_len (by decide +kernel) (pa_cons (pv 2) pa_nil)) pe_int (nomark _)) (pss_cons (ps_set (i := 7) sc_law_draws.nd rfl (.inl rfl) (pe_op op_modN (pe_callTy call_int1 (by rfl) T.m_int (by decide +kernel) (pa_cons (pv 5) pa_nil)) (pe_callB call_len_seq (by rfl) T.m_len (by decide +kernel) (pa_cons (pv 2) pa_nil))))
        (pss_one (ps_if (pt_cmpR op_ge (pe_ix ix_list (pv 2) (pv 7) (fun _ _ => rfl)) (pe_op op_pow pe_int pe_int) (nomark _)) (pss_cons (ps_set (i := 6) sc_law_draws.nd rfl (.inl rfl) (pe_op op_mod (pe_callTy call_int1 (by rfl) T.m_int (by decide +kernel) (pa_cons (pe_ix ix_list (pv 2) (pv 7) (fun _ _ => rfl)) pa_nil)) pe_int))
          (pss_one (ps_asg (pe_op op_fdiv (pe_ix ix_list (pv 2) (pv 7) (fun _ _ => rfl)) pe_int) (pg_sub (pv 2) (pv 7) set_list)))) (pss_cons (ps_set (i := 8) sc_law_draws.nd rfl (.inl rfl) (pe_op op_mod (pe_callTy call_int1 (by rfl) T.m_int (by decide +kernel) (pa_cons (pe_op op_add (pe_op op_add (pe_op op_mul (pe_ix ix_list (pv 2) (pv 7) (fun _ _ => rfl)) pe_int) (pe_op op_mul (pv 5) pe_int)) pe_int) pa_nil)) pe_int))
          (pss_cons (ps_set (i := 8) sc_law_draws.nd rfl (.inl rfl) (pe_op op_mod (pe_callTy call_int1 (by rfl) T.m_int (by decide +kernel) (pa_cons (pe_op op_add (pe_op op_mul (pv 8) pe_int) (pv 7)) pa_nil)) pe_int))
          (pss_one (ps_set (i := 6) sc_law_draws.nd rfl (.inl rfl) (pe_op op_mod (pe_callTy call_int1 (by rfl) T.m_int (by decide +kernel) (pa_cons (pe_op op_fdiv (pv 8) pe_int) pa_nil)) pe_int)))))))) pss_nil)
      (pss_one (ps_expr (pe_bm PySem.F.plainAttrs_list PySem.F.slot_list_append PySem.F.type_list_append mt_append (pv 4) (pa_cons (pv 6) pa_nil)))))))
    (pss_one (ps_ret (pv 4)))))), ?_⟩
  have hz : (ns.map V.int).length = ns.length := List.length_map ..
  -- rests
  refine q_asgL (xs := ns.map V.int) (fun H1 e Q2 q2 => ?_) fun R H1 nR e1 hR => ?_
  · have h1 := el_lcL (K := K) (a := a) (xs := ns.map V.int) (tl := tVar 0) (j := 3) (vs := [3]) (t := tYes) (te := tVar 3) (σ := start N__law_draws [.ref a, .int (n : Int)]) (H := H) (fun _ => true) (fun i => ((ns.map V.int).getD i .non)) (ev_var rfl) hS (by omega) (fun _ => rfl) (fun _ _ _ _ _ => et_yes)
      (fun i x H1 _ hi _ => by
        have hx : (ns.map V.int).getD i .non = x := by rw [List.getD_eq_getElem?_getD, hi]; rfl
        rw [hx]
        exact ev_var rfl)
    have hg : ∀ l : List V, given l.length (fun _ => true) (fun i => l.getD i .non) = l := by
      intro l
      unfold given
      rw [List.filter_eq_self.mpr fun _ _ => rfl]
      apply List.ext_getElem?
      intro i
      rw [List.getElem?_map]
      by_cases hi : i < l.length
      · rw [List.getElem?_range hi, List.getElem?_eq_getElem hi]
        show some (l.getD i .non) = _
        rw [List.getD_eq_getElem?_getD, List.getElem?_eq_getElem hi]
        rfl
      · rw [List.getElem?_eq_none (by rw [List.length_range]; omega), List.getElem?_eq_none (by omega)]
        rfl
    rw [hg] at h1
    exact h1 H1 e Q2 q2
  -- draws
  refine q_asgL (xs := []) (el_lst ea_nil (by decide)) fun L H2 nL e2 hL => ?_
  have nRL : R ≠ L := ne_of_none hR nL
  have nLH : H L = none := fresh_back e1 nL
  -- the loop
  refine q_forR1 (ea_cons (ev_var (v := .int (n : Int)) rfl) ea_nil) (by omega) (WD H a n ns.length R L) ?_ ?_ ?_
  · intro H3 e3
    exact ⟨none, none, none, none, none, ns, [], rfl, (e1.trans e2).trans e3, e3 _ _ (e2 _ _ hR), e3 _ _ hL, rfl, rfl, fun d hd => absurd hd List.not_mem_nil⟩
  · rintro i σ' H' hi ⟨x3, x5, x6, x7, x8, rs, ds, rfl, ex, hR', hL', lr, ld, bd⟩
    have hi' : i < n := by omega
    -- the turn's end
    have fin : ∀ (v : Int) (rs' : List Int) (y7 y8 : Option V) (H3 : Hp) (D : Ends), D.nx = WD H a n ns.length R L (i + 1) → 0 ≤ v → v < 1000 → rs'.length = ns.length → Ex H H3 → H3 R = some (.lst (rs'.map V.int)) → H3 L = some (.lst (ds.map V.int)) →
        tDrop (tBM K "list" rAppend (tVar 4) (tCons (tVar 6) tNil)) D [some (.ref a), some (.int (n : Int)), some (.ref R), x3, some (.ref L), some (.int (i : Int)), some (.int v), y7, y8] H3 := fun v rs' y7 y8 H3 D hD h0 h1 hl' hx hR3 hL3 => by
      refine s_app (xs := ds.map V.int) hL3 (ev_var rfl) (ev_var (v := .int v) rfl) (by rw [List.length_map]; omega) fun H4 e4 => ?_
      rw [hD]
      refine ⟨x3, _, _, y7, y8, rs', ds ++ [v], rfl, Ex.mut (hx.trans e4) nLH, ?_, ?_, hl', ?_, ?_⟩
      · rw [upd_ne nRL]
        exact e4 _ _ hR3
      · rw [upd_same, List.map_append]
        rfl
      · rw [List.length_append, ld]
        rfl
      · intro d hd
        rcases List.mem_append.mp hd with h | h
        · exact bd d h
        · cases List.mem_singleton.mp h
          exact ⟨h0, h1⟩
    refine q_asg ev_c fun H3 e3 => ?_
    refine q_when (et_test (ev_op (ev_len (K := K) (ev_var (v := .ref R) rfl) (sq_of (e3 _ _ hR'))) ev_c rv_I0)) (fun hb H4 e4 => ?_) (fun hb H4 e4 => ?_)
    · have hpos : 0 < rs.length := by
        have := of_decide_eq_true hb
        rw [List.length_map] at this
        omega
      have hR4 : H4 R = some (.lst (rs.map V.int)) := e4 _ _ (e3 _ _ hR')
      have hL4 : H4 L = some (.lst (ds.map V.int)) := e4 _ _ (e3 _ _ hL')
      have x4 : Ex H H4 := (ex.trans e3).trans e4
      have hj : i % rs.length < rs.length := Nat.mod_lt _ hpos
      have em : ((i : Int)).fmod (((rs.map V.int).length : Nat) : Int) = ((i % rs.length : Nat) : Int) := by
        rw [List.length_map, Int.fmod_eq_emod_of_nonneg _ (by omega)]
        rfl
      refine q_asg (v := .int ((i % rs.length : Nat) : Int)) (ev_is (ev_op (ev_toInt (ev_var (v := .int (i : Int)) rfl)) (ev_len (K := K) (ev_var (v := .ref R) rfl) (sq_of hR4)) (rv_I (show (((rs.map V.int).length : Nat) : Int) ≠ 0 by rw [List.length_map]; omega))) (by rw [em])) fun H5 e5 => ?_
      have hR5 := e5 _ _ hR4
      have hL5 := e5 _ _ hL4
      have x5' := x4.trans e5
      have ix : ∀ {σ : L2.St} {G : Hp}, σ[2]? = some (some (.ref R)) → σ[7]? = some (some (.int ((i % rs.length : Nat) : Int))) → G R = some (.lst (rs.map V.int)) → Ev (tOp (rIxL K) (tVar 2) (tVar 7)) σ G (.int rs[i % rs.length]) := fun s1 s2 hg =>
        ev_op (ev_var s1) (ev_var s2) (rv_ixL (sq_of hg) (at_int hj))
      refine s_if (et_test (ev_op (ix rfl rfl hR5) (ev_op ev_c ev_c (rv_I ⟨by decide, by decide, by decide⟩)) rv_I0)) (fun hc H6 e6 => ?_) (fun hc H6 e6 => ?_)
      · have hR6 := e6 _ _ hR5
        refine q_asg (ev_op (ev_toInt (ix rfl rfl hR6)) ev_c (rv_I (show (0 : Int) < 1000 by decide))) fun H7 e7 => ?_
        have hR7 := e7 _ _ hR6
        refine s_setL hR7 (ev_op (ix rfl rfl hR7) ev_c (rv_I (show CDiv _ 1000 from ⟨by decide, by decide⟩))) (ev_var rfl) (ev_var rfl) (by rw [List.length_map]; exact hj) fun H8 e8 => ?_
        have hL8 := e8 _ _ (e7 _ _ (e6 _ _ hL5))
        have nRH : H R = none := nR
        refine fin _ (rs.set (i % rs.length) (rs[i % rs.length] / 1000)) _ _ _ _ rfl (mod1000 _).1 (mod1000 _).2 (by rw [List.length_set]; exact lr) (Ex.mut (((x5'.trans e6).trans e7).trans e8) nRH) ?_ ?_
        · rw [upd_same, List.map_set]
        · rw [upd_ne nRL.symm]
          exact hL8
      · have hR6 := e6 _ _ hR5
        refine q_asg (ev_op (ev_toInt (ev_op (ev_op (ev_op (ix rfl rfl hR6) ev_c (rv_I (.inr ⟨by decide, by decide⟩))) (ev_op (ev_var (v := .int (i : Int)) rfl) ev_c (rv_I (.inr ⟨by decide, by decide⟩))) rv_I0) ev_c rv_I0)) ev_c (rv_I (show (0 : Int) < 2147483647 by decide))) fun H7 e7 => ?_
        refine q_asg (ev_op (ev_toInt (ev_op (ev_op (ev_var rfl) ev_c (rv_I (.inr ⟨by decide, by decide⟩))) (ev_var (v := .int ((i % rs.length : Nat) : Int)) rfl) rv_I0)) ev_c (rv_I (show (0 : Int) < 2147483629 by decide))) fun H8 e8 => ?_
        refine s_asg (ev_op (ev_toInt (ev_op (ev_var rfl) ev_c (rv_I (show CDiv _ 7 from ⟨by decide, by decide⟩)))) ev_c (rv_I (show (0 : Int) < 1000 by decide))) fun H9 e9 => ?_
        have x9 := ((e6.trans e7).trans e8).trans e9
        exact fin _ rs _ _ _ _ rfl (mod1000 _).1 (mod1000 _).2 lr (x5'.trans x9) (x9 _ _ hR5) (x9 _ _ hL5)
    · have x4 := e3.trans e4
      exact fin 0 rs _ _ _ _ rfl (by decide) (by decide) lr (ex.trans x4) (x4 _ _ hR') (x4 _ _ hL')
  · rintro σ' H' ⟨x3, x5, x6, x7, x8, rs, ds, rfl, ex, hR', hL', lr, dr⟩
    refine s_ret (ev_var rfl) fun H3 e3 => ?_
    have dr' : Drawn n ds := by
      have : ((n : Int)).toNat = n := by omega
      rw [this] at dr
      exact dr
    exact q ds L H3 dr' nLH (ex.trans e3) (e3 _ _ hL')


/-! a harbour, ships, moves -/
structure Hb where
  dp : List Int
  be : List Int
  tugs : Int
  pil : Int
  last : Int
structure Sh where
  r : Int
  le : Int
  dr : Int
  st : Int
  tu : Int
  se : Int
  li : Int
structure Mv where
  a : Int
  b : Int
  o : Int
def encH (h : Hb) : PyData := .tuple [.list (h.dp.map .int), .list (h.be.map .int), .int h.tugs, .int h.pil, .int h.last]
def encS (s : Sh) : PyData := .tuple [.int s.r, .int s.le, .int s.dr, .int s.st, .int s.tu, .int s.se, .int s.li]
def encM (m : Mv) : PyData := .tuple [.int m.a, .int m.b, .int m.o]
def encSs (ss : List Sh) : PyData := .list (ss.map encS)
def encP (p : List Mv) : PyData := .list (p.map encM)
def harbN (D : Nat → Int) : Hb := ⟨(List.range (1 + D 0 % 6).toNat).map fun i => 2 + D (1 + i) % 7, (List.range (1 + D 9 % 2).toNat).map fun i => 3 + D (7 + i) % 5, D 10 % 5, 1 + D 11 % 3, 4 + D 12 % 9⟩
theorem md {x m : Int} (hm : 0 < m) : 0 ≤ x % m ∧ x % m < m := ⟨Int.emod_nonneg x (by omega), Int.emod_lt_of_pos x hm⟩
/-- a row of ints of at least so many -/
def Row (n : Nat) (draws : List Int) : Prop := n ≤ draws.length
theorem row_ix {n : Nat} {draws : List Int} (h : Row n draws) {i : Nat} (hi : i < n) : (draws.map PyData.int)[i]? = some (.int (draws.getD i 0)) := by
  unfold Row at h
  rw [List.getElem?_map, List.getD_eq_getElem?_getD, List.getElem?_eq_getElem (by omega)]
  rfl
def R_harb : List PyData → PyData → Prop := fun as d => ∃ draws : List Int, Row 13 draws ∧ as = [.list (draws.map .int)] ∧ d = encH (harbN fun i => draws.getD i 0)
theorem ok__law_harbour (T : Tx K mg) : FnOk P w K mg base CX0 (k + 1) T.f__law_harbour T.d__law_harbour ["draws"] (spF K R_harb) := by
  refine T.F__law_harbour.ok sc_law_harbour (spF_len ?_) (fun cdv A outer s H vs Q E hr h => ?_)
  · rintro ds d ⟨_, _, rfl, _⟩
    rfl
  obtain ⟨G, ds, d, x, g, ⟨draws, dr, rfl, rfl⟩, q⟩ := h
  obtain ⟨v0, r, rfl, g0, g⟩ := daa_inv g
  cases daa_inv0 g
  generalize hD : (fun i => draws.getD i 0) = D at q
  have ix : ∀ {n : Nat}, n < 13 → (draws.map PyData.int)[n]? = some (.int (D n)) := fun {n} hn => by rw [← hD]; exact row_ix dr hn
  have at0 : ∀ {σ : L2.St} {G' : Hp} {te : TE} {i : Int} (n : Nat), σ[0]? = some (some v0) → Ex G G' → (∀ G2, Ex G' G2 → ED K te σ G2 (.int i)) → i = (n : Int) → n < 13 → ED K (tOp (rIxL K) (tVar 0) te) σ G' (.int (D n)) := fun n h0 xg hb hi hn =>
    ed_ix (ed_var h0 (da_ex xg g0)) hb hi (ix hn)
  refine ⟨_, (pss_cons (ps_setLc (i := 1) (own := [("k", 2)]) (g := gName 2) (tt := tYes) rfl sc_law_harbour.nd rfl rfl (sw_true rfl rfl rfl (by decide +kernel)) (pi_range1 (by rfl) T.m_range (pa_cons (pe_op op_add pe_int (pe_op op_mod (pe_callTy call_int1 (by rfl) T.m_int (by decide +kernel) (pa_cons (pe_ix (ixl K) (pv 0) pe_int (fun _ _ => rfl)) pa_nil)) pe_int)) pa_nil)) (blkOk_by (N := N__law_harbour) (sc := defScope s__law_harbour) (by decide +kernel)) (fun _ _ _ _ _ => (pg_name (i := 2) sc_law_harbour.nd rfl (.inl rfl))) (fun _ _ _ _ _ => pts_nil) (fun _ _ _ _ _ => (pe_op op_add pe_int (pe_op op_mod (pe_callTy call_int1 (by rfl) T.m_int (by decide +kernel) (pa_cons (pe_ix (ixl K) (pv 0) (pe_op op_add pe_int (pv 2)) (fun _ _ => rfl)) pa_nil)) pe_int))))
    (pss_cons (ps_setLc (i := 3) (own := [("k", 2)]) (g := gName 2) (tt := tYes) rfl sc_law_harbour.nd rfl rfl (sw_true rfl rfl rfl (by decide +kernel)) (pi_range1 (by rfl) T.m_range (pa_cons (pe_op op_add pe_int (pe_op op_mod (pe_callTy call_int1 (by rfl) T.m_int (by decide +kernel) (pa_cons (pe_ix (ixl K) (pv 0) pe_int (fun _ _ => rfl)) pa_nil)) pe_int)) pa_nil)) (blkOk_by (N := N__law_harbour) (sc := defScope s__law_harbour) (by decide +kernel)) (fun _ _ _ _ _ => (pg_name (i := 2) sc_law_harbour.nd rfl (.inl rfl))) (fun _ _ _ _ _ => pts_nil) (fun _ _ _ _ _ => (pe_op op_add pe_int (pe_op op_mod (pe_callTy call_int1 (by rfl) T.m_int (by decide +kernel) (pa_cons (pe_ix (ixl K) (pv 0) (pe_op op_add pe_int (pv 2)) (fun _ _ => rfl)) pa_nil)) pe_int))))
    (pss_one (ps_ret (pe_tup (pa_cons (pv 1) (pa_cons (pv 3) (pa_cons (pe_op op_mod (pe_callTy call_int1 (by rfl) T.m_int (by decide +kernel) (pa_cons (pe_ix (ixl K) (pv 0) pe_int (fun _ _ => rfl)) pa_nil)) pe_int) (pa_cons (pe_op op_add pe_int (pe_op op_mod (pe_callTy call_int1 (by rfl) T.m_int (by decide +kernel) (pa_cons (pe_ix (ixl K) (pv 0) pe_int (fun _ _ => rfl)) pa_nil)) pe_int)) (pa_cons (pe_op op_add pe_int (pe_op op_mod (pe_callTy call_int1 (by rfl) T.m_int (by decide +kernel) (pa_cons (pe_ix (ixl K) (pv 0) pe_int (fun _ _ => rfl)) pa_nil)) pe_int)) pa_nil)))))))))), ?_⟩
  refine d_asg (ed_lcR (n := 1 + D 0 % 6) (fun i => .int (2 + D (1 + i) % 7)) (ed_add ed_int (ed_mod (ed_toInt (at0 0 rfl (Ex.refl G) (fun _ _ => ed_int) rfl (by decide))) ed_int (by decide))) (by have := md (x := D 0) (m := 6) (by decide); omega) (fun _ => rfl) ?_) x fun v1 H1 G1 s1 a1 => ?_
  · intro i G2 x2 hi
    have := md (x := D 0) (m := 6) (by decide)
    exact ed_add ed_int (ed_mod (ed_toInt (at0 (1 + i) rfl x2 (fun G3 x3 => ed_add ed_int (ed_var rfl (.int (i : Int)))) (by omega) (by omega))) ed_int (by decide))
  refine d_asg (ed_lcR (n := 1 + D 9 % 2) (fun i => .int (3 + D (7 + i) % 5)) (ed_add ed_int (ed_mod (ed_toInt (at0 9 rfl s1.an (fun _ _ => ed_int) rfl (by decide))) ed_int (by decide))) (by have := md (x := D 9) (m := 2) (by decide); omega) (fun _ => rfl) ?_) s1.inn fun v3 H3 G3 s3 a3 => ?_
  · intro i G2 x2 hi
    have := md (x := D 9) (m := 2) (by decide)
    exact ed_add ed_int (ed_mod (ed_toInt (at0 (7 + i) rfl (s1.an.trans x2) (fun G3 x3 => ed_add ed_int (ed_var rfl (.int (i : Int)))) (by omega) (by omega))) ed_int (by decide))
  have xx : Ex G G3 := by walk_at "tw ex"
  refine d_ret (d := encH (harbN D)) (ed_is (ed_tup (eda_cons (ed_var rfl (da_ex s3.an a1)) fun G4 x4 => eda_cons (ed_var rfl (da_ex x4 a3)) fun G5 x5 =>
    eda_cons (ed_mod (ed_toInt (at0 10 rfl (xx.trans (x4.trans x5)) (fun _ _ => ed_int) rfl (by decide))) ed_int (by decide)) fun G6 x6 =>
    eda_cons (ed_add ed_int (ed_mod (ed_toInt (at0 11 rfl (xx.trans ((x4.trans x5).trans x6)) (fun _ _ => ed_int) rfl (by decide))) ed_int (by decide))) fun G7 x7 =>
    eda_cons (ed_add ed_int (ed_mod (ed_toInt (at0 12 rfl (xx.trans (((x4.trans x5).trans x6).trans x7)) (fun _ _ => ed_int) rfl (by decide))) ed_int (by decide))) fun _ _ => eda_nil) (by show 5 ≤ 100000; decide)) ?_) s3.inn fun v H8 G8 s8 a8 => q v H8 G8 ((s1.trans s3).trans s8) a8
  unfold encH harbN
  rw [List.map_map, List.map_map]
  rfl
def shipN (D : Nat → Int) : Sh := ⟨D 0 % 5, 1 + D 1 % 6, D 2 % 8, 1 + D 3 % 3, D 4 % 3, D 5 % 10, D 6 % 10⟩
def R_ship : List PyData → PyData → Prop := fun as d => ∃ draws : List Int, Row 7 draws ∧ as = [.list (draws.map .int)] ∧ d = encS (shipN fun i => draws.getD i 0)
theorem ok__law_ship (T : Tx K mg) : FnOk P w K mg base CX0 (k + 1) T.f__law_ship T.d__law_ship ["draws"] (spF K R_ship) := by
  refine T.F__law_ship.ok sc_law_ship (spF_len ?_) (fun cdv A outer s H vs Q E hr h => ?_)
  · rintro ds d ⟨_, _, rfl, _⟩
    rfl
  obtain ⟨G, ds, d, x, g, ⟨draws, dr, rfl, rfl⟩, q⟩ := h
  obtain ⟨v0, r, rfl, g0, g⟩ := daa_inv g
  cases daa_inv0 g
  generalize hD : (fun i => draws.getD i 0) = D at q
  have ix : ∀ {n : Nat}, n < 7 → (draws.map PyData.int)[n]? = some (.int (D n)) := fun {n} hn => by rw [← hD]; exact row_ix dr hn
  have at0 : ∀ {σ : L2.St} {G' : Hp} {te : TE} {i : Int} (n : Nat), σ[0]? = some (some v0) → Ex G G' → (∀ G2, Ex G' G2 → ED K te σ G2 (.int i)) → i = (n : Int) → n < 7 → ED K (tOp (rIxL K) (tVar 0) te) σ G' (.int (D n)) := fun n h0 xg hb hi hn =>
    ed_ix (ed_var h0 (da_ex xg g0)) hb hi (ix hn)
  refine ⟨_, (pss_cons (ps_set (i := 1) sc_law_ship.nd rfl (.inl rfl) (pe_lst (pa_cons (pe_op op_mod (pe_callTy call_int1 (by rfl) T.m_int (by decide +kernel) (pa_cons (pe_ix (ixl K) (pv 0) pe_int (fun _ _ => rfl)) pa_nil)) pe_int) (pa_cons (pe_op op_add pe_int (pe_op op_mod (pe_callTy call_int1 (by rfl) T.m_int (by decide +kernel) (pa_cons (pe_ix (ixl K) (pv 0) pe_int (fun _ _ => rfl)) pa_nil)) pe_int)) (pa_cons (pe_op op_mod (pe_callTy call_int1 (by rfl) T.m_int (by decide +kernel) (pa_cons (pe_ix (ixl K) (pv 0) pe_int (fun _ _ => rfl)) pa_nil)) pe_int) (pa_cons (pe_op op_add pe_int (pe_op op_mod (pe_callTy call_int1 (by rfl) T.m_int (by decide +kernel) (pa_cons (pe_ix (ixl K) (pv 0) pe_int (fun _ _ => rfl)) pa_nil)) pe_int)) pa_nil))))))
    (pss_one (ps_ret (pe_callTy (tupK K) (by rfl) T.m_tuple (by decide +kernel) (pa_cons (pe_op op_cat (pv 1) (pe_lst (pa_cons (pe_op op_mod (pe_callTy call_int1 (by rfl) T.m_int (by decide +kernel) (pa_cons (pe_ix (ixl K) (pv 0) pe_int (fun _ _ => rfl)) pa_nil)) pe_int) (pa_cons (pe_op op_mod (pe_callTy call_int1 (by rfl) T.m_int (by decide +kernel) (pa_cons (pe_ix (ixl K) (pv 0) pe_int (fun _ _ => rfl)) pa_nil)) pe_int) (pa_cons (pe_op op_mod (pe_callTy call_int1 (by rfl) T.m_int (by decide +kernel) (pa_cons (pe_ix (ixl K) (pv 0) pe_int (fun _ _ => rfl)) pa_nil)) pe_int) pa_nil))))) pa_nil))))), ?_⟩
  refine d_asg (ed_lst (eda_cons (ed_mod (ed_toInt (at0 0 rfl (Ex.refl _) (fun _ _ => ed_int) rfl (by decide))) ed_int (by decide)) fun G6 x6 => eda_cons (ed_add ed_int (ed_mod (ed_toInt (at0 1 rfl x6 (fun _ _ => ed_int) rfl (by decide))) ed_int (by decide))) fun G7 x7 =>
        eda_cons (ed_mod (ed_toInt (at0 2 rfl (x6.trans x7) (fun _ _ => ed_int) rfl (by decide))) ed_int (by decide)) fun G8 x8 => eda_cons (ed_add ed_int (ed_mod (ed_toInt (at0 3 rfl ((x6.trans x7).trans x8) (fun _ _ => ed_int) rfl (by decide))) ed_int (by decide))) fun _ _ => eda_nil) (by show 4 ≤ 100000; decide)) x fun v1 H1 G1 s1 a1 => ?_
  exact d_ret (ed_tuple (ed_cat (ed_var rfl a1) (fun G7 x7 => ed_lst (eda_cons (ed_mod (ed_toInt (at0 4 rfl (s1.an.trans x7) (fun _ _ => ed_int) rfl (by decide))) ed_int (by decide)) fun G8 x8 =>
        eda_cons (ed_mod (ed_toInt (at0 5 rfl ((s1.an.trans x7).trans x8) (fun _ _ => ed_int) rfl (by decide))) ed_int (by decide)) fun G9 x9 => eda_cons (ed_mod (ed_toInt (at0 6 rfl (((s1.an.trans x7).trans x8).trans x9) (fun _ _ => ed_int) rfl (by decide))) ed_int (by decide)) fun _ _ => eda_nil) (by show 3 ≤ 100000; decide)) (by show 4 + 3 ≤ 100000; decide))) s1.inn fun v H8 G8 s8 a8 => q v H8 G8 (s1.trans s8) a8
def shipsN (D : Nat → Int) (most : Int) : List Sh := (List.range (1 + D 0 % most).toNat).map fun k => shipN fun i => D (1 + 7 * k + i)
theorem cut_row {draws : List Int} {a b : Nat} (hb : b ≤ draws.length) (ha : a ≤ b) : cutD (draws.map PyData.int) (some (a : Int)) (some (b : Int)) = ((draws.drop a).take (b - a)).map .int := by
  unfold Tw.cutD
  rw [sIx_nat', sIx_nat', List.length_map, Nat.min_eq_left hb, Nat.min_eq_left (by omega), List.map_take, List.map_drop]
theorem cut_get {draws : List Int} {a n i : Nat} (hi : i < n) : ((draws.drop a).take n).getD i 0 = draws.getD (a + i) 0 := by
  rw [List.getD_eq_getElem?_getD, List.getElem?_take_of_lt hi, List.getElem?_drop, ← List.getD_eq_getElem?_getD]
def R_ships : List PyData → PyData → Prop := fun as d => ∃ (draws : List Int) (most : Int), Row 22 draws ∧ 0 < most ∧ most ≤ 3 ∧ as = [.list (draws.map .int), .int most] ∧ d = encSs (shipsN (fun i => draws.getD i 0) most)
theorem ok__law_ships (T : Tx K mg) : FnOk P w K mg base CX0 (k + 2) T.f__law_ships T.d__law_ships ["draws", "most"] (spF K R_ships) := by
  refine T.F__law_ships.ok sc_law_ships (spF_len ?_) (fun cdv A outer s H vs Q E hr h => ?_)
  · rintro ds d ⟨_, _, _, _, _, rfl, _⟩
    rfl
  obtain ⟨G, ds, d, x, g, ⟨draws, most, dr, m0, m3, rfl, rfl⟩, q⟩ := h
  obtain ⟨v0, r, rfl, g0, g⟩ := daa_inv g
  obtain ⟨v1, r, rfl, g1, g⟩ := daa_inv g
  cases daa_inv0 g
  refine ⟨_, (pss_one (ps_ret (pe_lc (own := [("k", 2)]) (g := gName 2) (tt := tYes) rfl sc_law_ships.nd (pi_range1 (by rfl) T.m_range (pa_cons (pe_op op_add pe_int (pe_op op_modN (pe_callTy call_int1 (by rfl) T.m_int (by decide +kernel) (pa_cons (pe_ix (ixl K) (pv 0) pe_int (fun _ _ => rfl)) pa_nil)) (pv 1))) pa_nil)) (blkOk_by (N := N__law_ships) (sc := defScope s__law_ships) (by decide +kernel)) (fun _ _ _ _ _ => (pg_name (i := 2) sc_law_ships.nd rfl (.inl rfl))) (fun _ _ _ _ _ => pts_nil) (fun _ _ _ _ _ => (pe_call (ok__law_ship T) hr (by rfl) T.g__law_ship T.F__law_ship.kp T.b__law_ship .nil pass0 (pa_cons (pe_slice (slL K) (pv 0) (po_some (pe_op op_add pe_int (pe_op op_mul pe_int (pv 2)))) (po_some (pe_op op_add pe_int (pe_op op_mul pe_int (pv 2))))) pa_nil)))))), ?_⟩
  have hm := md (x := draws.getD 0 0) m0
  have hlen : 22 ≤ draws.length := dr
  refine d_ret (ed_is (ed_lcR (n := 1 + draws.getD 0 0 % most) (fun k => encS (shipN fun i => draws.getD (1 + 7 * k + i) 0)) (ed_add ed_int (ed_modN (ed_toInt (ed_ix (n := 0) (ed_var rfl g0) (fun _ _ => ed_int) rfl (row_ix dr (by decide)))) (ed_var rfl g1) m0)) (by omega) (fun _ => rfl) ?_) ?_) x q
  · intro i G2 x2 hi
    have hi3 : i < 3 := by omega
    refine ed_call (eda_cons (ed_is (ed_cut (lo := some ((1 + 7 * i : Nat) : Int)) (hi := some ((8 + 7 * i : Nat) : Int)) (ed_var rfl (da_ex x2 g0))
      (fun G2 x2 => eo_some (ev_is (ev_int (K := K) (ed_add ed_int (ed_mul ed_int (ed_var (v := .int (i : Int)) rfl (.int (i : Int))) (.inl ⟨by decide, by decide⟩)))) (congrArg V.int (by omega))))
      (fun G2 x2 => eo_some (ev_is (ev_int (K := K) (ed_add ed_int (ed_mul ed_int (ed_var (v := .int (i : Int)) rfl (.int (i : Int))) (.inl ⟨by decide, by decide⟩)))) (congrArg V.int (by omega))))) (by rw [cut_row (by omega) (by omega)])) fun _ _ => eda_nil) ⟨(draws.drop (1 + 7 * i)).take (8 + 7 * i - (1 + 7 * i)), ?_, rfl, ?_⟩
    · show 7 ≤ _
      rw [List.length_take, List.length_drop]
      omega
    · unfold shipN
      simp only [cut_get (draws := draws) (a := 1 + 7 * i) (n := 8 + 7 * i - (1 + 7 * i)) (show 0 < _ by omega), cut_get (draws := draws) (a := 1 + 7 * i) (n := 8 + 7 * i - (1 + 7 * i)) (show 1 < _ by omega),
        cut_get (draws := draws) (a := 1 + 7 * i) (n := 8 + 7 * i - (1 + 7 * i)) (show 2 < _ by omega), cut_get (draws := draws) (a := 1 + 7 * i) (n := 8 + 7 * i - (1 + 7 * i)) (show 3 < _ by omega),
        cut_get (draws := draws) (a := 1 + 7 * i) (n := 8 + 7 * i - (1 + 7 * i)) (show 4 < _ by omega), cut_get (draws := draws) (a := 1 + 7 * i) (n := 8 + 7 * i - (1 + 7 * i)) (show 5 < _ by omega),
        cut_get (draws := draws) (a := 1 + 7 * i) (n := 8 + 7 * i - (1 + 7 * i)) (show 6 < _ by omega)]
  · unfold encSs shipsN
    rw [List.map_map]
    rfl
end
end K2

set_option Elab.async false
set_option linter.all false
set_option maxRecDepth 100000
set_option maxHeartbeats 4000000
namespace K2
open PySem PySem.Spec PyProof.Rows L2 Evl Tw
section
variable {P : Program} {w : World} {K : PySem.W.Frag} {mg : Str → Option Value} {base : Heap} {k : Nat}
/-! what is wrong with plans -/
theorem at_state {tz : TS} {D : Ends} {σ σ' : L2.St} {H : Hp} (e : σ = σ') (h : tz D σ' H) : tz D σ H := e ▸ h
def depthAt (h : Hb) (n : Int) : Int := h.dp.getD (n % (h.dp.length : Int)).toNat 0
def R_depth : List PyData → PyData → Prop := fun ds d => ∃ (h : Hb) (n : Int), ds = [encH h, .int n] ∧ 0 < h.dp.length ∧ d = .int (depthAt h n)
theorem get_int {l : List Int} {i : Nat} (h : i < l.length) : (l.map PyData.int)[i]? = some (.int (l.getD i 0)) := by
  rw [List.getElem?_map, List.getD_eq_getElem?_getD, List.getElem?_eq_getElem h]
  rfl
theorem ok_depth_at (T : Tx K mg) : FnOk P w K mg base CX0 (k + 1) T.f_depth_at T.d_depth_at ["harbour", "hour"] (spF K R_depth) := by
  refine T.F_depth_at.ok scdepth_at (spF_len ?_) (fun cdv A outer s H vs Q E hr h => ?_)
  · rintro ds d ⟨_, _, rfl, _⟩
    rfl
  obtain ⟨G, ds, d, x, g, ⟨hb, n, rfl, hp, rfl⟩, q⟩ := h
  obtain ⟨v0, r, rfl, g0, g⟩ := daa_inv g
  obtain ⟨v1, r, rfl, g1, g⟩ := daa_inv g
  cases daa_inv0 g
  refine ⟨_, (pss_cons (ps_set (i := 2) scdepth_at.nd rfl (.inl rfl) (pe_ix (ixt K) (pv 0) pe_int (fun _ _ => rfl)))
    (pss_one (ps_ret (pe_ix (ixl K) (pv 2) (pe_op op_modN (pv 1) (pe_callB call_len_seq (by rfl) T.m_len (by decide +kernel) (pa_cons (pv 2) pa_nil))) (fun _ _ => rfl))))), ?_⟩
  refine d_asg (K := K) (d := .list (hb.dp.map .int)) (ed_ixT (n := 0) (ed_var rfl g0) (fun _ _ => ed_int) rfl rfl) x fun v2 H1 G1 s1 a1 => ?_
  have lp : ((hb.dp.map PyData.int).length : Int) = hb.dp.length := by rw [List.length_map]
  have m0 := Int.emod_nonneg n (b := (hb.dp.length : Int)) (by omega)
  have m1 := Int.emod_lt_of_pos n (b := (hb.dp.length : Int)) (by omega)
  exact d_ret (ed_ix (n := (n % (hb.dp.length : Int)).toNat) (ed_var rfl a1) (fun G2 x2 => ed_is (ed_modN (ed_var rfl (da_ex (s1.an.trans x2) g1)) (ed_len (ed_var rfl (da_ex x2 a1))) (by omega)) (by rw [lp])) (by omega) (get_int (by omega))) s1.inn fun v H2 G2 s2 a2 => q v H2 G2 (s1.trans s2) a2
def mvOf : PyData → Mv
  | .tuple [.int a, .int b, .int o] => ⟨a, b, o⟩
  | _ => ⟨0, 0, 0⟩
def share (x y : Mv) : Bool := decide (x.b = y.b) && (decide (x.a ≤ y.o) && decide (y.a ≤ x.o))
def R_share : List PyData → PyData → Prop := fun ds d => ∃ x y : Mv, ds = [encM x, encM y] ∧ d = .bool (share x y)
theorem ok__share_hour (T : Tx K mg) : FnOk P w K mg base CX0 (k + 1) T.f__share_hour T.d__share_hour ["one", "other"] (spF K R_share) := by
  refine T.F__share_hour.ok sc_share_hour (spF_len ?_) (fun cdv A outer s H vs Q E hr h => ?_)
  · rintro ds d ⟨_, _, rfl, _⟩
    rfl
  obtain ⟨G, ds, d, x, g, ⟨mx, my, rfl, rfl⟩, q⟩ := h
  obtain ⟨v0, r, rfl, g0, g⟩ := daa_inv g
  obtain ⟨v1, r, rfl, g1, g⟩ := daa_inv g
  cases daa_inv0 g
  refine ⟨_, (pss_one (ps_ret (pe_and (pe_cmpR op_eq (pe_ix (ixt K) (pv 0) pe_int (fun _ _ => rfl)) (pe_ix (ixt K) (pv 1) pe_int (fun _ _ => rfl)) (nomark _)) (pe_and (pe_cmpR op_le (pe_ix (ixt K) (pv 0) pe_int (fun _ _ => rfl)) (pe_ix (ixt K) (pv 1) pe_int (fun _ _ => rfl)) (nomark _)) (pe_one (pe_cmpR op_le (pe_ix (ixt K) (pv 1) pe_int (fun _ _ => rfl)) (pe_ix (ixt K) (pv 0) pe_int (fun _ _ => rfl)) (nomark _))))))), ?_⟩
  refine d_ret (d := .bool (share mx my)) (ed_andV (ed_eqI (i := mx.b) (j := my.b) (ed_ixT (n := 1) (ed_var rfl g0) (fun _ _ => ed_int) rfl rfl) (ed_ixT (n := 1) (ed_var rfl g1) (fun _ _ => ed_int) rfl rfl)) fun _ => ed_andV (ed_cmp0 (i := mx.a) (j := my.o) (ed_ixT (n := 0) (ed_var rfl g0) (fun _ _ => ed_int) rfl rfl) (ed_ixT (n := 2) (ed_var rfl g1) (fun _ _ => ed_int) rfl rfl)) fun _ => ed_cmp0 (i := my.a) (j := mx.o) (ed_ixT (n := 0) (ed_var rfl g1) (fun _ _ => ed_int) rfl rfl) (ed_ixT (n := 2) (ed_var rfl g0) (fun _ _ => ed_int) rfl rfl)) x q
def wEarly (s : Sh) (m : Mv) : Bool := decide (m.a < s.r) || decide (m.o - m.a < s.st + 1)
def wLate (h : Hb) (m : Mv) : Bool := decide (m.o > h.last)
def wBerth (h : Hb) (s : Sh) (m : Mv) : Bool := !(decide (0 ≤ m.b) && decide (m.b < (h.be.length : Int))) || decide (h.be.getD m.b.toNat 0 < s.le)
def wDepth (h : Hb) (s : Sh) (m : Mv) : Bool := decide (depthAt h m.a < s.dr) || decide (depthAt h m.o < s.dr)
def wordOf (h : Hb) (s : Sh) (m : Mv) (before : List Mv) : PyData :=
  cond (wEarly s m) (.str "early") (cond (wLate h m) (.str "late") (cond (wBerth h s m) (.str "berth") (cond (wDepth h s m) (.str "depth") (cond (before.any (share m)) (.str "taken") .none))))
def R_ww : List PyData → PyData → Prop := fun ds d => ∃ (h : Hb) (ss : List Sh) (p : List Mv) (i : Nat) (s : Sh) (m : Mv), ds = [encH h, encSs ss, encP p, .int (i : Nat)] ∧ 0 < h.dp.length ∧ ss[i]? = some s ∧ p[i]? = some m ∧ p.length ≤ 1000 ∧ d = wordOf h s m (p.take i)
theorem ok__wrong_with (T : Tx K mg) : FnOk P w K mg base CX0 (k + 2) T.f__wrong_with T.d__wrong_with ["harbour", "ships", "plan", "name"] (spF K R_ww) := by
  refine T.F__wrong_with.ok sc_wrong_with (spF_len ?_) (fun cdv A outer s H vs Q E hr h => ?_)
  · rintro ds d ⟨_, _, _, _, _, _, rfl, _⟩
    rfl
  obtain ⟨G, ds, d, x, g, ⟨hb, ss, p, i, sh, m, rfl, hp, hs, hm, hl, rfl⟩, q⟩ := h
  obtain ⟨v0, r, rfl, g0, g⟩ := daa_inv g
  obtain ⟨v1, r, rfl, g1, g⟩ := daa_inv g
  obtain ⟨v2, r, rfl, g2, g⟩ := daa_inv g
  obtain ⟨v3, r, rfl, g3, g⟩ := daa_inv g
  cases daa_inv0 g
  cases g3
  refine ⟨_, (pss_cons (ps_asg (pv 0) (pg_tup (by rfl) (pgs_cons (pg_name (i := 4) sc_wrong_with.nd rfl (.inl rfl)) (pgs_cons (pg_name (i := 5) sc_wrong_with.nd rfl (.inl rfl)) (pgs_cons (pg_name (i := 4) sc_wrong_with.nd rfl (.inl rfl)) (pgs_cons (pg_name (i := 4) sc_wrong_with.nd rfl (.inl rfl)) (pgs_cons (pg_name (i := 6) sc_wrong_with.nd rfl (.inl rfl)) pgs_nil)))))))
    (pss_cons (ps_asg (pe_ix (ixl K) (pv 1) (pv 3) (fun _ _ => rfl)) (pg_tup (by rfl) (pgs_cons (pg_name (i := 7) sc_wrong_with.nd rfl (.inl rfl)) (pgs_cons (pg_name (i := 8) sc_wrong_with.nd rfl (.inl rfl)) (pgs_cons (pg_name (i := 9) sc_wrong_with.nd rfl (.inl rfl)) (pgs_cons (pg_name (i := 10) sc_wrong_with.nd rfl (.inl rfl)) (pgs_cons (pg_name (i := 4) sc_wrong_with.nd rfl (.inl rfl)) (pgs_cons (pg_name (i := 4) sc_wrong_with.nd rfl (.inl rfl)) (pgs_cons (pg_name (i := 4) sc_wrong_with.nd rfl (.inl rfl)) pgs_nil)))))))))
    (pss_cons (ps_asg (pe_ix (ixl K) (pv 2) (pv 3) (fun _ _ => rfl)) (pg_tup (by rfl) (pgs_cons (pg_name (i := 11) sc_wrong_with.nd rfl (.inl rfl)) (pgs_cons (pg_name (i := 12) sc_wrong_with.nd rfl (.inl rfl)) (pgs_cons (pg_name (i := 13) sc_wrong_with.nd rfl (.inl rfl)) pgs_nil)))))
    (pss_cons (ps_if (PW.pt (pw_or (pt_cmpR op_lt (pv 11) (pv 7) (nomark _)) (pw_or1 (pt_cmpR op_lt (pe_op op_sub (pv 13) (pv 11)) (pe_op op_add (pv 10) pe_int) (nomark _))))) (pss_one (ps_ret pe_str)) pss_nil)
    (pss_cons (ps_if (pt_cmpR op_gt (pv 13) (pv 6) (nomark _)) (pss_one (ps_ret pe_str)) pss_nil)
    (pss_cons (ps_if (PW.pt (pw_or (pt_not (pt_chain op_le op_lt pe_int (pv 12) (pe_callB call_len_seq (by rfl) T.m_len (by decide +kernel) (pa_cons (pv 5) pa_nil)))) (pw_or1 (pt_cmpR op_lt (pe_ix (ixl K) (pv 5) (pv 12) (fun _ _ => rfl)) (pv 8) (nomark _))))) (pss_one (ps_ret pe_str)) pss_nil)
    (pss_cons (ps_if (PW.pt (pw_or (pt_cmpR op_lt (pe_call (ok_depth_at T) hr (by rfl) T.g_depth_at T.F_depth_at.kp T.b_depth_at .nil pass0 (pa_cons (pv 0) (pa_cons (pv 11) pa_nil))) (pv 9) (nomark _)) (pw_or1 (pt_cmpR op_lt (pe_call (ok_depth_at T) hr (by rfl) T.g_depth_at T.F_depth_at.kp T.b_depth_at .nil pass0 (pa_cons (pv 0) (pa_cons (pv 13) pa_nil))) (pv 9) (nomark _))))) (pss_one (ps_ret pe_str)) pss_nil)
    (pss_cons (ps_if (pt_val (pe_callB (anyK K (by rfl)) (by rfl) T.m_any (by decide +kernel) (pa_cons (pe_lc (own := [("other", 14)]) (g := gName 14) (tt := tYes) rfl sc_wrong_with.nd (pi_list (pe_slice (slL K) (pv 2) po_none (po_some (pv 3)))) (blkOk_by (N := N__wrong_with) (sc := defScope s__wrong_with) (by decide +kernel)) (fun _ _ _ _ _ => (pg_name (i := 14) sc_wrong_with.nd rfl (.inl rfl))) (fun _ _ _ _ _ => pts_nil) (fun _ _ _ _ _ => (pe_call (ok__share_hour T) hr (by rfl) T.g__share_hour T.F__share_hour.kp T.b__share_hour .nil pass0 (pa_cons (pe_ix (ixl K) (pv 2) (pv 3) (fun _ _ => rfl)) (pa_cons (pv 14) pa_nil))))) pa_nil))) (pss_one (ps_ret pe_str)) pss_nil)
    (pss_one (ps_ret pe_non)))))))))), ?_⟩
  refine d_unp (ed_var rfl g0) x rfl fun vs H1 G1 s1 a => ?_
  obtain ⟨u0, r, rfl, a0, a⟩ := daa_inv a
  obtain ⟨u1, r, rfl, a1, a⟩ := daa_inv a
  obtain ⟨u2, r, rfl, a2, a⟩ := daa_inv a
  obtain ⟨u3, r, rfl, a3, a⟩ := daa_inv a
  obtain ⟨u4, r, rfl, a4, a⟩ := daa_inv a
  cases daa_inv0 a
  cases a4
  refine ⟨_, _, rfl, _, _, rfl, _, _, rfl, _, _, rfl, _, _, rfl, rfl, ?_⟩
  refine at_state (σ' := [some v0, some v1, some v2, some (.int (i : Int)), some u3, some u1, some (.int hb.last), none, none, none, none, none, none, none, none]) (by kernel_rfl) ?_
  have hs2 : (ss.map encS)[i]? = some (encS sh) := by rw [List.getElem?_map, hs]; rfl
  have hm2 : (p.map encM)[i]? = some (encM m) := by rw [List.getElem?_map, hm]; rfl
  refine d_unp (K := K) (ds := [.int sh.r, .int sh.le, .int sh.dr, .int sh.st, .int sh.tu, .int sh.se, .int sh.li]) (ed_ix (n := i) (ed_var rfl (da_ex s1.an g1)) (fun _ _ => ed_var rfl (.int _)) rfl hs2) s1.inn rfl fun vs H2 G2 s2 b => ?_
  obtain ⟨t0, r, rfl, b0, b⟩ := daa_inv b
  obtain ⟨t1, r, rfl, b1, b⟩ := daa_inv b
  obtain ⟨t2, r, rfl, b2, b⟩ := daa_inv b
  obtain ⟨t3, r, rfl, b3, b⟩ := daa_inv b
  obtain ⟨t4, r, rfl, b4, b⟩ := daa_inv b
  obtain ⟨t5, r, rfl, b5, b⟩ := daa_inv b
  obtain ⟨t6, r, rfl, b6, b⟩ := daa_inv b
  cases daa_inv0 b
  cases b0; cases b1; cases b2; cases b3; cases b4; cases b5; cases b6
  refine ⟨_, _, rfl, _, _, rfl, _, _, rfl, _, _, rfl, _, _, rfl, _, _, rfl, _, _, rfl, rfl, ?_⟩
  refine at_state (σ' := [some v0, some v1, some v2, some (.int (i : Int)), some (.int sh.li), some u1, some (.int hb.last), some (.int sh.r), some (.int sh.le), some (.int sh.dr), some (.int sh.st), none, none, none, none]) (by kernel_rfl) ?_
  have S2 := s1.trans s2
  refine d_unp (K := K) (ds := [.int m.a, .int m.b, .int m.o]) (ed_ix (n := i) (ed_var rfl (da_ex S2.an g2)) (fun _ _ => ed_var rfl (.int _)) rfl hm2) s2.inn rfl fun vs H3 G3 s3 c => ?_
  obtain ⟨w0, r, rfl, c0, c⟩ := daa_inv c
  obtain ⟨w1, r, rfl, c1, c⟩ := daa_inv c
  obtain ⟨w2, r, rfl, c2, c⟩ := daa_inv c
  cases daa_inv0 c
  cases c0; cases c1; cases c2
  refine ⟨_, _, rfl, _, _, rfl, _, _, rfl, rfl, ?_⟩
  refine at_state (σ' := [some v0, some v1, some v2, some (.int (i : Int)), some (.int sh.li), some u1, some (.int hb.last), some (.int sh.r), some (.int sh.le), some (.int sh.dr), some (.int sh.st), some (.int m.a), some (.int m.b), some (.int m.o), none]) (by kernel_rfl) ?_
  have S3 := S2.trans s3
  have be := da_ex (s2.an.trans s3.an) a1
  have fin : ∀ {d : PyData} {v : V} {H4 H5 : Hp} {G5 : Hp}, Ex H3 H4 → Tw.Sep G3 H4 H5 G5 → Da K G5 v d → wordOf hb sh m (p.take i) = d → Q v H5 := fun {d v H4 H5 G5} e s a hw => q v H5 G5 (S3.trans (s.back e)) (hw ▸ a)
  refine d_if (et_or (et_cmp0 (K := K) (ed_var rfl (.int m.a)) (ed_var rfl (.int sh.r))) fun _ => et_cmp0 (K := K) (ed_sub (ed_var rfl (.int m.o)) (ed_var rfl (.int m.a))) (ed_add (ed_var rfl (.int sh.st)) ed_int)) s3.inn (fun e1 H4 x4 => ?_) fun e1 H4 x4 => ?_
  · replace e1 : wEarly sh m = true := e1
    exact d_ret ed_str (s3.inn.trans x4) fun v H5 G5 s5 a5 => fin x4 s5 a5 (by unfold wordOf; rw [e1]; rfl)
  replace e1 : wEarly sh m = false := e1
  refine d_if (et_cmp0 (K := K) (ed_var rfl (.int m.o)) (ed_var rfl (.int hb.last))) (s3.inn.trans x4) (fun e2 H5 x5 => ?_) fun e2 H5 x5 => ?_
  · replace e2 : wLate hb m = true := e2
    exact d_ret ed_str ((s3.inn.trans x4).trans x5) fun v H5 G5 s5 a5 => fin (x4.trans x5) s5 a5 (by unfold wordOf; rw [e1, e2]; rfl)
  replace e2 : wLate hb m = false := e2
  have lb : ((hb.be.map PyData.int).length : Int) = hb.be.length := by rw [List.length_map]
  refine d_if (b := wBerth hb sh m) (et_is (et_or (et_not (et_chain0 (K := K) ed_int (ed_var rfl (.int m.b)) (ed_len (ed_var rfl be)))) fun hf => et_cmp0 (K := K) (i := hb.be.getD m.b.toNat 0) (ed_ix (n := m.b.toNat) (ed_var rfl be) (fun _ _ => ed_var rfl (.int m.b)) (by
      simp only [Bool.not_eq_false', Bool.and_eq_true, decide_eq_true_eq] at hf
      omega) (get_int (by
      simp only [Bool.not_eq_false', Bool.and_eq_true, decide_eq_true_eq] at hf
      omega))) (ed_var rfl (.int sh.le))) (by unfold wBerth; rw [lb])) ((s3.inn.trans x4).trans x5) (fun e3 H6 x6 => ?_) fun e3 H6 x6 => ?_
  · exact d_ret ed_str (((s3.inn.trans x4).trans x5).trans x6) fun v H5 G5 s5 a5 => fin ((x4.trans x5).trans x6) s5 a5 (by unfold wordOf; rw [e1, e2, e3]; rfl)
  refine d_if (b := wDepth hb sh m) (et_is (et_or (et_cmp0 (K := K) (i := depthAt hb m.a) (ed_call (eda_cons (ed_var rfl (da_ex S3.an g0)) fun _ _ => eda_cons (ed_var rfl (.int m.a)) fun _ _ => eda_nil) ⟨hb, m.a, rfl, hp, rfl⟩) (ed_var rfl (.int sh.dr))) fun _ => et_cmp0 (K := K) (i := depthAt hb m.o) (ed_call (eda_cons (ed_var rfl (da_ex S3.an g0)) fun _ _ => eda_cons (ed_var rfl (.int m.o)) fun _ _ => eda_nil) ⟨hb, m.o, rfl, hp, rfl⟩) (ed_var rfl (.int sh.dr))) rfl) (((s3.inn.trans x4).trans x5).trans x6) (fun e4 H7 x7 => ?_) fun e4 H7 x7 => ?_
  · exact d_ret ed_str ((((s3.inn.trans x4).trans x5).trans x6).trans x7) fun v H5 G5 s5 a5 => fin (((x4.trans x5).trans x6).trans x7) s5 a5 (by unfold wordOf; rw [e1, e2, e3, e4]; rfl)
  have pl := da_ex S3.an g2
  refine d_if (b := (p.take i).any (share m)) (et_bool (ed_is (ed_any (bs := (p.take i).map (share m)) (ed_is (ed_lcL (fun d => .bool (share m (mvOf d))) (ed_cut (ed_var rfl pl) (fun _ _ => eo_none) (fun G x => eo_some (ev_int (K := K) (ed_var rfl (.int (i : Int)))))) ?_ (fun _ => rfl) ?_) ?_)) ?_)) ((((s3.inn.trans x4).trans x5).trans x6).trans x7) (fun e5 H8 x8 => ?_) fun e5 H8 x8 => ?_
  · rw [cut_to, List.length_take, List.length_map]
    omega
  · intro d v G4 hd x4 gd
    rw [cut_to, ← List.map_take] at hd
    obtain ⟨m2, _, rfl⟩ := List.mem_map.mp hd
    exact ed_call (eda_cons (ed_ix (n := i) (ed_var rfl (da_ex x4 pl)) (fun _ _ => ed_var rfl (.int (i : Int))) rfl hm2) fun G x => eda_cons (ed_var rfl (da_ex x gd)) fun _ _ => eda_nil) ⟨m, m2, rfl, rfl⟩
  · rw [cut_to, ← List.map_take, List.map_map, List.map_map]
    rfl
  · rw [List.any_map]
    rfl
  · exact d_ret ed_str (((((s3.inn.trans x4).trans x5).trans x6).trans x7).trans x8) fun v H5 G5 s5 a5 => fin ((((x4.trans x5).trans x6).trans x7).trans x8) s5 a5 (by unfold wordOf; rw [e1, e2, e3, e4, e5]; rfl)
  · show tRet (tC V.non) { nx := fun _ H' => Q V.non H', rt := Q } [] H8
    refine d_ret (K := K) ed_non (((((s3.inn.trans x4).trans x5).trans x6).trans x7).trans x8) fun v H5 G5 s5 a5 => ?_
    exact fin ((((x4.trans x5).trans x6).trans x7).trans x8) s5 a5 (by unfold wordOf; rw [e1, e2, e3, e4, e5]; rfl)
end
end K2

set_option Elab.async false
set_option linter.all false
set_option maxRecDepth 100000
set_option maxHeartbeats 4000000
namespace K2
open PySem PySem.Spec PyProof.Rows L2 Evl Tw
/-! numbers in ascending order, each once -/
def ins (k : Int) : List Int → List Int
  | [] => [k]
  | x :: r => if k < x then k :: x :: r else if k = x then x :: r else x :: ins k r
def asc (ns : List Int) : List Int := ns.foldr ins []
theorem mem_ins {k j : Int} : ∀ {l : List Int}, j ∈ ins k l ↔ j = k ∨ j ∈ l
  | [] => by simp [ins]
  | x :: r => by
    unfold ins
    split
    · simp
    · split
      · rename_i h
        subst h
        simp
      · rw [List.mem_cons, mem_ins, List.mem_cons]
        constructor
        · rintro (h | h | h) <;> simp [h]
        · rintro (h | h | h) <;> simp [h]
theorem pw_ins {k : Int} : ∀ {l : List Int}, l.Pairwise (· < ·) → (ins k l).Pairwise (· < ·)
  | [], _ => by simp [ins]
  | x :: r, h => by
    obtain ⟨h1, h2⟩ := List.pairwise_cons.mp h
    unfold ins
    split
    · rename_i hk
      refine List.pairwise_cons.mpr ⟨fun y hy => ?_, h⟩
      rcases List.mem_cons.mp hy with rfl | hy
      · exact hk
      · exact Int.lt_trans hk (h1 y hy)
    · split
      · exact h
      · refine List.pairwise_cons.mpr ⟨fun y hy => ?_, pw_ins h2⟩
        rcases mem_ins.mp hy with rfl | hy
        · omega
        · exact h1 y hy
theorem mem_asc {j : Int} : ∀ {ns : List Int}, j ∈ asc ns ↔ j ∈ ns
  | [] => by simp [asc]
  | k :: r => by
    show j ∈ ins k (asc r) ↔ _
    rw [mem_ins, mem_asc, List.mem_cons]
theorem pw_asc : ∀ ns : List Int, (asc ns).Pairwise (· < ·)
  | [] => .nil
  | k :: r => pw_ins (pw_asc r)
theorem asc_one : ∀ {a b : List Int}, a.Pairwise (· < ·) → b.Pairwise (· < ·) → (∀ k, k ∈ a ↔ k ∈ b) → a = b
  | [], [], _, _, _ => rfl
  | [], y :: b, _, _, h => absurd ((h y).mpr List.mem_cons_self) List.not_mem_nil
  | x :: a, [], _, _, h => absurd ((h x).mp List.mem_cons_self) List.not_mem_nil
  | x :: a, y :: b, ha, hb, h => by
    obtain ⟨a1, a2⟩ := List.pairwise_cons.mp ha
    obtain ⟨b1, b2⟩ := List.pairwise_cons.mp hb
    have e : x = y := by
      rcases List.mem_cons.mp ((h x).mp List.mem_cons_self) with e | hx
      · exact e
      · rcases List.mem_cons.mp ((h y).mpr List.mem_cons_self) with e | hy
        · exact e.symm
        · have := b1 x hx
          have := a1 y hy
          omega
    subst e
    refine congrArg _ (asc_one a2 b2 fun k => ?_)
    constructor
    · intro hk
      rcases List.mem_cons.mp ((h k).mp (List.mem_cons_of_mem _ hk)) with e | hk2
      · have := a1 k hk
        omega
      · exact hk2
    · intro hk
      rcases List.mem_cons.mp ((h k).mpr (List.mem_cons_of_mem _ hk)) with e | hk2
      · have := b1 k hk
        omega
      · exact hk2
theorem find_at {α : Type} {c : α → Bool} {l : List α} {i : Nat} {x : α} (hi : l[i]? = some x) (h : ∀ y ∈ l.take i, c y = false) (hc : c x = true) : l.find? c = some x := by
  have e : l = l.take i ++ x :: l.drop (i + 1) := by
    have h1 : i < l.length := (List.getElem?_eq_some_iff.mp hi).1
    have h2 : l[i] = x := (List.getElem?_eq_some_iff.mp hi).2
    rw [← h2, ← List.drop_eq_getElem_cons h1, List.take_append_drop]
  rw [e, List.find?_append, List.find?_eq_none.mpr fun y hy => by rw [h y hy]; exact Bool.false_ne_true, List.find?_cons, hc]
  rfl
theorem take_false {α : Type} {c : α → Bool} {l : List α} {i : Nat} {x : α} (hi : l[i]? = some x) (h : ∀ y ∈ l.take i, c y = false) (hc : c x = false) : ∀ y ∈ l.take (i + 1), c y = false := by
  intro y hy
  rw [take_one hi] at hy
  rcases List.mem_append.mp hy with hy | hy
  · exact h y hy
  · cases List.mem_singleton.mp hy
    exact hc
section
variable {P : Program} {w : World} {K : PySem.W.Frag} {mg : Str → Option Value} {base : Heap} {k : Nat}
theorem inK {X : Cx} (K : PySem.W.Frag) (e : X.K = K := by rfl) : OpR X (compareOp .In) (rIn K false) := e ▸ op_in_seq
def mov (p : List Mv) (n : Int) (i : Nat) : Bool := match p[i]? with
  | some m => decide (n = m.a) || decide (n = m.o)
  | none => false
def movers (p : List Mv) (n : Int) : List Nat := (List.range p.length).filter (mov p n)
def R_mov : List PyData → PyData → Prop := fun ds d => ∃ (p : List Mv) (n : Int), ds = [encP p, .int n] ∧ p.length ≤ 1000 ∧ d = .list ((movers p n).map fun i => .int (i : Nat))
theorem ok__movers (T : Tx K mg) : FnOk P w K mg base CX0 (k + 1) T.f__movers T.d__movers ["plan", "hour"] (spF K R_mov) := by
  refine T.F__movers.ok sc_movers (spF_len ?_) (fun cdv A outer s H vs Q E hr h => ?_)
  · rintro ds d ⟨_, _, rfl, _⟩
    rfl
  obtain ⟨G, ds, d, x, g, ⟨p, n, rfl, hl, rfl⟩, q⟩ := h
  obtain ⟨v0, r, rfl, g0, g⟩ := daa_inv g
  obtain ⟨v1, r, rfl, g1, g⟩ := daa_inv g
  cases daa_inv0 g
  refine ⟨_, (pss_one (ps_ret (pe_lc (own := [("name", 2), ("came", 3), ("_", 4), ("left", 5)]) (g := gTup K 2 (gCons (gName 2) (gCons (gTup K 3 (gCons (gName 3) (gCons (gName 4) (gCons (gName 5) gNil)))) gNil))) rfl sc_movers.nd (pi_enum (by rfl) T.m_enumerate (pa_cons (pv 0) pa_nil)) (blkOk_by (N := N__movers) (sc := defScope s__movers) (by decide +kernel)) (fun _ _ _ _ _ => (pg_tup (by rfl) (pgs_cons (pg_name (i := 2) sc_movers.nd rfl (.inl rfl)) (pgs_cons (pg_tup (by rfl) (pgs_cons (pg_name (i := 3) sc_movers.nd rfl (.inl rfl)) (pgs_cons (pg_name (i := 4) sc_movers.nd rfl (.inl rfl)) (pgs_cons (pg_name (i := 5) sc_movers.nd rfl (.inl rfl)) pgs_nil)))) pgs_nil)))) (fun _ _ _ _ _ => pts_one (pt_cmpR (inK K) (pv 1) (pe_tup (pa_cons (pv 3) (pa_cons (pv 5) pa_nil))) rfl)) (fun _ _ _ _ _ => (pv 2))))), ?_⟩
  refine d_ret (ed_is (ed_lcE (ds := p.map encM) (mov p n) (fun i => .int (i : Nat)) (eda_cons (ed_var rfl g0) fun _ _ => eda_nil) (by rw [List.length_map]; omega) ?_) ?_) x q
  · intro i d v U G2 H2 hd xg gd hU xU Q2 kk
    rw [List.getElem?_map] at hd
    obtain ⟨m, hm, rfl⟩ := Option.map_eq_some_iff.mp hd
    refine ⟨U, _, rfl, hU, rfl, _, _, rfl, _, _, rfl, ?_⟩
    refine tg_tup3 gd xU fun w1 w2 w3 h1 h2 h3 => ⟨_, _, rfl, _, _, rfl, _, _, rfl, rfl, rfl, ?_⟩
    refine kk _ rfl (et_is (et_inT2 (ed_var rfl (da_ex xg g1)) (ed_var rfl h1) (ed_var rfl h3)) ?_) fun _ => ed_var rfl (.int _)
    unfold mov
    rw [hm]
  · rw [List.length_map]
    rfl
def tuAt (ss : List Sh) (i : Nat) : Int := match ss[i]? with
  | some s => s.tu
  | none => 0
def sumT (ss : List Sh) (p : List Mv) (n : Int) : Int := ((movers p n).map (tuAt ss)).sum
def tooT (h : Hb) (ss : List Sh) (p : List Mv) (n : Int) : Bool := decide (sumT ss p n > h.tugs)
def tooP (h : Hb) (p : List Mv) (n : Int) : Bool := decide (((movers p n).length : Int) > h.pil)
def hoursOf (p : List Mv) : List Int := asc (p.map (·.a) ++ p.map (·.o))
def together (h : Hb) (ss : List Sh) (p : List Mv) : PyData := match (hoursOf p).find? (tooT h ss p) with
  | some n => .tuple [.str "tugs", .int n]
  | none => match (hoursOf p).find? (tooP h p) with
    | some n => .tuple [.str "pilots", .int n]
    | none => .none
end
end K2

set_option Elab.async false
set_option linter.all false
set_option maxRecDepth 100000
set_option maxHeartbeats 4000000
namespace K2
open PySem PySem.Spec PyProof.Rows L2 Evl Tw
section
variable {P : Program} {w : World} {K : PySem.W.Frag} {mg : Str → Option Value} {base : Heap} {k : Nat}
theorem sortedSetK {X : Cx} (w : World) (hc : X.calm = true) (e : X.w = w := by rfl) : CallR X (.builtin "sorted") (rSortedSet w) := e ▸ cr_sortedSet hc
theorem hours_is {p : List Mv} {ms : List Int} (h1 : ms.Pairwise (· < ·)) (h2 : ∀ k : Int, k ∈ ms ↔ k ∈ p.map (·.a) ++ p.map (·.o)) : ms = hoursOf p :=
  asc_one h1 (pw_asc _) fun k => (h2 k).trans mem_asc.symm
def tuD (ss : List Sh) : PyData → PyData
  | .int j => .int (tuAt ss j.toNat)
  | d => d
def R_tog : List PyData → PyData → Prop := fun ds d => ∃ (h : Hb) (ss : List Sh) (p : List Mv), ds = [encH h, encSs ss, encP p] ∧ p.length = ss.length ∧ p.length ≤ 20 ∧ d = together h ss p
theorem ok__wrong_together (T : Tx K mg) : FnOk P w K mg base CX0 (k + 2) T.f__wrong_together T.d__wrong_together ["harbour", "ships", "plan"] (spF K R_tog) := by
  refine T.F__wrong_together.ok sc_wrong_together (spF_len ?_) (fun cdv A outer s H vs Q E hr h => ?_)
  · rintro ds d ⟨_, _, _, rfl, _⟩
    rfl
  obtain ⟨G, ds, d, x, g, ⟨hb, ss, p, rfl, hl, hz, rfl⟩, q⟩ := h
  obtain ⟨v0, r, rfl, g0, g⟩ := daa_inv g
  obtain ⟨v1, r, rfl, g1, g⟩ := daa_inv g
  obtain ⟨v2, r, rfl, g2, g⟩ := daa_inv g
  cases daa_inv0 g
  refine ⟨_, (pss_cons (ps_asg (pv 0) (pg_tup (by rfl) (pgs_cons (pg_name (i := 3) sc_wrong_together.nd rfl (.inl rfl)) (pgs_cons (pg_name (i := 3) sc_wrong_together.nd rfl (.inl rfl)) (pgs_cons (pg_name (i := 4) sc_wrong_together.nd rfl (.inl rfl)) (pgs_cons (pg_name (i := 5) sc_wrong_together.nd rfl (.inl rfl)) (pgs_cons (pg_name (i := 3) sc_wrong_together.nd rfl (.inl rfl)) pgs_nil)))))))
    (pss_cons (ps_set (i := 6) sc_wrong_together.nd rfl (.inl rfl) (pe_callB (sortedSetK w (by rfl)) (by rfl) T.m_sorted (by decide +kernel) (pa_cons (pe_callTy (setLK (K := K) (w := w) (by rfl)) (by rfl) T.m_set (by decide +kernel) (pa_cons (pe_op op_cat (pe_lc (own := [("came", 7), ("_", 3), ("_", 3)]) (g := gTup K 3 (gCons (gName 7) (gCons (gName 3) (gCons (gName 3) gNil)))) (tt := tYes) rfl sc_wrong_together.nd (pi_list (pv 2)) (blkOk_by (N := N__wrong_together) (sc := defScope s__wrong_together) (by decide +kernel)) (fun _ _ _ _ _ => (pg_tup (by rfl) (pgs_cons (pg_name (i := 7) sc_wrong_together.nd rfl (.inl rfl)) (pgs_cons (pg_name (i := 3) sc_wrong_together.nd rfl (.inl rfl)) (pgs_cons (pg_name (i := 3) sc_wrong_together.nd rfl (.inl rfl)) pgs_nil))))) (fun _ _ _ _ _ => pts_nil) (fun _ _ _ _ _ => (pv 7))) (pe_lc (own := [("_", 3), ("_", 3), ("left", 8)]) (g := gTup K 3 (gCons (gName 3) (gCons (gName 3) (gCons (gName 8) gNil)))) (tt := tYes) rfl sc_wrong_together.nd (pi_list (pv 2)) (blkOk_by (N := N__wrong_together) (sc := defScope s__wrong_together) (by decide +kernel)) (fun _ _ _ _ _ => (pg_tup (by rfl) (pgs_cons (pg_name (i := 3) sc_wrong_together.nd rfl (.inl rfl)) (pgs_cons (pg_name (i := 3) sc_wrong_together.nd rfl (.inl rfl)) (pgs_cons (pg_name (i := 8) sc_wrong_together.nd rfl (.inl rfl)) pgs_nil))))) (fun _ _ _ _ _ => pts_nil) (fun _ _ _ _ _ => (pv 8)))) pa_nil)) pa_nil)))
    (pss_cons (ps_for PassesOwn.never rfl (pi_list (pv 6)) (pg_name (i := 9) sc_wrong_together.nd rfl (.inl rfl))
      (pss_one (ps_if (pt_cmpR op_gt (pe_callB (sumK K (by rfl)) (by rfl) T.m_sum (by decide +kernel) (pa_cons (pe_lc (own := [("name", 10)]) (g := gName 10) (tt := tYes) rfl sc_wrong_together.nd (pi_list (pe_call (ok__movers T) hr (by rfl) T.g__movers T.F__movers.kp T.b__movers .nil pass0 (pa_cons (pv 2) (pa_cons (pv 9) pa_nil)))) (blkOk_by (N := N__wrong_together) (sc := defScope s__wrong_together) (by decide +kernel)) (fun _ _ _ _ _ => (pg_name (i := 10) sc_wrong_together.nd rfl (.inl rfl))) (fun _ _ _ _ _ => pts_nil) (fun _ _ _ _ _ => (pe_ix (ixt K) (pe_ix (ixl K) (pv 1) (pv 10) (fun _ _ => rfl)) pe_int (fun _ _ => rfl)))) pa_nil)) (pv 4) (nomark _)) (pss_one (ps_ret (pe_tup (pa_cons pe_str (pa_cons (pv 9) pa_nil))))) pss_nil)))
    (pss_cons (ps_for PassesOwn.never rfl (pi_list (pv 6)) (pg_name (i := 9) sc_wrong_together.nd rfl (.inl rfl))
      (pss_one (ps_if (pt_cmpR op_gt (pe_callB (lenK K) (by rfl) T.m_len (by decide +kernel) (pa_cons (pe_call (ok__movers T) hr (by rfl) T.g__movers T.F__movers.kp T.b__movers .nil pass0 (pa_cons (pv 2) (pa_cons (pv 9) pa_nil))) pa_nil)) (pv 5) (nomark _)) (pss_one (ps_ret (pe_tup (pa_cons pe_str (pa_cons (pv 9) pa_nil))))) pss_nil)))
    (pss_one (ps_ret pe_non)))))), ?_⟩
  refine d_unp (ed_var rfl g0) x rfl fun vs H1 G1 s1 a => ?_
  obtain ⟨u0, r, rfl, a0, a⟩ := daa_inv a
  obtain ⟨u1, r, rfl, a1, a⟩ := daa_inv a
  obtain ⟨u2, r, rfl, a2, a⟩ := daa_inv a
  obtain ⟨u3, r, rfl, a3, a⟩ := daa_inv a
  obtain ⟨u4, r, rfl, a4, a⟩ := daa_inv a
  cases daa_inv0 a
  cases a2
  cases a3
  refine ⟨_, _, rfl, _, _, rfl, _, _, rfl, _, _, rfl, _, _, rfl, rfl, ?_⟩
  refine at_state (σ' := [some v0, some v1, some v2, some u4, some (.int hb.tugs), some (.int hb.pil), none, none, none, none, none]) (by kernel_rfl) ?_
  have lp : (p.map encM).length = p.length := List.length_map ..
  -- the hours
  refine d_sortedSet (K := K) (w := w) (ns := p.map (·.a) ++ p.map (·.o)) (ed_is (ed_cat (ed_lcG (ds := p.map encM) (fun _ => true) (fun d => .int (mvOf d).a) (ed_var rfl (da_ex s1.an g2)) (by omega) ?c1) (fun G2 x2 => ed_lcG (ds := p.map encM) (fun _ => true) (fun d => .int (mvOf d).o) (ed_var rfl (da_ex (s1.an.trans x2) g2)) (by omega) ?c2) ?c3) ?c4) s1.inn (by rw [List.length_append, List.length_map, List.length_map]; omega) fun ms v6 H2 G2 up mem s2 a6 => ?_
  case c1 =>
    intro d v G2 H' hd xg gd xH Q2 kk
    obtain ⟨m, _, rfl⟩ := List.mem_map.mp hd
    exact tg_tup3 gd xH fun w1 w2 w3 h1 h2 h3 => ⟨_, _, rfl, _, _, rfl, _, _, rfl, rfl, kk _ rfl et_yes fun _ => ed_var rfl h1⟩
  case c2 =>
    intro d v G2 H' hd xg gd xH Q2 kk
    obtain ⟨m, _, rfl⟩ := List.mem_map.mp hd
    exact tg_tup3 gd xH fun w1 w2 w3 h1 h2 h3 => ⟨_, _, rfl, _, _, rfl, _, _, rfl, rfl, kk _ rfl et_yes fun _ => ed_var rfl h3⟩
  case c3 =>
    rw [List.filter_eq_self.mpr fun _ _ => rfl, List.length_map, List.length_map, List.length_map, List.length_map]
    omega
  case c4 =>
    rw [List.filter_eq_self.mpr fun _ _ => rfl, List.map_append, List.map_map, List.map_map, List.map_map, List.map_map]
    rfl
  obtain rfl := hours_is up mem
  refine at_state (σ' := [some v0, some v1, some v2, some u4, some (.int hb.tugs), some (.int hb.pil), some v6, none, none, none, none]) (by kernel_rfl) ?_
  have S2 := s1.trans s2
  have b1 := da_ex S2.an g1
  have b2 := da_ex S2.an g2
  -- movers, in any state
  have mv : ∀ {σ : L2.St} {G3 : Hp} {n : Int}, σ[2]? = some (some v2) → σ[9]? = some (some (.int n)) → Ex G2 G3 → ED K (tCall (spF K R_mov) [] E0 (tCons (tVar 2) (tCons (tVar 9) tNil))) σ G3 (.list ((movers p n).map fun i => .int (i : Nat))) := fun {σ G3 n} h2 h9 e =>
    ed_call (eda_cons (ed_var h2 (da_ex e b2)) fun _ _ => eda_cons (ed_var h9 (.int n)) fun _ _ => eda_nil) ⟨p, n, rfl, by omega, rfl⟩
  have lm : ∀ n, (movers p n).length ≤ 20 := fun n => Nat.le_trans (List.length_filter_le _ _) (by rw [List.length_range]; omega)
  -- tugs
  refine d_for (K := K) (i := 6) rfl a6 s2.inn (fun i σ' H' => ∃ x9, σ' = [some v0, some v1, some v2, some u4, some (.int hb.tugs), some (.int hb.pil), some v6, none, none, x9, none] ∧ Ex G2 H' ∧ Ex H2 H' ∧ ∀ n ∈ (hoursOf p).take i, tooT hb ss p n = false) ⟨_, rfl, s2.inn, Ex.refl _, fun n hn => absurd hn (by rw [List.take_zero]; exact List.not_mem_nil)⟩ (fun i σ' H' p => by
    obtain ⟨_, _, e, _⟩ := p
    exact e) (fun i w' d' σ' H' hd gd pv => ?_) fun σ' H' pv => ?_
  · obtain ⟨x9, rfl, xg, xh, hn⟩ := pv
    rw [List.getElem?_map] at hd
    obtain ⟨n, hi, rfl⟩ := Option.map_eq_some_iff.mp hd
    cases gd
    refine d_if1 (et_cmp0 (i := sumT ss p n) (j := hb.tugs) (ed_is (ed_sum (K := K) (ns := (movers p n).map (tuAt ss)) (ed_is (ed_lcL (tuD ss) (mv rfl rfl (Ex.refl _)) (by rw [List.length_map]; have := lm n; omega) (fun _ => rfl) ?el) ?em)) rfl) (ed_var rfl (.int hb.tugs))) xg (fun e1 H4 x4 => ?_) fun e1 H4 x4 => ?_
    case el =>
      intro d v G4 hd x4 gd
      obtain ⟨j, hj, rfl⟩ := List.mem_map.mp hd
      cases gd
      have hjl : j < ss.length := by
        have h1 := (List.mem_filter.mp hj).1
        have := List.mem_range.mp h1
        omega
      have e : tuAt ss j = (ss[j]).tu := by
        unfold tuAt
        rw [List.getElem?_eq_getElem hjl]
      show ED K _ _ G4 (.int (tuAt ss ((j : Int)).toNat))
      rw [Int.toNat_natCast, e]
      exact ed_ixT (n := 4) (ds := [.int ss[j].r, .int ss[j].le, .int ss[j].dr, .int ss[j].st, .int ss[j].tu, .int ss[j].se, .int ss[j].li]) (ed_ix (n := j) (ed_var rfl (da_ex x4 b1)) (fun _ _ => ed_var rfl (.int (j : Int))) rfl (by rw [List.getElem?_map, List.getElem?_eq_getElem hjl]; rfl)) (fun _ _ => ed_int) rfl rfl
    case em =>
      rw [List.map_map, List.map_map]
      rfl
    · refine d_ret (K := K) (d := .tuple [.str "tugs", .int n]) (ed_tup (eda_cons ed_str fun _ _ => eda_cons (ed_var rfl (.int n)) fun _ _ => eda_nil) (by show 2 ≤ 100000; decide)) (xg.trans x4) fun v H5 G5 s5 a5 => ?_
      have f := find_at hi hn e1
      refine q v H5 G5 (S2.trans (s5.back (xh.trans x4))) ?_
      unfold together
      rw [f]
      exact a5
    · exact ⟨_, rfl, xg.trans x4, xh.trans x4, take_false hi hn e1⟩
  obtain ⟨x9, rfl, xg, xh, hn⟩ := pv
  rw [List.length_map, List.take_length] at hn
  have f1 : (hoursOf p).find? (tooT hb ss p) = none := List.find?_eq_none.mpr fun n h => by rw [hn n h]; exact Bool.false_ne_true
  refine d_for (K := K) (i := 6) rfl a6 xg (fun i σ' H' => ∃ x9, σ' = [some v0, some v1, some v2, some u4, some (.int hb.tugs), some (.int hb.pil), some v6, none, none, x9, none] ∧ Ex G2 H' ∧ Ex H2 H' ∧ ∀ n ∈ (hoursOf p).take i, tooP hb p n = false) ⟨_, rfl, xg, xh, fun n hn => absurd hn (by rw [List.take_zero]; exact List.not_mem_nil)⟩ (fun i σ' H' p => by
    obtain ⟨_, _, e, _⟩ := p
    exact e) (fun i w' d' σ' H' hd gd pv => ?_) fun σ' H' pv => ?_
  · obtain ⟨x9, rfl, xg, xh, hn⟩ := pv
    rw [List.getElem?_map] at hd
    obtain ⟨n, hi, rfl⟩ := Option.map_eq_some_iff.mp hd
    cases gd
    refine d_if1 (et_cmp0 (i := ((movers p n).length : Int)) (j := hb.pil) (ed_is (ed_len (K := K) (mv rfl rfl (Ex.refl _))) (by rw [List.length_map])) (ed_var rfl (.int hb.pil))) xg (fun e1 H4 x4 => ?_) fun e1 H4 x4 => ?_
    · refine d_ret (K := K) (d := .tuple [.str "pilots", .int n]) (ed_tup (eda_cons ed_str fun _ _ => eda_cons (ed_var rfl (.int n)) fun _ _ => eda_nil) (by show 2 ≤ 100000; decide)) (xg.trans x4) fun v H5 G5 s5 a5 => ?_
      have f := find_at hi hn e1
      refine q v H5 G5 (S2.trans (s5.back (xh.trans x4))) ?_
      unfold together
      rw [f1, f]
      exact a5
    · exact ⟨_, rfl, xg.trans x4, xh.trans x4, take_false hi hn e1⟩
  obtain ⟨x9, rfl, xg, xh, hn⟩ := pv
  rw [List.length_map, List.take_length] at hn
  have f2 : (hoursOf p).find? (tooP hb p) = none := List.find?_eq_none.mpr fun n h => by rw [hn n h]; exact Bool.false_ne_true
  refine d_ret (K := K) ed_non xg fun v H5 G5 s5 a5 => ?_
  refine q v H5 G5 (S2.trans (s5.back xh)) ?_
  unfold together
  rw [f1, f2]
  exact a5
end
end K2

set_option Elab.async false
set_option linter.all false
set_option maxRecDepth 100000
set_option maxHeartbeats 4000000
namespace K2
open PySem PySem.Spec PyProof.Rows L2 Evl Tw
section
variable {P : Program} {w : World} {K : PySem.W.Frag} {mg : Str → Option Value} {base : Heap} {k : Nat}
def wordAt (h : Hb) (ss : List Sh) (p : List Mv) (i : Nat) : PyData := match ss[i]?, p[i]? with
  | some s, some m => wordOf h s m (p.take i)
  | _, _ => .none
def bad (h : Hb) (ss : List Sh) (p : List Mv) (i : Nat) : Bool := !isN (wordAt h ss p i)
def wrongIn (h : Hb) (ss : List Sh) (p : List Mv) : PyData := match (List.range ss.length).find? (bad h ss p) with
  | some i => .tuple [wordAt h ss p i, .int (i : Nat)]
  | none => together h ss p
def R_win : List PyData → PyData → Prop := fun ds d => ∃ (h : Hb) (ss : List Sh) (p : List Mv), ds = [encH h, encSs ss, encP p] ∧ 0 < h.dp.length ∧ p.length = ss.length ∧ p.length ≤ 20 ∧ d = wrongIn h ss p
theorem ok_wrong_in (T : Tx K mg) : FnOk P w K mg base CX0 (k + 3) T.f_wrong_in T.d_wrong_in ["harbour", "ships", "plan"] (spF K R_win) := by
  refine T.F_wrong_in.ok scwrong_in (spF_len ?_) (fun cdv A outer s H vs Q E hr h => ?_)
  · rintro ds d ⟨_, _, _, rfl, _⟩
    rfl
  obtain ⟨G, ds, d, x, g, ⟨hb, ss, p, rfl, hp, hl, hz, rfl⟩, q⟩ := h
  obtain ⟨v0, r, rfl, g0, g⟩ := daa_inv g
  obtain ⟨v1, r, rfl, g1, g⟩ := daa_inv g
  obtain ⟨v2, r, rfl, g2, g⟩ := daa_inv g
  cases daa_inv0 g
  refine ⟨_, (pss_cons (ps_for PassesOwn.never rfl (pi_range1 (by rfl) T.m_range (pa_cons (pe_callB call_len_seq (by rfl) T.m_len (by decide +kernel) (pa_cons (pv 1) pa_nil)) pa_nil)) (pg_name (i := 3) scwrong_in.nd rfl (.inl rfl))
      (pss_cons (ps_set (i := 4) scwrong_in.nd rfl (.inl rfl) (pe_call (ok__wrong_with T) hr (by rfl) T.g__wrong_with T.F__wrong_with.kp T.b__wrong_with .nil pass0 (pa_cons (pv 0) (pa_cons (pv 1) (pa_cons (pv 2) (pa_cons (pv 3) pa_nil))))))
      (pss_one (ps_if (pt_cmpR op_notN (pv 4) pe_non (nomark _)) (pss_one (ps_ret (pe_tup (pa_cons (pv 4) (pa_cons (pv 3) pa_nil))))) pss_nil))))
    (pss_one (ps_ret (pe_call (ok__wrong_together T) hr (by rfl) T.g__wrong_together T.F__wrong_together.kp T.b__wrong_together .nil pass0 (pa_cons (pv 0) (pa_cons (pv 1) (pa_cons (pv 2) pa_nil))))))), ?_⟩
  have ls : ((ss.map encS).length : Int) = ss.length := by rw [List.length_map]
  refine d_range (K := K) (n := ((ss.map encS).length : Int)) (G := G) (ed_len (ed_var rfl g1)) x (by omega) (fun i σ' H' => ∃ x3 x4, σ' = [some v0, some v1, some v2, x3, x4] ∧ Ex G H' ∧ Ex H H' ∧ ∀ j ∈ (List.range ss.length).take i, bad hb ss p j = false) ?_ ?_ ?_
  · intro H1 e1
    exact ⟨_, _, rfl, x.trans e1, e1, fun n hn => absurd hn (by rw [List.take_zero]; exact List.not_mem_nil)⟩
  · rintro i σ' H' hi ⟨x3, x4, rfl, xg, xh, hn⟩
    have his : i < ss.length := by omega
    have hip : i < p.length := by omega
    have hr2 : (List.range ss.length)[i]? = some i := List.getElem?_range his
    have hw : wordAt hb ss p i = wordOf hb ss[i] p[i] (p.take i) := by
      unfold wordAt
      rw [List.getElem?_eq_getElem his, List.getElem?_eq_getElem hip]
    refine d_asg (K := K) (d := wordAt hb ss p i) (ed_call (eda_cons (ed_var rfl g0) fun G2 x2 => eda_cons (ed_var rfl (da_ex x2 g1)) fun G3 x3 => eda_cons (ed_var rfl (da_ex (x2.trans x3) g2)) fun _ _ => eda_cons (ed_var rfl (.int (i : Int))) fun _ _ => eda_nil) ⟨hb, ss, p, i, ss[i], p[i], rfl, hp, List.getElem?_eq_getElem his, List.getElem?_eq_getElem hip, by omega, hw⟩) xg fun v4 H2 G2 s2 a2 => ?_
    refine d_if1 (et_notN (ed_var rfl a2)) s2.inn (fun e1 H4 x4 => ?_) fun e1 H4 x4 => ?_
    · refine d_ret (K := K) (ed_tup (eda_cons (ed_var rfl a2) fun _ _ => eda_cons (ed_var rfl (.int (i : Int))) fun _ _ => eda_nil) (by show 2 ≤ 100000; decide)) (s2.inn.trans x4) fun v H5 G5 s5 a5 => ?_
      have f := find_at (c := bad hb ss p) hr2 hn e1
      refine q v H5 G5 ((s2.back xh).trans (s5.back x4)) ?_
      unfold wrongIn
      rw [f]
      exact a5
    · exact ⟨_, _, rfl, (s2.an.trans s2.inn).trans x4, (xh.trans s2.up).trans x4, take_false hr2 hn e1⟩
  · rintro σ' H' ⟨x3, x4, rfl, xg, xh, hn⟩
    rw [show ((ss.map encS).length : Int).toNat = (List.range ss.length).length by rw [List.length_range]; omega, List.take_length] at hn
    have f : (List.range ss.length).find? (bad hb ss p) = none := List.find?_eq_none.mpr fun n h => by rw [hn n h]; exact Bool.false_ne_true
    refine d_ret (K := K) (ed_call (eda_cons (ed_var rfl g0) fun G2 x2 => eda_cons (ed_var rfl (da_ex x2 g1)) fun G3 x3 => eda_cons (ed_var rfl (da_ex (x2.trans x3) g2)) fun _ _ => eda_nil) ⟨hb, ss, p, rfl, hl, hz, rfl⟩) xg fun v H5 G5 s5 a5 => ?_
    refine q v H5 G5 (s5.back xh) ?_
    unfold wrongIn
    rw [f]
    exact a5
def R_isp : List PyData → PyData → Prop := fun ds d => ∃ (h : Hb) (ss : List Sh) (p : List Mv), ds = [encH h, encSs ss, encP p] ∧ 0 < h.dp.length ∧ p.length = ss.length ∧ p.length ≤ 20 ∧ d = .bool (isN (wrongIn h ss p))
theorem ok_is_plan (T : Tx K mg) : FnOk P w K mg base CX0 (k + 4) T.f_is_plan T.d_is_plan ["harbour", "ships", "plan"] (spF K R_isp) := by
  refine T.F_is_plan.ok scis_plan (spF_len ?_) (fun cdv A outer s H vs Q E hr h => ?_)
  · rintro ds d ⟨_, _, _, rfl, _⟩
    rfl
  obtain ⟨G, ds, d, x, g, ⟨hb, ss, p, rfl, hp, hl, hz, rfl⟩, q⟩ := h
  obtain ⟨v0, r, rfl, g0, g⟩ := daa_inv g
  obtain ⟨v1, r, rfl, g1, g⟩ := daa_inv g
  obtain ⟨v2, r, rfl, g2, g⟩ := daa_inv g
  cases daa_inv0 g
  refine ⟨_, (pss_one (ps_ret (pe_cmpR op_isN (pe_call (ok_wrong_in T) hr (by rfl) T.g_wrong_in T.F_wrong_in.kp T.b_wrong_in .nil pass0 (pa_cons (pv 0) (pa_cons (pv 1) (pa_cons (pv 2) pa_nil)))) pe_non (nomark _)))), ?_⟩
  exact d_ret (ed_isN (K := K) (ed_call (eda_cons (ed_var rfl g0) fun G2 x2 => eda_cons (ed_var rfl (da_ex x2 g1)) fun G3 x3 => eda_cons (ed_var rfl (da_ex (x2.trans x3) g2)) fun _ _ => eda_nil) ⟨hb, ss, p, rfl, hp, hl, hz, rfl⟩)) x q
end
end K2

set_option Elab.async false
set_option linter.all false
set_option maxRecDepth 100000
set_option maxHeartbeats 4000000
namespace K2
open PySem PySem.Spec PyProof.Rows L2 Evl Tw
section
variable {K : PySem.W.Frag} {σ : L2.St} {G H : Hp} {ds es : List PyData} {D : Ends} {tu tz : TS}
/-- for .. in zip(a, b), two lists of one length -/
theorem d_zip {ta : TA} {tg : TG} (h : EDA K ta σ G [.list ds, .list es]) (x : Ex G H) (hl : ds.length = es.length)
    (k : ∀ H2 G2, Sep G H H2 G2 → ∃ Pv : Nat → L2.St → Hp → Prop, Pv 0 σ H2 ∧ (∀ i σ' H', Pv i σ' H' → Ex G2 H') ∧
      (∀ (i : Nat) d e v u T σ' H' H3, ds[i]? = some d → es[i]? = some e → Da K G2 v d → Da K G2 u e → Pv i σ' H' → Ex H' H3 → SqT K H3 T [v, u] → tg (.ref T) σ' H3 fun σ2 H4 => tu { D with nx := Pv (i + 1), ct := Pv (i + 1), bk := tz D } σ2 H4) ∧
      ∀ σ' H', Pv ds.length σ' H' → tz D σ' H') : tSeq (tFor (RZ.iZipA K ta) tg tu) tz D σ H := h H x _ fun vs H2 G2 s g => by
  obtain ⟨v0, r, rfl, g0, g⟩ := daa_inv g
  obtain ⟨v1, r, rfl, g1, g⟩ := daa_inv g
  cases daa_inv0 g
  obtain ⟨Pv, p0, pe, ps, pd⟩ := k H2 G2 s
  cases g0 with
  | @lst a xs _ ea gx =>
    cases g1 with
    | @lst b ys _ eb gy =>
      have l1 := daa_len gx
      have l2 := daa_len gy
      refine ⟨a, b, xs, ys, rfl, .inl ⟨sq_of (s.inn _ _ ea), sq_of (s.inn _ _ eb), ?_⟩⟩
      refine for_it (D := { D with nx := tz D }) (walk_zip (K := K) (a := a) (b := b) (xs := xs) (ys := ys) (n := ds.length) (by omega)) Pv p0 (fun i σ' H' _ p => ⟨sq_of (pe i σ' H' p _ _ ea), sq_of (pe i σ' H' p _ _ eb)⟩) (fun i y σ' H' H3 hlt p yy => ?_) pd
      obtain ⟨T, p1, p2, rfl, hT, rfl, e1, e2⟩ := yy
      obtain ⟨d, hd, gd⟩ := daa_getV gx i p1 e1
      obtain ⟨e, he, ge⟩ := daa_getV gy i p2 e2
      exact ps i d e p1 p2 T σ' H' _ hd he gd ge p (Ex.new hT) (st_of upd_same)
end
section
variable {P : Program} {w : World} {K : PySem.W.Frag} {mg : Str → Option Value} {base : Heap} {k : Nat}
theorem gs7 {σ0 : L2.St} {H' G : Hp} {v : V} {s : Sh} {gs : TGs} {Q : L2.St → Hp → Prop} (g : Da K G v (encS s)) (x : Ex G H') (kk : gs [.int s.r, .int s.le, .int s.dr, .int s.st, .int s.tu, .int s.se, .int s.li] σ0 H' Q) : gTup K 7 gs v σ0 H' Q := by
  cases g with
  | @tup p xs _ e g =>
    cases daa_intsV (ns := [s.r, s.le, s.dr, s.st, s.tu, s.se, s.li]) g
    exact ⟨p, _, rfl, ex_t x e, rfl, kk⟩
theorem gs3 {σ0 : L2.St} {H' G : Hp} {v : V} {m : Mv} {gs : TGs} {Q : L2.St → Hp → Prop} (g : Da K G v (encM m)) (x : Ex G H') (kk : gs [.int m.a, .int m.b, .int m.o] σ0 H' Q) : gTup K 3 gs v σ0 H' Q := by
  cases g with
  | @tup p xs _ e g =>
    cases daa_intsV (ns := [m.a, m.b, m.o]) g
    exact ⟨p, _, rfl, ex_t x e, rfl, kk⟩
/-! waits and costs -/
def waitD (s : Sh) (m : Mv) : PyData := .tuple [.int (m.a - s.r), .int (m.o - m.a - s.st - 1)]
def R_waits : List PyData → PyData → Prop := fun ds d => ∃ (ss : List Sh) (p : List Mv), ds = [encSs ss, encP p] ∧ p.length = ss.length ∧ p.length ≤ 1000 ∧ d = .list ((ss.zip p).map fun z => waitD z.1 z.2)
theorem zip_take {ss : List Sh} {p : List Mv} {i : Nat} {s : Sh} {m : Mv} (hs : ss[i]? = some s) (hm : p[i]? = some m) : (ss.zip p)[i]? = some (s, m) := by
  rw [List.getElem?_zip_eq_some]
  exact ⟨hs, hm⟩
theorem ok_waits (T : Tx K mg) : FnOk P w K mg base CX0 (k + 1) T.f_waits T.d_waits ["ships", "plan"] (spO K R_waits) := by
  refine T.F_waits.ok scwaits (spO_len ?_) (fun cdv A outer s H vs Q E hr h => ?_)
  · rintro ds d ⟨_, _, rfl, _⟩
    rfl
  obtain ⟨G, ds, d, x, g, ⟨ss, p, rfl, hl, hz, rfl⟩, q⟩ := h
  obtain ⟨v0, r, rfl, g0, g⟩ := daa_inv g
  obtain ⟨v1, r, rfl, g1, g⟩ := daa_inv g
  cases daa_inv0 g
  refine ⟨_, (pss_cons (ps_set (i := 2) scwaits.nd rfl (.inl rfl) (pe_lst pa_nil))
    (pss_cons (ps_for PassesOwn.never rfl (RZ.pi_zipA (by rfl) T.m_zip (pa_cons (pv 0) (pa_cons (pv 1) pa_nil))) (pg_tup (by rfl) (pgs_cons (pg_name (i := 3) scwaits.nd rfl (.inl rfl)) (pgs_cons (pg_tup (by rfl) (pgs_cons (pg_name (i := 4) scwaits.nd rfl (.inl rfl)) (pgs_cons (pg_name (i := 5) scwaits.nd rfl (.inl rfl)) (pgs_cons (pg_name (i := 6) scwaits.nd rfl (.inl rfl)) pgs_nil)))) pgs_nil)))
      (pss_cons (ps_asg (pv 3) (pg_tup (by rfl) (pgs_cons (pg_name (i := 7) scwaits.nd rfl (.inl rfl)) (pgs_cons (pg_name (i := 5) scwaits.nd rfl (.inl rfl)) (pgs_cons (pg_name (i := 5) scwaits.nd rfl (.inl rfl)) (pgs_cons (pg_name (i := 8) scwaits.nd rfl (.inl rfl)) (pgs_cons (pg_name (i := 5) scwaits.nd rfl (.inl rfl)) (pgs_cons (pg_name (i := 5) scwaits.nd rfl (.inl rfl)) (pgs_cons (pg_name (i := 5) scwaits.nd rfl (.inl rfl)) pgs_nil)))))))))
      (pss_one (ps_expr (pe_bm PySem.F.plainAttrs_list PySem.F.slot_list_append PySem.F.type_list_append mt_append (pv 2) (pa_cons (pe_tup (pa_cons (pe_op op_sub (pv 4) (pv 7)) (pa_cons (pe_op op_sub (pe_op op_sub (pe_op op_sub (pv 6) (pv 4)) (pv 8)) pe_int) pa_nil))) pa_nil))))))
    (pss_one (ps_ret (pv 2))))), ?_⟩
  refine d_new x fun L nL gL xL yL => ?_
  refine d_zip (K := K) (ds := ss.map encS) (es := p.map encM) (eda_cons (ed_var rfl g0) fun G2 x2 => eda_cons (ed_var rfl (da_ex x2 g1)) fun _ _ => eda_nil) xL (by rw [List.length_map, List.length_map, hl]) fun H2 G2 s2 => ?_
  have hL2 : H2 L = some (.lst []) := s2.up _ _ upd_same
  have gL2 : G2 L = none := s2.sep L gL (by rw [upd_same]; exact Option.some_ne_none _)
  have x2 : Ex H H2 := yL.trans s2.up
  refine ⟨fun i σ' H' => ∃ x3 x4 x5 x6 x7 x8 F xs, σ' = [some v0, some v1, some (.ref L), x3, x4, x5, x6, x7, x8] ∧ Ex G2 H' ∧ Tw.Sep Tw.Nil H H' F ∧ F L = none ∧ H' L = some (.lst xs) ∧ xs.length = i ∧ DaAll K F xs (((ss.zip p).take i).map fun z => waitD z.1 z.2), ⟨_, _, _, _, _, _, Tw.Nil, [], rfl, s2.inn, ⟨x2, Ex.refl _, ex_nil, fun _ _ _ => rfl⟩, rfl, hL2, rfl, .nil⟩, (fun i σ' H' pv => by
    obtain ⟨_, _, _, _, _, _, _, _, _, e, _⟩ := pv
    exact e), ?_, ?_⟩
  · rintro i d e v u U σ' H' H3 hd he gd ge ⟨x3, x4, x5, x6, x7, x8, F, xs, rfl, xg, S, gF, hL, lx, gx⟩ e3 hU
    rw [List.getElem?_map] at hd he
    obtain ⟨sh, hs, rfl⟩ := Option.map_eq_some_iff.mp hd
    obtain ⟨m, hm, rfl⟩ := Option.map_eq_some_iff.mp he
    have hi := (List.getElem?_eq_some_iff.mp hm).1
    refine ⟨U, _, rfl, hU, rfl, _, _, rfl, _, _, rfl, gs3 ge (xg.trans e3) ⟨_, _, rfl, _, _, rfl, _, _, rfl, rfl, rfl, ?_⟩⟩
    refine ⟨v, rfl, gs7 gd (xg.trans e3) ⟨_, _, rfl, _, _, rfl, _, _, rfl, _, _, rfl, _, _, rfl, _, _, rfl, _, _, rfl, rfl, ?_⟩⟩
    refine at_state (σ' := [some v0, some v1, some (.ref L), some v, some (.int m.a), some (.int sh.li), some (.int m.o), some (.int sh.r), some (.int sh.st)]) (by kernel_rfl) ?_
    have S3 : Tw.Sep Tw.Nil H H3 F := S.trans (Tw.Sep.stay S.inn e3)
    refine d_app1 (K := K) (G := F) (d := waitD sh m) gF (e3 _ _ hL) gx rfl (ed_tup (eda_cons (ed_sub (ed_var rfl (.int m.a)) (ed_var rfl (.int sh.r))) fun _ _ => eda_cons (ed_sub (ed_sub (ed_sub (ed_var rfl (.int m.o)) (ed_var rfl (.int m.a))) (ed_var rfl (.int sh.st))) ed_int) fun _ _ => eda_nil) (by show 2 ≤ 100000; decide)) S3.inn (by omega) fun v9 H5 G5 s5 o5 a5 g5 e5 => ?_
    refine ⟨_, _, _, _, _, _, G5, xs ++ [v9], rfl, Ex.mut ((xg.trans e3).trans s5.up) gL2, (S3.trans s5).mut nL o5, o5, upd_same, by rw [List.length_append, lx]; rfl, ?_⟩
    rw [take_one (zip_take hs hm), List.map_append]
    exact g5
  · rintro σ' H' ⟨x3, x4, x5, x6, x7, x8, F, xs, rfl, xg, S, gF, hL, lx, gx⟩
    rw [List.length_map, show ss.length = (ss.zip p).length by rw [List.length_zip]; omega, List.take_length] at gx
    obtain ⟨S', aL⟩ := S.seal nL gF hL gx
    refine s_ret (ev_var rfl) fun H7 e7 => ?_
    exact q _ H7 _ (S'.trans (Tw.Sep.stay S'.inn e7)) aL
end
end K2

set_option Elab.async false
set_option linter.all false
set_option maxRecDepth 100000
set_option maxHeartbeats 4000000
namespace K2
open PySem PySem.Spec PyProof.Rows L2 Evl Tw
section
variable {P : Program} {w : World} {K : PySem.W.Frag} {mg : Str → Option Value} {base : Heap} {k : Nat}
def oneCost (z : Sh × Mv) : Int := (z.2.a - z.1.r) * z.1.se + (z.2.o - z.2.a - z.1.st - 1) * z.1.li
def costOf (ss : List Sh) (p : List Mv) : Int := ((ss.zip p).map oneCost).sum
def Fee (ss : List Sh) : Prop := ∀ s ∈ ss, 0 ≤ s.se ∧ s.se ≤ 1000 ∧ 0 ≤ s.li ∧ s.li ≤ 1000
theorem sum_take {α : Type} {l : List α} {f : α → Int} {i : Nat} {x : α} (h : l[i]? = some x) : ((l.take (i + 1)).map f).sum = ((l.take i).map f).sum + f x := by
  rw [take_one h, List.map_append, List.sum_append]
  show _ + (f x + 0) = _
  omega
def R_cost : List PyData → PyData → Prop := fun ds d => ∃ (ss : List Sh) (p : List Mv), ds = [encSs ss, encP p] ∧ p.length = ss.length ∧ p.length ≤ 1000 ∧ Fee ss ∧ d = .int (costOf ss p)
theorem ok_cost_of (T : Tx K mg) : FnOk P w K mg base CX0 (k + 2) T.f_cost_of T.d_cost_of ["ships", "plan"] (spF K R_cost) := by
  refine T.F_cost_of.ok sccost_of (spF_len ?_) (fun cdv A outer s H vs Q E hr h => ?_)
  · rintro ds d ⟨_, _, rfl, _⟩
    rfl
  obtain ⟨G, ds, d, x, g, ⟨ss, p, rfl, hl, hz, fee, rfl⟩, q⟩ := h
  obtain ⟨v0, r, rfl, g0, g⟩ := daa_inv g
  obtain ⟨v1, r, rfl, g1, g⟩ := daa_inv g
  cases daa_inv0 g
  refine ⟨_, (pss_cons (ps_set (i := 2) sccost_of.nd rfl (.inl rfl) pe_int)
    (pss_cons (ps_for PassesOwn.never rfl (RZ.pi_zipA (by rfl) T.m_zip (pa_cons (pv 0) (pa_cons (pe_call (ok_waits T) hr (by rfl) T.g_waits T.F_waits.kp T.b_waits .nil pass0 (pa_cons (pv 0) (pa_cons (pv 1) pa_nil))) pa_nil))) (pg_tup (by rfl) (pgs_cons (pg_name (i := 3) sccost_of.nd rfl (.inl rfl)) (pgs_cons (pg_tup (by rfl) (pgs_cons (pg_name (i := 4) sccost_of.nd rfl (.inl rfl)) (pgs_cons (pg_name (i := 5) sccost_of.nd rfl (.inl rfl)) pgs_nil))) pgs_nil)))
      (pss_cons (ps_asg (pv 3) (pg_tup (by rfl) (pgs_cons (pg_name (i := 6) sccost_of.nd rfl (.inl rfl)) (pgs_cons (pg_name (i := 6) sccost_of.nd rfl (.inl rfl)) (pgs_cons (pg_name (i := 6) sccost_of.nd rfl (.inl rfl)) (pgs_cons (pg_name (i := 6) sccost_of.nd rfl (.inl rfl)) (pgs_cons (pg_name (i := 6) sccost_of.nd rfl (.inl rfl)) (pgs_cons (pg_name (i := 7) sccost_of.nd rfl (.inl rfl)) (pgs_cons (pg_name (i := 8) sccost_of.nd rfl (.inl rfl)) pgs_nil)))))))))
      (pss_one (ps_aug (i := 2) sccost_of.nd rfl (.inl rfl) (pe_op op_add (pe_op op_mul (pv 4) (pv 7)) (pe_op op_mul (pv 5) (pv 8))) ip_add))))
    (pss_one (ps_ret (pv 2))))), ?_⟩
  refine q_asg (v := .int 0) ev_c fun H0 e0 => ?_
  refine d_zip (K := K) (ds := ss.map encS) (es := (ss.zip p).map fun z => waitD z.1 z.2) (eda_cons (ed_var rfl g0) fun G2 x2 => eda_cons (en_call (eda_cons (ed_var rfl (da_ex x2 g0)) fun G3 x3 => eda_cons (ed_var rfl (da_ex (x2.trans x3) g1)) fun _ _ => eda_nil) ⟨ss, p, rfl, hl, hz, rfl⟩).ed fun _ _ => eda_nil) (x.trans e0) (by rw [List.length_map, List.length_map, List.length_zip]; omega) fun H2 G2 s2 => ?_
  refine ⟨fun i σ' H' => ∃ x3 x4 x5 x6 x7 x8, σ' = [some v0, some v1, some (.int (((ss.zip p).take i).map oneCost).sum), x3, x4, x5, x6, x7, x8] ∧ Ex G2 H' ∧ Ex H H', ⟨_, _, _, _, _, _, rfl, s2.inn, e0.trans s2.up⟩, (fun i σ' H' pv => by
    obtain ⟨_, _, _, _, _, _, _, e, _⟩ := pv
    exact e), ?_, ?_⟩
  · rintro i d e v u U σ' H' H3 hd he gd ge ⟨x3, x4, x5, x6, x7, x8, rfl, xg, xh⟩ e3 hU
    rw [List.getElem?_map] at hd he
    obtain ⟨sh, hs, rfl⟩ := Option.map_eq_some_iff.mp hd
    obtain ⟨⟨sh2, m⟩, hm, rfl⟩ := Option.map_eq_some_iff.mp he
    obtain rfl : sh2 = sh := by
      have z := (List.getElem?_zip_eq_some.mp hm).1
      rw [hs] at z
      exact (Option.some.inj z).symm
    cases ge with
    | @tup c ys _ ec gc =>
      cases daa_intsV (ns := [m.a - sh2.r, m.o - m.a - sh2.st - 1]) gc
      have f := fee sh2 (List.mem_of_getElem? hs)
      refine ⟨U, _, rfl, hU, rfl, _, _, rfl, _, _, rfl, ⟨c, _, rfl, ex_t (xg.trans e3) ec, rfl, _, _, rfl, _, _, rfl, rfl, rfl, ?_⟩⟩
      refine ⟨v, rfl, gs7 gd (xg.trans e3) ⟨_, _, rfl, _, _, rfl, _, _, rfl, _, _, rfl, _, _, rfl, _, _, rfl, _, _, rfl, rfl, ?_⟩⟩
      refine at_state (σ' := [some v0, some v1, some (.int (((ss.zip p).take i).map oneCost).sum), some v, some (.int (m.a - sh2.r)), some (.int (m.o - m.a - sh2.st - 1)), some (.int sh2.tu), some (.int sh2.se), some (.int sh2.li)]) (by kernel_rfl) ?_
      refine s_aug (a := (((ss.zip p).take i).map oneCost).sum) rfl (ev_int (K := K) (ed_add (ed_mul (ed_var rfl (.int (m.a - sh2.r))) (ed_var rfl (.int sh2.se)) (.inr ⟨by omega, by omega⟩)) (ed_mul (ed_var rfl (.int (m.o - m.a - sh2.st - 1))) (ed_var rfl (.int sh2.li)) (.inr ⟨by omega, by omega⟩)))) fun H6 e6 => ?_
      exact ⟨_, _, _, _, _, _, by rw [sum_take hm]; rfl, (xg.trans e3).trans e6, (xh.trans e3).trans e6⟩
  · rintro σ' H' ⟨x3, x4, x5, x6, x7, x8, rfl, xg, xh⟩
    rw [List.length_map, show ss.length = (ss.zip p).length by rw [List.length_zip]; omega, List.take_length]
    refine s_ret (ev_var rfl) fun H7 e7 => ?_
    exact q _ H7 G (Sep.stay x (xh.trans e7)) (.int _)
def inHour (n : Int) (z : Sh × Mv) : Int := (bif decide (z.1.r ≤ n) && decide (n < z.2.a) then z.1.se else 0) + (bif decide (z.2.a + z.1.st < n) && decide (n < z.2.o) then z.1.li else 0)
def costIn (ss : List Sh) (p : List Mv) (n : Int) : Int := ((ss.zip p).map (inHour n)).sum
def R_inh : List PyData → PyData → Prop := fun ds d => ∃ (ss : List Sh) (p : List Mv) (n : Int), ds = [encSs ss, encP p, .int n] ∧ p.length = ss.length ∧ d = .int (costIn ss p n)
theorem ok__cost_in_hour (T : Tx K mg) : FnOk P w K mg base CX0 (k + 1) T.f__cost_in_hour T.d__cost_in_hour ["ships", "plan", "hour"] (spF K R_inh) := by
  refine T.F__cost_in_hour.ok sc_cost_in_hour (spF_len ?_) (fun cdv A outer s H vs Q E hr h => ?_)
  · rintro ds d ⟨_, _, _, rfl, _⟩
    rfl
  obtain ⟨G, ds, d, x, g, ⟨ss, p, n, rfl, hl, rfl⟩, q⟩ := h
  obtain ⟨v0, r, rfl, g0, g⟩ := daa_inv g
  obtain ⟨v1, r, rfl, g1, g⟩ := daa_inv g
  obtain ⟨v2, r, rfl, g2, g⟩ := daa_inv g
  cases daa_inv0 g
  cases g2
  refine ⟨_, (pss_cons (ps_set (i := 3) sc_cost_in_hour.nd rfl (.inl rfl) pe_int)
    (pss_cons (ps_for PassesOwn.never rfl (RZ.pi_zipA (by rfl) T.m_zip (pa_cons (pv 0) (pa_cons (pv 1) pa_nil))) (pg_tup (by rfl) (pgs_cons (pg_name (i := 4) sc_cost_in_hour.nd rfl (.inl rfl)) (pgs_cons (pg_tup (by rfl) (pgs_cons (pg_name (i := 5) sc_cost_in_hour.nd rfl (.inl rfl)) (pgs_cons (pg_name (i := 6) sc_cost_in_hour.nd rfl (.inl rfl)) (pgs_cons (pg_name (i := 7) sc_cost_in_hour.nd rfl (.inl rfl)) pgs_nil)))) pgs_nil)))
      (pss_cons (ps_asg (pv 4) (pg_tup (by rfl) (pgs_cons (pg_name (i := 8) sc_cost_in_hour.nd rfl (.inl rfl)) (pgs_cons (pg_name (i := 6) sc_cost_in_hour.nd rfl (.inl rfl)) (pgs_cons (pg_name (i := 6) sc_cost_in_hour.nd rfl (.inl rfl)) (pgs_cons (pg_name (i := 9) sc_cost_in_hour.nd rfl (.inl rfl)) (pgs_cons (pg_name (i := 6) sc_cost_in_hour.nd rfl (.inl rfl)) (pgs_cons (pg_name (i := 10) sc_cost_in_hour.nd rfl (.inl rfl)) (pgs_cons (pg_name (i := 11) sc_cost_in_hour.nd rfl (.inl rfl)) pgs_nil)))))))))
      (pss_cons (ps_if (pt_chain op_le op_lt (pv 8) (pv 2) (pv 5)) (pss_one (ps_aug (i := 3) sc_cost_in_hour.nd rfl (.inl rfl) (pv 10) ip_add)) pss_nil)
      (pss_one (ps_if (pt_chain op_lt op_lt (pe_op op_add (pv 5) (pv 9)) (pv 2) (pv 7)) (pss_one (ps_aug (i := 3) sc_cost_in_hour.nd rfl (.inl rfl) (pv 11) ip_add)) pss_nil)))))
    (pss_one (ps_ret (pv 3))))), ?_⟩
  refine q_asg (v := .int 0) ev_c fun H0 e0 => ?_
  refine d_zip (K := K) (ds := ss.map encS) (es := p.map encM) (eda_cons (ed_var rfl g0) fun G2 x2 => eda_cons (ed_var rfl (da_ex x2 g1)) fun _ _ => eda_nil) (x.trans e0) (by rw [List.length_map, List.length_map, hl]) fun H2 G2 s2 => ?_
  refine ⟨fun i σ' H' => ∃ x4 x5 x6 x7 x8 x9 x10 x11, σ' = [some v0, some v1, some (.int n), some (.int (((ss.zip p).take i).map (inHour n)).sum), x4, x5, x6, x7, x8, x9, x10, x11] ∧ Ex G2 H' ∧ Ex H H', ⟨_, _, _, _, _, _, _, _, rfl, s2.inn, e0.trans s2.up⟩, (fun i σ' H' pv => by
    obtain ⟨_, _, _, _, _, _, _, _, _, e, _⟩ := pv
    exact e), ?_, ?_⟩
  · rintro i d e v u U σ' H' H3 hd he gd ge ⟨x4, x5, x6, x7, x8, x9, x10, x11, rfl, xg, xh⟩ e3 hU
    rw [List.getElem?_map] at hd he
    obtain ⟨sh, hs, rfl⟩ := Option.map_eq_some_iff.mp hd
    obtain ⟨m, hm, rfl⟩ := Option.map_eq_some_iff.mp he
    have hzz := zip_take hs hm
    refine ⟨U, _, rfl, hU, rfl, _, _, rfl, _, _, rfl, gs3 ge (xg.trans e3) ⟨_, _, rfl, _, _, rfl, _, _, rfl, rfl, rfl, ?_⟩⟩
    refine ⟨v, rfl, gs7 gd (xg.trans e3) ⟨_, _, rfl, _, _, rfl, _, _, rfl, _, _, rfl, _, _, rfl, _, _, rfl, _, _, rfl, rfl, ?_⟩⟩
    generalize hS : (((ss.zip p).take i).map (inHour n)).sum = S0
    refine at_state (σ' := [some v0, some v1, some (.int n), some (.int S0), some v, some (.int m.a), some (.int sh.tu), some (.int m.o), some (.int sh.r), some (.int sh.st), some (.int sh.se), some (.int sh.li)]) (by kernel_rfl) ?_
    have fin : ∀ (S1 : Int) (H5 : Hp) (D : Ends), Ex H3 H5 → S1 = S0 + (bif decide (sh.r ≤ n) && decide (n < m.a) then sh.se else 0) →
        (∀ σ2 H2', (∃ x4 x5 x6 x7 x8 x9 x10 x11, σ2 = [some v0, some v1, some (.int n), some (.int (((ss.zip p).take (i + 1)).map (inHour n)).sum), x4, x5, x6, x7, x8, x9, x10, x11] ∧ Ex G2 H2' ∧ Ex H H2') → D.nx σ2 H2') →
        tIfS (tTest (tChain (rI0 fun i j => .bl (decide (i < j))) (rI0 fun i j => .bl (decide (i < j))) (tOp (rI0 fun i j => .int (i + j)) (tVar 5) (tVar 9)) (tVar 2) (tVar 7))) (tAug 3 (tVar 11) (ipI fun a b => a + b)) tNext D [some v0, some v1, some (.int n), some (.int S1), some v, some (.int m.a), some (.int sh.tu), some (.int m.o), some (.int sh.r), some (.int sh.st), some (.int sh.se), some (.int sh.li)] H5 := fun S1 H5 D x5 hS1 hD => by
      refine d_if1 (et_chain0 (K := K) (ed_add (ed_var rfl (.int m.a)) (ed_var rfl (.int sh.st))) (ed_var rfl (.int n)) (ed_var rfl (.int m.o))) (Ex.refl H5) (fun e1 H6 x6 => ?_) fun e1 H6 x6 => ?_
      · have hsum : (((ss.zip p).take (i + 1)).map (inHour n)).sum = S1 + sh.li := by
          rw [sum_take hzz, hS]
          show S0 + ((bif decide (sh.r ≤ n) && decide (n < m.a) then sh.se else 0) + (bif decide (m.a + sh.st < n) && decide (n < m.o) then sh.li else 0)) = S1 + sh.li
          rw [e1, hS1]
          exact (Int.add_assoc _ _ _).symm
        refine s_aug (a := S1) rfl (ev_var (v := .int sh.li) rfl) fun H7 e7 => ?_
        exact hD _ _ ⟨_, _, _, _, _, _, _, _, by rw [hsum]; rfl, (((xg.trans e3).trans x5).trans x6).trans e7, (((xh.trans e3).trans x5).trans x6).trans e7⟩
      · have hsum : (((ss.zip p).take (i + 1)).map (inHour n)).sum = S1 := by
          rw [sum_take hzz, hS]
          show S0 + ((bif decide (sh.r ≤ n) && decide (n < m.a) then sh.se else 0) + (bif decide (m.a + sh.st < n) && decide (n < m.o) then sh.li else 0)) = S1
          rw [e1, hS1]
          show S0 + (_ + 0) = _
          rw [Int.add_zero]
        exact hD _ _ ⟨_, _, _, _, _, _, _, _, by rw [hsum], ((xg.trans e3).trans x5).trans x6, ((xh.trans e3).trans x5).trans x6⟩
    refine d_if (et_chain0 (K := K) (ed_var rfl (.int sh.r)) (ed_var rfl (.int n)) (ed_var rfl (.int m.a))) (Ex.refl H3) (fun e1 H5 x5 => ?_) fun e1 H5 x5 => ?_
    · refine s_aug (a := S0) rfl (ev_var (v := .int sh.se) rfl) fun H6 e6 => ?_
      exact fin (S0 + sh.se) H6 _ (x5.trans e6) (by rw [e1]; rfl) fun _ _ p => p
    · exact fin S0 H5 _ x5 (by rw [e1]; show _ = S0 + 0; rw [Int.add_zero]) fun _ _ p => p
  · rintro σ' H' ⟨x4, x5, x6, x7, x8, x9, x10, x11, rfl, xg, xh⟩
    rw [List.length_map, show ss.length = (ss.zip p).length by rw [List.length_zip]; omega, List.take_length]
    refine s_ret (ev_var rfl) fun H7 e7 => ?_
    exact q _ H7 G (Sep.stay x (xh.trans e7)) (.int _)
end
end K2

set_option Elab.async false
set_option linter.all false
set_option maxRecDepth 100000
set_option maxHeartbeats 4000000
namespace K2
open PySem PySem.Spec PyProof.Rows L2 Evl Tw
section
variable {K : PySem.W.Frag} {σ : L2.St} {G H : Hp} {ta tb : TE}
theorem ed_orV {a b : Bool} (ha : ED K ta σ G (.bool a)) (hb : a = false → ED K tb σ G (.bool b)) : ED K (tOrV ta tb) σ G (.bool (a || b)) := ed_ev (ev_orV (ev_bool ha) fun h => ev_bool (hb h)) (.bl _)
def shL (s : Sh) : List Int := [s.r, s.le, s.dr, s.st, s.tu, s.se, s.li]
def mvL (m : Mv) : List Int := [m.a, m.b, m.o]
/-- ships[k][n], plan[k][n] -/
theorem ed_sh {ss : List Sh} {s : Sh} {i : Nat} {x n : Int} (j : Nat) (ha : ED K ta σ G (encSs ss)) (hb : ∀ G2, Ex G G2 → ED K tb σ G2 (.int (i : Nat))) (hs : ss[i]? = some s) (hn : n = (j : Int)) (hd : ((shL s).map PyData.int)[j]? = some (.int x)) : ED K (tOp (rIxT K) (tOp (rIxL K) ta tb) (tC (.int n))) σ G (.int x) :=
  ed_ixT (n := j) (ds := (shL s).map .int) (ed_ix (n := i) ha hb rfl (by rw [List.getElem?_map, hs]; rfl)) (fun _ _ => ed_int) hn hd
theorem ed_mv {p : List Mv} {m : Mv} {i : Nat} {x n : Int} (j : Nat) (ha : ED K ta σ G (encP p)) (hb : ∀ G2, Ex G G2 → ED K tb σ G2 (.int (i : Nat))) (hm : p[i]? = some m) (hn : n = (j : Int)) (hd : ((mvL m).map PyData.int)[j]? = some (.int x)) : ED K (tOp (rIxT K) (tOp (rIxL K) ta tb) (tC (.int n))) σ G (.int x) :=
  ed_ixT (n := j) (ds := (mvL m).map .int) (ed_ix (n := i) ha hb rfl (by rw [List.getElem?_map, hm]; rfl)) (fun _ _ => ed_int) hn hd
end
section
variable {P : Program} {w : World} {K : PySem.W.Frag} {mg : Str → Option Value} {base : Heap} {k : Nat}
def lastOut (p : List Mv) : Int := mxI (p.map Mv.o)
def R_hc : List PyData → PyData → Prop := fun ds d => ∃ (ss : List Sh) (p : List Mv), ds = [encSs ss, encP p] ∧ p.length = ss.length ∧ p ≠ [] ∧ p.length ≤ 1000 ∧ (∀ m ∈ p, 0 ≤ m.o ∧ m.o ≤ 1000) ∧ d = .list ((List.range (lastOut p + 1).toNat).map fun i => .int (costIn ss p (i : Nat)))
theorem last_in {p : List Mv} (hp : p ≠ []) (h : ∀ m ∈ p, 0 ≤ m.o ∧ m.o ≤ 1000) : 0 ≤ lastOut p ∧ lastOut p ≤ 1000 := by
  obtain ⟨m, hm, e⟩ := List.mem_map.mp (mx_mem (ns := p.map Mv.o) (by simp [hp]))
  have := h m hm
  unfold lastOut
  rw [← e]
  exact this
theorem ok_hour_costs (T : Tx K mg) : FnOk P w K mg base CX0 (k + 2) T.f_hour_costs T.d_hour_costs ["ships", "plan"] (spO K R_hc) := by
  refine T.F_hour_costs.ok schour_costs (spO_len ?_) (fun cdv A outer s H vs Q E hr h => ?_)
  · rintro ds d ⟨_, _, rfl, _⟩
    rfl
  obtain ⟨G, ds, d, x, g, ⟨ss, p, rfl, hl, hp, hz, hb, rfl⟩, q⟩ := h
  obtain ⟨v0, r, rfl, g0, g⟩ := daa_inv g
  obtain ⟨v1, r, rfl, g1, g⟩ := daa_inv g
  cases daa_inv0 g
  refine ⟨_, (pss_cons (ps_set (i := 2) schour_costs.nd rfl (.inl rfl) (pe_callB (maxK K (by rfl)) (by rfl) T.m_max (by decide +kernel) (pa_cons (pe_lc (own := [("_", 3), ("_", 3), ("left", 4)]) (g := gTup K 3 (gCons (gName 3) (gCons (gName 3) (gCons (gName 4) gNil)))) (tt := tYes) rfl schour_costs.nd (pi_list (pv 1)) (blkOk_by (N := N_hour_costs) (sc := defScope s_hour_costs) (by decide +kernel)) (fun _ _ _ _ _ => (pg_tup (by rfl) (pgs_cons (pg_name (i := 3) schour_costs.nd rfl (.inl rfl)) (pgs_cons (pg_name (i := 3) schour_costs.nd rfl (.inl rfl)) (pgs_cons (pg_name (i := 4) schour_costs.nd rfl (.inl rfl)) pgs_nil))))) (fun _ _ _ _ _ => pts_nil) (fun _ _ _ _ _ => (pv 4))) pa_nil)))
    (pss_one (ps_ret (pe_lc (own := [("hour", 5)]) (g := gName 5) (tt := tYes) rfl schour_costs.nd (pi_range1 (by rfl) T.m_range (pa_cons (pe_op op_add (pv 2) pe_int) pa_nil)) (blkOk_by (N := N_hour_costs) (sc := defScope s_hour_costs) (by decide +kernel)) (fun _ _ _ _ _ => (pg_name (i := 5) schour_costs.nd rfl (.inl rfl))) (fun _ _ _ _ _ => pts_nil) (fun _ _ _ _ _ => (pe_call (ok__cost_in_hour T) hr (by rfl) T.g__cost_in_hour T.F__cost_in_hour.kp T.b__cost_in_hour .nil pass0 (pa_cons (pv 0) (pa_cons (pv 1) (pa_cons (pv 5) pa_nil))))))))), ?_⟩
  have hlast := last_in hp hb
  refine d_asg (K := K) (d := .int (lastOut p)) (ed_max (K := K) (ns := p.map Mv.o) (ed_is (ed_lcG (ds := p.map encM) (fun _ => true) (fun d => .int (mvOf d).o) (ed_var rfl g1) (by rw [List.length_map]; omega) ?c1) ?c2) (by simp [hp])) x fun v2 H1 G1 s1 a1 => ?_
  case c1 =>
    intro d v G2 H' hd xg gd xH Q2 kk
    obtain ⟨m, _, rfl⟩ := List.mem_map.mp hd
    exact tg_tup3 gd xH fun w1 w2 w3 h1 h2 h3 => ⟨_, _, rfl, _, _, rfl, _, _, rfl, rfl, kk _ rfl et_yes fun _ => ed_var rfl h3⟩
  case c2 =>
    rw [List.filter_eq_self.mpr fun _ _ => rfl, List.map_map, List.map_map]
    rfl
  cases a1
  have el := el_lcR1 (σ := [some v0, some v1, some (.int (lastOut p)), none, none, none]) (H := H1) (vs := [5]) (j := 5) (n := lastOut p + 1) (ta := tCons (tOp (rI0 fun i j => .int (i + j)) (tVar 2) (tC (.int 1))) tNil) (t := tYes) (te := tCall (spF K R_inh) [] E0 (tCons (tVar 0) (tCons (tVar 1) (tCons (tVar 5) tNil)))) (fun _ => true) (fun i => .int (costIn ss p (i : Nat))) (ea_cons (ev_int (K := K) (ed_add (ed_var rfl (.int (lastOut p))) ed_int)) ea_nil) (by omega) (fun _ => rfl) (fun _ _ _ _ => et_yes) (fun i G2 x2 hi _ => ev_int (K := K) (ed_call (eda_cons (ed_var rfl (da_ex ((s1.an.trans s1.inn).trans x2) g0)) fun G3 x3 => eda_cons (ed_var rfl (da_ex (((s1.an.trans s1.inn).trans x2).trans x3) g1)) fun _ _ => eda_cons (ed_var rfl (.int (i : Int))) fun _ _ => eda_nil) ⟨ss, p, i, rfl, hl, rfl⟩))
  refine s_retL el fun l H5 nl e5 hL => ?_
  have nH : H l = none := fresh_back s1.up nl
  refine q (.ref l) H5 (upd Tw.Nil l (.lst (((List.range (lastOut p + 1).toNat).map fun i => costIn ss p (i : Nat)).map V.int))) (Sep.one ex_nil nH (s1.up.trans e5) ?_) ?_
  · rw [hL]
    unfold given
    rw [List.filter_eq_self.mpr fun _ _ => rfl, List.map_map]
    rfl
  · have z : Da K (upd Tw.Nil l (.lst (((List.range (lastOut p + 1).toNat).map fun i => costIn ss p (i : Nat)).map V.int))) (.ref l) (.list (((List.range (lastOut p + 1).toNat).map fun i => costIn ss p (i : Nat)).map .int)) := .lst upd_same (daa_ints _)
    have e : (((List.range (lastOut p + 1).toNat).map fun i => costIn ss p (i : Nat)).map PyData.int) = (List.range (lastOut p + 1).toNat).map fun i => PyData.int (costIn ss p (i : Nat)) := by
      rw [List.map_map]
      rfl
    rw [e] at z
    exact z
theorem rv_neI {x y : Int} {H : Hp} : RV rNe (.int x) (.int y) H (.bl (decide (x ≠ y))) := fun H1 e Q q => rv_ne (x := .int x) (y := .int y) (H := H) rfl H1 e Q fun H2 e2 => by
  have z : (!decide (V.int x = V.int y)) = decide (x ≠ y) := by
    by_cases h : x = y
    · rw [h]
      simp
    · rw [decide_eq_false fun z => h (V.int.inj z), decide_eq_true h]
      rfl
  rw [z]
  exact q H2 e2
def apart (x y : Mv) : Bool := decide (x.b ≠ y.b) || (decide (x.o < y.a) || decide (y.o < x.a))
def R_apart : List PyData → PyData → Prop := fun ds d => ∃ x y : Mv, ds = [encM x, encM y] ∧ d = .bool (apart x y)
theorem ok__law_apart (T : Tx K mg) : FnOk P w K mg base CX0 (k + 1) T.f__law_apart T.d__law_apart ["one", "other"] (spF K R_apart) := by
  refine T.F__law_apart.ok sc_law_apart (spF_len ?_) (fun cdv A outer s H vs Q E hr h => ?_)
  · rintro ds d ⟨_, _, rfl, _⟩
    rfl
  obtain ⟨G, ds, d, x, g, ⟨mx, my, rfl, rfl⟩, q⟩ := h
  obtain ⟨v0, r, rfl, g0, g⟩ := daa_inv g
  obtain ⟨v1, r, rfl, g1, g⟩ := daa_inv g
  cases daa_inv0 g
  refine ⟨_, (pss_cons (ps_if (pt_cmpR op_ne (pe_ix (ixt K) (pv 0) pe_int (fun _ _ => rfl)) (pe_ix (ixt K) (pv 1) pe_int (fun _ _ => rfl)) (nomark _)) (pss_one (ps_ret pe_bl)) pss_nil)
    (pss_one (ps_ret (pe_or (pe_cmpR op_lt (pe_ix (ixt K) (pv 0) pe_int (fun _ _ => rfl)) (pe_ix (ixt K) (pv 1) pe_int (fun _ _ => rfl)) (nomark _)) (pe_one (pe_cmpR op_lt (pe_ix (ixt K) (pv 1) pe_int (fun _ _ => rfl)) (pe_ix (ixt K) (pv 0) pe_int (fun _ _ => rfl)) (nomark _))))))), ?_⟩
  refine d_if (et_test (ev_op (ev_int (K := K) (i := mx.b) (ed_ixT (n := 1) (ed_var rfl g0) (fun _ _ => ed_int) rfl rfl)) (ev_int (K := K) (i := my.b) (ed_ixT (n := 1) (ed_var rfl g1) (fun _ _ => ed_int) rfl rfl)) rv_neI)) x (fun e1 H1 x1 => ?_) fun e1 H1 x1 => ?_
  · refine d_ret (K := K) (d := .bool true) ed_bl (x.trans x1) fun v H2 G2 s2 a2 => q v H2 G2 (s2.back x1) ?_
    unfold apart
    rw [e1]
    exact a2
  · refine d_ret (K := K) (ed_orV (ed_cmp0 (i := mx.o) (j := my.a) (ed_ixT (n := 2) (ed_var rfl g0) (fun _ _ => ed_int) rfl rfl) (ed_ixT (n := 0) (ed_var rfl g1) (fun _ _ => ed_int) rfl rfl)) fun _ => ed_cmp0 (i := my.o) (j := mx.a) (ed_ixT (n := 2) (ed_var rfl g1) (fun _ _ => ed_int) rfl rfl) (ed_ixT (n := 0) (ed_var rfl g0) (fun _ _ => ed_int) rfl rfl)) (x.trans x1) fun v H2 G2 s2 a2 => ?_
    refine q v H2 G2 (s2.back x1) ?_
    unfold apart
    rw [e1]
    exact a2
end
end K2

set_option Elab.async false
set_option linter.all false
set_option maxRecDepth 100000
set_option maxHeartbeats 4000000
namespace K2
open PySem PySem.Spec PyProof.Rows L2 Evl Tw
section
variable {P : Program} {w : World} {K : PySem.W.Frag} {mg : Str → Option Value} {base : Heap} {k : Nat}
theorem ok__law_cost (T : Tx K mg) : FnOk P w K mg base CX0 (k + 1) T.f__law_cost T.d__law_cost ["ships", "plan"] (spF K R_cost) := by
  refine T.F__law_cost.ok sc_law_cost (spF_len ?_) (fun cdv A outer s H vs Q E hr h => ?_)
  · rintro ds d ⟨_, _, rfl, _⟩
    rfl
  obtain ⟨G, ds, d, x, g, ⟨ss, p, rfl, hl, hz, fee, rfl⟩, q⟩ := h
  obtain ⟨v0, r, rfl, g0, g⟩ := daa_inv g
  obtain ⟨v1, r, rfl, g1, g⟩ := daa_inv g
  cases daa_inv0 g
  refine ⟨_, (pss_cons (ps_set (i := 2) sc_law_cost.nd rfl (.inl rfl) pe_int)
    (pss_cons (ps_for PassesOwn.never rfl (pi_range1 (by rfl) T.m_range (pa_cons (pe_callB (lenK K) (by rfl) T.m_len (by decide +kernel) (pa_cons (pv 1) pa_nil)) pa_nil)) (pg_name (i := 3) sc_law_cost.nd rfl (.inl rfl))
      (pss_cons (ps_set (i := 2) sc_law_cost.nd rfl (.inl rfl) (pe_op op_add (pv 2) (pe_op op_mul (pe_ix (ixt K) (pe_ix (ixl K) (pv 0) (pv 3) (fun _ _ => rfl)) pe_int (fun _ _ => rfl)) (pe_op op_sub (pe_ix (ixt K) (pe_ix (ixl K) (pv 1) (pv 3) (fun _ _ => rfl)) pe_int (fun _ _ => rfl)) (pe_ix (ixt K) (pe_ix (ixl K) (pv 0) (pv 3) (fun _ _ => rfl)) pe_int (fun _ _ => rfl))))))
      (pss_one (ps_set (i := 2) sc_law_cost.nd rfl (.inl rfl) (pe_op op_add (pv 2) (pe_op op_mul (pe_ix (ixt K) (pe_ix (ixl K) (pv 0) (pv 3) (fun _ _ => rfl)) pe_int (fun _ _ => rfl)) (pe_op op_sub (pe_op op_sub (pe_op op_sub (pe_ix (ixt K) (pe_ix (ixl K) (pv 1) (pv 3) (fun _ _ => rfl)) pe_int (fun _ _ => rfl)) (pe_ix (ixt K) (pe_ix (ixl K) (pv 1) (pv 3) (fun _ _ => rfl)) pe_int (fun _ _ => rfl))) pe_int) (pe_ix (ixt K) (pe_ix (ixl K) (pv 0) (pv 3) (fun _ _ => rfl)) pe_int (fun _ _ => rfl)))))))))
    (pss_one (ps_ret (pv 2))))), ?_⟩
  have lp : ((p.map encM).length : Int) = p.length := by rw [List.length_map]
  refine q_asg (v := .int 0) ev_c fun H0 e0 => ?_
  refine d_range (K := K) (n := ((p.map encM).length : Int)) (G := G) (ed_len (ed_var rfl g1)) (x.trans e0) (by omega) (fun i σ' H' => ∃ x3, σ' = [some v0, some v1, some (.int (((ss.zip p).take i).map oneCost).sum), x3] ∧ Ex G H' ∧ Ex H H') ?_ ?_ ?_
  · intro H1 e1
    exact ⟨_, rfl, (x.trans e0).trans e1, e0.trans e1⟩
  · rintro i σ' H' hi ⟨x3, rfl, xg, xh⟩
    have hip : i < p.length := by omega
    have his : i < ss.length := by omega
    have hm : p[i]? = some p[i] := List.getElem?_eq_getElem hip
    have hs : ss[i]? = some ss[i] := List.getElem?_eq_getElem his
    have hzz := zip_take hs hm
    have f := fee ss[i] (List.getElem_mem his)
    generalize p[i] = m at *
    generalize ss[i] = sh at *
    generalize hS : (((ss.zip p).take i).map oneCost).sum = S0
    refine d_asg (K := K) (ed_add (ed_var rfl (.int S0)) (ed_mul (i := sh.se) (j := m.a - sh.r) (ed_sh 5 (ed_var rfl g0) (fun _ _ => ed_var rfl (.int (i : Int))) hs rfl rfl) (ed_sub (ed_mv 0 (ed_var rfl g1) (fun _ _ => ed_var rfl (.int (i : Int))) hm rfl rfl) (ed_sh 0 (ed_var rfl g0) (fun _ _ => ed_var rfl (.int (i : Int))) hs rfl rfl)) (.inl ⟨by omega, by omega⟩))) xg fun v2 H2 G2 s2 a2 => ?_
    cases a2
    refine d_asg1 (K := K) (ed_add (ed_var rfl (.int (S0 + sh.se * (m.a - sh.r)))) (ed_mul (i := sh.li) (j := m.o - m.a - 1 - sh.st) (ed_sh 6 (ed_var rfl (da_ex s2.an g0)) (fun _ _ => ed_var rfl (.int (i : Int))) hs rfl rfl) (ed_sub (ed_sub (ed_sub (ed_mv 2 (ed_var rfl (da_ex s2.an g1)) (fun _ _ => ed_var rfl (.int (i : Int))) hm rfl rfl) (ed_mv 0 (ed_var rfl (da_ex s2.an g1)) (fun _ _ => ed_var rfl (.int (i : Int))) hm rfl rfl)) ed_int) (ed_sh 3 (ed_var rfl (da_ex s2.an g0)) (fun _ _ => ed_var rfl (.int (i : Int))) hs rfl rfl)) (.inl ⟨by omega, by omega⟩))) s2.inn fun v3 H3 G3 s3 a3 => ?_
    cases a3
    have hsum : (((ss.zip p).take (i + 1)).map oneCost).sum = S0 + sh.se * (m.a - sh.r) + sh.li * (m.o - m.a - 1 - sh.st) := by
      rw [sum_take hzz, hS]
      show S0 + ((m.a - sh.r) * sh.se + (m.o - m.a - sh.st - 1) * sh.li) = _
      rw [Int.mul_comm (m.a - sh.r), Int.mul_comm (m.o - m.a - sh.st - 1), show m.o - m.a - sh.st - 1 = m.o - m.a - 1 - sh.st by omega, Int.add_assoc]
    exact ⟨_, by rw [hsum]; rfl, ((s2.an.trans s3.an)).trans s3.inn, (xh.trans s2.up).trans s3.up⟩
  · rintro σ' H' ⟨x3, rfl, xg, xh⟩
    rw [show ((p.map encM).length : Int).toNat = (ss.zip p).length by rw [List.length_zip]; omega, List.take_length]
    refine s_ret (ev_var rfl) fun H7 e7 => ?_
    exact q _ H7 G (Sep.stay x (xh.trans e7)) (.int _)
def R_lh : List PyData → PyData → Prop := fun ds d => ∃ (ss : List Sh) (p : List Mv), ds = [encSs ss, encP p] ∧ p.length = ss.length ∧ p ≠ [] ∧ p.length ≤ 1000 ∧ (∀ m ∈ p, 0 ≤ m.o ∧ m.o ≤ 1000) ∧ d = .list ((List.range (lastOut p + 1).toNat).map fun i => .int (costIn ss p (i : Nat)))
theorem ok__law_hours (T : Tx K mg) : FnOk P w K mg base CX0 (k + 1) T.f__law_hours T.d__law_hours ["ships", "plan"] (spF K R_lh) := by
  refine T.F__law_hours.ok sc_law_hours (spF_len ?_) (fun cdv A outer s H vs Q E hr h => ?_)
  · rintro ds d ⟨_, _, rfl, _⟩
    rfl
  obtain ⟨G, ds, d, x, g, ⟨ss, p, rfl, hl, hp, hz, hb, rfl⟩, q⟩ := h
  obtain ⟨v0, r, rfl, g0, g⟩ := daa_inv g
  obtain ⟨v1, r, rfl, g1, g⟩ := daa_inv g
  cases daa_inv0 g
  refine ⟨_, (pss_cons (ps_set (i := 2) sc_law_hours.nd rfl (.inl rfl) (pe_lst pa_nil))
    (pss_cons (ps_for PassesOwn.never rfl (pi_range1 (by rfl) T.m_range (pa_cons (pe_op op_add pe_int (pe_callB (maxK K (by rfl)) (by rfl) T.m_max (by decide +kernel) (pa_cons (pe_lc (own := [("move", 4)]) (g := gName 4) (tt := tYes) rfl sc_law_hours.nd (pi_list (pv 1)) (blkOk_by (N := N__law_hours) (sc := defScope s__law_hours) (by decide +kernel)) (fun _ _ _ _ _ => (pg_name (i := 4) sc_law_hours.nd rfl (.inl rfl))) (fun _ _ _ _ _ => pts_nil) (fun _ _ _ _ _ => (pe_ix (ixt K) (pv 4) pe_int (fun _ _ => rfl)))) pa_nil))) pa_nil)) (pg_name (i := 3) sc_law_hours.nd rfl (.inl rfl))
      (pss_cons (ps_set (i := 5) sc_law_hours.nd rfl (.inl rfl) pe_int)
      (pss_cons (ps_for PassesOwn.never rfl (pi_range1 (by rfl) T.m_range (pa_cons (pe_callB (lenK K) (by rfl) T.m_len (by decide +kernel) (pa_cons (pv 1) pa_nil)) pa_nil)) (pg_name (i := 6) sc_law_hours.nd rfl (.inl rfl))
        (pss_cons (ps_if (pt_chain op_le op_lt (pe_ix (ixt K) (pe_ix (ixl K) (pv 0) (pv 6) (fun _ _ => rfl)) pe_int (fun _ _ => rfl)) (pv 3) (pe_ix (ixt K) (pe_ix (ixl K) (pv 1) (pv 6) (fun _ _ => rfl)) pe_int (fun _ _ => rfl))) (pss_one (ps_set (i := 5) sc_law_hours.nd rfl (.inl rfl) (pe_op op_add (pv 5) (pe_ix (ixt K) (pe_ix (ixl K) (pv 0) (pv 6) (fun _ _ => rfl)) pe_int (fun _ _ => rfl))))) pss_nil)
        (pss_one (ps_if (pt_chain op_lt op_lt (pe_op op_add (pe_ix (ixt K) (pe_ix (ixl K) (pv 1) (pv 6) (fun _ _ => rfl)) pe_int (fun _ _ => rfl)) (pe_ix (ixt K) (pe_ix (ixl K) (pv 0) (pv 6) (fun _ _ => rfl)) pe_int (fun _ _ => rfl))) (pv 3) (pe_ix (ixt K) (pe_ix (ixl K) (pv 1) (pv 6) (fun _ _ => rfl)) pe_int (fun _ _ => rfl))) (pss_one (ps_set (i := 5) sc_law_hours.nd rfl (.inl rfl) (pe_op op_add (pv 5) (pe_ix (ixt K) (pe_ix (ixl K) (pv 0) (pv 6) (fun _ _ => rfl)) pe_int (fun _ _ => rfl))))) pss_nil))))
      (pss_one (ps_expr (pe_bm PySem.F.plainAttrs_list PySem.F.slot_list_append PySem.F.type_list_append mt_append (pv 2) (pa_cons (pv 5) pa_nil)))))))
    (pss_one (ps_ret (pv 2))))), ?_⟩
  have lp : ((p.map encM).length : Int) = p.length := by rw [List.length_map]
  have hlast := last_in hp hb
  refine d_new x fun L nL gL xL yL => ?_
  refine d_range (K := K) (n := 1 + lastOut p) (G := G) (ed_add ed_int (ed_max (K := K) (ns := p.map Mv.o) (ed_is (ed_lcL (fun d => .int (mvOf d).o) (ed_var rfl g1) (by rw [List.length_map]; omega) (fun _ => rfl) ?c1) ?c2) (by simp [hp]))) xL (by omega) (fun i σ' H' => ∃ x3 x5 x6, σ' = [some v0, some v1, some (.ref L), x3, none, x5, x6] ∧ Ex G H' ∧ Ex H H' ∧ H' L = some (.lst (((List.range i).map fun j => costIn ss p (j : Nat)).map V.int))) ?_ ?_ ?_
  case c1 =>
    intro d v G2 hd x2 gd
    obtain ⟨m, _, rfl⟩ := List.mem_map.mp hd
    exact ed_ixT (n := 2) (ds := (mvL m).map .int) (ed_var rfl gd) (fun _ _ => ed_int) rfl rfl
  case c2 =>
    rw [List.map_map, List.map_map]
    rfl
  · intro H1 e1
    exact ⟨_, _, _, rfl, xL.trans e1, yL.trans e1, e1 _ _ upd_same⟩
  · rintro n σ' H' hn ⟨x3, x5, x6, rfl, xg, xh, hL⟩
    refine q_asg (v := .int 0) ev_c fun H1 e1 => ?_
    refine d_range (K := K) (n := ((p.map encM).length : Int)) (G := G) (ed_len (ed_var rfl g1)) (xg.trans e1) (by omega) (fun i σ' H' => ∃ x6, σ' = [some v0, some v1, some (.ref L), some (.int (n : Int)), none, some (.int (((ss.zip p).take i).map (inHour n)).sum), x6] ∧ Ex G H' ∧ Ex H H' ∧ H' L = some (.lst (((List.range n).map fun j => costIn ss p (j : Nat)).map V.int))) ?_ ?_ ?_
    · intro H2 e2
      exact ⟨_, rfl, (xg.trans e1).trans e2, (xh.trans e1).trans e2, e2 _ _ (e1 _ _ hL)⟩
    · rintro i σ' H2 hi ⟨x6, rfl, xg2, xh2, hL2⟩
      have hip : i < p.length := by omega
      have his : i < ss.length := by omega
      have hm : p[i]? = some p[i] := List.getElem?_eq_getElem hip
      have hs : ss[i]? = some ss[i] := List.getElem?_eq_getElem his
      have hzz := zip_take hs hm
      generalize p[i] = m at *
      generalize ss[i] = sh at *
      generalize hS : (((ss.zip p).take i).map (inHour n)).sum = S0
      have leaf : ∀ (S2 : Int) (H5 : Hp), Ex H2 H5 → S2 = S0 + ((bif decide (sh.r ≤ (n : Int)) && decide ((n : Int) < m.a) then sh.se else 0) + (bif decide (m.a + sh.st < (n : Int)) && decide ((n : Int) < m.o) then sh.li else 0)) → ∃ x6, [some v0, some v1, some (.ref L), some (.int (n : Int)), none, some (.int S2), some (.int (i : Int))] = [some v0, some v1, some (.ref L), some (.int (n : Int)), none, some (.int (((ss.zip p).take (i + 1)).map (inHour n)).sum), x6] ∧ Ex G H5 ∧ Ex H H5 ∧ H5 L = some (.lst (((List.range n).map fun j => costIn ss p (j : Nat)).map V.int)) := fun S2 H5 x5 e => by
        have hsum : (((ss.zip p).take (i + 1)).map (inHour n)).sum = S2 := by
          rw [sum_take hzz, hS, e]
          rfl
        exact ⟨some (.int (i : Int)), by rw [hsum], xg2.trans x5, xh2.trans x5, x5 _ _ hL2⟩
      have kk : ∀ {σ : L2.St} {G2 : Hp}, σ[6]? = some (some (.int (i : Int))) → ∀ G3, Ex G2 G3 → ED K (tVar 6) σ G3 (.int (i : Nat)) := fun h6 _ _ => ed_var h6 (.int (i : Int))
      refine d_if (et_chain0 (K := K) (ed_sh 0 (ed_var rfl g0) (kk rfl) hs rfl rfl) (ed_var rfl (.int (n : Int))) (ed_mv 0 (ed_var rfl g1) (kk rfl) hm rfl rfl)) xg2 (fun e1 H3 x3 => ?_) fun e1 H3 x3 => ?_
      · refine d_asg1 (K := K) (ed_add (ed_var rfl (.int S0)) (ed_sh 5 (ed_var rfl g0) (kk rfl) hs rfl rfl)) (xg2.trans x3) fun v4 H4 G4 s4 a4 => ?_
        cases a4
        refine d_if1 (et_chain0 (K := K) (ed_add (ed_mv 0 (ed_var rfl g1) (kk rfl) hm rfl rfl) (ed_sh 3 (ed_var rfl g0) (kk rfl) hs rfl rfl)) (ed_var rfl (.int (n : Int))) (ed_mv 2 (ed_var rfl g1) (kk rfl) hm rfl rfl)) ((xg2.trans x3).trans s4.up) (fun e2 H5 x5 => ?_) fun e2 H5 x5 => ?_
        · refine d_asg1 (K := K) (ed_add (ed_var rfl (.int (S0 + sh.se))) (ed_sh 6 (ed_var rfl g0) (kk rfl) hs rfl rfl)) (((xg2.trans x3).trans s4.up).trans x5) fun v6 H6 G6 s6 a6 => ?_
          cases a6
          exact leaf (S0 + sh.se + sh.li) H6 (((x3.trans s4.up).trans x5).trans s6.up) (by rw [e1, e2]; exact Int.add_assoc _ _ _)
        · exact leaf (S0 + sh.se) H5 ((x3.trans s4.up).trans x5) (by rw [e1, e2]; show _ = S0 + (sh.se + 0); rw [Int.add_zero])
      · refine d_if1 (et_chain0 (K := K) (ed_add (ed_mv 0 (ed_var rfl g1) (kk rfl) hm rfl rfl) (ed_sh 3 (ed_var rfl g0) (kk rfl) hs rfl rfl)) (ed_var rfl (.int (n : Int))) (ed_mv 2 (ed_var rfl g1) (kk rfl) hm rfl rfl)) (xg2.trans x3) (fun e2 H5 x5 => ?_) fun e2 H5 x5 => ?_
        · refine d_asg1 (K := K) (ed_add (ed_var rfl (.int S0)) (ed_sh 6 (ed_var rfl g0) (kk rfl) hs rfl rfl)) ((xg2.trans x3).trans x5) fun v6 H6 G6 s6 a6 => ?_
          cases a6
          exact leaf (S0 + sh.li) H6 ((x3.trans x5).trans s6.up) (by rw [e1, e2]; show _ = S0 + (0 + sh.li); rw [Int.zero_add])
        · exact leaf S0 H5 (x3.trans x5) (by rw [e1, e2]; show _ = S0 + (0 + 0); rw [Int.add_zero, Int.add_zero])
    · rintro σ' H2 ⟨x6, rfl, xg2, xh2, hL2⟩
      rw [show ((p.map encM).length : Int).toNat = (ss.zip p).length by rw [List.length_zip]; omega, List.take_length]
      refine s_app hL2 (ev_var rfl) (ev_var (v := .int (costIn ss p (n : Nat))) rfl) (by rw [List.length_map, List.length_map, List.length_range]; omega) fun H3 e3 => ?_
      refine ⟨_, _, _, rfl, Ex.mut (xg2.trans e3) gL, Ex.mut (xh2.trans e3) nL, ?_⟩
      rw [upd_same, List.range_succ, List.map_append, List.map_append]
      rfl
  · rintro σ' H' ⟨x3, x5, x6, rfl, xg, xh, hL⟩
    refine s_ret (ev_var rfl) fun H7 e7 => ?_
    rw [show (1 + lastOut p).toNat = (lastOut p + 1).toNat by omega] at hL
    refine q (.ref L) H7 _ (Sep.one x nL (xh.trans e7) (e7 _ _ hL)) ?_
    have z : Da K (upd G L (.lst (((List.range (lastOut p + 1).toNat).map fun i => costIn ss p (i : Nat)).map V.int))) (.ref L) (.list (((List.range (lastOut p + 1).toNat).map fun i => costIn ss p (i : Nat)).map .int)) := .lst upd_same (daa_ints _)
    have e : (((List.range (lastOut p + 1).toNat).map fun i => costIn ss p (i : Nat)).map PyData.int) = (List.range (lastOut p + 1).toNat).map fun i => PyData.int (costIn ss p (i : Nat)) := by
      rw [List.map_map]
      rfl
    rw [e] at z
    exact z
end
end K2

set_option Elab.async false
set_option linter.all false
set_option maxRecDepth 100000
set_option maxHeartbeats 4000000
namespace K2
open PySem PySem.Spec PyProof.Rows L2 Evl Tw
def deep (h : Hb) (s : Sh) : List Int := ((List.range (h.last + 1).toNat).filter fun n => decide (depthAt h (n : Nat) ≥ s.dr)).map fun n => ((n : Nat) : Int)
def okM (h : Hb) (s : Sh) (a o : Int) (b : Nat) : Bool := decide (a ≥ s.r) && (decide (o > a + s.st) && (decide (h.be.getD b 0 ≥ s.le) && decide (s.tu ≤ h.tugs)))
def mvs1 (h : Hb) (s : Sh) (a o : Int) (n : Nat) : List Mv := ((List.range n).filter (okM h s a o)).map fun b => ⟨a, (b : Nat), o⟩
def mvs2 (h : Hb) (s : Sh) (a : Int) (os : List Int) : List Mv := os.flatMap fun o => mvs1 h s a o h.be.length
def mvs3 (h : Hb) (s : Sh) (as : List Int) : List Mv := as.flatMap fun a => mvs2 h s a (deep h s)
def movesOf (h : Hb) (s : Sh) : List Mv := mvs3 h s (deep h s)
theorem flat_len {α β : Type} {l : List α} {f : α → List β} {c : Nat} (h : ∀ x ∈ l, (f x).length ≤ c) : (l.flatMap f).length ≤ l.length * c := by
  induction l with
  | nil => simp
  | cons a r ih =>
    have i := ih fun x hx => h x (List.mem_cons_of_mem _ hx)
    have j := h a List.mem_cons_self
    rw [List.flatMap_cons, List.length_append, List.length_cons, Nat.succ_mul]
    omega
theorem mvs1_len {h : Hb} {s : Sh} {a o : Int} {n : Nat} : (mvs1 h s a o n).length ≤ n := by
  unfold mvs1
  rw [List.length_map]
  exact Nat.le_trans (List.length_filter_le _ _) (by rw [List.length_range]; exact Nat.le_refl _)
theorem mvs2_len {h : Hb} {s : Sh} {a : Int} {os : List Int} (hb : h.be.length ≤ 2) : (mvs2 h s a os).length ≤ os.length * 2 := flat_len fun o _ => Nat.le_trans mvs1_len hb
theorem deep_len {h : Hb} {s : Sh} (hl : h.last ≤ 60) : (deep h s).length ≤ 61 := by
  unfold deep
  rw [List.length_map]
  refine Nat.le_trans (List.length_filter_le _ _) ?_
  rw [List.length_range]
  omega
theorem mvs3_len {h : Hb} {s : Sh} {as : List Int} (hb : h.be.length ≤ 2) (hl : h.last ≤ 60) (ha : as.length ≤ 61) : (mvs3 h s as).length ≤ 8000 := by
  have h1 : (mvs3 h s as).length ≤ as.length * 122 := flat_len fun a _ => Nat.le_trans (mvs2_len hb) (by have := deep_len (s := s) hl; omega)
  omega
theorem mvs1_step {h : Hb} {s : Sh} {a o : Int} {t : Nat} : mvs1 h s a o (t + 1) = if okM h s a o t = true then mvs1 h s a o t ++ [⟨a, (t : Nat), o⟩] else mvs1 h s a o t := by
  unfold mvs1
  rw [List.range_succ, List.filter_append, List.map_append]
  by_cases z : okM h s a o t = true
  · rw [if_pos z, List.filter_cons, if_pos z]
    rfl
  · rw [if_neg z, List.filter_cons, if_neg z]
    show _ ++ [] = _
    rw [List.append_nil]
theorem flat_take {α β : Type} {l : List α} {f : α → List β} {i : Nat} {x : α} (h : l[i]? = some x) : (l.take (i + 1)).flatMap f = (l.take i).flatMap f ++ f x := by
  rw [take_one h, List.flatMap_append]
  simp
section
variable {P : Program} {w : World} {K : PySem.W.Frag} {mg : Str → Option Value} {base : Heap} {k : Nat}
theorem d_range1 {σ : L2.St} {G H : Hp} {te : TE} {D : Ends} {tu : TS} {j : Nat} {n : Int} (h : ED K te σ G (.int n)) (x : Ex G H) (hn : 0 ≤ n ∧ n ≤ 100000) (Pv : Nat → L2.St → Hp → Prop) (h0 : ∀ H1, Ex H H1 → Pv 0 σ H1)
    (hs : ∀ (i : Nat) σ' H', (i : Int) < n → Pv i σ' H' → tu { D with nx := Pv (i + 1), ct := Pv (i + 1), bk := D.nx } (σ'.set j (some (.int (i : Int)))) H') (hd : ∀ σ' H', Pv n.toNat σ' H' → D.nx σ' H') : tFor (iRng1 (tCons te tNil)) (gName j) tu D σ H := d_range (tz := tNext) h x hn Pv h0 hs hd
/-- the list under way at L tells pref -/
def Way (K : PySem.W.Frag) (G H G2 : Hp) (L : Addr) (pref : List Mv) (H' : Hp) : Prop := ∃ xs G', Sep G H H' G' ∧ Ex G2 G' ∧ G' L = none ∧ H' L = some (.lst xs) ∧ xs.length = pref.length ∧ DaAll K G' xs (pref.map encM)
theorem Way.ex {G H G2 H' : Hp} {L : Addr} {pref : List Mv} (p : Way K G H G2 L pref H') : Ex G2 H' := by
  obtain ⟨_, _, s, e, _⟩ := p
  exact e.trans s.inn
theorem Way.up {G H G2 H' H3 : Hp} {L : Addr} {pref : List Mv} (p : Way K G H G2 L pref H') (e : Ex H' H3) : Way K G H G2 L pref H3 := by
  obtain ⟨xs, G', s, e2, g, h, l, d⟩ := p
  exact ⟨xs, G', s.trans (Sep.stay s.inn e), e2, g, e _ _ h, l, d⟩
def R_mvs : List PyData → PyData → Prop := fun ds d => ∃ (h : Hb) (s : Sh), ds = [encH h, encS s] ∧ 0 < h.dp.length ∧ h.be.length ≤ 2 ∧ 0 ≤ h.last ∧ h.last ≤ 60 ∧ d = encP (movesOf h s)
theorem ok__law_moves (T : Tx K mg) : FnOk P w K mg base CX0 (k + 1) T.f__law_moves T.d__law_moves ["harbour", "ship"] (spF K R_mvs) := by
  refine T.F__law_moves.ok sc_law_moves (spF_len ?_) (fun cdv A outer s H vs Q E hr h => ?_)
  · rintro ds d ⟨_, _, rfl, _⟩
    rfl
  obtain ⟨G, ds, d, x, g, ⟨hb, sh, rfl, hp, hbe, hl0, hl1, rfl⟩, q⟩ := h
  obtain ⟨v0, r, rfl, g0, g⟩ := daa_inv g
  obtain ⟨v1, r, rfl, g1, g⟩ := daa_inv g
  cases daa_inv0 g
  refine ⟨_, (pss_cons (ps_asg (pv 0) (pg_tup (by rfl) (pgs_cons (pg_name (i := 2) sc_law_moves.nd rfl (.inr rfl)) (pgs_cons (pg_name (i := 3) sc_law_moves.nd rfl (.inl rfl)) (pgs_cons (pg_name (i := 4) sc_law_moves.nd rfl (.inl rfl)) (pgs_cons (pg_name (i := 5) sc_law_moves.nd rfl (.inl rfl)) (pgs_cons (pg_name (i := 6) sc_law_moves.nd rfl (.inl rfl)) pgs_nil)))))))
    (pss_cons (ps_asg (pv 1) (pg_tup (by rfl) (pgs_cons (pg_name (i := 7) sc_law_moves.nd rfl (.inl rfl)) (pgs_cons (pg_name (i := 8) sc_law_moves.nd rfl (.inl rfl)) (pgs_cons (pg_name (i := 9) sc_law_moves.nd rfl (.inr rfl)) (pgs_cons (pg_name (i := 10) sc_law_moves.nd rfl (.inl rfl)) (pgs_cons (pg_name (i := 11) sc_law_moves.nd rfl (.inl rfl)) (pgs_cons (pg_name (i := 12) sc_law_moves.nd rfl (.inl rfl)) (pgs_cons (pg_name (i := 13) sc_law_moves.nd rfl (.inl rfl)) pgs_nil)))))))))
    (pss_cons (ps_setLc (i := 14) (own := [("hour", 15)]) (g := gName 15) rfl sc_law_moves.nd rfl rfl (sw_true rfl rfl rfl (by decide +kernel)) (pi_range1 (by rfl) T.m_range (pa_cons (pe_op op_add (pv 6) pe_int) pa_nil)) (blkOk_by (N := N__law_moves) (sc := defScope s__law_moves) (by decide +kernel)) (fun _ _ _ _ _ => (pg_name (i := 15) sc_law_moves.nd rfl (.inl rfl))) (fun _ _ _ _ _ => pts_one (pt_cmpR op_ge (pe_ix (ixl K) (pv 2) (pe_op op_modN (pe_callTy call_int1 (by rfl) T.m_int (by decide +kernel) (pa_cons (pv 15) pa_nil)) (pe_callB (lenK K) (by rfl) T.m_len (by decide +kernel) (pa_cons (pv 2) pa_nil))) (fun _ _ => rfl)) (pv 9) (nomark _))) (fun _ _ _ _ _ => (pv 15)))
    (pss_cons (ps_set (i := 16) sc_law_moves.nd rfl (.inl rfl) (pe_lst pa_nil))
    (pss_cons (ps_for PassesOwn.never rfl (pi_list (pv 14)) (pg_name (i := 17) sc_law_moves.nd rfl (.inl rfl))
      (pss_one (ps_for PassesOwn.never rfl (pi_list (pv 14)) (pg_name (i := 18) sc_law_moves.nd rfl (.inl rfl))
        (pss_one (ps_for PassesOwn.never rfl (pi_range1 (by rfl) T.m_range (pa_cons (pe_callB (lenK K) (by rfl) T.m_len (by decide +kernel) (pa_cons (pv 3) pa_nil)) pa_nil)) (pg_name (i := 19) sc_law_moves.nd rfl (.inl rfl))
          (pss_one (ps_if (PW.pt (pw_and (pt_cmpR op_ge (pv 17) (pv 7) (nomark _)) (pw_and (pt_cmpR op_gt (pv 18) (pe_op op_add (pv 17) (pv 10)) (nomark _)) (pw_and (pt_cmpR op_ge (pe_ix (ixl K) (pv 3) (pv 19) (fun _ _ => rfl)) (pv 8) (nomark _)) (pw_and1 (pt_cmpR op_le (pv 11) (pv 4) (nomark _))))))) (pss_one (ps_expr (pe_bm PySem.F.plainAttrs_list PySem.F.slot_list_append PySem.F.type_list_append mt_append (pv 16) (pa_cons (pe_tup (pa_cons (pv 17) (pa_cons (pv 19) (pa_cons (pv 18) pa_nil)))) pa_nil)))) pss_nil)))))))
    (pss_one (ps_ret (pv 16)))))))), ?_⟩
  refine d_unp (ed_var rfl g0) x rfl fun vs H1 G1 s1 a => ?_
  obtain ⟨u0, r, rfl, a0, a⟩ := daa_inv a
  obtain ⟨u1, r, rfl, a1, a⟩ := daa_inv a
  obtain ⟨u2, r, rfl, a2, a⟩ := daa_inv a
  obtain ⟨u3, r, rfl, a3, a⟩ := daa_inv a
  obtain ⟨u4, r, rfl, a4, a⟩ := daa_inv a
  cases daa_inv0 a
  cases a2; cases a3; cases a4
  refine ⟨_, _, rfl, _, _, rfl, _, _, rfl, _, _, rfl, _, _, rfl, rfl, ?_⟩
  refine at_state (σ' := [some v0, some v1, some u0, some u1, some (.int hb.tugs), some (.int hb.pil), some (.int hb.last), none, none, none, none, none, none, none, none, none, none, none, none, none]) (by kernel_rfl) ?_
  refine d_unp (K := K) (ds := [.int sh.r, .int sh.le, .int sh.dr, .int sh.st, .int sh.tu, .int sh.se, .int sh.li]) (ed_var rfl (da_ex s1.an g1)) s1.inn rfl fun vs H2 G2 s2 b => ?_
  cases daa_intsV (ns := [sh.r, sh.le, sh.dr, sh.st, sh.tu, sh.se, sh.li]) b
  refine ⟨_, _, rfl, _, _, rfl, _, _, rfl, _, _, rfl, _, _, rfl, _, _, rfl, _, _, rfl, rfl, ?_⟩
  refine at_state (σ' := [some v0, some v1, some u0, some u1, some (.int hb.tugs), some (.int hb.pil), some (.int hb.last), some (.int sh.r), some (.int sh.le), some (.int sh.dr), some (.int sh.st), some (.int sh.tu), some (.int sh.se), some (.int sh.li), none, none, none, none, none, none]) (by kernel_rfl) ?_
  have dp := da_ex s2.an a0
  have lp : ((hb.dp.map PyData.int).length : Int) = hb.dp.length := by rw [List.length_map]
  -- deep
  refine d_asg (K := K) (d := .list ((deep hb sh).map .int)) (ed_is (ed_lcRf (n := hb.last + 1) (fun n => decide (depthAt hb (n : Nat) ≥ sh.dr)) (fun n => .int (n : Nat)) (ed_add (ed_var rfl (.int hb.last)) ed_int) (by omega) (fun _ => rfl) (fun i G3 x3 hi => ?c1) (fun i G3 x3 hi _ => ed_var rfl (.int (i : Int)))) ?c2) s2.inn fun v14 H3 G3 s3 a14 => ?_
  case c1 =>
    have m0 := Int.emod_nonneg (i : Int) (b := (hb.dp.length : Int)) (by omega)
    have m1 := Int.emod_lt_of_pos (i : Int) (b := (hb.dp.length : Int)) (by omega)
    exact et_cmp0 (K := K) (i := depthAt hb (i : Nat)) (j := sh.dr) (ed_ix (n := ((i : Int) % (hb.dp.length : Int)).toNat) (ed_var rfl (da_ex x3 dp)) (fun G4 x4 => ed_is (ed_modN (ed_toInt (ed_var rfl (.int (i : Int)))) (ed_len (ed_var rfl (da_ex (x3.trans x4) dp))) (by omega)) (by rw [lp])) (by omega) (get_int (by omega))) (ed_var rfl (.int sh.dr))
  case c2 =>
    unfold deep
    rw [List.map_map]
    rfl
  refine at_state (σ' := [some v0, some v1, some u0, some u1, some (.int hb.tugs), some (.int hb.pil), some (.int hb.last), some (.int sh.r), some (.int sh.le), some (.int sh.dr), some (.int sh.st), some (.int sh.tu), some (.int sh.se), some (.int sh.li), some v14, none, none, none, none, none]) (by kernel_rfl) ?_
  have S3 := (s1.trans s2).trans s3
  have bb := da_ex (s2.an.trans s3.an) a1
  refine d_new s3.inn fun L nL3 gL xL yL => ?_
  have nL : H L = none := fresh_back S3.up nL3
  refine at_state (σ' := [some v0, some v1, some u0, some u1, some (.int hb.tugs), some (.int hb.pil), some (.int hb.last), some (.int sh.r), some (.int sh.le), some (.int sh.dr), some (.int sh.st), some (.int sh.tu), some (.int sh.se), some (.int sh.li), some v14, none, some (.ref L), none, none, none]) (by kernel_rfl) ?_
  have dl := deep_len (s := sh) hl1
  refine d_for (K := K) (i := 14) rfl a14 xL (fun i σ' H' => ∃ x17 x18 x19, σ' = [some v0, some v1, some u0, some u1, some (.int hb.tugs), some (.int hb.pil), some (.int hb.last), some (.int sh.r), some (.int sh.le), some (.int sh.dr), some (.int sh.st), some (.int sh.tu), some (.int sh.se), some (.int sh.li), some v14, none, some (.ref L), x17, x18, x19] ∧ Way K G H G3 L (mvs3 hb sh ((deep hb sh).take i)) H')
    ⟨_, _, _, rfl, [], G3, ⟨S3.up.trans yL, S3.an, xL, S3.sep⟩, Ex.refl _, gL, upd_same, rfl, .nil⟩ (fun i σ' H' p => by
    obtain ⟨_, _, _, _, p⟩ := p
    exact p.ex) (fun i w' d' σ' H' hd gd pv => ?_) fun σ' H' pv => ?_
  · obtain ⟨x17, x18, x19, rfl, W⟩ := pv
    rw [List.getElem?_map] at hd
    obtain ⟨fa, hi, rfl⟩ := Option.map_eq_some_iff.mp hd
    cases gd
    refine d_for1 (K := K) (i := 14) rfl a14 W.ex (fun j σ' H' => ∃ x18 x19, σ' = [some v0, some v1, some u0, some u1, some (.int hb.tugs), some (.int hb.pil), some (.int hb.last), some (.int sh.r), some (.int sh.le), some (.int sh.dr), some (.int sh.st), some (.int sh.tu), some (.int sh.se), some (.int sh.li), some v14, none, some (.ref L), some (.int fa), x18, x19] ∧ Way K G H G3 L (mvs3 hb sh ((deep hb sh).take i) ++ mvs2 hb sh fa ((deep hb sh).take j)) H')
      ⟨_, _, rfl, by rw [List.take_zero]; show Way K G H G3 L (_ ++ []) _; rw [List.append_nil]; exact W⟩ (fun i σ' H' p => by
      obtain ⟨_, _, _, p⟩ := p
      exact p.ex) (fun j w2 d2 σ2 H5 hd2 gd2 pv2 => ?_) fun σ2 H5 pv2 => ?_
    · obtain ⟨x18, x19, rfl, W2⟩ := pv2
      rw [List.getElem?_map] at hd2
      obtain ⟨fo, hj, rfl⟩ := Option.map_eq_some_iff.mp hd2
      cases gd2
      have lb : ((hb.be.map PyData.int).length : Int) = hb.be.length := by rw [List.length_map]
      generalize hA : mvs3 hb sh ((deep hb sh).take i) ++ mvs2 hb sh fa ((deep hb sh).take j) = A at W2
      have lA : A.length ≤ 9000 := by
        rw [← hA, List.length_append]
        have h1 := mvs3_len (s := sh) (as := (deep hb sh).take i) hbe hl1 (by rw [List.length_take]; omega)
        have h2 := mvs2_len (s := sh) (a := fa) (os := (deep hb sh).take j) hbe
        have h3 : ((deep hb sh).take j).length ≤ 61 := by rw [List.length_take]; omega
        omega
      refine d_range1 (K := K) (n := ((hb.be.map PyData.int).length : Int)) (ed_len (ed_var rfl bb)) W2.ex (by omega) (fun t σ' H' => ∃ x19, σ' = [some v0, some v1, some u0, some u1, some (.int hb.tugs), some (.int hb.pil), some (.int hb.last), some (.int sh.r), some (.int sh.le), some (.int sh.dr), some (.int sh.st), some (.int sh.tu), some (.int sh.se), some (.int sh.li), some v14, none, some (.ref L), some (.int fa), some (.int fo), x19] ∧ Way K G H G3 L (A ++ mvs1 hb sh fa fo t) H') ?_ ?_ ?_
      · intro H6 e6
        exact ⟨_, rfl, by show Way K G H G3 L (A ++ []) _; rw [List.append_nil]; exact W2.up e6⟩
      · rintro t σ' H6 ht ⟨x19, rfl, W3⟩
        have htb : t < hb.be.length := by omega
        refine d_if1 (et_and (et_cmp0 (K := K) (ed_var rfl (.int fa)) (ed_var rfl (.int sh.r))) fun _ => et_and (et_cmp0 (K := K) (ed_var rfl (.int fo)) (ed_add (ed_var rfl (.int fa)) (ed_var rfl (.int sh.st)))) fun _ => et_and (et_cmp0 (K := K) (i := hb.be.getD t 0) (ed_ix (n := t) (ed_var rfl bb) (fun _ _ => ed_var rfl (.int (t : Int))) rfl (get_int htb)) (ed_var rfl (.int sh.le))) fun _ => et_cmp0 (K := K) (ed_var rfl (.int sh.tu)) (ed_var rfl (.int hb.tugs))) W3.ex (fun e1 H7 x7 => ?_) fun e1 H7 x7 => ?_
        · replace e1 : okM hb sh fa fo t = true := e1
          obtain ⟨xs, G', S, e, gL', hL, lx, gx⟩ := W3.up x7
          have lm := mvs1_len (h := hb) (s := sh) (a := fa) (o := fo) (n := t)
          refine d_app1 (K := K) (G := G') (d := encM ⟨fa, (t : Nat), fo⟩) gL' hL gx rfl (ed_tup (eda_cons (ed_var rfl (.int fa)) fun _ _ => eda_cons (ed_var rfl (.int (t : Int))) fun _ _ => eda_cons (ed_var rfl (.int fo)) fun _ _ => eda_nil) (by show 3 ≤ 100000; decide)) S.inn (by rw [lx, List.length_append]; omega) fun v9 H9 G9 s9 o9 a9 g9 e9 => ?_
          refine ⟨_, rfl, xs ++ [v9], G9, (S.trans s9).mut nL o9, e.trans s9.an, o9, upd_same, ?_, ?_⟩
          · rw [mvs1_step, if_pos e1, ← List.append_assoc, List.length_append, List.length_append, lx]
            rfl
          · rw [mvs1_step, if_pos e1, ← List.append_assoc, List.map_append]
            exact g9
        · replace e1 : okM hb sh fa fo t = false := e1
          refine ⟨_, rfl, ?_⟩
          rw [mvs1_step, if_neg (by rw [e1]; exact Bool.false_ne_true)]
          exact W3.up x7
      · rintro σ' H6 ⟨x19, rfl, W3⟩
        refine ⟨_, _, rfl, ?_⟩
        unfold mvs2
        rw [flat_take hj, ← List.append_assoc]
        rw [show ((hb.be.map PyData.int).length : Int).toNat = hb.be.length by omega] at W3
        rw [← hA] at W3
        exact W3
    · obtain ⟨x18, x19, rfl, W2⟩ := pv2
      refine ⟨_, _, _, rfl, ?_⟩
      rw [List.length_map, List.take_length] at W2
      unfold mvs3
      rw [flat_take hi]
      exact W2
  · obtain ⟨x17, x18, x19, rfl, W⟩ := pv
    rw [List.length_map, List.take_length] at W
    obtain ⟨xs, G', S, e, gL', hL, lx, gx⟩ := W
    obtain ⟨S', aL⟩ := S.seal nL gL' hL gx
    exact d_ret (ed_var rfl aL) S'.inn fun v H8 G8 s8 a8 => q v H8 G8 (S'.trans s8) a8
end
end K2

set_option Elab.async false
set_option linter.all false
set_option maxRecDepth 100000
set_option maxHeartbeats 4000000
namespace K2
open PySem PySem.Spec PyProof.Rows L2 Evl Tw
section
variable {K : PySem.W.Frag} {σ : L2.St} {G H : Hp} {ta tb te : TE} {D : Ends} {tu tz : TS}
theorem sortedK {X : Cx} (e : X.K = K := by rfl) : CallR X (.builtin "sorted") (rSorted K) := e ▸ cr_sorted
/-- for a in sorted(e), ints -/
theorem d_forSorted {ns : List Int} {j : Nat} (h : ED K te σ G (.list (ns.map .int))) (x : Ex G H) (few : ns.length < 64)
    (k : ∀ (ms : List Int) H2 G2, ms.Perm ns → Sep G H H2 G2 → ∃ Pv : Nat → L2.St → Hp → Prop, Pv 0 σ H2 ∧ (∀ i σ' H', Pv i σ' H' → Ex G2 H') ∧
      (∀ (i : Nat) n σ' H', ms[i]? = some n → Pv i σ' H' → tu { D with nx := Pv (i + 1), ct := Pv (i + 1), bk := tz D } (σ'.set j (some (.int n))) H') ∧ ∀ σ' H', Pv ms.length σ' H' → tz D σ' H') :
    tSeq (tFor (iList K (tCB (rSorted K) (tCons te tNil))) (gName j) tu) tz D σ H := h H x _ fun v H2 G2 s g => by
  cases g with
  | @lst a xs _ e g =>
    cases daa_intsV g
    refine ⟨a, ns, rfl, sq_of (s.inn _ _ e), few, fun ms p perm _ fp => ?_⟩
    obtain ⟨Pv, p0, pe, ps, pd⟩ := k ms (upd H2 p (.lst (ms.map V.int))) (upd G2 p (.lst (ms.map V.int))) perm (s.trans (Sep.new s.inn fp))
    have at_ : ∀ i σ' H', Pv i σ' H' → SqL K H' p (ms.map V.int) := fun i σ' H' z => sq_of (pe i σ' H' z _ _ upd_same)
    refine ⟨p, rfl, ⟨_, sq_of upd_same⟩, ?_⟩
    refine for_it (D := { D with nx := tz D }) (walk_list (K := K) (a := p) (xs := ms.map V.int)) Pv p0 (fun i σ' H' _ z => at_ i σ' H' z) (fun i y σ' H' H3 hlt z yy => ?_) (fun σ' H' z => pd σ' H' (by rw [List.length_map] at z; exact z))
    obtain ⟨rfl, e2⟩ := yy
    rw [List.getElem?_map] at e2
    obtain ⟨n, hn, rfl⟩ := Option.map_eq_some_iff.mp e2
    exact ps i n σ' _ hn z
/-- n in [a, b] -/
theorem et_inL2 {n a b : Int} (hn : ED K ta σ G (.int n)) (h1 : ED K tb σ G (.int a)) (h2 : ED K te σ G (.int b)) : EvT (tTest (tOp (rIn K false) ta (tLst (tCons tb (tCons te tNil))))) σ G (decide (n = a) || decide (n = b)) := by
  refine et_is (et_test (ev_opL (ev_int hn) (el_lst (ea_cons (ev_int h1) (ea_cons (ev_int h2) ea_nil)) (by show 2 ≤ 100000; decide)) fun p H1 hp _ => rv_isL (sq_of hp) rfl rfl)) ?_
  show ((a == n) || ((b == n) || false)) = _
  rw [Bool.or_false]
  congr 1
  · by_cases z : n = a
    · rw [decide_eq_true z, z]
      exact beq_self_eq_true a
    · rw [decide_eq_false z]
      exact beq_eq_false_iff_ne.mpr fun e => z e.symm
  · by_cases z : n = b
    · rw [decide_eq_true z, z]
      exact beq_self_eq_true b
    · rw [decide_eq_false z]
      exact beq_eq_false_iff_ne.mpr fun e => z e.symm
end
section
variable {P : Program} {w : World} {K : PySem.W.Frag} {mg : Str → Option Value} {base : Heap} {k : Nat}
def tooMuch (h : Hb) (ss : List Sh) (p : List Mv) (n : Int) : Bool := tooP h p n || tooT h ss p n
def fits (h : Hb) (ss : List Sh) (p : List Mv) : Bool := (p.map Mv.a ++ p.map Mv.o).all fun n => !tooMuch h ss p n
def R_fit : List PyData → PyData → Prop := fun ds d => ∃ (h : Hb) (ss : List Sh) (p : List Mv), ds = [encH h, encSs ss, encP p] ∧ p.length ≤ ss.length ∧ p.length ≤ 20 ∧ d = .bool (fits h ss p)
theorem ok__law_fits (T : Tx K mg) : FnOk P w K mg base CX0 (k + 1) T.f__law_fits T.d__law_fits ["harbour", "ships", "plan"] (spF K R_fit) := by
  refine T.F__law_fits.ok sc_law_fits (spF_len ?_) (fun cdv A outer s H vs Q E hr h => ?_)
  · rintro ds d ⟨_, _, _, rfl, _⟩
    rfl
  obtain ⟨G, ds, d, x, g, ⟨hb, ss, p, rfl, hl, hz, rfl⟩, q⟩ := h
  obtain ⟨v0, r, rfl, g0, g⟩ := daa_inv g
  obtain ⟨v1, r, rfl, g1, g⟩ := daa_inv g
  obtain ⟨v2, r, rfl, g2, g⟩ := daa_inv g
  cases daa_inv0 g
  refine ⟨_, (pss_cons (ps_for PassesOwn.never rfl (pi_list (pe_callB (sortedK (K := K)) (by rfl) T.m_sorted (by decide +kernel) (pa_cons (pe_op op_cat (pe_lc (own := [("move", 4)]) (g := gName 4) (tt := tYes) rfl sc_law_fits.nd (pi_list (pv 2)) (blkOk_by (N := N__law_fits) (sc := defScope s__law_fits) (by decide +kernel)) (fun _ _ _ _ _ => (pg_name (i := 4) sc_law_fits.nd rfl (.inl rfl))) (fun _ _ _ _ _ => pts_nil) (fun _ _ _ _ _ => (pe_ix (ixt K) (pv 4) pe_int (fun _ _ => rfl)))) (pe_lc (own := [("move", 4)]) (g := gName 4) (tt := tYes) rfl sc_law_fits.nd (pi_list (pv 2)) (blkOk_by (N := N__law_fits) (sc := defScope s__law_fits) (by decide +kernel)) (fun _ _ _ _ _ => (pg_name (i := 4) sc_law_fits.nd rfl (.inl rfl))) (fun _ _ _ _ _ => pts_nil) (fun _ _ _ _ _ => (pe_ix (ixt K) (pv 4) pe_int (fun _ _ => rfl))))) pa_nil))) (pg_name (i := 3) sc_law_fits.nd rfl (.inr rfl))
      (pss_cons (ps_setLc (i := 5) (own := [("k", 6)]) (g := gName 6) rfl sc_law_fits.nd rfl rfl (sw_true rfl rfl rfl (by decide +kernel)) (pi_range1 (by rfl) T.m_range (pa_cons (pe_callB (lenK K) (by rfl) T.m_len (by decide +kernel) (pa_cons (pv 2) pa_nil)) pa_nil)) (blkOk_by (N := N__law_fits) (sc := defScope s__law_fits) (by decide +kernel)) (fun _ _ _ _ _ => (pg_name (i := 6) sc_law_fits.nd rfl (.inl rfl))) (fun _ _ _ _ _ => pts_one (pt_cmpR (inK K) (pv 3) (pe_lst (pa_cons (pe_ix (ixt K) (pe_ix (ixl K) (pv 2) (pv 6) (fun _ _ => rfl)) pe_int (fun _ _ => rfl)) (pa_cons (pe_ix (ixt K) (pe_ix (ixl K) (pv 2) (pv 6) (fun _ _ => rfl)) pe_int (fun _ _ => rfl)) pa_nil))) rfl)) (fun _ _ _ _ _ => (pv 6)))
      (pss_one (ps_if (PW.pt (pw_or (pt_cmpR op_gt (pe_callB (lenK K) (by rfl) T.m_len (by decide +kernel) (pa_cons (pv 5) pa_nil)) (pe_ix (ixt K) (pv 0) pe_int (fun _ _ => rfl)) (nomark _)) (pw_or1 (pt_cmpR op_gt (pe_callB (sumK K (by rfl)) (by rfl) T.m_sum (by decide +kernel) (pa_cons (pe_lc (own := [("k", 6)]) (g := gName 6) (tt := tYes) rfl sc_law_fits.nd (pi_list (pv 5)) (blkOk_by (N := N__law_fits) (sc := defScope s__law_fits) (by decide +kernel)) (fun _ _ _ _ _ => (pg_name (i := 6) sc_law_fits.nd rfl (.inl rfl))) (fun _ _ _ _ _ => pts_nil) (fun _ _ _ _ _ => (pe_ix (ixt K) (pe_ix (ixl K) (pv 1) (pv 6) (fun _ _ => rfl)) pe_int (fun _ _ => rfl)))) pa_nil)) (pe_ix (ixt K) (pv 0) pe_int (fun _ _ => rfl)) (nomark _))))) (pss_one (ps_ret pe_bl)) pss_nil))))
    (pss_one (ps_ret pe_bl))), ?_⟩
  have lp : (p.map encM).length = p.length := List.length_map ..
  have mvI : ∀ (f : Mv → Int) (j : Nat) {σ : L2.St} {G2 : Hp} {n : Int} (hj : n = (j : Int)) (hf : ∀ m, ((mvL m).map PyData.int)[j]? = some (.int (f m))), σ[2]? = some (some v2) → Ex G G2 → ∀ (hw : ∀ x, wipe ((wipe σ [4]).set 4 (some x)) [4] = wipe σ [4]) (h4 : ∀ x, ((wipe σ [4]).set 4 (some x))[4]? = some (some x)), ED K (tLc (iList K (tVar 2)) (gName 4) tYes (tOp (rIxT K) (tVar 4) (tC (.int n))) [4]) σ G2 (.list ((p.map f).map .int)) := fun f j {σ G2 n} hj hf h2 e hw h4 => by
    refine ed_is (ed_lcL (fun d => .int (f (mvOf d))) (ed_var h2 (da_ex e g2)) (by rw [lp]; omega) hw fun d v G3 hd x3 gd => ?_) ?_
    · obtain ⟨m, _, rfl⟩ := List.mem_map.mp hd
      exact ed_ixT (n := j) (ds := (mvL m).map .int) (ed_var (h4 v) gd) (fun _ _ => ed_int) hj (hf m)
    · rw [List.map_map, List.map_map]
      rfl
  refine d_forSorted (K := K) (ns := p.map Mv.a ++ p.map Mv.o) (ed_is (ed_cat (mvI Mv.a 0 rfl (fun _ => rfl) rfl (Ex.refl G) (fun _ => rfl) (fun _ => rfl)) (fun G2 x2 => mvI Mv.o 2 rfl (fun _ => rfl) rfl x2 (fun _ => rfl) (fun _ => rfl)) (by rw [List.length_map, List.length_map, List.length_map, List.length_map]; omega)) (by rw [List.map_append])) x (by rw [List.length_append, List.length_map, List.length_map]; omega) fun ms H2 G2 perm s2 => ?_
  have b0 := da_ex s2.an g0
  have b1 := da_ex s2.an g1
  have b2 := da_ex s2.an g2
  refine ⟨fun i σ' H' => ∃ x3 x5, σ' = [some v0, some v1, some v2, x3, none, x5, none] ∧ Ex G2 H' ∧ Ex H2 H' ∧ ∀ n ∈ ms.take i, tooMuch hb ss p n = false, ⟨_, _, rfl, s2.inn, Ex.refl _, fun n hn => absurd hn (by rw [List.take_zero]; exact List.not_mem_nil)⟩, (fun i σ' H' pv => by
    obtain ⟨_, _, _, e, _⟩ := pv
    exact e), ?_, ?_⟩
  · rintro i n σ' H' hi ⟨x3, x5, rfl, xg, xh, hn⟩
    refine d_asg (K := K) (d := .list ((movers p n).map fun i => .int (i : Nat))) (ed_is (ed_lcRf (n := ((p.map encM).length : Int)) (mov p n) (fun i => .int (i : Nat)) (ed_len (ed_var rfl b2)) (by rw [lp]; omega) (fun _ => rfl) (fun i G3 x3 hi => ?c1) (fun i G3 x3 hi _ => ed_var rfl (.int (i : Int)))) ?c2) xg fun v5 H3 G3 s3 a5 => ?_
    case c1 =>
      have hip : i < p.length := by omega
      have hm : p[i]? = some p[i] := List.getElem?_eq_getElem hip
      refine et_is (et_inL2 (ed_var rfl (.int n)) (ed_mv 0 (ed_var rfl (da_ex x3 b2)) (fun _ _ => ed_var rfl (.int (i : Int))) hm rfl rfl) (ed_mv 2 (ed_var rfl (da_ex x3 b2)) (fun _ _ => ed_var rfl (.int (i : Int))) hm rfl rfl)) ?_
      unfold mov
      rw [hm]
    case c2 =>
      rw [show ((p.map encM).length : Int).toNat = p.length by rw [lp]; omega]
      rfl
    have lm : (movers p n).length ≤ 20 := Nat.le_trans (List.length_filter_le _ _) (by rw [List.length_range]; omega)
    refine d_if1 (et_or (et_cmp0 (K := K) (i := ((movers p n).length : Int)) (j := hb.pil) (ed_is (ed_len (ed_var rfl a5)) (by rw [List.length_map])) (ed_ixT (n := 3) (ed_var rfl (da_ex s3.an b0)) (fun _ _ => ed_int) rfl rfl)) fun _ => et_cmp0 (K := K) (i := sumT ss p n) (j := hb.tugs) (ed_is (ed_sum (K := K) (ns := (movers p n).map (tuAt ss)) (ed_is (ed_lcL (tuD ss) (ed_var rfl a5) (by rw [List.length_map]; omega) (fun _ => rfl) ?c3) ?c4)) rfl) (ed_ixT (n := 2) (ed_var rfl (da_ex s3.an b0)) (fun _ _ => ed_int) rfl rfl)) s3.inn (fun e1 H4 x4 => ?_) fun e1 H4 x4 => ?_
    case c3 =>
      intro d v G4 hd x4 gd
      obtain ⟨j, hj, rfl⟩ := List.mem_map.mp hd
      cases gd
      have hjl : j < ss.length := by
        have := List.mem_range.mp (List.mem_filter.mp hj).1
        omega
      have e : tuAt ss j = (ss[j]).tu := by
        unfold tuAt
        rw [List.getElem?_eq_getElem hjl]
      show ED K _ _ G4 (.int (tuAt ss ((j : Int)).toNat))
      rw [Int.toNat_natCast, e]
      exact ed_sh 4 (ed_var rfl (da_ex (s3.an.trans x4) b1)) (fun _ _ => ed_var rfl (.int (j : Int))) (List.getElem?_eq_getElem hjl) rfl rfl
    case c4 =>
      rw [List.map_map, List.map_map]
      rfl
    · replace e1 : tooMuch hb ss p n = true := e1
      refine d_ret (K := K) (d := .bool false) ed_bl (s3.inn.trans x4) fun v H5 G5 s5 a5 => ?_
      have f : fits hb ss p = false := by
        unfold fits
        rw [List.all_eq_false]
        exact ⟨n, perm.mem_iff.mp (List.mem_of_getElem? hi), by rw [e1]; exact Bool.false_ne_true⟩
      rw [f] at q
      exact q v H5 G5 (s2.trans (((s3.back xh).trans (s5.back x4)))) a5
    · replace e1 : tooMuch hb ss p n = false := e1
      exact ⟨_, _, rfl, (s3.an.trans s3.inn).trans x4, (xh.trans s3.up).trans x4, take_false hi hn e1⟩
  · rintro σ' H' ⟨x3, x5, rfl, xg, xh, hn⟩
    rw [List.take_length] at hn
    have f : fits hb ss p = true := by
      unfold fits
      rw [List.all_eq_true]
      intro n h
      rw [hn n (perm.mem_iff.mpr h)]
      rfl
    rw [f] at q
    exact d_ret (K := K) ed_bl xg fun v H5 G5 s5 a5 => q v H5 G5 (s2.trans (s5.back xh)) a5
end
end K2

set_option Elab.async false
set_option linter.all false
set_option maxRecDepth 100000
set_option maxHeartbeats 4000000
namespace K2
open PySem PySem.Spec PyProof.Rows L2 Evl Tw
section
variable {K : PySem.W.Frag} {σ : L2.St} {G H : Hp} {ta tb te tl : TE} {ds : List PyData} {D : Ends} {tu tz : TS}
/-- for .. in e, any target -/
theorem d_forE {tg : TG} (h : ED K tl σ G (.list ds)) (x : Ex G H)
    (k : ∀ H2 G2, Sep G H H2 G2 → ∃ Pv : Nat → L2.St → Hp → Prop, Pv 0 σ H2 ∧ (∀ i σ' H', Pv i σ' H' → Ex G2 H') ∧
      (∀ (i : Nat) d v σ' H', ds[i]? = some d → Da K G2 v d → Pv i σ' H' → tg v σ' H' fun σ2 H3 => tu { D with nx := Pv (i + 1), ct := Pv (i + 1), bk := tz D } σ2 H3) ∧ ∀ σ' H', Pv ds.length σ' H' → tz D σ' H') :
    tSeq (tFor (iList K tl) tg tu) tz D σ H := h H x _ fun v H2 G2 s g => by
  obtain ⟨Pv, p0, pe, ps, pd⟩ := k H2 G2 s
  cases g with
  | @lst a xs _ e g =>
    have hl := daa_len g
    refine ⟨a, rfl, ⟨xs, sq_of (s.inn _ _ e)⟩, ?_⟩
    refine for_it (D := { D with nx := tz D }) (walk_list (K := K) (a := a) (xs := xs)) Pv p0 (fun i σ' H' _ z => sq_of (pe i σ' H' z _ _ e)) (fun i y σ' H' H3 hlt z yy => ?_) (fun σ' H' z => pd σ' H' (by rw [← hl]; exact z))
    obtain ⟨rfl, e2⟩ := yy
    obtain ⟨d, hd, gd⟩ := daa_getV g i y e2
    exact ps i d y σ' _ hd gd z
def delL (G : Hp) (L : Addr) : Hp := fun b => if b = L then none else G b
theorem da_del {L : Addr} {v : V} {m : Mv} {xs : List V} (h : Da K G v (encM m)) (hl : G L = some (.lst xs)) : Da K (delL G L) v (encM m) := by
  cases h with
  | @tup t ys _ e g =>
    cases daa_intsV (ns := [m.a, m.b, m.o]) g
    refine .tup ?_ (daa_ints [m.a, m.b, m.o])
    rcases e with (e | ⟨o, e⟩) | e
    · refine .inl (.inl ?_)
      show (if t = L then none else G t) = _
      rw [if_neg fun z => by rw [z, hl] at e; cases e]
      exact e
    · refine .inl (.inr ⟨o, ?_⟩)
      show (if t = L then none else G t) = _
      rw [if_neg fun z => by rw [z, hl] at e; cases e]
      exact e
    · exact .inr e
theorem daa_del {L : Addr} {xs : List V} (hl : G L = some (.lst xs)) : ∀ {vs : List V} {ms : List Mv}, DaAll K G vs (ms.map encM) → DaAll K (delL G L) vs (ms.map encM)
  | _, [], .nil => .nil
  | _, m :: ms, .cons h t => .cons (da_del h hl) (daa_del hl t)
/-- L leaves the anchor and changes -/
theorem Sep.leave {A B C : Hp} {L : Addr} {o : HO} (s : Sep A B C G) (hB : B L = none) (hA : A L = none) : Sep A B (upd C L o) (delL G L) := by
  refine ⟨Ex.mut s.up hB, fun b u hb => ?_, fun b u hb => ?_, fun b hb h1 => ?_⟩
  · show (if b = L then none else G b) = some u
    rw [if_neg fun z => by rw [z, hA] at hb; cases hb]
    exact s.an b u hb
  · have hb' : (if b = L then none else G b) = some u := hb
    by_cases z : b = L
    · rw [if_pos z] at hb'
      cases hb'
    · rw [if_neg z] at hb'
      rw [upd_ne z]
      exact s.inn b u hb'
  · show (if b = L then none else G b) = none
    by_cases z : b = L
    · rw [if_pos z]
    · rw [if_neg z]
      exact s.sep b hb h1
end
section
variable {P : Program} {w : World} {K : PySem.W.Frag} {mg : Str → Option Value} {base : Heap} {k : Nat}
def goodOf (h : Hb) (ss : List Sh) (s : Sh) (pl : List Mv) : List Mv := (movesOf h s).filter fun m => pl.all (apart m) && fits h ss (pl ++ [m])
def shAt (ss : List Sh) (i : Nat) : Sh := ss.getD i ⟨0, 0, 0, 0, 0, 0, 0⟩
def planN (h : Hb) (ss : List Sh) (D : Nat → Int) : Nat → Option (List Mv)
  | 0 => some []
  | k + 1 => (planN h ss D k).bind fun pl => ((goodOf h ss (shAt ss k) pl)[(D k % ((goodOf h ss (shAt ss k) pl).length : Int)).toNat]?).map fun m => pl ++ [m]
def planD (h : Hb) (ss : List Sh) (D : Nat → Int) : PyData := match planN h ss D ss.length with
  | some p => encP p
  | none => .none
def R_plan : List PyData → PyData → Prop := fun ds d => ∃ (h : Hb) (ss : List Sh) (draws : List Int), ds = [encH h, encSs ss, .list (draws.map .int)] ∧ 0 < h.dp.length ∧ h.be.length ≤ 2 ∧ 0 ≤ h.last ∧ h.last ≤ 60 ∧ ss.length ≤ 3 ∧ 3 ≤ draws.length ∧ d = planD h ss fun i => draws.getD i 0
theorem planN_none {h : Hb} {ss : List Sh} {D : Nat → Int} {k : Nat} (hk : planN h ss D k = none) : ∀ j, k ≤ j → planN h ss D j = none := by
  intro j hj
  induction j with
  | zero =>
    have : k = 0 := by omega
    subst this
    exact hk
  | succ j ih =>
    by_cases z : k = j + 1
    · rw [← z]
      exact hk
    · show (planN h ss D j).bind _ = none
      rw [ih (by omega)]
      rfl
theorem planN_len {h : Hb} {ss : List Sh} {D : Nat → Int} : ∀ {k : Nat} {pl : List Mv}, planN h ss D k = some pl → pl.length = k
  | 0, pl, e => by cases Option.some.inj e; rfl
  | k + 1, pl, e => by
    obtain ⟨p0, h0, e1⟩ := Option.bind_eq_some_iff.mp e
    obtain ⟨m, hm, rfl⟩ := Option.map_eq_some_iff.mp e1
    rw [List.length_append, planN_len h0]
    rfl
end
end K2

set_option Elab.async false
set_option linter.all false
set_option maxRecDepth 100000
set_option maxHeartbeats 4000000
namespace K2
open PySem PySem.Spec PyProof.Rows L2 Evl Tw
section
variable {P : Program} {w : World} {K : PySem.W.Frag} {mg : Str → Option Value} {base : Heap} {k : Nat}
theorem ok__law_plan (T : Tx K mg) : FnOk P w K mg base CX0 (k + 2) T.f__law_plan T.d__law_plan ["harbour", "ships", "draws"] (spF K R_plan) := by
  refine T.F__law_plan.ok sc_law_plan (spF_len ?_) (fun cdv A outer s H vs Q E hr h => ?_)
  · rintro ds d ⟨_, _, _, rfl, _⟩
    rfl
  obtain ⟨G, ds, d, x, g, ⟨hb, ss, draws, rfl, hp, hbe, hl0, hl1, hs3, hd3, rfl⟩, q⟩ := h
  obtain ⟨v0, r, rfl, g0, g⟩ := daa_inv g
  obtain ⟨v1, r, rfl, g1, g⟩ := daa_inv g
  obtain ⟨v2, r, rfl, g2, g⟩ := daa_inv g
  cases daa_inv0 g
  refine ⟨_, (pss_cons (ps_set (i := 3) sc_law_plan.nd rfl (.inl rfl) (pe_lst pa_nil))
    (pss_cons (ps_for PassesOwn.never rfl (pi_range1 (by rfl) T.m_range (pa_cons (pe_callB (lenK K) (by rfl) T.m_len (by decide +kernel) (pa_cons (pv 1) pa_nil)) pa_nil)) (pg_name (i := 4) sc_law_plan.nd rfl (.inl rfl))
      (pss_cons (ps_set (i := 5) sc_law_plan.nd rfl (.inl rfl) (pe_lst pa_nil))
      (pss_cons (ps_for PassesOwn.never rfl (pi_list (pe_call (ok__law_moves T) hr (by rfl) T.g__law_moves T.F__law_moves.kp T.b__law_moves .nil pass0 (pa_cons (pv 0) (pa_cons (pe_ix (ixl K) (pv 1) (pv 4) (fun _ _ => rfl)) pa_nil)))) (pg_name (i := 6) sc_law_plan.nd rfl (.inr rfl))
        (pss_one (ps_if (PW.pt (pw_and (pt_val (pe_callB (allK K (by rfl)) (by rfl) T.m_all (by decide +kernel) (pa_cons (pe_lc (own := [("other", 7)]) (g := gName 7) (tt := tYes) rfl sc_law_plan.nd (pi_list (pv 3)) (blkOk_by (N := N__law_plan) (sc := defScope s__law_plan) (by decide +kernel)) (fun _ _ _ _ _ => (pg_name (i := 7) sc_law_plan.nd rfl (.inl rfl))) (fun _ _ _ _ _ => pts_nil) (fun _ _ _ _ _ => (pe_call (ok__law_apart T) hr (by rfl) T.g__law_apart T.F__law_apart.kp T.b__law_apart .nil pass0 (pa_cons (pv 6) (pa_cons (pv 7) pa_nil))))) pa_nil))) (pw_and1 (pt_val (pe_call (ok__law_fits T) hr (by rfl) T.g__law_fits T.F__law_fits.kp T.b__law_fits .nil pass0 (pa_cons (pv 0) (pa_cons (pv 1) (pa_cons (pe_op op_cat (pv 3) (pe_lst (pa_cons (pv 6) pa_nil))) pa_nil)))))))) (pss_one (ps_expr (pe_bm PySem.F.plainAttrs_list PySem.F.slot_list_append PySem.F.type_list_append mt_append (pv 5) (pa_cons (pv 6) pa_nil)))) pss_nil)))
      (pss_cons (ps_if (pt_cmpR op_eq (pe_callB (lenK K) (by rfl) T.m_len (by decide +kernel) (pa_cons (pv 5) pa_nil)) pe_int (nomark _)) (pss_one (ps_ret pe_non)) pss_nil)
      (pss_one (ps_expr (pe_bm PySem.F.plainAttrs_list PySem.F.slot_list_append PySem.F.type_list_append mt_append (pv 3) (pa_cons (pe_ix (ixl K) (pv 5) (pe_op op_modN (pe_callTy call_int1 (by rfl) T.m_int (by decide +kernel) (pa_cons (pe_ix (ixl K) (pv 2) (pv 4) (fun _ _ => rfl)) pa_nil)) (pe_callB (lenK K) (by rfl) T.m_len (by decide +kernel) (pa_cons (pv 5) pa_nil))) (fun _ _ => rfl)) pa_nil))))))))
    (pss_one (ps_ret (pv 3))))), ?_⟩
  have ls : ((ss.map encS).length : Int) = ss.length := by rw [List.length_map]
  refine d_new x fun L nL gL xL yL => ?_
  refine d_range (K := K) (n := ((ss.map encS).length : Int)) (G := G) (ed_len (ed_var rfl g1)) xL (by omega) (fun i σ' H' => ∃ x4 x5 x6 pl xs G', σ' = [some v0, some v1, some v2, some (.ref L), x4, x5, x6, none] ∧ planN hb ss (fun i => draws.getD i 0) i = some pl ∧ Sep G H H' G' ∧ G' L = none ∧ H' L = some (.lst xs) ∧ DaAll K G' xs (pl.map encM)) ?_ ?_ ?_
  · intro H1 e1
    exact ⟨_, _, _, [], [], G, rfl, rfl, ⟨yL.trans e1, Ex.refl _, xL.trans e1, fun _ h _ => h⟩, gL, e1 _ _ upd_same, .nil⟩
  · rintro i σ' H' hi ⟨x4, x5, x6, pl, xs, G', rfl, hpl, S, gL', hL, gx⟩
    have his : i < ss.length := by omega
    have hs : ss[i]? = some ss[i] := List.getElem?_eq_getElem his
    have hsa : shAt ss i = ss[i] := by
      unfold shAt
      rw [List.getD_eq_getElem?_getD, hs]
      rfl
    have hlen := planN_len hpl
    obtain ⟨S1, aL⟩ := S.seal nL gL' hL gx
    generalize hG1 : upd G' L (.lst xs) = G1 at S1 aL
    have c0 := da_ex S1.an g0
    have c1 := da_ex S1.an g1
    have c2 := da_ex S1.an g2
    refine d_new S1.inn fun M nM gM xM yM => ?_
    have nMH : H M = none := fresh_back S1.up nM
    have good_def : goodOf hb ss (shAt ss i) pl = (movesOf hb ss[i]).filter fun m => pl.all (apart m) && fits hb ss (pl ++ [m]) := by rw [hsa]; rfl
    refine d_forE (K := K) (G := G1) (ds := (movesOf hb ss[i]).map encM) (ed_call (eda_cons (ed_var rfl c0) fun G2 x2 => eda_cons (ed_ix (n := i) (ed_var rfl (da_ex x2 c1)) (fun _ _ => ed_var rfl (.int (i : Int))) rfl (by rw [List.getElem?_map, hs]; rfl)) fun _ _ => eda_nil) ⟨hb, ss[i], rfl, hp, hbe, hl0, hl1, rfl⟩) xM fun H2 G2 s2 => ?_
    have gM2 : G2 M = none := s2.sep M gM (by rw [upd_same]; exact Option.some_ne_none _)
    have S2 : Sep G H H2 G2 := (S1.trans ⟨yM, Ex.refl _, xM, fun _ h _ => h⟩ : Sep G H _ G1).trans s2
    refine ⟨fun j σ' H5 => ∃ x6 ys G5, σ' = [some v0, some v1, some v2, some (.ref L), some (.int (i : Int)), some (.ref M), x6, none] ∧ Sep G H H5 G5 ∧ Ex G2 G5 ∧ G5 M = none ∧ H5 M = some (.lst ys) ∧ ys.length ≤ j ∧ DaAll K G5 ys ((((movesOf hb ss[i]).take j).filter fun m => pl.all (apart m) && fits hb ss (pl ++ [m])).map encM), ⟨_, [], G2, rfl, S2, Ex.refl _, gM2, s2.up _ _ upd_same, Nat.le_refl _, .nil⟩, (fun i σ' H' pv => by
      obtain ⟨_, _, _, _, s, e, _⟩ := pv
      exact e.trans s.inn), ?_, ?_⟩
    · rintro j d v σ' H5 hd gd ⟨x6, ys, G5, rfl, S5, e25, gM5, hM5, ly, gy⟩
      rw [List.getElem?_map] at hd
      obtain ⟨m, hj, rfl⟩ := Option.map_eq_some_iff.mp hd
      have jl := (List.getElem?_eq_some_iff.mp hj).1
      have ml : (movesOf hb ss[i]).length ≤ 8000 := mvs3_len hbe hl1 (deep_len hl1)
      have e15 : Ex G1 G5 := s2.an.trans e25
      have aL5 := da_ex e15 aL
      have gd5 := da_ex e25 gd
      refine d_if1 (et_and (et_bool (ed_all (K := K) (bs := pl.map (apart m)) (ed_is (ed_lcL (fun d => .bool (apart m (mvOf d))) (ed_var rfl aL5) (by rw [List.length_map]; omega) (fun _ => rfl) ?el) ?em))) fun _ => et_bool (ed_call (K := K) (eda_cons (ed_var rfl (da_ex e15 c0)) fun G6 x6 => eda_cons (ed_var rfl (da_ex (e15.trans x6) c1)) fun G7 x7 => eda_cons (ed_is (ed_cat (ed_var rfl (da_ex (x6.trans x7) aL5)) (fun G8 x8 => ed_lst (eda_cons (ed_var rfl (da_ex ((x6.trans x7).trans x8) gd5)) fun _ _ => eda_nil) (by show 1 ≤ 100000; decide)) (by rw [List.length_map]; show _ + 1 ≤ 100000; omega)) (show PyData.list (pl.map encM ++ [encM m]) = encP (pl ++ [m]) by unfold encP; rw [List.map_append]; rfl)) fun _ _ => eda_nil) ⟨hb, ss, pl ++ [m], rfl, by rw [List.length_append]; show _ + 1 ≤ _; omega, by rw [List.length_append]; show _ + 1 ≤ _; omega, rfl⟩)) S5.inn (fun e1 H6 x6 => ?_) fun e1 H6 x6 => ?_
      case el =>
        intro d v2 G6 hd2 x6 gd2
        obtain ⟨m2, _, rfl⟩ := List.mem_map.mp hd2
        exact ed_call (eda_cons (ed_var rfl (da_ex x6 gd5)) fun G7 x7 => eda_cons (ed_var rfl (da_ex x7 gd2)) fun _ _ => eda_nil) ⟨m, m2, rfl, rfl⟩
      case em =>
        rw [List.map_map, List.map_map]
        rfl
      · have cond : (pl.all (apart m) && fits hb ss (pl ++ [m])) = true := by
          rw [List.all_map] at e1
          exact e1
        refine d_app1 (K := K) (G := G5) (d := encM m) gM5 (x6 _ _ hM5) gy rfl (ed_var rfl gd5) (S5.inn.trans x6) (by omega) fun v9 H9 G9 s9 o9 a9 g9 e9 => ?_
        refine ⟨_, ys ++ [v9], G9, rfl, ((S5.trans (Sep.stay S5.inn x6)).trans s9).mut nMH o9, e25.trans s9.an, o9, upd_same, by rw [List.length_append]; show _ + 1 ≤ _; omega, ?_⟩
        rw [take_one hj, List.filter_append, List.map_append, List.filter_cons, if_pos cond]
        exact g9
      · have cond : (pl.all (apart m) && fits hb ss (pl ++ [m])) = false := by
          rw [List.all_map] at e1
          exact e1
        refine ⟨_, ys, G5, rfl, S5.trans (Sep.stay S5.inn x6), e25, gM5, x6 _ _ hM5, by omega, ?_⟩
        rw [take_one hj, List.filter_append, List.map_append, List.filter_cons, if_neg (by rw [cond]; exact Bool.false_ne_true)]
        show DaAll K G5 ys (_ ++ [])
        rw [List.append_nil]
        exact gy
    · rintro σ' H5 ⟨x6, ys, G5, rfl, S5, e25, gM5, hM5, ly, gy⟩
      rw [List.length_map, List.take_length, ← good_def] at gy
      generalize hgd : goodOf hb ss (shAt ss i) pl = gd at gy
      obtain ⟨S6, aM⟩ := S5.seal nMH gM5 hM5 gy
      have e56 : Ex G5 (upd G5 M (.lst ys)) := Ex.new gM5
      generalize upd G5 M (.lst ys) = G6 at S6 aM e56
      have e16 : Ex G1 G6 := (s2.an.trans e25).trans e56
      refine d_if (et_eqI (K := K) (ed_len (ed_var rfl aM)) ed_int) S6.inn (fun e1 H7 x7 => ?_) fun e1 H7 x7 => ?_
      · have h0 := of_decide_eq_true e1
        rw [List.length_map] at h0
        have hn : planN hb ss (fun i => draws.getD i 0) (i + 1) = none := by
          show (planN hb ss (fun i => draws.getD i 0) i).bind _ = none
          rw [hpl]
          show ((goodOf hb ss (shAt ss i) pl)[_]?).map _ = none
          rw [hgd, List.getElem?_eq_none (by omega)]
          rfl
        show tRet (tC V.non) _ [] H7
        refine d_ret (K := K) ed_non (S6.inn.trans x7) fun v H8 G8 s8 a8 => q v H8 G8 (S6.trans (s8.back x7)) ?_
        unfold planD
        rw [planN_none hn _ (by omega)]
        exact a8
      · have h0 := of_decide_eq_false e1
        rw [List.length_map] at h0
        have m0 := Int.emod_nonneg (draws.getD i 0) (b := (gd.length : Int)) (by omega)
        have m1 := Int.emod_lt_of_pos (draws.getD i 0) (b := (gd.length : Int)) (by omega)
        obtain ⟨m, hm⟩ : ∃ m, gd[(draws.getD i 0 % (gd.length : Int)).toNat]? = some m := ⟨_, List.getElem?_eq_getElem (by omega)⟩
        have lg : ((gd.map encM).length : Int) = gd.length := by rw [List.length_map]
        have el : ED K (tOp (rIxL K) (tVar 5) (tOp (rI (fun _ j => j ≠ 0) fun i j => .int (i.fmod j)) (tCB (fun xs H Q => (∃ i, xs = [V.int i] ∧ Q (.int i) H) ∨ ∃ k, xs = [.bl k] ∧ Q (.int (if k then 1 else 0)) H) (tCons (tOp (rIxL K) (tVar 2) (tVar 4)) tNil)) (tCB (fun xs H Q => ∃ p ys, xs = [V.ref p] ∧ (SqL K H p ys ∨ SqT K H p ys) ∧ Q (.int ys.length) H) (tCons (tVar 5) tNil)))) [some v0, some v1, some v2, some (.ref L), some (.int (i : Int)), some (.ref M), x6, none] G6 (encM m) :=
          ed_ix (n := (draws.getD i 0 % (gd.length : Int)).toNat) (ed_var rfl aM) (fun G7 x7 => ed_is (ed_modN (ed_toInt (ed_ix (n := i) (ed_var rfl (da_ex (e16.trans x7) c2)) (fun _ _ => ed_var rfl (.int (i : Int))) rfl (get_int (by omega)))) (ed_len (ed_var rfl (da_ex x7 aM))) (by omega)) (by rw [lg])) (by omega) (by rw [List.getElem?_map, hm]; rfl)
        have l1 : G1 L = some (.lst xs) := by rw [← hG1]; exact upd_same
        refine ⟨_, rfl, .inl ⟨rfl, xs, sq_of (x7 _ _ (S6.inn _ _ (e16 _ _ l1)))⟩, el H7 (S6.inn.trans x7) _ fun v H8 G8 s8 a8 => ?_⟩
        have l8 : G8 L = some (.lst xs) := s8.an _ _ (e16 _ _ l1)
        have gG1 : Ex G' G1 := by rw [← hG1]; exact Ex.new gL'
        refine ⟨L, xs, v, rfl, rfl, s8.inn _ _ l8, sz_lt (by rw [daa_len gx, List.length_map]; omega), ?_⟩
        refine ⟨_, _, _, pl ++ [m], xs ++ [v], delL G8 L, rfl, ?_, K2.Sep.leave (S6.trans (s8.back x7)) nL gL, if_pos rfl, upd_same, ?_⟩
        · show (planN hb ss (fun i => draws.getD i 0) i).bind _ = _
          rw [hpl]
          show ((goodOf hb ss (shAt ss i) pl)[(draws.getD i 0 % ((goodOf hb ss (shAt ss i) pl).length : Int)).toNat]?).map _ = _
          rw [hgd, hm]
          rfl
        · rw [List.map_append]
          exact daa_app (daa_del l8 (daa_ex ((gG1.trans e16).trans s8.an) gx)) (.cons (da_del a8 l8) .nil)
  · rintro σ' H' ⟨x4, x5, x6, pl, xs, G', rfl, hpl, S, gL', hL, gx⟩
    obtain ⟨S1, aL⟩ := S.seal nL gL' hL gx
    refine d_ret (K := K) (ed_var rfl aL) S1.inn fun v H5 G5 s5 a5 => q v H5 G5 (S1.trans s5) ?_
    unfold planD
    rw [show ss.length = ((ss.map encS).length : Int).toNat by omega, hpl]
    exact a5
end
end K2

set_option Elab.async false
set_option linter.all false
set_option maxRecDepth 100000
set_option maxHeartbeats 4000000
namespace K2
open PySem PySem.Spec PyProof.Rows L2 Evl Tw
/-! a plan that the law picks is one -/
theorem mem_deep {h : Hb} {s : Sh} {n : Int} (hn : n ∈ deep h s) : 0 ≤ n ∧ n ≤ h.last ∧ depthAt h n ≥ s.dr := by
  obtain ⟨i, hi, rfl⟩ := List.mem_map.mp hn
  obtain ⟨h1, h2⟩ := List.mem_filter.mp hi
  have := List.mem_range.mp h1
  exact ⟨by omega, by omega, of_decide_eq_true h2⟩
theorem mem_moves {h : Hb} {s : Sh} {m : Mv} (hm : m ∈ movesOf h s) : m.a ∈ deep h s ∧ m.o ∈ deep h s ∧ ∃ b : Nat, b < h.be.length ∧ m.b = (b : Int) ∧ okM h s m.a m.o b = true := by
  obtain ⟨a, ha, hm⟩ := List.mem_flatMap.mp hm
  obtain ⟨o, ho, hm⟩ := List.mem_flatMap.mp hm
  obtain ⟨b, hb, rfl⟩ := List.mem_map.mp hm
  obtain ⟨h1, h2⟩ := List.mem_filter.mp hb
  exact ⟨ha, ho, b, List.mem_range.mp h1, rfl, h2⟩
theorem apart_share {x y : Mv} (h : apart x y = true) : share x y = false := by
  unfold apart at h
  unfold share
  simp only [Bool.or_eq_true, decide_eq_true_eq] at h
  simp only [Bool.and_eq_false_iff, decide_eq_false_iff_not]
  rcases h with h | h | h
  · exact .inl h
  · exact .inr (.inr (by omega))
  · exact .inr (.inl (by omega))
theorem word_none {h : Hb} {s : Sh} {m : Mv} {before : List Mv} (hm : m ∈ movesOf h s) (ha : before.all (apart m) = true) : wordOf h s m before = .none := by
  obtain ⟨h1, h2, b, hb, e, hk⟩ := mem_moves hm
  have d1 := mem_deep h1
  have d2 := mem_deep h2
  unfold okM at hk
  simp only [Bool.and_eq_true, decide_eq_true_eq] at hk
  have e1 : wEarly s m = false := by
    unfold wEarly
    simp only [Bool.or_eq_false_iff, decide_eq_false_iff_not]
    omega
  have e2 : wLate h m = false := by
    unfold wLate
    simp only [decide_eq_false_iff_not]
    omega
  have e3 : wBerth h s m = false := by
    unfold wBerth
    rw [e, Int.toNat_natCast]
    simp only [Bool.or_eq_false_iff, Bool.not_eq_false', Bool.and_eq_true, decide_eq_true_eq, decide_eq_false_iff_not]
    omega
  have e4 : wDepth h s m = false := by
    unfold wDepth
    simp only [Bool.or_eq_false_iff, decide_eq_false_iff_not]
    omega
  have e5 : before.any (share m) = false := by
    rw [List.any_eq_false]
    intro y hy
    rw [apart_share (List.all_eq_true.mp ha y hy)]
    exact Bool.false_ne_true
  unfold wordOf
  rw [e1, e2, e3, e4, e5]
  rfl
theorem planN_all {h : Hb} {ss : List Sh} {D : Nat → Int} : ∀ {k : Nat} {pl : List Mv}, planN h ss D k = some pl → fits h ss pl = true ∧ ∀ i m, pl[i]? = some m → m ∈ movesOf h (shAt ss i) ∧ (pl.take i).all (apart m) = true
  | 0, pl, e => by
    cases Option.some.inj e
    exact ⟨rfl, fun i m hm => by simp at hm⟩
  | k + 1, pl, e => by
    obtain ⟨p0, h0, e1⟩ := Option.bind_eq_some_iff.mp e
    obtain ⟨m, hm, rfl⟩ := Option.map_eq_some_iff.mp e1
    obtain ⟨_, ih⟩ := planN_all h0
    have l0 := planN_len h0
    obtain ⟨hmem, hc⟩ := List.mem_filter.mp (List.mem_of_getElem? hm)
    obtain ⟨hap, hfit⟩ := Bool.and_eq_true_iff.mp hc
    refine ⟨hfit, fun i m2 hi => ?_⟩
    by_cases z : i < k
    · rw [List.getElem?_append_left (by omega)] at hi
      obtain ⟨a, b⟩ := ih i m2 hi
      refine ⟨a, ?_⟩
      rw [List.take_append_of_le_length (by omega)]
      exact b
    · have hik : i = k := by
        have := (List.getElem?_eq_some_iff.mp hi).1
        rw [List.length_append] at this
        have : i < k + 1 := by
          have e : ([m] : List Mv).length = 1 := rfl
          omega
        omega
      subst hik
      rw [List.getElem?_append_right (by omega), l0, Nat.sub_self] at hi
      cases Option.some.inj hi
      refine ⟨hmem, ?_⟩
      rw [List.take_append_of_le_length (by omega), List.take_of_length_le (by omega)]
      exact hap
theorem plan_good {h : Hb} {ss : List Sh} {D : Nat → Int} {p : List Mv} (e : planN h ss D ss.length = some p) : wrongIn h ss p = .none := by
  obtain ⟨hf, ha⟩ := planN_all e
  have hl := planN_len e
  have f0 : (List.range ss.length).find? (bad h ss p) = none := List.find?_eq_none.mpr fun i hi => by
    have hi := List.mem_range.mp hi
    have hm : p[i]? = some p[i] := List.getElem?_eq_getElem (by omega)
    have hs : ss[i]? = some ss[i] := List.getElem?_eq_getElem hi
    obtain ⟨h1, h2⟩ := ha i p[i] hm
    have hsa : shAt ss i = ss[i] := by
      unfold shAt
      rw [List.getD_eq_getElem?_getD, hs]
      rfl
    rw [hsa] at h1
    unfold bad wordAt
    rw [hs, hm]
    show ¬ (!isN (wordOf h ss[i] p[i] (p.take i))) = true
    rw [word_none h1 h2]
    exact Bool.false_ne_true
  have each : ∀ n ∈ hoursOf p, tooT h ss p n = false ∧ tooP h p n = false := fun n hn => by
    have h1 := List.all_eq_true.mp hf n (mem_asc.mp hn)
    unfold tooMuch at h1
    rw [Bool.not_eq_true', Bool.or_eq_false_iff] at h1
    exact ⟨h1.2, h1.1⟩
  unfold wrongIn
  rw [f0]
  unfold together
  show (match (hoursOf p).find? (tooT h ss p) with | some n => _ | none => _) = _
  rw [List.find?_eq_none.mpr fun n hn => by rw [(each n hn).1]; exact Bool.false_ne_true]
  show (match (hoursOf p).find? (tooP h p) with | some n => _ | none => _) = _
  rw [List.find?_eq_none.mpr fun n hn => by rw [(each n hn).2]; exact Bool.false_ne_true]
/-- what its hours lie within -/
theorem plan_hours {h : Hb} {ss : List Sh} {D : Nat → Int} {p : List Mv} (e : planN h ss D ss.length = some p) : ∀ m ∈ p, 0 ≤ m.o ∧ m.o ≤ h.last ∧ 0 ≤ m.a := by
  intro m hm
  obtain ⟨i, hi, rfl⟩ := List.getElem_of_mem hm
  obtain ⟨h1, _⟩ := (planN_all e).2 i p[i] (List.getElem?_eq_getElem hi)
  obtain ⟨a, o, _⟩ := mem_moves h1
  have := mem_deep a
  have := mem_deep o
  omega
end K2

set_option Elab.async false
set_option linter.all false
set_option maxRecDepth 100000
set_option maxHeartbeats 4000000
namespace K2
open PySem PySem.Spec PyProof.Rows L2 Evl Tw
section
variable {P : Program} {w : World} {K : PySem.W.Frag} {mg : Str → Option Value} {base : Heap} {k : Nat}
def farH (h : Hb) (n : Int) : Hb := if n % 3 > 0 then h else ⟨h.dp.map (· + 32), h.be, h.tugs, h.pil, 40 - n / 6 % 9⟩
def farS1 (n : Int) (s : Sh) : Sh := ⟨5 * s.r, s.le, s.dr + 32, s.st + n / 3 % 2, s.tu, s.se, s.li⟩
def farS (ss : List Sh) (n : Int) : List Sh := if n % 3 > 0 then ss else ss.map (farS1 n)
def R_far : List PyData → PyData → Prop := fun ds d => ∃ (h : Hb) (ss : List Sh) (n : Int), ds = [encH h, encSs ss, .int n] ∧ h.dp.length ≤ 100 ∧ ss.length ≤ 100 ∧ d = .tuple [encH (farH h n), encSs (farS ss n)]
theorem ok__law_far (T : Tx K mg) : FnOk P w K mg base CX0 (k + 1) T.f__law_far T.d__law_far ["harbour", "ships", "draw"] (spF K R_far) := by
  refine T.F__law_far.ok sc_law_far (spF_len ?_) (fun cdv A outer s H vs Q E hr h => ?_)
  · rintro ds d ⟨_, _, _, rfl, _⟩
    rfl
  obtain ⟨G, ds, d, x, g, ⟨hb, ss, n, rfl, hd, hs, rfl⟩, q⟩ := h
  obtain ⟨v0, r, rfl, g0, g⟩ := daa_inv g
  obtain ⟨v1, r, rfl, g1, g⟩ := daa_inv g
  obtain ⟨v2, r, rfl, g2, g⟩ := daa_inv g
  cases daa_inv0 g
  cases g2
  refine ⟨_, (pss_cons (ps_if (pt_cmpR op_gt (pe_op op_mod (pe_callTy call_int1 (by rfl) T.m_int (by decide +kernel) (pa_cons (pv 2) pa_nil)) pe_int) pe_int (nomark _)) (pss_one (ps_ret (pe_tup (pa_cons (pv 0) (pa_cons (pv 1) pa_nil))))) pss_nil)
    (pss_cons (ps_asg (pv 0) (pg_tup (by rfl) (pgs_cons (pg_name (i := 3) sc_law_far.nd rfl (.inl rfl)) (pgs_cons (pg_name (i := 4) sc_law_far.nd rfl (.inl rfl)) (pgs_cons (pg_name (i := 5) sc_law_far.nd rfl (.inl rfl)) (pgs_cons (pg_name (i := 6) sc_law_far.nd rfl (.inl rfl)) (pgs_cons (pg_name (i := 7) sc_law_far.nd rfl (.inl rfl)) pgs_nil)))))))
    (pss_cons (ps_set (i := 8) sc_law_far.nd rfl (.inl rfl) (pe_lst pa_nil))
    (pss_cons (ps_for PassesOwn.never rfl (pi_list (pv 1)) (pg_tup (by rfl) (pgs_cons (pg_name (i := 9) sc_law_far.nd rfl (.inl rfl)) (pgs_cons (pg_name (i := 10) sc_law_far.nd rfl (.inl rfl)) (pgs_cons (pg_name (i := 11) sc_law_far.nd rfl (.inl rfl)) (pgs_cons (pg_name (i := 12) sc_law_far.nd rfl (.inl rfl)) (pgs_cons (pg_name (i := 13) sc_law_far.nd rfl (.inl rfl)) (pgs_cons (pg_name (i := 14) sc_law_far.nd rfl (.inl rfl)) (pgs_cons (pg_name (i := 15) sc_law_far.nd rfl (.inl rfl)) pgs_nil))))))))
      (pss_one (ps_expr (pe_bm PySem.F.plainAttrs_list PySem.F.slot_list_append PySem.F.type_list_append mt_append (pv 8) (pa_cons (pe_tup (pa_cons (pe_op op_mul pe_int (pv 9)) (pa_cons (pv 10) (pa_cons (pe_op op_add (pv 11) pe_int) (pa_cons (pe_op op_add (pv 12) (pe_op op_mod (pe_callTy call_int1 (by rfl) T.m_int (by decide +kernel) (pa_cons (pe_op op_fdiv (pv 2) pe_int) pa_nil)) pe_int)) (pa_cons (pv 13) (pa_cons (pv 14) (pa_cons (pv 15) pa_nil)))))))) pa_nil)))))
    (pss_one (ps_ret (pe_tup (pa_cons (pe_tup (pa_cons (pe_lc (own := [("depth", 16)]) (g := gName 16) (tt := tYes) rfl sc_law_far.nd (pi_list (pv 3)) (blkOk_by (N := N__law_far) (sc := defScope s__law_far) (by decide +kernel)) (fun _ _ _ _ _ => (pg_name (i := 16) sc_law_far.nd rfl (.inl rfl))) (fun _ _ _ _ _ => pts_nil) (fun _ _ _ _ _ => (pe_op op_add (pv 16) pe_int))) (pa_cons (pv 4) (pa_cons (pv 5) (pa_cons (pv 6) (pa_cons (pe_op op_sub pe_int (pe_op op_mod (pe_callTy call_int1 (by rfl) T.m_int (by decide +kernel) (pa_cons (pe_op op_fdiv (pv 2) pe_int) pa_nil)) pe_int)) pa_nil)))))) (pa_cons (pv 8) pa_nil))))))))), ?_⟩
  refine d_if (et_cmp0 (K := K) (ed_mod (ed_toInt (ed_var rfl (.int n))) ed_int (by decide)) ed_int) x (fun e1 H1 x1 => ?_) fun e1 H1 x1 => ?_
  · have e2 := of_decide_eq_true e1
    refine d_ret (K := K) (ed_tup (eda_cons (ed_var rfl g0) fun G2 x2 => eda_cons (ed_var rfl (da_ex x2 g1)) fun _ _ => eda_nil) (by show 2 ≤ 100000; decide)) (x.trans x1) fun v H2 G2 s2 a2 => q v H2 G2 (s2.back x1) ?_
    unfold farH farS
    rw [if_pos e2, if_pos e2]
    exact a2
  have e2 : ¬ n % 3 > 0 := of_decide_eq_false e1
  refine d_unp (K := K) (ed_var rfl g0) (x.trans x1) rfl fun vs H2 G2 s2 a => ?_
  obtain ⟨u0, r, rfl, a0, a⟩ := daa_inv a
  obtain ⟨u1, r, rfl, a1, a⟩ := daa_inv a
  obtain ⟨u2, r, rfl, a2, a⟩ := daa_inv a
  obtain ⟨u3, r, rfl, a3, a⟩ := daa_inv a
  obtain ⟨u4, r, rfl, a4, a⟩ := daa_inv a
  cases daa_inv0 a
  cases a2; cases a3; cases a4
  refine ⟨_, _, rfl, _, _, rfl, _, _, rfl, _, _, rfl, _, _, rfl, rfl, ?_⟩
  refine at_state (σ' := [some v0, some v1, some (.int n), some u0, some u1, some (.int hb.tugs), some (.int hb.pil), some (.int hb.last), none, none, none, none, none, none, none, none, none]) (by kernel_rfl) ?_
  have S2 : Sep G H H2 G2 := s2.back x1
  refine d_new s2.inn fun L nL2 gL xL yL => ?_
  have nL : H L = none := fresh_back S2.up nL2
  refine d_forE (K := K) (G := G2) (ds := ss.map encS) (ed_var rfl (da_ex s2.an g1)) xL fun H3 G3 s3 => ?_
  have gL3 : G3 L = none := s3.sep L gL (by rw [upd_same]; exact Option.some_ne_none _)
  have S3 : Sep G H H3 G3 := (⟨S2.up.trans yL, S2.an, xL, S2.sep⟩ : Sep G H _ G2).trans s3
  refine ⟨fun i σ' H' => ∃ x9 x10 x11 x12 x13 x14 x15 xs G', σ' = [some v0, some v1, some (.int n), some u0, some u1, some (.int hb.tugs), some (.int hb.pil), some (.int hb.last), some (.ref L), x9, x10, x11, x12, x13, x14, x15, none] ∧ Sep G H H' G' ∧ Ex G3 G' ∧ G' L = none ∧ H' L = some (.lst xs) ∧ xs.length = i ∧ DaAll K G' xs ((ss.take i).map fun s => encS (farS1 n s)), ⟨_, _, _, _, _, _, _, [], G3, rfl, S3, Ex.refl _, gL3, s3.up _ _ upd_same, rfl, .nil⟩, (fun i σ' H' pv => by
    obtain ⟨_, _, _, _, _, _, _, _, _, _, s, e, _⟩ := pv
    exact e.trans s.inn), ?_, ?_⟩
  · rintro i d v σ' H' hdd gd ⟨x9, x10, x11, x12, x13, x14, x15, xs, G', rfl, S, e3, gL', hL, lx, gx⟩
    rw [List.getElem?_map] at hdd
    obtain ⟨sh, hsh, rfl⟩ := Option.map_eq_some_iff.mp hdd
    have hi := (List.getElem?_eq_some_iff.mp hsh).1
    refine gs7 gd (e3.trans S.inn) ⟨_, _, rfl, _, _, rfl, _, _, rfl, _, _, rfl, _, _, rfl, _, _, rfl, _, _, rfl, rfl, ?_⟩
    refine at_state (σ' := [some v0, some v1, some (.int n), some u0, some u1, some (.int hb.tugs), some (.int hb.pil), some (.int hb.last), some (.ref L), some (.int sh.r), some (.int sh.le), some (.int sh.dr), some (.int sh.st), some (.int sh.tu), some (.int sh.se), some (.int sh.li), none]) (by kernel_rfl) ?_
    refine d_app1 (K := K) (G := G') (d := encS (farS1 n sh)) gL' hL gx rfl (ed_tup (eda_cons (ed_mul ed_int (ed_var rfl (.int sh.r)) (.inl ⟨by decide, by decide⟩)) fun _ _ => eda_cons (ed_var rfl (.int sh.le)) fun _ _ => eda_cons (ed_add (ed_var rfl (.int sh.dr)) ed_int) fun _ _ => eda_cons (ed_add (ed_var rfl (.int sh.st)) (ed_mod (ed_toInt (ed_fdiv (ed_var rfl (.int n)) ed_int ⟨by decide, by decide⟩)) ed_int (by decide))) fun _ _ => eda_cons (ed_var rfl (.int sh.tu)) fun _ _ => eda_cons (ed_var rfl (.int sh.se)) fun _ _ => eda_cons (ed_var rfl (.int sh.li)) fun _ _ => eda_nil) (by show 7 ≤ 100000; decide)) S.inn (by omega) fun v9 H5 G5 s5 o5 a5 g5 e5 => ?_
    refine ⟨_, _, _, _, _, _, _, xs ++ [v9], G5, rfl, (S.trans s5).mut nL o5, e3.trans s5.an, o5, upd_same, by rw [List.length_append, lx]; rfl, ?_⟩
    rw [take_one hsh, List.map_append]
    exact g5
  · rintro σ' H' ⟨x9, x10, x11, x12, x13, x14, x15, xs, G', rfl, S, e3, gL', hL, lx, gx⟩
    rw [List.length_map, List.take_length] at gx
    obtain ⟨S', aL⟩ := S.seal nL gL' hL gx
    generalize hG1 : upd G' L (.lst xs) = G1 at S' aL
    have e1' : Ex G3 G1 := e3.trans (by rw [← hG1]; exact Ex.new gL')
    have c0 := da_ex (s3.an.trans e1') a0
    have c1 := da_ex (s3.an.trans e1') a1
    refine d_ret (K := K) (ed_tup (eda_cons (ed_tup (eda_cons (ed_lcL (fun d => match d with | .int j => .int (j + 32) | d => d) (ed_var rfl c0) (by rw [List.length_map]; omega) (fun _ => rfl) ?c1) fun G4 x4 => eda_cons (ed_var rfl (da_ex x4 c1)) fun _ _ => eda_cons (ed_var rfl (.int hb.tugs)) fun _ _ => eda_cons (ed_var rfl (.int hb.pil)) fun _ _ => eda_cons (ed_sub ed_int (ed_mod (ed_toInt (ed_fdiv (ed_var rfl (.int n)) ed_int ⟨by decide, by decide⟩)) ed_int (by decide))) fun _ _ => eda_nil) (by show 5 ≤ 100000; decide)) fun G4 x4 => eda_cons (ed_var rfl (da_ex x4 aL)) fun _ _ => eda_nil) (by show 2 ≤ 100000; decide)) S'.inn fun v H8 G8 s8 a8 => q v H8 G8 (S'.trans s8) ?_
    case c1 =>
      intro d v G4 hd4 x4 gd
      obtain ⟨j, _, rfl⟩ := List.mem_map.mp hd4
      exact ed_add (ed_var rfl gd) ed_int
    unfold farH farS
    rw [if_neg e2, if_neg e2]
    unfold encH encSs
    rw [List.map_map, List.map_map]
    rw [List.map_map] at a8
    exact a8
end
end K2

set_option Elab.async false
set_option linter.all false
set_option maxRecDepth 100000
set_option maxHeartbeats 4000000
namespace K2
open PySem PySem.Spec PyProof.Rows L2 Evl Tw
/-! the hours' costs add up to the cost -/
def cnt (lo hi : Int) : Nat → Int
  | 0 => 0
  | n + 1 => cnt lo hi n + (bif decide (lo ≤ (n : Int)) && decide ((n : Int) < hi) then 1 else 0)
theorem cnt_is {lo hi : Int} (h0 : 0 ≤ lo) (h1 : lo ≤ hi) : ∀ n : Nat, cnt lo hi n = if (n : Int) ≤ lo then 0 else if (n : Int) ≤ hi then n - lo else hi - lo
  | 0 => by rw [if_pos (by omega)]; rfl
  | n + 1 => by
    show cnt lo hi n + (bif decide (lo ≤ (n : Int)) && decide ((n : Int) < hi) then 1 else 0) = _
    rw [cnt_is h0 h1 n]
    by_cases a : lo ≤ (n : Int)
    · by_cases b : (n : Int) < hi
      · rw [decide_eq_true a, decide_eq_true b]
        show _ + 1 = _
        split <;> split <;> (try split) <;> omega
      · rw [decide_eq_true a, decide_eq_false b]
        show _ + 0 = _
        split <;> split <;> (try split) <;> omega
    · rw [decide_eq_false a]
      show _ + 0 = _
      split <;> split <;> (try split) <;> omega
theorem cnt_all {lo hi : Int} {n : Nat} (h0 : 0 ≤ lo) (h1 : lo ≤ hi) (h2 : hi ≤ n) : cnt lo hi n = hi - lo := by
  rw [cnt_is h0 h1]
  split
  · omega
  · split <;> omega
theorem sum_cnt {lo hi c : Int} : ∀ n : Nat, ((List.range n).map fun i => bif decide (lo ≤ ((i : Nat) : Int)) && decide (((i : Nat) : Int) < hi) then c else 0).sum = cnt lo hi n * c
  | 0 => by show (0 : Int) = 0 * c; rw [Int.zero_mul]
  | n + 1 => by
    rw [List.range_succ, List.map_append, List.sum_append, sum_cnt n]
    show _ + ((bif decide (lo ≤ (n : Int)) && decide ((n : Int) < hi) then c else 0) + 0) = (cnt lo hi n + (bif decide (lo ≤ (n : Int)) && decide ((n : Int) < hi) then 1 else 0)) * c
    cases decide (lo ≤ (n : Int)) && decide ((n : Int) < hi)
    · show _ + (0 + 0) = (_ + 0) * c
      rw [Int.add_zero, Int.add_zero, Int.add_zero]
    · show _ + (c + 0) = (_ + 1) * c
      rw [Int.add_mul, Int.one_mul, Int.add_zero]
theorem sum_two {f g : Nat → Int} : ∀ n : Nat, ((List.range n).map fun i => f i + g i).sum = ((List.range n).map f).sum + ((List.range n).map g).sum
  | 0 => rfl
  | n + 1 => by
    rw [List.range_succ, List.map_append, List.sum_append, sum_two n, List.map_append, List.sum_append, List.map_append, List.sum_append]
    show _ + (f n + g n + 0) = (_ + (f n + 0)) + (_ + (g n + 0))
    omega
theorem sum_swap {α : Type} {f : Nat → α → Int} {n : Nat} : ∀ l : List α, ((List.range n).map fun i => (l.map (f i)).sum).sum = (l.map fun z => ((List.range n).map fun i => f i z).sum).sum
  | [] => by
    show ((List.range n).map fun _ => (0 : Int)).sum = 0
    induction n with
    | zero => rfl
    | succ n ih =>
      rw [List.range_succ, List.map_append, List.sum_append, ih]
      rfl
  | z :: l => by
    show ((List.range n).map fun i => f i z + (l.map (f i)).sum).sum = ((List.range n).map fun i => f i z).sum + _
    rw [sum_two, sum_swap l]
    rfl
theorem hours_add {ss : List Sh} {p : List Mv} (h : ∀ z ∈ ss.zip p, 0 ≤ z.1.r ∧ z.1.r ≤ z.2.a ∧ 0 ≤ z.2.a ∧ 0 ≤ z.1.st ∧ z.2.a + z.1.st < z.2.o ∧ z.2.o ≤ lastOut p) : (((List.range (lastOut p + 1).toNat).map fun i => costIn ss p (i : Nat))).sum = costOf ss p := by
  unfold costIn costOf
  rw [sum_swap (f := fun i z => inHour (i : Nat) z)]
  congr 1
  apply List.map_congr_left
  intro z hz
  obtain ⟨a1, a2, a3, a4, a5, a6⟩ := h z hz
  have e : ∀ i : Nat, inHour (i : Nat) z = (bif decide (z.1.r ≤ ((i : Nat) : Int)) && decide (((i : Nat) : Int) < z.2.a) then z.1.se else 0) + (bif decide (z.2.a + z.1.st + 1 ≤ ((i : Nat) : Int)) && decide (((i : Nat) : Int) < z.2.o) then z.1.li else 0) := fun i => by
    unfold inHour
    have : decide (z.2.a + z.1.st < (i : Int)) = decide (z.2.a + z.1.st + 1 ≤ (i : Int)) := by
      by_cases c : z.2.a + z.1.st < (i : Int)
      · rw [decide_eq_true c, decide_eq_true (by omega)]
      · rw [decide_eq_false c, decide_eq_false (by omega)]
    rw [this]
  rw [show (fun i : Nat => inHour (i : Nat) z) = _ from funext e, sum_two, sum_cnt, sum_cnt, cnt_all a1 a2 (by omega), cnt_all (by omega) (by omega) (by omega)]
  unfold oneCost
  rw [show z.2.o - (z.2.a + z.1.st + 1) = z.2.o - z.2.a - z.1.st - 1 by omega]
theorem mem_zip_facts {h : Hb} {ss : List Sh} {D : Nat → Int} {p : List Mv} (e : planN h ss D ss.length = some p) (hs : ∀ s ∈ ss, 0 ≤ s.r ∧ 0 ≤ s.st) : ∀ z ∈ ss.zip p, 0 ≤ z.1.r ∧ z.1.r ≤ z.2.a ∧ 0 ≤ z.2.a ∧ 0 ≤ z.1.st ∧ z.2.a + z.1.st < z.2.o ∧ z.2.o ≤ lastOut p := by
  rintro ⟨s, m⟩ hz
  obtain ⟨i, hi, he⟩ := List.getElem_of_mem hz
  have hz2 : (ss.zip p)[i]? = some (s, m) := by rw [List.getElem?_eq_getElem hi, he]
  obtain ⟨h1, h2⟩ := List.getElem?_zip_eq_some.mp hz2
  obtain ⟨hm, _⟩ := (planN_all e).2 i m h2
  have hsa : shAt ss i = s := by
    unfold shAt
    rw [List.getD_eq_getElem?_getD, h1]
    rfl
  rw [hsa] at hm
  obtain ⟨da, dd, b, hb, eb, hk⟩ := mem_moves hm
  have := mem_deep da
  unfold okM at hk
  simp only [Bool.and_eq_true, decide_eq_true_eq] at hk
  have := hs s (List.mem_of_getElem? h1)
  have hlo : m.o ≤ lastOut p := mx_le (List.mem_map_of_mem (List.mem_of_getElem? h2))
  exact ⟨by show 0 ≤ s.r; omega, by show s.r ≤ m.a; omega, by show 0 ≤ m.a; omega, by show 0 ≤ s.st; omega, by show m.a + s.st < m.o; omega, hlo⟩
end K2

set_option Elab.async false
set_option linter.all false
set_option maxRecDepth 100000
set_option maxHeartbeats 4000000
namespace K2
open PySem PySem.Spec PyProof.Rows L2 Evl Tw
section
variable {P : Program} {w : World} {K : PySem.W.Frag} {mg : Str → Option Value} {base : Heap}
theorem lst_upd {H : Hp} {l m : Addr} {ys zs : List V} {n : Nat} (h : ∃ xs, H m = some (.lst xs) ∧ xs.length ≤ n) (hl : H l = some (.lst ys)) (hz : zs.length ≤ n) : ∃ xs, (upd H l (.lst zs)) m = some (.lst xs) ∧ xs.length ≤ n := by
  by_cases q : m = l
  · subst q
    exact ⟨zs, upd_same, hz⟩
  · obtain ⟨xs, h, hn⟩ := h
    exact ⟨xs, by rw [upd_ne q]; exact h, hn⟩
structure HbB (h : Hb) : Prop where
  d0 : 0 < h.dp.length
  d1 : h.dp.length ≤ 12
  d2 : ∀ n ∈ h.dp, 0 ≤ n ∧ n ≤ 100
  b1 : h.be.length ≤ 2
  b2 : ∀ n ∈ h.be, 0 ≤ n ∧ n ≤ 100
  t : 0 ≤ h.tugs ∧ h.tugs ≤ 100
  p : 0 ≤ h.pil ∧ h.pil ≤ 100
  l : 0 ≤ h.last ∧ h.last ≤ 60
def ShB (s : Sh) : Prop := ∀ n ∈ shL s, 0 ≤ n ∧ n ≤ 100
theorem harb_ok (D : Nat → Int) : HbB (harbN D) := by
  have m0 := md (x := D 0) (m := 6) (by decide)
  have m1 := md (x := D 9) (m := 2) (by decide)
  have m2 := md (x := D 10) (m := 5) (by decide)
  have m3 := md (x := D 11) (m := 3) (by decide)
  have m4 := md (x := D 12) (m := 9) (by decide)
  have l1 : (harbN D).dp.length = (1 + D 0 % 6).toNat := by unfold harbN; rw [List.length_map, List.length_range]
  have l2 : (harbN D).be.length = (1 + D 9 % 2).toNat := by unfold harbN; rw [List.length_map, List.length_range]
  refine ⟨by omega, by omega, fun n hn => ?_, by omega, fun n hn => ?_, ?_, ?_, ?_⟩
  · obtain ⟨i, _, rfl⟩ := List.mem_map.mp hn
    have := md (x := D (1 + i)) (m := 7) (by decide)
    omega
  · obtain ⟨i, _, rfl⟩ := List.mem_map.mp hn
    have := md (x := D (7 + i)) (m := 5) (by decide)
    omega
  · show 0 ≤ D 10 % 5 ∧ D 10 % 5 ≤ 100; omega
  · show 0 ≤ 1 + D 11 % 3 ∧ 1 + D 11 % 3 ≤ 100; omega
  · show 0 ≤ 4 + D 12 % 9 ∧ 4 + D 12 % 9 ≤ 60; omega
theorem far_ok {h : Hb} (B : HbB h) (hd : ∀ n ∈ h.dp, 0 ≤ n ∧ n ≤ 60) (n : Int) : HbB (farH h n) := by
  unfold farH
  split
  · exact B
  · have m := md (x := n / 6) (m := 9) (by decide)
    refine ⟨by show 0 < (h.dp.map (· + 32)).length; rw [List.length_map]; exact B.d0, by show (h.dp.map (· + 32)).length ≤ 12; rw [List.length_map]; exact B.d1, fun k hk => ?_, B.b1, B.b2, B.t, B.p, ?_⟩
    · obtain ⟨j, hj, rfl⟩ := List.mem_map.mp hk
      have := hd j hj
      omega
    · show 0 ≤ 40 - n / 6 % 9 ∧ 40 - n / 6 % 9 ≤ 60
      omega
theorem ship_ok (D : Nat → Int) : ∀ n ∈ shL (shipN D), 0 ≤ n ∧ n ≤ 12 := by
  have m0 := md (x := D 0) (m := 5) (by decide)
  have m1 := md (x := D 1) (m := 6) (by decide)
  have m2 := md (x := D 2) (m := 8) (by decide)
  have m3 := md (x := D 3) (m := 3) (by decide)
  have m4 := md (x := D 4) (m := 3) (by decide)
  have m5 := md (x := D 5) (m := 10) (by decide)
  have m6 := md (x := D 6) (m := 10) (by decide)
  intro n hn
  simp only [shL, shipN, List.mem_cons, List.not_mem_nil, or_false] at hn
  rcases hn with rfl | rfl | rfl | rfl | rfl | rfl | rfl <;> omega
theorem farS_ok {ss : List Sh} (h : ∀ s ∈ ss, ∀ n ∈ shL s, 0 ≤ n ∧ n ≤ 12) (n : Int) : ∀ s ∈ farS ss n, ShB s := by
  intro s hs
  unfold farS at hs
  split at hs
  · intro k hk
    have := h s hs k hk
    omega
  · obtain ⟨s0, h0, rfl⟩ := List.mem_map.mp hs
    have z := h s0 h0
    simp only [shL, List.mem_cons, List.not_mem_nil, or_false, forall_eq_or_imp, forall_eq] at z
    have m := md (x := n / 3) (m := 2) (by decide)
    intro k hk
    simp only [shL, farS1, List.mem_cons, List.not_mem_nil, or_false] at hk
    rcases hk with rfl | rfl | rfl | rfl | rfl | rfl | rfl <;> omega
theorem farS_len {ss : List Sh} {n : Int} : (farS ss n).length = ss.length := by
  unfold farS
  split
  · rfl
  · rw [List.length_map]
theorem ok_n {i : Int} (h : 0 ≤ i ∧ i ≤ 100) : Ok 0 17 (.int i) := ok_int (by omega) (by omega)
theorem ok_ns {ns : List Int} (h : ∀ n ∈ ns, 0 ≤ n ∧ n ≤ 100) : ∀ d ∈ ns.map PyData.int, Ok 0 17 d := by
  intro d hd
  obtain ⟨n, hn, rfl⟩ := List.mem_map.mp hd
  exact ok_n (h n hn)
theorem ok_all3 {h : Hb} {ss : List Sh} {p : List Mv} (B : HbB h) (hs : ∀ s ∈ ss, ShB s) (l1 : ss.length ≤ 3) (l2 : p.length ≤ 3) (hp : ∀ m ∈ p, ∀ n ∈ mvL m, 0 ≤ n ∧ n ≤ 100) : Ok 3 20000 (.tuple [encH h, encSs ss, encP p]) := by
  have b1 := B.d1
  have b2 := B.b1
  have h1 : Ok 2 2000 (encH h) := by
    refine ok_tup (n := 1) (w := 300) (fun d hm => ?_) (by show 5 * 301 ≤ 2000; decide)
    simp only [List.mem_cons, List.not_mem_nil, or_false] at hm
    rcases hm with rfl | rfl | rfl | rfl | rfl
    · exact ok_list (ok_ns B.d2) (by rw [List.length_map]; omega)
    · exact ok_list (ok_ns B.b2) (by rw [List.length_map]; omega)
    · exact (ok_n B.t).mono (by decide) (by decide)
    · exact (ok_n B.p).mono (by decide) (by decide)
    · exact (ok_n (by have := B.l; omega)).mono (by decide) (by decide)
  have h2 : Ok 2 2000 (encSs ss) := by
    refine ok_list (n := 1) (w := 200) (fun d hm => ?_) (by rw [List.length_map]; omega)
    obtain ⟨s, hs2, rfl⟩ := List.mem_map.mp hm
    exact ok_tup (ds := (shL s).map .int) (ok_ns (hs s hs2)) (by show 7 * 18 ≤ 200; decide)
  have h3 : Ok 2 2000 (encP p) := by
    refine ok_list (n := 1) (w := 200) (fun d hm => ?_) (by rw [List.length_map]; omega)
    obtain ⟨m, hm2, rfl⟩ := List.mem_map.mp hm
    exact ok_tup (ds := (mvL m).map .int) (ok_ns (hp m hm2)) (by show 3 * 18 ≤ 200; decide)
  refine ok_tup (n := 2) (w := 2000) (fun d hm => ?_) (by show 3 * 2001 ≤ 20000; decide)
  simp only [List.mem_cons, List.not_mem_nil, or_false] at hm
  rcases hm with rfl | rfl | rfl
  · exact h1
  · exact h2
  · exact h3
end
end K2

set_option Elab.async false
set_option linter.all false
set_option maxRecDepth 100000
set_option maxHeartbeats 4000000
namespace K2
open PySem PySem.Spec PyProof.Rows L2 Evl Tw
section
variable {P : Program} {w : World} {K : PySem.W.Frag} {mg : Str → Option Value} {base : Heap}
theorem d_asgL2 {σ : L2.St} {H : Hp} {D : Ends} {tz : TS} {i : Nat} {tA tB : TE} (h : tA σ H fun x H1 => tB σ H1 fun y H2 => 2 ≤ sizeLine ∧ ∀ p, H2 p = none → tz D (σ.set i (some (.ref p))) (upd H2 p (.lst [x, y]))) :
    tSeq (tAsg (tLst (tCons tA (tCons tB tNil))) (gName i)) tz D σ H := h
theorem vi_eq {x : V} : (!decide (x = x)) = false := by
  rw [decide_eq_true rfl]
  rfl
theorem in_hour {n : Int} {z : Sh × Mv} (h : ShB z.1) : 0 ≤ inHour n z ∧ inHour n z ≤ 200 := by
  have h1 := h z.1.se (by simp [shL])
  have h2 := h z.1.li (by simp [shL])
  unfold inHour
  cases decide (z.1.r ≤ n) && decide (n < z.2.a) <;> cases decide (z.2.a + z.1.st < n) && decide (n < z.2.o) <;> simp only [cond_true, cond_false] <;> omega
theorem sum_in {l : List (Sh × Mv)} {n : Int} (h : ∀ z ∈ l, ShB z.1) : 0 ≤ (l.map (inHour n)).sum ∧ (l.map (inHour n)).sum ≤ 200 * l.length := by
  induction l with
  | nil => exact ⟨Int.le_refl 0, Int.le_refl 0⟩
  | cons z r ih =>
    have i := ih fun y hy => h y (List.mem_cons_of_mem _ hy)
    have j := in_hour (n := n) (h z List.mem_cons_self)
    rw [List.map_cons, List.sum_cons, List.length_cons]
    omega
def pairAt (ss : List Sh) (p : List Mv) (i : Nat) : PyData := match (ss.zip p)[i]? with
  | some z => waitD z.1 z.2
  | none => .none
theorem pairs_is {ss : List Sh} {p : List Mv} (h : p.length = ss.length) : (List.range p.length).map (pairAt ss p) = (ss.zip p).map fun z => waitD z.1 z.2 := by
  apply List.ext_getElem?
  intro i
  rw [List.getElem?_map, List.getElem?_map]
  by_cases hi : i < p.length
  · rw [List.getElem?_range hi]
    have hz : i < (ss.zip p).length := by rw [List.length_zip]; omega
    unfold pairAt
    rw [List.getElem?_eq_getElem hz]
    show some (match (ss.zip p)[i]? with | some z => waitD z.1 z.2 | none => .none) = _
    rw [List.getElem?_eq_getElem hz]
    rfl
  · rw [List.getElem?_eq_none (by rw [List.length_range]; omega), List.getElem?_eq_none (by rw [List.length_zip]; omega)]
    rfl
theorem rv_isnot {a b : Bool} {H : Hp} : RV (fun x y H Q => ∃ a b, x = V.bl a ∧ y = V.bl b ∧ Q (.bl (!decide (a = b))) H) (.bl a) (.bl b) H (.bl (!decide (a = b))) := fun H1 _ Q q => ⟨a, b, rfl, rfl, q H1 (Ex.refl H1)⟩
def lawLevel : Nat := 6
theorem ok_law (T : Tx K mg) : FnG P w K mg base lawLevel T.f_law T.d_law ["script"] (spLaw K) := by
  refine fnG_of T.F_law sclaw spLaw_len (fun cdv A outer s H vs Q E gg hr h => ?_)
  have hu := hr.units
  obtain ⟨a, ns, rfl, hS, hl, q⟩ := h
  refine ⟨_, (pss_cons (ps_set (i := 1) sclaw.nd rfl (.inl rfl) (pe_call (ok_draws T) hr (by rfl) T.g__law_draws T.F__law_draws.kp T.b__law_draws .nil pass0 (pa_cons (pv 0) (pa_cons pe_int pa_nil))))
    (pss_cons (ps_set (i := 2) sclaw.nd rfl (.inl rfl) (pe_call (ok__law_harbour T) hr (by rfl) T.g__law_harbour T.F__law_harbour.kp T.b__law_harbour .nil pass0 (pa_cons (pv 1) pa_nil)))
    (pss_cons (ps_set (i := 3) sclaw.nd rfl (.inr rfl) (pe_call (ok__law_ships T) hr (by rfl) T.g__law_ships T.F__law_ships.kp T.b__law_ships .nil pass0 (pa_cons (pe_slice (slL K) (pv 1) (po_some pe_int) (po_some pe_int)) (pa_cons pe_int pa_nil))))
    (pss_cons (ps_asg (pe_call (ok__law_far T) hr (by rfl) T.g__law_far T.F__law_far.kp T.b__law_far .nil pass0 (pa_cons (pv 2) (pa_cons (pv 3) (pa_cons (pe_ix (ixl K) (pv 1) pe_int (fun _ _ => rfl)) pa_nil)))) (pg_tup (by rfl) (pgs_cons (pg_name (i := 2) sclaw.nd rfl (.inl rfl)) (pgs_cons (pg_name (i := 3) sclaw.nd rfl (.inr rfl)) pgs_nil))))
    (pss_cons (ps_set (i := 4) sclaw.nd rfl (.inr rfl) (pe_call (ok__law_plan T) hr (by rfl) T.g__law_plan T.F__law_plan.kp T.b__law_plan .nil pass0 (pa_cons (pv 2) (pa_cons (pv 3) (pa_cons (pe_slice (slL K) (pv 1) (po_some pe_int) (po_some pe_int)) pa_nil)))))
    (pss_cons (ps_if (pt_cmpR op_isN (pv 4) pe_non (nomark _)) (pss_one (ps_ret pe_bl)) pss_nil)
    (pss_cons (ps_set (i := 5) sclaw.nd rfl (.inl rfl) (pe_callB (reprK K gg hu) (by rfl) T.m_repr (by decide +kernel) (pa_cons (pe_tup (pa_cons (pv 2) (pa_cons (pv 3) (pa_cons (pv 4) pa_nil)))) pa_nil)))
    (pss_cons (ps_if (pt_cmpR op_isnot_bl (pe_call (ok_is_plan T) hr (by rfl) T.g_is_plan T.F_is_plan.kp T.b_is_plan .nil pass0 (pa_cons (pv 2) (pa_cons (pv 3) (pa_cons (pv 4) pa_nil)))) pe_bl (nomark _)) (pss_one (ps_ret pe_bl)) pss_nil)
    (pss_cons (ps_set (i := 6) sclaw.nd rfl (.inl rfl) (pe_call (ok__law_hours T) hr (by rfl) T.g__law_hours T.F__law_hours.kp T.b__law_hours .nil pass0 (pa_cons (pv 3) (pa_cons (pv 4) pa_nil))))
    (pss_cons (ps_setLc (i := 7) (own := [("k", 8)]) (g := gName 8) (tt := tYes) rfl sclaw.nd rfl rfl (sw_true rfl rfl rfl (by decide +kernel)) (pi_range1 (by rfl) T.m_range (pa_cons (pe_callB (lenK K) (by rfl) T.m_len (by decide +kernel) (pa_cons (pv 4) pa_nil)) pa_nil)) (blkOk_by (N := N_law) (sc := defScope s_law) (by decide +kernel)) (fun _ _ _ _ _ => (pg_name (i := 8) sclaw.nd rfl (.inl rfl))) (fun _ _ _ _ _ => pts_nil) (fun _ _ _ _ _ => (pe_tup (pa_cons (pe_op op_sub (pe_ix (ixt K) (pe_ix (ixl K) (pv 4) (pv 8) (fun _ _ => rfl)) pe_int (fun _ _ => rfl)) (pe_ix (ixt K) (pe_ix (ixl K) (pv 3) (pv 8) (fun _ _ => rfl)) pe_int (fun _ _ => rfl))) (pa_cons (pe_op op_sub (pe_op op_sub (pe_op op_sub (pe_ix (ixt K) (pe_ix (ixl K) (pv 4) (pv 8) (fun _ _ => rfl)) pe_int (fun _ _ => rfl)) (pe_ix (ixt K) (pe_ix (ixl K) (pv 4) (pv 8) (fun _ _ => rfl)) pe_int (fun _ _ => rfl))) pe_int) (pe_ix (ixt K) (pe_ix (ixl K) (pv 3) (pv 8) (fun _ _ => rfl)) pe_int (fun _ _ => rfl))) pa_nil)))))
    (pss_cons (ps_set (i := 9) sclaw.nd rfl (.inl rfl) (pe_lst (pa_cons (pv 7) (pa_cons (pv 6) pa_nil))))
    (pss_cons (ps_for PassesOwn.never rfl (pi_range1 (by rfl) T.m_range (pa_cons pe_int pa_nil)) (pg_name (i := 10) sclaw.nd rfl (.inl rfl))
      (pss_cons (ps_set (i := 11) sclaw.nd rfl (.inl rfl) (pe_lst (pa_cons (pe_call (ok_waits T) hr (by rfl) T.g_waits T.F_waits.kp T.b_waits .nil pass0 (pa_cons (pv 3) (pa_cons (pv 4) pa_nil))) (pa_cons (pe_call (ok_hour_costs T) hr (by rfl) T.g_hour_costs T.F_hour_costs.kp T.b_hour_costs .nil pass0 (pa_cons (pv 3) (pa_cons (pv 4) pa_nil))) pa_nil))))
      (pss_cons (ps_if (PW.pt (pw_or (pt_cmpR (neDK K hu) (pv 11) (pv 9) (nomark _)) (pw_or (pt_not (pt_val (pe_callB (isiK K) (by rfl) T.m_isinstance (by decide +kernel) (pa_cons (pe_ix (ixl K) (pv 11) pe_int (fun _ _ => rfl)) (pa_cons (pe_bltn (v := .ty "list") (by rfl) T.m_list (by decide +kernel) rfl) pa_nil))))) (pw_or1 (pt_not (pt_val (pe_callB (isiK K) (by rfl) T.m_isinstance (by decide +kernel) (pa_cons (pe_ix (ixl K) (pv 11) pe_int (fun _ _ => rfl)) (pa_cons (pe_bltn (v := .ty "list") (by rfl) T.m_list (by decide +kernel) rfl) pa_nil))))))))) (pss_one (ps_ret pe_bl)) pss_nil)
      (pss_one (ps_for PassesOwn.never rfl (pi_list (pv 11)) (pg_name (i := 12) sclaw.nd rfl (.inl rfl))
        (pss_one (ps_expr (pe_bm PySem.F.plainAttrs_list PySem.F.slot_list_append PySem.F.type_list_append mt_append (pv 12) (pa_cons pe_int pa_nil)))))))))
    (pss_cons (ps_set (i := 13) sclaw.nd rfl (.inl rfl) (pe_call (ok_cost_of T) hr (by rfl) T.g_cost_of T.F_cost_of.kp T.b_cost_of .nil pass0 (pa_cons (pv 3) (pa_cons (pv 4) pa_nil))))
    (pss_cons (ps_if (PW.pt (pw_or (pt_val (pe_callB (isiK K) (by rfl) T.m_isinstance (by decide +kernel) (pa_cons (pv 13) (pa_cons (pe_bltn (v := .ty "bool") (by rfl) T.m_bool (by decide +kernel) rfl) pa_nil)))) (pw_or (pt_not (pt_val (pe_callB (isiK K) (by rfl) T.m_isinstance (by decide +kernel) (pa_cons (pv 13) (pa_cons (pe_bltn (v := .ty "int") (by rfl) T.m_int (by decide +kernel) rfl) pa_nil))))) (pw_or (pt_cmpR op_ne (pv 13) (pe_call (ok__law_cost T) hr (by rfl) T.g__law_cost T.F__law_cost.kp T.b__law_cost .nil pass0 (pa_cons (pv 3) (pa_cons (pv 4) pa_nil))) (nomark _)) (pw_or1 (pt_cmpR op_ne (pv 13) (pe_callB (sumK K (by rfl)) (by rfl) T.m_sum (by decide +kernel) (pa_cons (pv 6) pa_nil)) (nomark _))))))) (pss_one (ps_ret pe_bl)) pss_nil)
    (pss_one (ps_ret (pe_cmpR op_eq (pe_callB (reprK K gg hu) (by rfl) T.m_repr (by decide +kernel) (pa_cons (pe_tup (pa_cons (pv 2) (pa_cons (pv 3) (pa_cons (pv 4) pa_nil)))) pa_nil)) (pv 5) (nomark _)))))))))))))))))), ?_⟩
  refine d_draws (n := 45) rfl rfl hS hl (by decide) fun ds p H1 dr e1 b1 => ?_
  have ld : ds.length = 45 := dr.1
  refine at_state (σ' := [some (.ref a), some (.ref p), none, none, none, none, none, none, none, none, none, none, none, none]) (by kernel_rfl) ?_
  refine d_asg (K := K) (G := H1) (ed_call (eda_cons (ed_var rfl b1) fun _ _ => eda_nil) ⟨ds, by show 13 ≤ ds.length; omega, rfl, rfl⟩) (Ex.refl H1) fun v2 H2 G2 s2 a2 => ?_
  have B0 := harb_ok fun i => ds.getD i 0
  have B1 : ∀ n ∈ (harbN fun i => ds.getD i 0).dp, 0 ≤ n ∧ n ≤ 60 := fun n hn => by
    obtain ⟨i, _, rfl⟩ := List.mem_map.mp hn
    have := md (x := (fun i => ds.getD i 0) (1 + i)) (m := 7) (by decide)
    omega
  generalize (harbN fun i => ds.getD i 0) = h0 at a2 B0 B1
  refine d_asg (K := K) (ed_call (eda_cons (ed_is (ed_cut (ed_var rfl (da_ex s2.an b1)) (fun _ _ => eo_some (ev_int (K := K) ed_int)) (fun _ _ => eo_some (ev_int (K := K) ed_int))) (congrArg PyData.list (cut_row (a := 13) (b := 35) (by omega) (by decide)))) fun _ _ => eda_cons ed_int fun _ _ => eda_nil) ⟨(ds.drop 13).take 22, 3, by show 22 ≤ _; rw [List.length_take, List.length_drop]; omega, by decide, by decide, rfl, rfl⟩) s2.inn fun v3 H3 G3 s3 a3 => ?_
  have S0 : ∀ s ∈ shipsN (fun i => ((ds.drop 13).take 22).getD i 0) 3, ∀ n ∈ shL s, 0 ≤ n ∧ n ≤ 12 := fun s hs => by
    obtain ⟨i, _, rfl⟩ := List.mem_map.mp hs
    exact ship_ok _
  obtain ⟨L00, L0⟩ : 1 ≤ (shipsN (fun i => ((ds.drop 13).take 22).getD i 0) 3).length ∧ (shipsN (fun i => ((ds.drop 13).take 22).getD i 0) 3).length ≤ 3 := by
    unfold shipsN
    rw [List.length_map, List.length_range]
    have := md (x := (fun i => ((ds.drop 13).take 22).getD i 0) 0) (m := 3) (by decide)
    omega
  generalize shipsN (fun i => ((ds.drop 13).take 22).getD i 0) 3 = ss0 at a3 S0 L0 L00
  have S23 := s2.trans s3
  refine at_state (σ' := [some (.ref a), some (.ref p), some v2, some v3, none, none, none, none, none, none, none, none, none, none]) (by kernel_rfl) ?_
  refine d_unp (K := K) (ed_call (eda_cons (ed_var rfl (da_ex s3.an a2)) fun G4 x4 => eda_cons (ed_var rfl (da_ex x4 a3)) fun G5 x5 => eda_cons (ed_ix (n := 38) (ed_var rfl (da_ex (S23.an.trans (x4.trans x5)) b1)) (fun _ _ => ed_int) rfl (dr_ix dr (by decide))) fun _ _ => eda_nil) ⟨h0, ss0, ds.getD 38 0, rfl, by have := B0.d1; omega, by omega, rfl⟩) s3.inn rfl fun vs H4 G4 s4 c => ?_
  obtain ⟨w2, r, rfl, c2, c⟩ := daa_inv c
  obtain ⟨w3, r, rfl, c3, c⟩ := daa_inv c
  cases daa_inv0 c
  refine ⟨_, _, rfl, _, _, rfl, rfl, ?_⟩
  have B := far_ok B0 B1 (ds.getD 38 0)
  have SB := farS_ok S0 (ds.getD 38 0)
  have L1 : (farS ss0 (ds.getD 38 0)).length ≤ 3 := by rw [farS_len]; exact L0
  have Lge : 1 ≤ (farS ss0 (ds.getD 38 0)).length := by rw [farS_len]; exact L00
  generalize farH h0 (ds.getD 38 0) = h at c2 B
  generalize farS ss0 (ds.getD 38 0) = ss at c3 SB L1 Lge
  refine at_state (σ' := [some (.ref a), some (.ref p), some w2, some w3, none, none, none, none, none, none, none, none, none, none]) (by kernel_rfl) ?_
  have S24 := S23.trans s4
  refine d_asg (K := K) (ed_call (eda_cons (ed_var rfl c2) fun G5 x5 => eda_cons (ed_var rfl (da_ex x5 c3)) fun G6 x6 => eda_cons (ed_is (ed_cut (ed_var rfl (da_ex (S24.an.trans (x5.trans x6)) b1)) (fun _ _ => eo_some (ev_int (K := K) ed_int)) (fun _ _ => eo_some (ev_int (K := K) ed_int))) (congrArg PyData.list (cut_row (a := 35) (b := 38) (by omega) (by decide)))) fun _ _ => eda_nil) ⟨h, ss, (ds.drop 35).take 3, rfl, B.d0, B.b1, B.l.1, B.l.2, L1, by rw [List.length_take, List.length_drop]; omega, rfl⟩) s4.inn fun v4 H5 G5 s5 a4 => ?_
  generalize (fun i => ((ds.drop 35).take 3).getD i 0) = D at a4
  have d2 := da_ex s5.an c2
  have d3 := da_ex s5.an c3
  refine at_state (σ' := [some (.ref a), some (.ref p), some w2, some w3, some v4, none, none, none, none, none, none, none, none, none]) (by kernel_rfl) ?_
  refine d_if (et_isN (K := K) (ed_var rfl a4)) s5.inn (fun e1 H6 x6 => ?_) fun e1 H6 x6 => ?_
  · refine s_ret (σ := []) (v := .bl true) ev_c fun H' e => ?_
    exact q H'
  obtain ⟨pl, hpl⟩ : ∃ pl, planN h ss D ss.length = some pl := by
    cases z : planN h ss D ss.length with
    | some pl => exact ⟨pl, rfl⟩
    | none =>
      unfold planD at e1
      rw [z] at e1
      cases e1
  have a4' : Da K G5 v4 (encP pl) := by
    unfold planD at a4
    rw [hpl] at a4
    exact a4
  have lpl := planN_len hpl
  have hrs := plan_hours hpl
  have hmem : ∀ m ∈ pl, ∃ s ∈ ss, m ∈ movesOf h s := fun m hm => by
    obtain ⟨i, hi, rfl⟩ := List.getElem_of_mem hm
    obtain ⟨h1, _⟩ := (planN_all hpl).2 i pl[i] (List.getElem?_eq_getElem hi)
    have his : i < ss.length := by omega
    have hsa : shAt ss i = ss[i] := by
      unfold shAt
      rw [List.getD_eq_getElem?_getD, List.getElem?_eq_getElem his]
      rfl
    rw [hsa] at h1
    exact ⟨ss[i], List.getElem_mem his, h1⟩
  have hbnd : ∀ m ∈ pl, ∀ n ∈ mvL m, 0 ≤ n ∧ n ≤ 100 := fun m hm n hn => by
    obtain ⟨s, _, h1⟩ := hmem m hm
    obtain ⟨da, dd, b, hb, eb, _⟩ := mem_moves h1
    have := mem_deep da
    have := mem_deep dd
    have := B.l
    have := B.b1
    simp only [mvL, List.mem_cons, List.not_mem_nil, or_false] at hn
    rcases hn with rfl | rfl | rfl <;> omega
  have hrs' : ∀ m ∈ pl, 0 ≤ m.o ∧ m.o ≤ 1000 := fun m hm => by
    have := hbnd m hm m.o (by simp [mvL])
    omega
  have pne : pl ≠ [] := fun z => by rw [z] at lpl; have : ([] : List Mv).length = 0 := rfl; omega
  have fee : Fee ss := fun s hs => by
    have h1 := SB s hs s.se (by simp [shL])
    have h2 := SB s hs s.li (by simp [shL])
    omega
  have hlast := last_in pne hrs'
  have rep : ∀ {σ : L2.St} {G : Hp}, σ[2]? = some (some w2) → σ[3]? = some (some w3) → σ[4]? = some (some v4) → Ex G5 G → ED K (tCB (rRepr K) (tCons (tTup (tCons (tVar 2) (tCons (tVar 3) (tCons (tVar 4) tNil)))) tNil)) σ G (.str (PyData.tuple [encH h, encSs ss, encP pl]).shown) := fun h2 h3 h4 x =>
    ed_reprO (ed_tup (eda_cons (ed_var h2 (da_ex x d2)) fun G x2 => eda_cons (ed_var h3 (da_ex (x.trans x2) d3)) fun G x3 => eda_cons (ed_var h4 (da_ex ((x.trans x2).trans x3) a4')) fun _ _ => eda_nil) (by show 3 ≤ 100000; decide)) ⟨_, .inr rfl⟩ (ok_all3 B SB L1 (by omega) hbnd) (by decide) (by decide)
  generalize (PyData.tuple [encH h, encSs ss, encP pl]).shown = KK at rep
  refine d_asg (rep rfl rfl rfl (Ex.refl _)) (s5.inn.trans x6) fun v5 H7 G7 s7 a7 => ?_
  cases a7
  refine at_state (σ' := [some (.ref a), some (.ref p), some w2, some w3, some v4, some (.str KK), none, none, none, none, none, none, none, none]) (by kernel_rfl) ?_
  refine d_if (b := false) (et_is (et_test (ev_op (ev_bool (K := K) (b := true) (ed_is (ed_call (eda_cons (ed_var rfl (da_ex s7.an d2)) fun G8 x8 => eda_cons (ed_var rfl (da_ex (s7.an.trans x8) d3)) fun G9 x9 => eda_cons (ed_var rfl (da_ex (s7.an.trans (x8.trans x9)) a4')) fun _ _ => eda_nil) ⟨h, ss, pl, rfl, B.d0, lpl, by omega, rfl⟩) (by rw [plan_good hpl]; rfl))) (ev_c (v := .bl true)) rv_isnot)) (by decide)) s7.inn (fun hb => nomatch hb) fun _ H8 x8 => ?_
  -- hours
  refine d_asg (K := K) (ed_call (eda_cons (ed_var rfl (da_ex s7.an d3)) fun G9 x9 => eda_cons (ed_var rfl (da_ex (s7.an.trans x9) a4')) fun _ _ => eda_nil) ⟨ss, pl, rfl, lpl, pne, by omega, hrs', rfl⟩) (s7.inn.trans x8) fun v6 H9 G9 s9 a9 => ?_
  refine at_state (σ' := [some (.ref a), some (.ref p), some w2, some w3, some v4, some (.str KK), some v6, none, none, none, none, none, none, none]) (by kernel_rfl) ?_
  have e59 := s7.an.trans s9.an
  have lp : ((pl.map encM).length : Int) = pl.length := by rw [List.length_map]
  -- pairs
  refine d_asg (K := K) (d := .list ((ss.zip pl).map fun z => waitD z.1 z.2)) (ed_is (ed_lcR (n := ((pl.map encM).length : Int)) (pairAt ss pl) (ed_len (ed_var rfl (da_ex e59 a4'))) (by omega) (fun _ => rfl) ?c1) ?c2) s9.inn fun v7 H10 G10 s10 a10 => ?_
  case c1 =>
    intro i G2 x2 hi
    have hip : i < pl.length := by omega
    have his : i < ss.length := by omega
    have hm : pl[i]? = some pl[i] := List.getElem?_eq_getElem hip
    have hs : ss[i]? = some ss[i] := List.getElem?_eq_getElem his
    have pe : pairAt ss pl i = .tuple [.int (pl[i].a - ss[i].r), .int (pl[i].o - pl[i].a - 1 - ss[i].st)] := by
      unfold pairAt
      rw [zip_take hs hm]
      show waitD ss[i] pl[i] = _
      unfold waitD
      rw [show pl[i].o - pl[i].a - ss[i].st - 1 = pl[i].o - pl[i].a - 1 - ss[i].st by omega]
    rw [pe]
    generalize pl[i] = m at hm
    generalize ss[i] = sh at hs
    have kk : ∀ {σ : L2.St} {G2 : Hp}, σ[8]? = some (some (.int (i : Int))) → ∀ G3, Ex G2 G3 → ED K (tVar 8) σ G3 (.int (i : Nat)) := fun h6 _ _ => ed_var h6 (.int (i : Int))
    exact ed_tup (eda_cons (ed_sub (ed_mv 0 (ed_var rfl (da_ex (e59.trans x2) a4')) (kk rfl) hm rfl rfl) (ed_sh 0 (ed_var rfl (da_ex (e59.trans x2) d3)) (kk rfl) hs rfl rfl)) fun G3 x3 => eda_cons (ed_sub (ed_sub (ed_sub (ed_mv 2 (ed_var rfl (da_ex (e59.trans (x2.trans x3)) a4')) (kk rfl) hm rfl rfl) (ed_mv 0 (ed_var rfl (da_ex (e59.trans (x2.trans x3)) a4')) (kk rfl) hm rfl rfl)) ed_int) (ed_sh 3 (ed_var rfl (da_ex (e59.trans (x2.trans x3)) d3)) (kk rfl) hs rfl rfl)) fun _ _ => eda_nil) (by show 2 ≤ 100000; decide)
  case c2 =>
    rw [show ((pl.map encM).length : Int).toNat = pl.length by omega, pairs_is lpl]
  have e10 := e59.trans s10.an
  refine at_state (σ' := [some (.ref a), some (.ref p), some w2, some w3, some v4, some (.str KK), some v6, some v7, none, none, none, none, none, none]) (by kernel_rfl) ?_
  generalize hWD : ((ss.zip pl).map fun z => waitD z.1 z.2) = WD at a10
  generalize hHD : ((List.range (lastOut pl + 1).toNat).map fun i => PyData.int (costIn ss pl (i : Nat))) = HD at a9
  refine d_asg (K := K) (d := .list [.list WD, .list HD]) (ed_lst (eda_cons (ed_var rfl a10) fun G2 x2 => eda_cons (ed_var rfl (da_ex (s10.an.trans x2) a9)) fun _ _ => eda_nil) (by show 2 ≤ 100000; decide)) s10.inn fun v9 H11 G11 s11 a11 => ?_
  refine at_state (σ' := [some (.ref a), some (.ref p), some w2, some w3, some v4, some (.str KK), some v6, some v7, none, some v9, none, none, none, none]) (by kernel_rfl) ?_
  have e11 := e10.trans s11.an
  have hlo : lastOut pl ≤ 100 := by
    obtain ⟨m, hm, e⟩ := List.mem_map.mp (mx_mem (ns := pl.map Mv.o) (by simp [pne]))
    have := hbnd m hm m.o (by simp [mvL])
    unfold lastOut
    omega
  have okD : Ok 3 20000 (.list [.list WD, .list HD]) := by
    refine ok_list (n := 2) (w := 5000) (mem2 ?_ ?_) (by show 2 * 5001 ≤ 20000; decide)
    · refine ok_list (n := 1) (w := 100) (fun d hd => ?_) (by rw [← hWD, List.length_map, List.length_zip]; omega)
      rw [← hWD] at hd
      obtain ⟨⟨s, m⟩, hz, rfl⟩ := List.mem_map.mp hd
      obtain ⟨i, hi, he⟩ := List.getElem_of_mem hz
      have hz2 : (ss.zip pl)[i]? = some (s, m) := by rw [List.getElem?_eq_getElem hi, he]
      obtain ⟨h1, h2⟩ := List.getElem?_zip_eq_some.mp hz2
      have t1 := hbnd m (List.mem_of_getElem? h2)
      have t2 := SB s (List.mem_of_getElem? h1)
      have q1 := t1 m.a (by simp [mvL])
      have q2 := t1 m.o (by simp [mvL])
      have q3 := t2 s.r (by simp [shL])
      have q4 := t2 s.st (by simp [shL])
      refine ok_tup (n := 0) (w := 17) (mem2 (ok_int ?_ ?_) (ok_int ?_ ?_)) (by show 2 * 18 ≤ 100; decide)
      · show -100000 < m.a - s.r; omega
      · show m.a - s.r < 100000; omega
      · show -100000 < m.o - m.a - s.st - 1; omega
      · show m.o - m.a - s.st - 1 < 100000; omega
    · refine (ok_list (n := 0) (w := 17) (m := 5000) (fun d hd => ?_) (by rw [← hHD, List.length_map, List.length_range]; omega)).mono (by decide) (by decide)
      rw [← hHD] at hd
      obtain ⟨i, _, rfl⟩ := List.mem_map.mp hd
      have z := sum_in (l := ss.zip pl) (n := (i : Nat)) fun y hy => SB _ (List.of_mem_zip hy).1
      have lz : (ss.zip pl).length ≤ 3 := by rw [List.length_zip]; omega
      refine ok_int ?_ ?_ <;> (unfold costIn; omega)
  refine d_range (K := K) (n := 2) (G := G11) ed_int s11.inn (by decide) (fun i σ' H' => ∃ x10 x11 x12, σ' = [some (.ref a), some (.ref p), some w2, some w3, some v4, some (.str KK), some v6, some v7, none, some v9, x10, x11, x12, none] ∧ Ex G11 H') ?_ ?_ ?_
  · intro H12 e12
    exact ⟨_, _, _, rfl, s11.inn.trans e12⟩
  · rintro i σ' H' hi ⟨x10, x11, x12, rfl, x⟩
    refine d_asgL2 ?_
    refine en_call (K := K) (H := G11) (d := .list WD) (eda_cons (ed_var rfl (da_ex e11 d3)) fun G2 x2 => eda_cons (ed_var rfl (da_ex (e11.trans x2) a4')) fun _ _ => eda_nil) ⟨ss, pl, rfl, lpl, by omega, by rw [← hWD]⟩ H' x _ fun vw Hw Fw sw aw => ?_
    refine en_call (K := K) (H := G11) (d := .list HD) (eda_cons (ed_var rfl (da_ex e11 d3)) fun G2 x2 => eda_cons (ed_var rfl (da_ex (e11.trans x2) a4')) fun _ _ => eda_nil) ⟨ss, pl, rfl, lpl, pne, by omega, hrs', by rw [← hHD]⟩ Hw (x.trans sw.up) _ fun vh Hh Fh sh ah => ?_
    refine ⟨by show 2 ≤ sizeLine; decide, fun L nL => ?_⟩
    obtain ⟨GA, sA, eA⟩ := sw.join x
    obtain ⟨GB, sB, eB⟩ := sh.join sA.inn
    have sC := Sep.new (o := .lst [vw, vh]) sB.inn nL
    have aL : Da K (upd GB L (.lst [vw, vh])) (.ref L) (.list [.list WD, .list HD]) := .lst upd_same (.cons (da_ex (eA.trans (sB.an.trans sC.an)) aw) (.cons (da_ex (eB.trans sC.an) ah) .nil))
    have eC := (sA.an.trans sB.an).trans sC.an
    refine d_if (b := false) (et_is (et_or (et_neD (K := K) (ed_var rfl aL) (fun G2 x2 => ed_var rfl (da_ex (eC.trans x2) a11)) okD (by decide) okD (by decide)) fun _ => et_or (et_not (et_bool (ed_isi (K := K) (b := true) (ed_ix (n := 0) (ed_var rfl aL) (fun _ _ => ed_int) rfl rfl) (show kitB "list" "list" = _ by decide +kernel)))) fun _ => et_not (et_bool (ed_isi (K := K) (b := true) (ed_ix (n := 1) (ed_var rfl aL) (fun _ _ => ed_int) rfl rfl) (show kitB "list" "list" = _ by decide +kernel)))) (by rw [eqv_same okD]; rfl)) sC.inn (fun hb => nomatch hb) fun _ Hd xd => ?_
    cases aw with
    | @lst lw xw _ ew gw =>
      cases ah with
      | @lst lh xh _ eh gh =>
        have f1 : G11 lw = none := by
          cases z : G11 lw with
          | none => rfl
          | some u =>
            rw [sw.sep lw rfl (by rw [x lw u z]; exact Option.some_ne_none u)] at ew
            cases ew
        have f2 : G11 lh = none := by
          cases z : G11 lh with
          | none => rfl
          | some u =>
            rw [sh.sep lh rfl (by rw [(x.trans sw.up) lh u z]; exact Option.some_ne_none u)] at eh
            cases eh
        have hw := sh.up _ _ (sw.inn _ _ ew)
        have hh := sh.inn _ _ eh
        have n1 : L ≠ lw := fun z => by rw [z, hw] at nL; cases nL
        have n2 : L ≠ lh := fun z => by rw [z, hh] at nL; cases nL
        have lw1 : xw.length ≤ 2000 := by rw [daa_len gw, ← hWD, List.length_map, List.length_zip]; omega
        have lh1 : xh.length ≤ 2000 := by rw [daa_len gh, ← hHD, List.length_map, List.length_range]; omega
        have up1 : Ex Hh Hd := (Ex.new nL).trans xd
        refine s_forLn (K := K) (xs := [.ref lw, .ref lh]) (ev_var rfl) (sq_of (xd _ _ upd_same)) (fun j σ' H2 => ∃ x12, σ' = [some (.ref a), some (.ref p), some w2, some w3, some v4, some (.str KK), some v6, some v7, none, some v9, some (.int (i : Int)), some (.ref L), x12, none] ∧ Ex G11 H2 ∧ H2 L = some (.lst [.ref lw, .ref lh]) ∧ (∃ ys, H2 lw = some (.lst ys) ∧ ys.length ≤ 2000 + j) ∧ ∃ ys, H2 lh = some (.lst ys) ∧ ys.length ≤ 2000 + j) ?_ ?_ ?_ ?_
        · intro H2 e2
          exact ⟨_, rfl, ((eC.trans sC.inn).trans xd).trans e2, e2 _ _ (xd _ _ upd_same), ⟨xw, e2 _ _ (up1 _ _ hw), by omega⟩, ⟨xh, e2 _ _ (up1 _ _ hh), by omega⟩⟩
        · rintro j σ' H2 _ ⟨_, _, _, hL, _⟩
          exact sq_of hL
        · rintro j y σ' H2 hj ⟨x12', rfl, xg, hL, ⟨y1, h1, l1⟩, ⟨y2, h2, l2⟩⟩
          have jb : j < 2 := (List.getElem?_eq_some_iff.mp hj).1
          match j, hj, jb with
          | 0, hj, _ =>
            cases Option.some.inj hj
            refine s_app (l := lw) (v := .int 0) h1 (ev_var rfl) ev_c (by omega) fun H3 e3 => ?_
            exact ⟨_, rfl, Ex.mut (xg.trans e3) f1, by rw [upd_ne n1]; exact e3 _ _ hL, lst_upd ⟨y1, e3 _ _ h1, by omega⟩ (e3 _ _ h1) (by rw [List.length_append]; show _ + 1 ≤ _; omega), lst_upd ⟨y2, e3 _ _ h2, by omega⟩ (e3 _ _ h1) (by rw [List.length_append]; show _ + 1 ≤ _; omega)⟩
          | 1, hj, _ =>
            cases Option.some.inj hj
            refine s_app (l := lh) (v := .int 0) h2 (ev_var rfl) ev_c (by omega) fun H3 e3 => ?_
            exact ⟨_, rfl, Ex.mut (xg.trans e3) f2, by rw [upd_ne n2]; exact e3 _ _ hL, lst_upd ⟨y1, e3 _ _ h1, by omega⟩ (e3 _ _ h2) (by rw [List.length_append]; show _ + 1 ≤ _; omega), lst_upd ⟨y2, e3 _ _ h2, by omega⟩ (e3 _ _ h2) (by rw [List.length_append]; show _ + 1 ≤ _; omega)⟩
          | j + 2, _, jb => exact absurd jb (by omega)
        · rintro σ' H2 ⟨x12', rfl, xg, _⟩
          exact ⟨_, _, _, rfl, xg⟩
  · rintro σ' H' ⟨x10, x11, x12, rfl, x⟩
    refine d_asg (K := K) (ed_call (eda_cons (ed_var rfl (da_ex e11 d3)) fun G2 x2 => eda_cons (ed_var rfl (da_ex (e11.trans x2) a4')) fun _ _ => eda_nil) ⟨ss, pl, rfl, lpl, by omega, fee, rfl⟩) x fun v13 H12 G12 s12 a12 => ?_
    cases a12
    refine at_state (σ' := [some (.ref a), some (.ref p), some w2, some w3, some v4, some (.str KK), some v6, some v7, none, some v9, x10, x11, x12, some (.int (costOf ss pl))]) (by kernel_rfl) ?_
    have e12 := e11.trans s12.an
    have hsum := hours_add (mem_zip_facts hpl fun s hs => ⟨(SB s hs s.r (by simp [shL])).1, (SB s hs s.st (by simp [shL])).1⟩)
    have hd6 : Da K G12 v6 (.list (((List.range (lastOut pl + 1).toNat).map fun i => costIn ss pl (i : Nat)).map .int)) := by
      have z := da_ex ((s10.an.trans s11.an).trans s12.an) a9
      rw [← hHD] at z
      rw [List.map_map]
      exact z
    refine d_if (b := false) (et_is (et_or (et_bool (ed_isi (K := K) (b := false) (ed_var rfl (.int _)) (show kitB "int" "bool" = _ by decide +kernel))) fun _ => et_or (et_not (et_bool (ed_isi (K := K) (b := true) (ed_var rfl (.int _)) (show kitB "int" "int" = _ by decide +kernel)))) fun _ => et_or (et_test (ev_op (ev_var (v := .int (costOf ss pl)) rfl) (ev_int (K := K) (ed_call (eda_cons (ed_var rfl (da_ex e12 d3)) fun G2 x2 => eda_cons (ed_var rfl (da_ex (e12.trans x2) a4')) fun _ _ => eda_nil) ⟨ss, pl, rfl, lpl, by omega, fee, rfl⟩)) (rv_ne rfl))) fun _ => et_test (ev_op (ev_var (v := .int (costOf ss pl)) rfl) (ev_int (K := K) (ed_is (ed_sum (ed_var rfl hd6)) (by rw [hsum]))) (rv_ne rfl))) (by rw [vi_eq]; rfl)) s12.inn (fun hb => nomatch hb) fun _ H13 x13 => ?_
    refine d_ret (K := K) (ed_eqS (rep rfl rfl rfl ((e11.trans s12.an))) (ed_var rfl (.str KK))) (s12.inn.trans x13) fun v H14 G14 s14 a14 => ?_
    rw [decide_eq_true rfl] at a14
    cases a14
    exact q H14
end
end K2

set_option Elab.async false
set_option linter.all false
set_option maxRecDepth 100000
set_option maxHeartbeats 4000000
namespace K2
open PySem PySem.Spec PyProof.Rows L2 Evl Tw
section
variable {P : Program} {w : World} {K : PySem.W.Frag} {mg : Str → Option Value} {base : Heap}
theorem all_ok {fa : Addr} (T : Tx K mg) (hfa : mg "law" = some (.ref fa)) : ∃ fd : FuncData, (∀ (s : Shared) (v : Value), BindsTo s fd ⟨[v], []⟩ [("script", v)]) ∧ ∀ base : Heap, K.In base → base.Ns mainGlobals mg → FnG P w K mg base lawLevel fa fd ["script"] (spLaw K) := by
  have e := hfa.symm.trans T.g_law
  cases e
  refine ⟨T.d_law, fun s v => ?_, fun base _ _ => ok_law T⟩
  obtain ⟨_, _, _, _, _, _, _, _, _, h, _⟩ := T.F_law.ex
  rw [h]
  exact .of_eq rfl
end
def tx_mk {K : PySem.W.Frag} {h : Heap} {mg : Str → Option Value} (X : K.In h) (G : h.Ns mainGlobals mg)
    {f0 : Addr} {od0 an0 : Option Addr} {sl0 : Array (Option Value)} {oc0 kV0 dc0 pm0 cd0 ct0 : Value}
    (a0 : PySem.W.nsIn K mainGlobals "depth_at" = some (some (.ref f0))) (l0 : K.lookup f0 = some ⟨oc0, od0, .func (PySem.W.fnOf "depth_at" "depth_at" (defArgs s_depth_at) (defBody s_depth_at) (defScope s_depth_at) .none kV0 dc0 pm0 an0 cd0 ct0), sl0⟩) (c0 : PySem.W.codeIn K cd0 "depth_at" = true) (k0 : PySem.W.keepIn K (.ref f0) = true)
    {f1 : Addr} {od1 an1 : Option Addr} {sl1 : Array (Option Value)} {oc1 kV1 dc1 pm1 cd1 ct1 : Value}
    (a1 : PySem.W.nsIn K mainGlobals "_share_hour" = some (some (.ref f1))) (l1 : K.lookup f1 = some ⟨oc1, od1, .func (PySem.W.fnOf "_share_hour" "_share_hour" (defArgs s__share_hour) (defBody s__share_hour) (defScope s__share_hour) .none kV1 dc1 pm1 an1 cd1 ct1), sl1⟩) (c1 : PySem.W.codeIn K cd1 "_share_hour" = true) (k1 : PySem.W.keepIn K (.ref f1) = true)
    {f2 : Addr} {od2 an2 : Option Addr} {sl2 : Array (Option Value)} {oc2 kV2 dc2 pm2 cd2 ct2 : Value}
    (a2 : PySem.W.nsIn K mainGlobals "_wrong_with" = some (some (.ref f2))) (l2 : K.lookup f2 = some ⟨oc2, od2, .func (PySem.W.fnOf "_wrong_with" "_wrong_with" (defArgs s__wrong_with) (defBody s__wrong_with) (defScope s__wrong_with) .none kV2 dc2 pm2 an2 cd2 ct2), sl2⟩) (c2 : PySem.W.codeIn K cd2 "_wrong_with" = true) (k2 : PySem.W.keepIn K (.ref f2) = true)
    {f3 : Addr} {od3 an3 : Option Addr} {sl3 : Array (Option Value)} {oc3 kV3 dc3 pm3 cd3 ct3 : Value}
    (a3 : PySem.W.nsIn K mainGlobals "_movers" = some (some (.ref f3))) (l3 : K.lookup f3 = some ⟨oc3, od3, .func (PySem.W.fnOf "_movers" "_movers" (defArgs s__movers) (defBody s__movers) (defScope s__movers) .none kV3 dc3 pm3 an3 cd3 ct3), sl3⟩) (c3 : PySem.W.codeIn K cd3 "_movers" = true) (k3 : PySem.W.keepIn K (.ref f3) = true)
    {f4 : Addr} {od4 an4 : Option Addr} {sl4 : Array (Option Value)} {oc4 kV4 dc4 pm4 cd4 ct4 : Value}
    (a4 : PySem.W.nsIn K mainGlobals "_wrong_together" = some (some (.ref f4))) (l4 : K.lookup f4 = some ⟨oc4, od4, .func (PySem.W.fnOf "_wrong_together" "_wrong_together" (defArgs s__wrong_together) (defBody s__wrong_together) (defScope s__wrong_together) .none kV4 dc4 pm4 an4 cd4 ct4), sl4⟩) (c4 : PySem.W.codeIn K cd4 "_wrong_together" = true) (k4 : PySem.W.keepIn K (.ref f4) = true)
    {f5 : Addr} {od5 an5 : Option Addr} {sl5 : Array (Option Value)} {oc5 kV5 dc5 pm5 cd5 ct5 : Value}
    (a5 : PySem.W.nsIn K mainGlobals "wrong_in" = some (some (.ref f5))) (l5 : K.lookup f5 = some ⟨oc5, od5, .func (PySem.W.fnOf "wrong_in" "wrong_in" (defArgs s_wrong_in) (defBody s_wrong_in) (defScope s_wrong_in) .none kV5 dc5 pm5 an5 cd5 ct5), sl5⟩) (c5 : PySem.W.codeIn K cd5 "wrong_in" = true) (k5 : PySem.W.keepIn K (.ref f5) = true)
    {f6 : Addr} {od6 an6 : Option Addr} {sl6 : Array (Option Value)} {oc6 kV6 dc6 pm6 cd6 ct6 : Value}
    (a6 : PySem.W.nsIn K mainGlobals "is_plan" = some (some (.ref f6))) (l6 : K.lookup f6 = some ⟨oc6, od6, .func (PySem.W.fnOf "is_plan" "is_plan" (defArgs s_is_plan) (defBody s_is_plan) (defScope s_is_plan) .none kV6 dc6 pm6 an6 cd6 ct6), sl6⟩) (c6 : PySem.W.codeIn K cd6 "is_plan" = true) (k6 : PySem.W.keepIn K (.ref f6) = true)
    {f7 : Addr} {od7 an7 : Option Addr} {sl7 : Array (Option Value)} {oc7 kV7 dc7 pm7 cd7 ct7 : Value}
    (a7 : PySem.W.nsIn K mainGlobals "waits" = some (some (.ref f7))) (l7 : K.lookup f7 = some ⟨oc7, od7, .func (PySem.W.fnOf "waits" "waits" (defArgs s_waits) (defBody s_waits) (defScope s_waits) .none kV7 dc7 pm7 an7 cd7 ct7), sl7⟩) (c7 : PySem.W.codeIn K cd7 "waits" = true) (k7 : PySem.W.keepIn K (.ref f7) = true)
    {f8 : Addr} {od8 an8 : Option Addr} {sl8 : Array (Option Value)} {oc8 kV8 dc8 pm8 cd8 ct8 : Value}
    (a8 : PySem.W.nsIn K mainGlobals "cost_of" = some (some (.ref f8))) (l8 : K.lookup f8 = some ⟨oc8, od8, .func (PySem.W.fnOf "cost_of" "cost_of" (defArgs s_cost_of) (defBody s_cost_of) (defScope s_cost_of) .none kV8 dc8 pm8 an8 cd8 ct8), sl8⟩) (c8 : PySem.W.codeIn K cd8 "cost_of" = true) (k8 : PySem.W.keepIn K (.ref f8) = true)
    {f9 : Addr} {od9 an9 : Option Addr} {sl9 : Array (Option Value)} {oc9 kV9 dc9 pm9 cd9 ct9 : Value}
    (a9 : PySem.W.nsIn K mainGlobals "_cost_in_hour" = some (some (.ref f9))) (l9 : K.lookup f9 = some ⟨oc9, od9, .func (PySem.W.fnOf "_cost_in_hour" "_cost_in_hour" (defArgs s__cost_in_hour) (defBody s__cost_in_hour) (defScope s__cost_in_hour) .none kV9 dc9 pm9 an9 cd9 ct9), sl9⟩) (c9 : PySem.W.codeIn K cd9 "_cost_in_hour" = true) (k9 : PySem.W.keepIn K (.ref f9) = true)
    {f10 : Addr} {od10 an10 : Option Addr} {sl10 : Array (Option Value)} {oc10 kV10 dc10 pm10 cd10 ct10 : Value}
    (a10 : PySem.W.nsIn K mainGlobals "hour_costs" = some (some (.ref f10))) (l10 : K.lookup f10 = some ⟨oc10, od10, .func (PySem.W.fnOf "hour_costs" "hour_costs" (defArgs s_hour_costs) (defBody s_hour_costs) (defScope s_hour_costs) .none kV10 dc10 pm10 an10 cd10 ct10), sl10⟩) (c10 : PySem.W.codeIn K cd10 "hour_costs" = true) (k10 : PySem.W.keepIn K (.ref f10) = true)
    {f11 : Addr} {od11 an11 : Option Addr} {sl11 : Array (Option Value)} {oc11 kV11 dc11 pm11 cd11 ct11 : Value}
    (a11 : PySem.W.nsIn K mainGlobals "_law_draws" = some (some (.ref f11))) (l11 : K.lookup f11 = some ⟨oc11, od11, .func (PySem.W.fnOf "_law_draws" "_law_draws" (defArgs s__law_draws) (defBody s__law_draws) (defScope s__law_draws) .none kV11 dc11 pm11 an11 cd11 ct11), sl11⟩) (c11 : PySem.W.codeIn K cd11 "_law_draws" = true) (k11 : PySem.W.keepIn K (.ref f11) = true)
    {f12 : Addr} {od12 an12 : Option Addr} {sl12 : Array (Option Value)} {oc12 kV12 dc12 pm12 cd12 ct12 : Value}
    (a12 : PySem.W.nsIn K mainGlobals "_law_harbour" = some (some (.ref f12))) (l12 : K.lookup f12 = some ⟨oc12, od12, .func (PySem.W.fnOf "_law_harbour" "_law_harbour" (defArgs s__law_harbour) (defBody s__law_harbour) (defScope s__law_harbour) .none kV12 dc12 pm12 an12 cd12 ct12), sl12⟩) (c12 : PySem.W.codeIn K cd12 "_law_harbour" = true) (k12 : PySem.W.keepIn K (.ref f12) = true)
    {f13 : Addr} {od13 an13 : Option Addr} {sl13 : Array (Option Value)} {oc13 kV13 dc13 pm13 cd13 ct13 : Value}
    (a13 : PySem.W.nsIn K mainGlobals "_law_ship" = some (some (.ref f13))) (l13 : K.lookup f13 = some ⟨oc13, od13, .func (PySem.W.fnOf "_law_ship" "_law_ship" (defArgs s__law_ship) (defBody s__law_ship) (defScope s__law_ship) .none kV13 dc13 pm13 an13 cd13 ct13), sl13⟩) (c13 : PySem.W.codeIn K cd13 "_law_ship" = true) (k13 : PySem.W.keepIn K (.ref f13) = true)
    {f14 : Addr} {od14 an14 : Option Addr} {sl14 : Array (Option Value)} {oc14 kV14 dc14 pm14 cd14 ct14 : Value}
    (a14 : PySem.W.nsIn K mainGlobals "_law_ships" = some (some (.ref f14))) (l14 : K.lookup f14 = some ⟨oc14, od14, .func (PySem.W.fnOf "_law_ships" "_law_ships" (defArgs s__law_ships) (defBody s__law_ships) (defScope s__law_ships) .none kV14 dc14 pm14 an14 cd14 ct14), sl14⟩) (c14 : PySem.W.codeIn K cd14 "_law_ships" = true) (k14 : PySem.W.keepIn K (.ref f14) = true)
    {f15 : Addr} {od15 an15 : Option Addr} {sl15 : Array (Option Value)} {oc15 kV15 dc15 pm15 cd15 ct15 : Value}
    (a15 : PySem.W.nsIn K mainGlobals "_law_moves" = some (some (.ref f15))) (l15 : K.lookup f15 = some ⟨oc15, od15, .func (PySem.W.fnOf "_law_moves" "_law_moves" (defArgs s__law_moves) (defBody s__law_moves) (defScope s__law_moves) .none kV15 dc15 pm15 an15 cd15 ct15), sl15⟩) (c15 : PySem.W.codeIn K cd15 "_law_moves" = true) (k15 : PySem.W.keepIn K (.ref f15) = true)
    {f16 : Addr} {od16 an16 : Option Addr} {sl16 : Array (Option Value)} {oc16 kV16 dc16 pm16 cd16 ct16 : Value}
    (a16 : PySem.W.nsIn K mainGlobals "_law_apart" = some (some (.ref f16))) (l16 : K.lookup f16 = some ⟨oc16, od16, .func (PySem.W.fnOf "_law_apart" "_law_apart" (defArgs s__law_apart) (defBody s__law_apart) (defScope s__law_apart) .none kV16 dc16 pm16 an16 cd16 ct16), sl16⟩) (c16 : PySem.W.codeIn K cd16 "_law_apart" = true) (k16 : PySem.W.keepIn K (.ref f16) = true)
    {f17 : Addr} {od17 an17 : Option Addr} {sl17 : Array (Option Value)} {oc17 kV17 dc17 pm17 cd17 ct17 : Value}
    (a17 : PySem.W.nsIn K mainGlobals "_law_fits" = some (some (.ref f17))) (l17 : K.lookup f17 = some ⟨oc17, od17, .func (PySem.W.fnOf "_law_fits" "_law_fits" (defArgs s__law_fits) (defBody s__law_fits) (defScope s__law_fits) .none kV17 dc17 pm17 an17 cd17 ct17), sl17⟩) (c17 : PySem.W.codeIn K cd17 "_law_fits" = true) (k17 : PySem.W.keepIn K (.ref f17) = true)
    {f18 : Addr} {od18 an18 : Option Addr} {sl18 : Array (Option Value)} {oc18 kV18 dc18 pm18 cd18 ct18 : Value}
    (a18 : PySem.W.nsIn K mainGlobals "_law_cost" = some (some (.ref f18))) (l18 : K.lookup f18 = some ⟨oc18, od18, .func (PySem.W.fnOf "_law_cost" "_law_cost" (defArgs s__law_cost) (defBody s__law_cost) (defScope s__law_cost) .none kV18 dc18 pm18 an18 cd18 ct18), sl18⟩) (c18 : PySem.W.codeIn K cd18 "_law_cost" = true) (k18 : PySem.W.keepIn K (.ref f18) = true)
    {f19 : Addr} {od19 an19 : Option Addr} {sl19 : Array (Option Value)} {oc19 kV19 dc19 pm19 cd19 ct19 : Value}
    (a19 : PySem.W.nsIn K mainGlobals "_law_plan" = some (some (.ref f19))) (l19 : K.lookup f19 = some ⟨oc19, od19, .func (PySem.W.fnOf "_law_plan" "_law_plan" (defArgs s__law_plan) (defBody s__law_plan) (defScope s__law_plan) .none kV19 dc19 pm19 an19 cd19 ct19), sl19⟩) (c19 : PySem.W.codeIn K cd19 "_law_plan" = true) (k19 : PySem.W.keepIn K (.ref f19) = true)
    {f20 : Addr} {od20 an20 : Option Addr} {sl20 : Array (Option Value)} {oc20 kV20 dc20 pm20 cd20 ct20 : Value}
    (a20 : PySem.W.nsIn K mainGlobals "_law_hours" = some (some (.ref f20))) (l20 : K.lookup f20 = some ⟨oc20, od20, .func (PySem.W.fnOf "_law_hours" "_law_hours" (defArgs s__law_hours) (defBody s__law_hours) (defScope s__law_hours) .none kV20 dc20 pm20 an20 cd20 ct20), sl20⟩) (c20 : PySem.W.codeIn K cd20 "_law_hours" = true) (k20 : PySem.W.keepIn K (.ref f20) = true)
    {f21 : Addr} {od21 an21 : Option Addr} {sl21 : Array (Option Value)} {oc21 kV21 dc21 pm21 cd21 ct21 : Value}
    (a21 : PySem.W.nsIn K mainGlobals "_law_far" = some (some (.ref f21))) (l21 : K.lookup f21 = some ⟨oc21, od21, .func (PySem.W.fnOf "_law_far" "_law_far" (defArgs s__law_far) (defBody s__law_far) (defScope s__law_far) .none kV21 dc21 pm21 an21 cd21 ct21), sl21⟩) (c21 : PySem.W.codeIn K cd21 "_law_far" = true) (k21 : PySem.W.keepIn K (.ref f21) = true)
    {f22 : Addr} {od22 an22 : Option Addr} {sl22 : Array (Option Value)} {oc22 kV22 dc22 pm22 cd22 ct22 : Value}
    (a22 : PySem.W.nsIn K mainGlobals "law" = some (some (.ref f22))) (l22 : K.lookup f22 = some ⟨oc22, od22, .func (PySem.W.fnOf "law" "law" (defArgs s_law) (defBody s_law) (defScope s_law) .none kV22 dc22 pm22 an22 cd22 ct22), sl22⟩) (c22 : PySem.W.codeIn K cd22 "law" = true) (k22 : PySem.W.keepIn K (.ref f22) = true)
    (z0 : PySem.W.nsIn K mainGlobals "len" = some none)
    (z1 : PySem.W.nsIn K mainGlobals "int" = some none)
    (z2 : PySem.W.nsIn K mainGlobals "range" = some none)
    (z3 : PySem.W.nsIn K mainGlobals "tuple" = some none)
    (z4 : PySem.W.nsIn K mainGlobals "repr" = some none)
    (z5 : PySem.W.nsIn K mainGlobals "isinstance" = some none)
    (z6 : PySem.W.nsIn K mainGlobals "bool" = some none)
    (z7 : PySem.W.nsIn K mainGlobals "enumerate" = some none)
    (z8 : PySem.W.nsIn K mainGlobals "zip" = some none)
    (z9 : PySem.W.nsIn K mainGlobals "all" = some none)
    (z10 : PySem.W.nsIn K mainGlobals "any" = some none)
    (z11 : PySem.W.nsIn K mainGlobals "sum" = some none)
    (z12 : PySem.W.nsIn K mainGlobals "max" = some none)
    (z13 : PySem.W.nsIn K mainGlobals "sorted" = some none)
    (z14 : PySem.W.nsIn K mainGlobals "set" = some none)
    (z15 : PySem.W.nsIn K mainGlobals "list" = some none) : Tx K mg where
  f_depth_at := _
  d_depth_at := _
  F_depth_at := fun_mk (st := s_depth_at) l0 c0 k0
  g_depth_at := PySem.W.mg_of X G a0
  b_depth_at := (fun_mk (st := s_depth_at) l0 c0 k0).binds fun _ _ _ _ _ _ us hl => match us, hl with | [_, _], _ => rfl
  f__share_hour := _
  d__share_hour := _
  F__share_hour := fun_mk (st := s__share_hour) l1 c1 k1
  g__share_hour := PySem.W.mg_of X G a1
  b__share_hour := (fun_mk (st := s__share_hour) l1 c1 k1).binds fun _ _ _ _ _ _ us hl => match us, hl with | [_, _], _ => rfl
  f__wrong_with := _
  d__wrong_with := _
  F__wrong_with := fun_mk (st := s__wrong_with) l2 c2 k2
  g__wrong_with := PySem.W.mg_of X G a2
  b__wrong_with := (fun_mk (st := s__wrong_with) l2 c2 k2).binds fun _ _ _ _ _ _ us hl => match us, hl with | [_, _, _, _], _ => rfl
  f__movers := _
  d__movers := _
  F__movers := fun_mk (st := s__movers) l3 c3 k3
  g__movers := PySem.W.mg_of X G a3
  b__movers := (fun_mk (st := s__movers) l3 c3 k3).binds fun _ _ _ _ _ _ us hl => match us, hl with | [_, _], _ => rfl
  f__wrong_together := _
  d__wrong_together := _
  F__wrong_together := fun_mk (st := s__wrong_together) l4 c4 k4
  g__wrong_together := PySem.W.mg_of X G a4
  b__wrong_together := (fun_mk (st := s__wrong_together) l4 c4 k4).binds fun _ _ _ _ _ _ us hl => match us, hl with | [_, _, _], _ => rfl
  f_wrong_in := _
  d_wrong_in := _
  F_wrong_in := fun_mk (st := s_wrong_in) l5 c5 k5
  g_wrong_in := PySem.W.mg_of X G a5
  b_wrong_in := (fun_mk (st := s_wrong_in) l5 c5 k5).binds fun _ _ _ _ _ _ us hl => match us, hl with | [_, _, _], _ => rfl
  f_is_plan := _
  d_is_plan := _
  F_is_plan := fun_mk (st := s_is_plan) l6 c6 k6
  g_is_plan := PySem.W.mg_of X G a6
  b_is_plan := (fun_mk (st := s_is_plan) l6 c6 k6).binds fun _ _ _ _ _ _ us hl => match us, hl with | [_, _, _], _ => rfl
  f_waits := _
  d_waits := _
  F_waits := fun_mk (st := s_waits) l7 c7 k7
  g_waits := PySem.W.mg_of X G a7
  b_waits := (fun_mk (st := s_waits) l7 c7 k7).binds fun _ _ _ _ _ _ us hl => match us, hl with | [_, _], _ => rfl
  f_cost_of := _
  d_cost_of := _
  F_cost_of := fun_mk (st := s_cost_of) l8 c8 k8
  g_cost_of := PySem.W.mg_of X G a8
  b_cost_of := (fun_mk (st := s_cost_of) l8 c8 k8).binds fun _ _ _ _ _ _ us hl => match us, hl with | [_, _], _ => rfl
  f__cost_in_hour := _
  d__cost_in_hour := _
  F__cost_in_hour := fun_mk (st := s__cost_in_hour) l9 c9 k9
  g__cost_in_hour := PySem.W.mg_of X G a9
  b__cost_in_hour := (fun_mk (st := s__cost_in_hour) l9 c9 k9).binds fun _ _ _ _ _ _ us hl => match us, hl with | [_, _, _], _ => rfl
  f_hour_costs := _
  d_hour_costs := _
  F_hour_costs := fun_mk (st := s_hour_costs) l10 c10 k10
  g_hour_costs := PySem.W.mg_of X G a10
  b_hour_costs := (fun_mk (st := s_hour_costs) l10 c10 k10).binds fun _ _ _ _ _ _ us hl => match us, hl with | [_, _], _ => rfl
  f__law_draws := _
  d__law_draws := _
  F__law_draws := fun_mk (st := s__law_draws) l11 c11 k11
  g__law_draws := PySem.W.mg_of X G a11
  b__law_draws := (fun_mk (st := s__law_draws) l11 c11 k11).binds fun _ _ _ _ _ _ us hl => match us, hl with | [_, _], _ => rfl
  f__law_harbour := _
  d__law_harbour := _
  F__law_harbour := fun_mk (st := s__law_harbour) l12 c12 k12
  g__law_harbour := PySem.W.mg_of X G a12
  b__law_harbour := (fun_mk (st := s__law_harbour) l12 c12 k12).binds fun _ _ _ _ _ _ us hl => match us, hl with | [_], _ => rfl
  f__law_ship := _
  d__law_ship := _
  F__law_ship := fun_mk (st := s__law_ship) l13 c13 k13
  g__law_ship := PySem.W.mg_of X G a13
  b__law_ship := (fun_mk (st := s__law_ship) l13 c13 k13).binds fun _ _ _ _ _ _ us hl => match us, hl with | [_], _ => rfl
  f__law_ships := _
  d__law_ships := _
  F__law_ships := fun_mk (st := s__law_ships) l14 c14 k14
  g__law_ships := PySem.W.mg_of X G a14
  b__law_ships := (fun_mk (st := s__law_ships) l14 c14 k14).binds fun _ _ _ _ _ _ us hl => match us, hl with | [_, _], _ => rfl
  f__law_moves := _
  d__law_moves := _
  F__law_moves := fun_mk (st := s__law_moves) l15 c15 k15
  g__law_moves := PySem.W.mg_of X G a15
  b__law_moves := (fun_mk (st := s__law_moves) l15 c15 k15).binds fun _ _ _ _ _ _ us hl => match us, hl with | [_, _], _ => rfl
  f__law_apart := _
  d__law_apart := _
  F__law_apart := fun_mk (st := s__law_apart) l16 c16 k16
  g__law_apart := PySem.W.mg_of X G a16
  b__law_apart := (fun_mk (st := s__law_apart) l16 c16 k16).binds fun _ _ _ _ _ _ us hl => match us, hl with | [_, _], _ => rfl
  f__law_fits := _
  d__law_fits := _
  F__law_fits := fun_mk (st := s__law_fits) l17 c17 k17
  g__law_fits := PySem.W.mg_of X G a17
  b__law_fits := (fun_mk (st := s__law_fits) l17 c17 k17).binds fun _ _ _ _ _ _ us hl => match us, hl with | [_, _, _], _ => rfl
  f__law_cost := _
  d__law_cost := _
  F__law_cost := fun_mk (st := s__law_cost) l18 c18 k18
  g__law_cost := PySem.W.mg_of X G a18
  b__law_cost := (fun_mk (st := s__law_cost) l18 c18 k18).binds fun _ _ _ _ _ _ us hl => match us, hl with | [_, _], _ => rfl
  f__law_plan := _
  d__law_plan := _
  F__law_plan := fun_mk (st := s__law_plan) l19 c19 k19
  g__law_plan := PySem.W.mg_of X G a19
  b__law_plan := (fun_mk (st := s__law_plan) l19 c19 k19).binds fun _ _ _ _ _ _ us hl => match us, hl with | [_, _, _], _ => rfl
  f__law_hours := _
  d__law_hours := _
  F__law_hours := fun_mk (st := s__law_hours) l20 c20 k20
  g__law_hours := PySem.W.mg_of X G a20
  b__law_hours := (fun_mk (st := s__law_hours) l20 c20 k20).binds fun _ _ _ _ _ _ us hl => match us, hl with | [_, _], _ => rfl
  f__law_far := _
  d__law_far := _
  F__law_far := fun_mk (st := s__law_far) l21 c21 k21
  g__law_far := PySem.W.mg_of X G a21
  b__law_far := (fun_mk (st := s__law_far) l21 c21 k21).binds fun _ _ _ _ _ _ us hl => match us, hl with | [_, _, _], _ => rfl
  f_law := _
  d_law := _
  F_law := fun_mk (st := s_law) l22 c22 k22
  g_law := PySem.W.mg_of X G a22
  b_law := (fun_mk (st := s_law) l22 c22 k22).binds fun _ _ _ _ _ _ us hl => match us, hl with | [_], _ => rfl
  m_len := PySem.W.mg_none_of X G z0
  m_int := PySem.W.mg_none_of X G z1
  m_range := PySem.W.mg_none_of X G z2
  m_tuple := PySem.W.mg_none_of X G z3
  m_repr := PySem.W.mg_none_of X G z4
  m_isinstance := PySem.W.mg_none_of X G z5
  m_bool := PySem.W.mg_none_of X G z6
  m_enumerate := PySem.W.mg_none_of X G z7
  m_zip := PySem.W.mg_none_of X G z8
  m_all := PySem.W.mg_none_of X G z9
  m_any := PySem.W.mg_none_of X G z10
  m_sum := PySem.W.mg_none_of X G z11
  m_max := PySem.W.mg_none_of X G z12
  m_sorted := PySem.W.mg_none_of X G z13
  m_set := PySem.W.mg_none_of X G z14
  m_list := PySem.W.mg_none_of X G z15
end K2
open PySem PySem.W PyProof.Rows
set_option maxHeartbeats 0 in
theorem PySem.Challenge.cw_tidewaits_k02_waits_and_costs_holds : PySem.Challenge.rw_tidewaits_k02_waits_and_costs.Holds := by
  w_on; o_law; k_head; (case hw => w_witness2)
  k_fill
  refine Tw.walk_G (l := PySem.Challenge.rw_tidewaits_k02_waits_and_costs) (n := 63) (k := K2.lawLevel) (x := "script") (sp := Tw.spLaw) rfl (by decide) rfl ⟨rfl, by decide, by decide⟩ (fun w h Y => PySem.W.kIn_of Y) ?F (fun _ _ _ _ hl hS => ⟨_, _, rfl, hS, hl, fun _ => rfl⟩)
  case F =>
    intro w mg fa h KX G hmg
    refine' K2.all_ok (K2.tx_mk KX G ?a0 ?l0 ?c0 ?k0 ?a1 ?l1 ?c1 ?k1 ?a2 ?l2 ?c2 ?k2 ?a3 ?l3 ?c3 ?k3 ?a4 ?l4 ?c4 ?k4 ?a5 ?l5 ?c5 ?k5 ?a6 ?l6 ?c6 ?k6 ?a7 ?l7 ?c7 ?k7 ?a8 ?l8 ?c8 ?k8 ?a9 ?l9 ?c9 ?k9 ?a10 ?l10 ?c10 ?k10 ?a11 ?l11 ?c11 ?k11 ?a12 ?l12 ?c12 ?k12 ?a13 ?l13 ?c13 ?k13 ?a14 ?l14 ?c14 ?k14 ?a15 ?l15 ?c15 ?k15 ?a16 ?l16 ?c16 ?k16 ?a17 ?l17 ?c17 ?k17 ?a18 ?l18 ?c18 ?k18 ?a19 ?l19 ?c19 ?k19 ?a20 ?l20 ?c20 ?k20 ?a21 ?l21 ?c21 ?k21 ?a22 ?l22 ?c22 ?k22 ?z0 ?z1 ?z2 ?z3 ?z4 ?z5 ?z6 ?z7 ?z8 ?z9 ?z10 ?z11 ?z12 ?z13 ?z14 ?z15) hmg
    (case a0 => k_is); (case l0 => k_is); (case c0 => k_is); (case k0 => k_is); (case a1 => k_is); (case l1 => k_is); (case c1 => k_is); (case k1 => k_is); (case a2 => k_is); (case l2 => k_is); (case c2 => k_is); (case k2 => k_is); (case a3 => k_is); (case l3 => k_is); (case c3 => k_is); (case k3 => k_is); (case a4 => k_is); (case l4 => k_is); (case c4 => k_is); (case k4 => k_is); (case a5 => k_is); (case l5 => k_is); (case c5 => k_is); (case k5 => k_is); (case a6 => k_is); (case l6 => k_is); (case c6 => k_is); (case k6 => k_is); (case a7 => k_is); (case l7 => k_is); (case c7 => k_is); (case k7 => k_is); (case a8 => k_is); (case l8 => k_is); (case c8 => k_is); (case k8 => k_is); (case a9 => k_is); (case l9 => k_is); (case c9 => k_is); (case k9 => k_is); (case a10 => k_is); (case l10 => k_is); (case c10 => k_is); (case k10 => k_is); (case a11 => k_is); (case l11 => k_is); (case c11 => k_is); (case k11 => k_is); (case a12 => k_is); (case l12 => k_is); (case c12 => k_is); (case k12 => k_is); (case a13 => k_is); (case l13 => k_is); (case c13 => k_is); (case k13 => k_is); (case a14 => k_is); (case l14 => k_is); (case c14 => k_is); (case k14 => k_is); (case a15 => k_is); (case l15 => k_is); (case c15 => k_is); (case k15 => k_is); (case a16 => k_is); (case l16 => k_is); (case c16 => k_is); (case k16 => k_is); (case a17 => k_is); (case l17 => k_is); (case c17 => k_is); (case k17 => k_is); (case a18 => k_is); (case l18 => k_is); (case c18 => k_is); (case k18 => k_is); (case a19 => k_is); (case l19 => k_is); (case c19 => k_is); (case k19 => k_is); (case a20 => k_is); (case l20 => k_is); (case c20 => k_is); (case k20 => k_is); (case a21 => k_is); (case l21 => k_is); (case c21 => k_is); (case k21 => k_is); (case a22 => k_is); (case l22 => k_is); (case c22 => k_is); (case k22 => k_is); (case z0 => k_is); (case z1 => k_is); (case z2 => k_is); (case z3 => k_is); (case z4 => k_is); (case z5 => k_is); (case z6 => k_is); (case z7 => k_is); (case z8 => k_is); (case z9 => k_is); (case z10 => k_is); (case z11 => k_is); (case z12 => k_is); (case z13 => k_is); (case z14 => k_is); (case z15 => k_is)

