import PyProof.Rows.All
import Wide.All
import OpenK.AllK
import Wide.FinOn
import HandS.ForMost
import HandS.Evl
import HandS.Zip
import HandS.RaiseMore
import PyProof.ReprRoads
import HandS.IsInst
import HandS.Defaults
import HandS.Walk
import HandS.TryOnly
import HandS.StrMore
import HandS.ExcValue
import HandS.ExcInit
import HandS.ExcIs
import KE.KExcIs
import PySem.Challenge.RW_tidewaits_k06_errors_stand_apart
set_option Elab.async false
set_option linter.all false
set_option maxRecDepth 100000
set_option maxHeartbeats 4000000
namespace Tw
open PySem PySem.Spec PyProof.Rows L2 Evl
/-! data that stays -/
mutual
theorem dp_ex {K : PySem.W.Frag} {H H' : Hp} (e : Ex H H') : ∀ {v : V} {d : PyData}, Dp K H v d → Dp K H' v d
  | _, _, .non => .non
  | _, _, .bl b => .bl b
  | _, _, .int i => .int i
  | _, _, .str x => .str x
  | _, _, .lst h a => .lst (ex_l e h) (dpa_ex e a)
  | _, _, .tup h a => .tup (ex_t e h) (dpa_ex e a)
theorem dpa_ex {K : PySem.W.Frag} {H H' : Hp} (e : Ex H H') : ∀ {vs : List V} {ds : List PyData}, DpAll K H vs ds → DpAll K H' vs ds
  | _, _, .nil => .nil
  | _, _, .cons h a => .cons (dp_ex e h) (dpa_ex e a)
end
/-! repr of data -/
section
variable {X : Cx}
def rRepr (K : PySem.W.Frag) : List V → Hp → VK → Prop := fun xs H Q => ∃ (a : Addr) (d : PyData), xs = [.ref a] ∧ Dp K H (.ref a) d ∧ d.showable = true ∧ d.hasDict = false ∧ d.depth ≤ 60 ∧ d.shown.length ≤ sizeLine ∧ Q (.str d.shown) H
theorem call_repr (hg : X.A.guards = some []) (hu : X.A.units + 64 < cLine) : CallR X (.builtin "repr") (rRepr X.K) := by
  intro pins s σ H xs us Q I r h
  obtain ⟨a, d, rfl, hd, hs, hn, hz, hl, q⟩ := h
  cases r with
  | cons r1 r2 =>
    cases r2
    cases r1
    obtain ⟨as, rd⟩ := Dp.reads I d _ _ hd rfl
    exact repr_of_reads' rd hs (PyData.noDict_hsm hn) hg (by omega) (fun _ _ e => e) (fun h' u tk hk => ⟨.str d.shown, H, I.kept hk, ⟨u, rfl⟩, q⟩) hl
end
end Tw

set_option Elab.async false
set_option linter.all false
set_option maxRecDepth 100000
set_option maxHeartbeats 4000000
namespace Tw
open PySem PySem.Spec PyProof.Rows L2 Evl
/-! a def's promise where no repr is under way -/
structure FnG (P : Program) (w : World) (K : PySem.W.Frag) (mg : Str → Option Value) (base : Heap) (k : Nat) (f : Addr) (fd : FuncData) (ps : List Str) (sp : Sp) : Prop where
  len : ∀ vs H Q E, sp vs H Q E → vs.length = ps.length
  run : ∀ (A : Around) (outer : List Env) (s : Shared) (H : Hp) (args : Args) (us : List Value) (vs : List V) (Q : VK) (E : XK), A.guards = some [] → Room k A →
    Env0 P w K mg base A outer s H → BindsTo s fd args (ps.zip us) → Vals vs us → sp vs H Q E →
    codeAny (model P w) A (.call (.ref f) args) (CR CX0 outer P w H s Q E) s
theorem fnG_of {P : Program} {w : World} {K : PySem.W.Frag} {mg : Str → Option Value} {base : Heap} {x qual : Str} {st : Stmt} {f : Addr} {fd : FuncData} {N ps : List Str} {k : Nat} {sp : Sp}
    (F : Fun K x qual st f fd) (S : FnScope N ps (defScope st)) (len : ∀ vs H Q E, sp vs H Q E → vs.length = ps.length)
    (body : ∀ (cdv : Value) (A : Around) (outer : List Env) (s : Shared) (H : Hp) (vs : List V) (Q : VK) (E : XK), A.guards = some [] → Room k (A.deeper (envOfC qual (defScope st) s.heap.objs.size f cdv)) → sp vs H Q E →
      ∃ t, PSs (cxOf CX0 P w K mg base N qual (defScope st) f cdv A outer s H E).nox (defBody st) t ∧ t { nx := fun _ H' => Q .non H', rt := Q } (start N vs) H) :
    FnG P w K mg base (k + 1) f fd ps sp := by
  obtain ⟨_, _, _, _, _, _, cdv, _, _, rfl, lk, hcd⟩ := F.ex
  constructor
  · exact len
  intro A outer s H args us vs Q E gd room e0 bt rv hq
  have lenV := len _ _ _ _ hq
  have kin : K.In s.heap := by
    have h := e0.mod.kin
    exact h.keeps fun c u z => (e0.bs c u z).1
  have nol : s.heap.NoLimit := by
    have h := e0.mod.nolimit
    exact h.keeps fun c u z => (e0.bs c u z).1
  have kinds : ∀ y ∈ ps.zip us, (defScope st).names.lookup y.1 = some .local ∨
      ((defScope st).names.lookup y.1 = some .cell ∧ ((cellsFrom (s.heap.objs.size + 1) (defScope st).names []).lookup y.1).isSome = true) := by
    rintro ⟨n, u⟩ hy
    have hn := (List.of_mem_zip hy).1
    cases S.par n hn with
    | inl h => exact .inl h
    | inr h => exact .inr ⟨h, PySem.W.cellsFrom_some _ _ _ (.inl h)⟩
  refine codeAny_call_function room.depth (kin _ _ lk) rfl S.co S.gen rfl
    (PySem.W.codeRec_of kin hcd) (bt _ _ _ _ ?_)
  refine wpAny_newFunctionEnv_cells S.kind kinds ?_
  intro env he s1 inc
  cases he
  refine ⟨nol.keeps inc.toInCall.keep, codeAny_func ?_⟩
  obtain ⟨t, ht', hb⟩ := body cdv A outer s H vs Q E gd (room.deeper _) hq
  have ht := ht'.nox
  have J := inv_start (CX := CX0) (E := E) S room.hd e0 lenV rv inc
  have goal := ht.run [] s1 (start N vs) H _ J hb
  refine wpAny_mono goal ?_ ?_
  · intro fl s' hs
    cases fl with
    | ret u =>
      obtain ⟨v, σ', H', I, r, q⟩ := hs
      exact ⟨v, H', I.os, I.bare, I.base, I.hok, r, q⟩
    | next =>
      obtain ⟨σ', H', I, q⟩ := hs
      exact ⟨.non, H', I.os, I.bare, I.base, I.hok, rfl, q⟩
    | brk =>
      obtain ⟨_, _, _, q⟩ := hs
      exact q.elim
    | cont =>
      obtain ⟨_, _, _, q⟩ := hs
      exact q.elim
  · intro e s' hs
    exact hs
theorem law_callG {P : Program} {w : World} {K : PySem.W.Frag} {mg mb : Str → Option Value} {k : Nat} {fa a : Addr} {fd : FuncData} {x : Str} {sp : Sp} {s₁ : Shared} {vs : List Value} {ns : List Int}
    (KX : K.In s₁.heap) (gl : s₁.heap.Ns mainGlobals mg) (bl : s₁.heap.Ns builtinsNs mb) (bb : ∀ x : Str, x ≠ "__name__" → mb x = bootBuiltins x) (nl : s₁.heap.NoLimit) (ng : s₁.gens = #[])
    (ha : s₁.heap.get? a = some { cls := .type "list", data := .seq vs.toArray }) (hi : IntsAre vs ns) (hl : ns.length ≤ sizeLine) (room : Room k callerA)
    (F : ∀ base : Heap, K.In base → base.Ns mainGlobals mg → FnG P w K mg base k fa fd [x] sp) (bt : ∀ (s : Shared) (u : Value), BindsTo s fd ⟨[u], []⟩ [(x, u)])
    (hsp : ∀ H : Hp, SqL K H a (ns.map V.int) → sp [.ref a] H (fun v _ => v = .bl true) fun _ _ _ => False) :
    codeAny (model P w) callerA (.call (.ref fa) ⟨[.ref a], []⟩) (fun r s' => r = .ok (.ret (.bool true)) ∧ OldK s₁.heap s'.heap ∧ s'.os = s₁.os ∧ AllBare s'.gens) s₁ := by
  have rv := vals_ints hi
  have lenV := hi.length
  have main : ∀ H : Hp, Only H → SqL K H a (ns.map V.int) → HOk P w H s₁.heap → (∀ b, H b ≠ none → b = a) → (H a ≠ none → K.lookup a = none) →
      codeAny (model P w) callerA (.call (.ref fa) ⟨[.ref a], []⟩) (fun r s' => r = .ok (.ret (.bool true)) ∧ OldK s₁.heap s'.heap ∧ s'.os = s₁.os ∧ AllBare s'.gens) s₁ := by
    intro H only sq hok onlyA notK
    have hide : ∀ {b : Addr} {m : Str → Option Value}, s₁.heap.Ns b m → (hidT s₁.heap H).Ns b m := by
      rintro b m ⟨o, es, ep, e1, e2, r⟩
      refine ⟨o, es, ep, hidT_get e1 ?_, e2, r⟩
      cases q : H b with
      | none => rfl
      | some u =>
        have eb : b = a := onlyA b (by rw [q]; exact Option.some_ne_none u)
        subst eb
        rw [ha] at e1
        cases e1
        cases e2
    have kinB : K.In (hidT s₁.heap H) := by
      intro b o e
      refine hidT_get (KX b o e) ?_
      cases q : H b with
      | none => rfl
      | some u =>
        have eb : b = a := onlyA b (by rw [q]; exact Option.some_ne_none u)
        subst eb
        have := notK (by rw [q]; exact Option.some_ne_none u)
        rw [this] at e
        cases e
    obtain ⟨mc, c1, c2⟩ := nl
    have md : Mod K mg (hidT s₁.heap H) := ⟨kinB, hide gl, ⟨mb, hide bl, bb⟩, ⟨mc, hide c1, c2⟩⟩
    have env : Env0 P w K mg (hidT s₁.heap H) callerA [] s₁ H := by
      refine ⟨rfl, md, fun b o e => of_hidT e, Nat.le_of_eq (hidT_size _ _), trivial, ?_, hok, .of_eq ng⟩
      intro b hb
      exact absurd (show b ∈ ([] : List Addr) from hb) List.not_mem_nil
    have FF := F _ kinB (hide gl)
    have go := FF.run callerA [] s₁ H ⟨[.ref a], []⟩ [.ref a] [.ref a] _ _ rfl room env (bt s₁ (.ref a)) (.cons rfl .nil) (hsp H sq)
    refine codeAny_mono go ?_
    intro r s' hr
    match r, hr with
    | .error e, hr => exact False.elim hr
    | .ok .next, hr => exact False.elim hr
    | .ok .brk, hr => exact False.elim hr
    | .ok .cont, hr => exact False.elim hr
    | .ok (.ret u), hr =>
      obtain ⟨v, H', os, bare, un, hok', r', q⟩ := hr
      cases (show v = .bl true from q)
      cases (show u = Value.bool true from r')
      refine ⟨rfl, OldK.of_keep ?_, os, bare⟩
      intro b o e
      cases q : H b with
      | none => exact un.keep b o e q (fun z => absurd (show b ∈ ([] : List Addr) from z) List.not_mem_nil) (fun z => absurd z List.not_mem_nil)
      | some u =>
        rcases only b with z | ⟨ob, xs, z⟩
        · rw [q] at z
          cases z
        · obtain ⟨e1, _⟩ := hok b _ z
          obtain ⟨e2, _⟩ := hok' b _ (un.frzs b ob _ z)
          rw [e] at e1
          cases e1
          exact e2
  cases hk : K.lookup a with
  | some o =>
    have e := KX a o hk
    rw [ha] at e
    cases e
    refine main (fun _ => none) (fun _ => .inl rfl) (.inr ⟨_, vs.toArray, _, hk, rfl, rfl, rfl, ?_, by simpa using rv⟩) (fun b u z => by cases z) (fun b z => absurd rfl z) fun z => absurd rfl z
    rw [List.size_toArray, lenV]
    exact hl
  | none =>
    let Ha : Hp := fun b => if b = a then some (.frz { cls := .type "list", data := .seq vs.toArray } (.lst (ns.map V.int))) else none
    have at_a : Ha a = some (.frz { cls := .type "list", data := .seq vs.toArray } (.lst (ns.map V.int))) := if_pos rfl
    have off : ∀ b, b ≠ a → Ha b = none := fun b hb => if_neg hb
    refine main Ha ?_ (.inl (.inr ⟨_, at_a⟩)) ?_ ?_ fun _ => hk
    · intro b
      by_cases hb : b = a
      · subst hb
        exact .inr ⟨_, _, at_a⟩
      · exact .inl (off b hb)
    · intro b u z
      by_cases hb : b = a
      · subst hb
        rw [at_a] at z
        cases z
        exact ⟨ha, by rw [List.length_map]; exact hl, vs, _, rv, ha⟩
      · rw [off b hb] at z
        cases z
    · intro b z
      by_cases hb : b = a
      · exact hb
      · exact absurd (off b hb) z
theorem walk_G {l : PySem.W.OpenLaw} {n k : Nat} {q : Program} {loose : List Str} {XP : (Str → Option Value) → Heap → Prop} {YP : World → Heap → Prop} {d : DefRec} {K : Params → PySem.W.Frag} {sp : PySem.W.Frag → Sp} {x : Str}
    (hn : l.most = some n) (hn2 : n ≤ sizeLine) (hdf : d.params.defaults = []) (room : Room k callerA) (hY : ∀ (w : World) (h : Heap), YP w h → (K w.params).In h)
    (F : ∀ (w : World) (mg : Str → Option Value) (fa : Addr) (h : Heap), (K w.params).In h → h.Ns mainGlobals mg → mg d.name = some (.ref fa) →
      ∃ fd : FuncData, (∀ (s : Shared) (u : Value), BindsTo s fd ⟨[u], []⟩ [(x, u)]) ∧
        ∀ base : Heap, (K w.params).In base → base.Ns mainGlobals mg → FnG l.prog w (K w.params) mg base k fa fd [x] (sp (K w.params)))
    (hsp : ∀ (K : PySem.W.Frag) (H : Hp) (a : Addr) (ns : List Int), ns.length ≤ n → SqL K H a (ns.map V.int) → sp K [.ref a] H (fun v _ => v = .bl true) fun _ _ _ => False) :
    PySem.W.WalkO q loose XP YP l.row.toRowW d [] (fun f vs => PySem.call f vs) := by
  refine Att.attach_call hn hdf ?_
  intro w s₀ s₁ mg mb fa o pm cd doc a vs ns G Y ho hd hcd hmg hobj hints hlen hg
  have KX := hY w _ Y
  obtain ⟨fd, hb, hF⟩ := F w mg fa _ KX G.T.g hmg
  exact law_callG KX G.T.g G.T.b G.T.builtins G.T.nolimit hg hobj hints (Nat.le_trans hlen hn2) room hF hb fun H hS => hsp _ H a ns hlen hS
end Tw

set_option Elab.async false
set_option linter.all false
set_option maxRecDepth 100000
set_option maxHeartbeats 4000000
namespace Tw
open PySem PySem.Spec PyProof.Rows L2 Evl
/-! data, its lists plain -/
mutual
inductive Da (K : PySem.W.Frag) (H : Hp) : V → PyData → Prop
  | non : Da K H .non .none
  | bl (b : Bool) : Da K H (.bl b) (.bool b)
  | int (i : Int) : Da K H (.int i) (.int i)
  | str (x : Str) : Da K H (.str x) (.str x)
  | lst {a : Addr} {xs : List V} {ds : List PyData} : H a = some (.lst xs) → DaAll K H xs ds → Da K H (.ref a) (.list ds)
  | tup {a : Addr} {xs : List V} {ds : List PyData} : SqT K H a xs → DaAll K H xs ds → Da K H (.ref a) (.tuple ds)
inductive DaAll (K : PySem.W.Frag) (H : Hp) : List V → List PyData → Prop
  | nil : DaAll K H [] []
  | cons {v : V} {vs : List V} {d : PyData} {ds : List PyData} : Da K H v d → DaAll K H vs ds → DaAll K H (v :: vs) (d :: ds)
end
section
variable {K : PySem.W.Frag} {H H' : Hp}
mutual
theorem da_ex (e : Ex H H') : ∀ {v : V} {d : PyData}, Da K H v d → Da K H' v d
  | _, _, .non => .non
  | _, _, .bl b => .bl b
  | _, _, .int i => .int i
  | _, _, .str x => .str x
  | _, _, .lst h a => .lst (e _ _ h) (daa_ex e a)
  | _, _, .tup h a => .tup (ex_t e h) (daa_ex e a)
theorem daa_ex (e : Ex H H') : ∀ {vs : List V} {ds : List PyData}, DaAll K H vs ds → DaAll K H' vs ds
  | _, _, .nil => .nil
  | _, _, .cons h a => .cons (da_ex e h) (daa_ex e a)
end
mutual
theorem da_dp : ∀ {v : V} {d : PyData}, Da K H v d → Dp K H v d
  | _, _, .non => .non
  | _, _, .bl b => .bl b
  | _, _, .int i => .int i
  | _, _, .str x => .str x
  | _, _, .lst h a => .lst (sq_of h) (daa_dp a)
  | _, _, .tup h a => .tup h (daa_dp a)
theorem daa_dp : ∀ {vs : List V} {ds : List PyData}, DaAll K H vs ds → DpAll K H vs ds
  | _, _, .nil => .nil
  | _, _, .cons h a => .cons (da_dp h) (daa_dp a)
end
theorem daa_len : ∀ {vs : List V} {ds : List PyData}, DaAll K H vs ds → vs.length = ds.length
  | _, _, .nil => rfl
  | _, _, .cons _ a => by rw [List.length_cons, List.length_cons, daa_len a]
theorem daa_get : ∀ {vs : List V} {ds : List PyData}, DaAll K H vs ds → ∀ (i : Nat) (d : PyData), ds[i]? = some d → ∃ v, vs[i]? = some v ∧ Da K H v d
  | _, _, .nil, i, d, h => by simp at h
  | _, _, .cons (v := v) h a, 0, d, e => ⟨v, rfl, by
      have e' := Option.some.inj e
      rw [← e']
      exact h⟩
  | _, _, .cons h a, i + 1, d, e => daa_get a i d e
theorem daa_getV : ∀ {vs : List V} {ds : List PyData}, DaAll K H vs ds → ∀ (i : Nat) (v : V), vs[i]? = some v → ∃ d, ds[i]? = some d ∧ Da K H v d
  | _, _, .nil, i, d, h => by simp at h
  | _, _, .cons (d := d) h a, 0, v, e => ⟨d, rfl, by
      have e' := Option.some.inj e
      rw [← e']
      exact h⟩
  | _, _, .cons h a, i + 1, v, e => daa_getV a i v e
theorem daa_app : ∀ {vs ws : List V} {ds es : List PyData}, DaAll K H vs ds → DaAll K H ws es → DaAll K H (vs ++ ws) (ds ++ es)
  | _, _, _, _, .nil, b => b
  | _, _, _, _, .cons h a, b => .cons h (daa_app a b)
theorem daa_drop : ∀ {vs : List V} {ds : List PyData} (n : Nat), DaAll K H vs ds → DaAll K H (vs.drop n) (ds.drop n)
  | _, _, 0, h => h
  | _, _, n + 1, .nil => .nil
  | _, _, n + 1, .cons _ a => daa_drop n a
theorem daa_take : ∀ {vs : List V} {ds : List PyData} (n : Nat), DaAll K H vs ds → DaAll K H (vs.take n) (ds.take n)
  | _, _, 0, h => .nil
  | _, _, n + 1, .nil => .nil
  | _, _, n + 1, .cons h a => .cons h (daa_take n a)
theorem daa_ints : ∀ (ns : List Int), DaAll K H (ns.map V.int) (ns.map PyData.int)
  | [] => .nil
  | n :: r => .cons (.int n) (daa_ints r)
theorem daa_intsV : ∀ {ns : List Int} {vs : List V}, DaAll K H vs (ns.map PyData.int) → vs = ns.map V.int
  | [], _, .nil => rfl
  | n :: r, _, .cons (.int _) a => by rw [daa_intsV a]; rfl
theorem daa_strsV : ∀ {ns : List Str} {vs : List V}, DaAll K H vs (ns.map PyData.str) → vs = ns.map V.str
  | [], _, .nil => rfl
  | n :: r, _, .cons (.str _) a => by rw [daa_strsV a]; rfl
end
/-! what is had behind an evaluation: v tells d, by old things of the anchor H and new ones alone -/
structure Sep (H H1 H2 G : Hp) : Prop where
  up : Ex H1 H2
  an : Ex H G
  inn : Ex G H2
  sep : ∀ b, H b = none → H1 b ≠ none → G b = none
theorem Sep.refl {H H1 : Hp} (e : Ex H H1) : Sep H H1 H1 H := ⟨Ex.refl _, Ex.refl _, e, fun _ h _ => h⟩
theorem Sep.trans {H H1 H2 H3 G G2 : Hp} (a : Sep H H1 H2 G) (b : Sep G H2 H3 G2) : Sep H H1 H3 G2 :=
  ⟨a.up.trans b.up, a.an.trans b.an, b.inn, fun c h h1 => b.sep c (a.sep c h h1) fun z => by
    cases q : H1 c with
    | none => exact h1 q
    | some o =>
      rw [a.up c o q] at z
      cases z⟩
theorem Sep.new {H H1 : Hp} {p : Addr} {o : HO} (e : Ex H H1) (h : H1 p = none) : Sep H H1 (upd H1 p o) (upd H p o) := by
  have hp : H p = none := fresh_back e h
  refine ⟨Ex.new h, Ex.new hp, fun b u hb => ?_, fun b hb h1 => ?_⟩
  · by_cases q : b = p
    · subst q
      rw [upd_same] at hb ⊢
      exact hb
    · rw [upd_ne q] at hb ⊢
      exact e b u hb
  · have q : b ≠ p := fun z => by
      rw [z] at h1
      exact h1 h
    rw [upd_ne q]
    exact hb
/-- a place outside the anchor stays outside, and stays -/
theorem Sep.out {H H1 H2 G : Hp} (a : Sep H H1 H2 G) {p : Addr} {o : HO} (h : H p = none) (h1 : H1 p = some o) : G p = none ∧ H2 p = some o :=
  ⟨a.sep p h (by rw [h1]; exact Option.some_ne_none o), a.up p o h1⟩
/-- the place changes; the anchor stands -/
theorem ex_chg {G H : Hp} {p : Addr} {o : HO} (e : Ex G H) (h : G p = none) : Ex G (upd H p o) := Ex.mut e h

def ED (K : PySem.W.Frag) (te : TE) (σ : L2.St) (H : Hp) (d : PyData) : Prop :=
  ∀ H1, Ex H H1 → ∀ Q : VK, (∀ v H2 G, Sep H H1 H2 G → Da K G v d → Q v H2) → te σ H1 Q
def EDA (K : PySem.W.Frag) (ta : TA) (σ : L2.St) (H : Hp) (ds : List PyData) : Prop :=
  ∀ H1, Ex H H1 → ∀ Q : List V → Hp → Prop, (∀ vs H2 G, Sep H H1 H2 G → DaAll K G vs ds → Q vs H2) → ta σ H1 Q
section
variable {K : PySem.W.Frag} {σ : L2.St} {H H' : Hp} {ta tb te : TE} {d e : PyData} {ds es : List PyData}
theorem ED.mono (x : Ex H H') (h : ED K te σ H d) : ED K te σ H' d := fun H1 a Q q => h H1 (x.trans a) Q fun v H2 G s g => by
  -- the anchor grows: what is new stands beside it
  refine q v H2 (fun b => if (H' b).isSome then H' b else G b) ⟨s.up, fun b o hb => ?_, fun b o hb => ?_, fun b hb hb1 => ?_⟩ (da_ex (fun b o hb => ?_) g)
  · show (if (H' b).isSome then H' b else G b) = some o
    rw [hb]
    rfl
  · have hb' : (if (H' b).isSome then H' b else G b) = some o := hb
    cases z : H' b with
    | none =>
      rw [z] at hb'
      exact s.inn b o hb'
    | some u =>
      rw [z] at hb'
      have : u = o := Option.some.inj hb'
      subst this
      exact s.up b u (a b u z)
  · show (if (H' b).isSome then H' b else G b) = none
    rw [hb]
    exact s.sep b (fresh_back x hb) hb1
  · show (if (H' b).isSome then H' b else G b) = some o
    cases z : H' b with
    | none => exact hb
    | some u =>
      have h2 := s.up b u (a b u z)
      rw [s.inn b o hb] at h2
      exact h2.symm
theorem ed_is (h : ED K te σ H d) (x : d = e) : ED K te σ H e := x ▸ h
theorem ed_ev {v : V} (h : Ev te σ H v) (g : Da K H v d) : ED K te σ H d := fun H1 x Q q => h H1 x Q fun H2 x2 =>
  q v H2 H ⟨x2, Ex.refl H, x.trans x2, fun _ h _ => h⟩ g
theorem ev_int {i : Int} (h : ED K te σ H (.int i)) : Ev te σ H (.int i) := fun H1 x Q q => h H1 x Q fun v H2 G s g => by
  cases g
  exact q H2 s.up
theorem ev_bool {b : Bool} (h : ED K te σ H (.bool b)) : Ev te σ H (.bl b) := fun H1 x Q q => h H1 x Q fun v H2 G s g => by
  cases g
  exact q H2 s.up
theorem ev_str {x : Str} (h : ED K te σ H (.str x)) : Ev te σ H (.str x) := fun H1 x Q q => h H1 x Q fun v H2 G s g => by
  cases g
  exact q H2 s.up
theorem ev_non (h : ED K te σ H .none) : Ev te σ H .non := fun H1 x Q q => h H1 x Q fun v H2 G s g => by
  cases g
  exact q H2 s.up
theorem ed_var {i : Nat} {v : V} (h : σ[i]? = some (some v)) (g : Da K H v d) : ED K (tVar i) σ H d := ed_ev (ev_var h) g
theorem ed_int {i : Int} : ED K (tC (.int i)) σ H (.int i) := ed_ev ev_c (.int i)
theorem ed_str {x : Str} : ED K (tC (.str x)) σ H (.str x) := ed_ev ev_c (.str x)
theorem ed_bl {b : Bool} : ED K (tC (.bl b)) σ H (.bool b) := ed_ev ev_c (.bl b)
theorem ed_non : ED K (tC .non) σ H .none := ed_ev ev_c .non
theorem ed_op0 {g : Int → Int → V} {i j k : Int} (ha : ED K ta σ H (.int i)) (hb : ED K tb σ H (.int j)) (hg : g i j = .int k) : ED K (tOp (rI0 g) ta tb) σ H (.int k) :=
  ed_ev (ev_op (ev_int ha) (ev_int hb) rv_I0) (by rw [hg]; exact .int k)
theorem ed_opC {C : Int → Int → Prop} {g : Int → Int → V} {i j k : Int} (ha : ED K ta σ H (.int i)) (hb : ED K tb σ H (.int j)) (hc : C i j) (hg : g i j = .int k) : ED K (tOp (rI C g) ta tb) σ H (.int k) :=
  ed_ev (ev_op (ev_int ha) (ev_int hb) (rv_I hc)) (by rw [hg]; exact .int k)
theorem ed_add {i j : Int} (ha : ED K ta σ H (.int i)) (hb : ED K tb σ H (.int j)) : ED K (tOp (rI0 fun i j => .int (i + j)) ta tb) σ H (.int (i + j)) := ed_op0 ha hb rfl
theorem ed_sub {i j : Int} (ha : ED K ta σ H (.int i)) (hb : ED K tb σ H (.int j)) : ED K (tOp (rI0 fun i j => .int (i - j)) ta tb) σ H (.int (i - j)) := ed_op0 ha hb rfl
theorem ed_mul {i j : Int} (ha : ED K ta σ H (.int i)) (hb : ED K tb σ H (.int j)) (hc : CMul i j) : ED K (tOp (rI CMul fun i j => .int (i * j)) ta tb) σ H (.int (i * j)) := ed_opC ha hb hc rfl
theorem ed_mod {i j : Int} (ha : ED K ta σ H (.int i)) (hb : ED K tb σ H (.int j)) (hc : 0 < j) : ED K (tOp (rI (fun _ j => 0 < j) fun i j => .int (i % j)) ta tb) σ H (.int (i % j)) := ed_opC ha hb hc rfl
theorem ed_fdiv {i j : Int} (ha : ED K ta σ H (.int i)) (hb : ED K tb σ H (.int j)) (hc : CDiv i j) : ED K (tOp (rI CDiv fun i j => .int (i / j)) ta tb) σ H (.int (i / j)) := ed_opC ha hb hc rfl
/-- arguments -/
theorem eda_nil : EDA K tNil σ H [] := fun H1 x Q q => q [] H1 H (Sep.refl x) .nil
theorem EDA.mono' {tr : TA} : True := trivial
theorem eda_cons {tr : TA} (h : ED K te σ H d) (hr : ∀ G, Ex H G → EDA K tr σ G ds) : EDA K (tCons te tr) σ H (d :: ds) := fun H1 x Q q =>
  h H1 x _ fun v H2 G s g => hr G s.an H2 s.inn _ fun vs H3 G2 s2 g2 => q (v :: vs) H3 G2 (s.trans s2) (.cons (da_ex s2.an g) g2)
theorem ed_lst {t : TA} (h : EDA K t σ H ds) (hl : ds.length ≤ 100000) : ED K (tLst t) σ H (.list ds) := fun H1 x Q q =>
  h H1 x _ fun vs H2 G s g => ⟨by rw [daa_len g]; exact sz_of hl, fun p hp => by
    refine q (.ref p) _ (upd G p (.lst vs)) (s.trans (Sep.new s.inn hp)) (.lst upd_same (daa_ex (Ex.new (fresh_back s.inn hp)) g))⟩
theorem ed_tup {t : TA} (h : EDA K t σ H ds) (hl : ds.length ≤ 100000) : ED K (tTup t) σ H (.tuple ds) := fun H1 x Q q =>
  h H1 x _ fun vs H2 G s g => ⟨by rw [daa_len g]; exact sz_of hl, fun p hp => by
    refine q (.ref p) _ (upd G p (.tup vs)) (s.trans (Sep.new s.inn hp)) (.tup (st_of upd_same) (daa_ex (Ex.new (fresh_back s.inn hp)) g))⟩
/-- int(n) -/
theorem ed_toInt {i : Int} (h : ED K ta σ H (.int i)) : ED K (tCB (fun xs H Q => (∃ i, xs = [V.int i] ∧ Q (.int i) H) ∨ ∃ k, xs = [.bl k] ∧ Q (.int (if k then 1 else 0)) H) (tCons ta tNil)) σ H (.int i) := fun H1 x Q q =>
  ev_int h H1 x _ fun H2 x2 => .inl ⟨i, rfl, q (.int i) H2 H ⟨x2, Ex.refl H, x.trans x2, fun _ h _ => h⟩ (.int i)⟩
/-- xs[i], t[i] -/
theorem at_of {vs : List V} (g : DaAll K H vs ds) {n : Nat} (hd : ds[n]? = some d) : ∃ v, atI vs (n : Int) = some v ∧ Da K H v d := by
  obtain ⟨v, hv, gv⟩ := daa_get g n d hd
  exact ⟨v, atI_nat hv, gv⟩
theorem ed_ix {i : Int} {n : Nat} (ha : ED K ta σ H (.list ds)) (hb : ∀ G, Ex H G → ED K tb σ G (.int i)) (hi : i = n) (hd : ds[n]? = some d) : ED K (tOp (rIxL K) ta tb) σ H d := fun H1 x Q q =>
  ha H1 x _ fun v H2 G s g => ev_int (hb G s.an) H2 s.inn _ fun H3 x3 => by
    cases g with
    | @lst a xs _ e g =>
      obtain ⟨v, hv, gv⟩ := at_of g hd
      subst hi
      exact ⟨a, xs, n, v, rfl, rfl, sq_of (x3 _ _ (s.inn _ _ e)), hv, q v H3 G ⟨s.up.trans x3, s.an, s.inn.trans x3, s.sep⟩ gv⟩
theorem ed_ixT {i : Int} {n : Nat} (ha : ED K ta σ H (.tuple ds)) (hb : ∀ G, Ex H G → ED K tb σ G (.int i)) (hi : i = n) (hd : ds[n]? = some d) : ED K (tOp (rIxT K) ta tb) σ H d := fun H1 x Q q =>
  ha H1 x _ fun v H2 G s g => ev_int (hb G s.an) H2 s.inn _ fun H3 x3 => by
    cases g with
    | @tup a xs _ e g =>
      obtain ⟨v, hv, gv⟩ := at_of g hd
      subst hi
      exact ⟨a, xs, n, v, rfl, rfl, ex_t (s.inn.trans x3) e, hv, q v H3 G ⟨s.up.trans x3, s.an, s.inn.trans x3, s.sep⟩ gv⟩
/-- xs + ys -/
theorem ed_cat (ha : ED K ta σ H (.list ds)) (hb : ∀ G, Ex H G → ED K tb σ G (.list es)) (hl : ds.length + es.length ≤ 100000) : ED K (tOp rCat ta tb) σ H (.list (ds ++ es)) := fun H1 x Q q =>
  ha H1 x _ fun v H2 G s g => hb G s.an H2 s.inn _ fun w H3 G2 s2 g2 => by
    cases g with
    | @lst a xs _ e g =>
      cases g2 with
      | @lst b ys _ e2 g2 =>
        refine ⟨a, b, xs, ys, rfl, rfl, s2.up _ _ (s.inn _ _ e), s2.inn _ _ e2, by rw [daa_len g, daa_len g2]; exact sz_of hl, fun p hp => ?_⟩
        have np : G2 p = none := fresh_back s2.inn hp
        exact q (.ref p) _ (upd G2 p (.lst (xs ++ ys))) ((s.trans s2).trans (Sep.new s2.inn hp)) (.lst upd_same (daa_app (daa_ex (s2.an.trans (Ex.new np)) g) (daa_ex (Ex.new np) g2)))
/-- xs[a:b] -/
def cutD (ds : List PyData) (lo hi : Option Int) : List PyData := (ds.drop (HT.sIx ds.length 0 lo)).take (HT.sIx ds.length ds.length hi - HT.sIx ds.length 0 lo)
theorem daa_cut {vs : List V} (g : DaAll K H vs ds) (lo hi : Option Int) : DaAll K H (cutV vs lo hi) (cutD ds lo hi) := by
  unfold cutV cutD
  rw [daa_len g]
  exact daa_take _ (daa_drop _ g)
theorem ed_cut {tl th : TO} {lo hi : Option Int} (ha : ED K ta σ H (.list ds)) (h1 : ∀ G, Ex H G → EvO tl σ G lo) (h2 : ∀ G, Ex H G → EvO th σ G hi) : ED K (tSl (rSlL K) ta tl th) σ H (.list (cutD ds lo hi)) := fun H1 x Q q =>
  ha H1 x _ fun v H2 G s g => h1 G s.an H2 s.inn _ fun H3 x3 => h2 G s.an H3 (s.inn.trans x3) _ fun H4 x4 => by
    cases g with
    | @lst a xs _ e g =>
      have x34 := x3.trans x4
      refine ⟨a, xs, rfl, sq_of (x34 _ _ (s.inn _ _ e)), fun p hp => ?_⟩
      have s' : Sep H H1 H4 G := ⟨s.up.trans x34, s.an, s.inn.trans x34, s.sep⟩
      exact q (.ref p) _ (upd G p (.lst (cutV xs lo hi))) (s'.trans (Sep.new s'.inn hp)) (.lst upd_same (daa_ex (Ex.new (fresh_back s'.inn hp)) (daa_cut g lo hi)))
/-- tuple(xs) of a list -/
theorem ed_tuple (ha : ED K ta σ H (.list ds)) : ED K (tCB (fun xs H Q => ∃ p ys, xs = [V.ref p] ∧ ((SqL K H p ys ∧ ∀ l, H l = none → Q (.ref l) (upd H l (.tup ys))) ∨ (SqT K H p ys ∧ Q (.ref p) H))) (tCons ta tNil)) σ H (.tuple ds) := fun H1 x Q q =>
  ha H1 x _ fun v H2 G s g => by
    cases g with
    | @lst a xs _ e g =>
      refine ⟨a, xs, rfl, .inl ⟨sq_of (s.inn _ _ e), fun p hp => ?_⟩⟩
      exact q (.ref p) _ (upd G p (.tup xs)) (s.trans (Sep.new s.inn hp)) (.tup (st_of upd_same) (daa_ex (Ex.new (fresh_back s.inn hp)) g))
/-- s + t -/
theorem ed_adds {x y : Str} (ha : ED K ta σ H (.str x)) (hb : ED K tb σ H (.str y)) (hl : x.length + y.length ≤ sizeLine) :
    ED K (tOp (fun x y H Q => ∃ i j, x = V.str i ∧ y = V.str j ∧ i.length + j.length ≤ sizeLine ∧ Q (.str (i ++ j)) H) ta tb) σ H (.str (x ++ y)) := fun H1 x1 Q q =>
  ev_str ha H1 x1 _ fun H2 x2 => ev_str hb H2 (x1.trans x2) _ fun H3 x3 => ⟨x, y, rfl, rfl, hl, q _ H3 H ⟨x2.trans x3, Ex.refl H, (x1.trans x2).trans x3, fun _ h _ => h⟩ (.str _)⟩
/-- sep.join(xs) -/
theorem ed_join {z : Str} {ys : List Str} (ha : ED K ta σ H (.str z)) (hb : ∀ G, Ex H G → ED K tb σ G (.list (ys.map .str))) (hl : (ys.map (·.length)).sum + ys.length * z.length ≤ 16777216) :
    ED K (tM1 (fun x xs H Q => ∃ a p, ∃ ys : List Str, x = V.str a ∧ xs = [V.ref p] ∧ (SqL K H p (ys.map V.str) ∨ SqT K H p (ys.map V.str)) ∧ (ys.map (·.length)).sum + ys.length * a.length ≤ 16777216 ∧ Q (.str (Txt.join a ys)) H) ta tb) σ H (.str (Txt.join z ys)) := fun H1 x1 Q q =>
  ev_str ha H1 x1 _ fun H2 x2 => ⟨⟨z, rfl⟩, hb H (Ex.refl H) H2 (x1.trans x2) _ fun v H3 G s g => by
    cases g with
    | @lst a xs _ e g =>
      have ex := daa_strsV g
      subst ex
      exact ⟨z, a, ys, rfl, rfl, .inl (sq_of (s.inn _ _ e)), hl, q _ H3 G ⟨x2.trans s.up, s.an, s.inn, fun b h h1 => s.sep b h fun zz => by
        cases qq : H1 b with
        | none => exact h1 qq
        | some o =>
          rw [x2 b o qq] at zz
          cases zz⟩ (.str _)⟩⟩
/-- len(xs) -/
def rLenS2 (K : PySem.W.Frag) : List V → Hp → VK → Prop := fun xs H Q => ∃ p ys, xs = [.ref p] ∧ (SqL K H p ys ∨ SqT K H p ys) ∧ Q (.int ys.length) H
theorem ed_len (ha : ED K ta σ H (.list ds)) : ED K (tCB (fun xs H Q => ∃ p ys, xs = [V.ref p] ∧ (SqL K H p ys ∨ SqT K H p ys) ∧ Q (.int ys.length) H) (tCons ta tNil)) σ H (.int ds.length) := fun H1 x Q q =>
  ha H1 x _ fun v H2 G s g => by
    cases g with
    | @lst a xs _ e g =>
      refine ⟨a, xs, rfl, .inl (sq_of (s.inn _ _ e)), ?_⟩
      rw [daa_len g]
      exact q _ H2 G s (.int _)
/-- a def's promise -/
def spF (K : PySem.W.Frag) (R : List PyData → PyData → Prop) : Sp := fun vs H1 Q _ => ∃ G0 ds d, Ex G0 H1 ∧ DaAll K G0 vs ds ∧ R ds d ∧ ∀ v H2 G, Sep G0 H1 H2 G → Da K G v d → Q v H2
theorem ed_call {R : List PyData → PyData → Prop} {E : XK} {t : TA} (h : EDA K t σ H ds) (hr : R ds d) : ED K (tCall (spF K R) [] E t) σ H d := fun H1 x Q q =>
  h H1 x _ fun vs H2 G s g => ⟨G, ds, d, s.inn, by rw [List.append_nil]; exact g, hr, fun v H3 G2 s2 g2 => q v H3 G2 (s.trans s2) g2⟩
theorem spF_len {R : List PyData → PyData → Prop} {n : Nat} (h : ∀ ds d, R ds d → ds.length = n) : ∀ vs H Q E, spF K R vs H Q E → vs.length = n := by
  rintro vs H Q E ⟨G0, ds, d, _, g, hr, _⟩
  rw [daa_len g]
  exact h ds d hr
end
/-! statements: the anchor G, the heap H over it -/
section
variable {K : PySem.W.Frag} {σ : L2.St} {G H : Hp} {ta tb te : TE} {d : PyData} {ds : List PyData} {D : Ends} {tu tz : TS}
theorem d_asg {i : Nat} (h : ED K te σ G d) (x : Ex G H) (k : ∀ v H2 G2, Sep G H H2 G2 → Da K G2 v d → tz D (σ.set i (some v)) H2) : tSeq (tAsg te (gName i)) tz D σ H := h H x _ k
theorem d_asg1 {i : Nat} (h : ED K te σ G d) (x : Ex G H) (k : ∀ v H2 G2, Sep G H H2 G2 → Da K G2 v d → D.nx (σ.set i (some v)) H2) : tAsg te (gName i) D σ H := h H x _ k
theorem d_ret (h : ED K te σ G d) (x : Ex G H) (k : ∀ v H2 G2, Sep G H H2 G2 → Da K G2 v d → D.rt v H2) : tRet te D σ H := h H x _ k
/-- xs.append(e), xs outside the anchor, its items within -/
theorem d_app {l : Addr} {xs : List V} {i : Nat} (hG : G l = none) (hl : H l = some (.lst xs)) (hx : DaAll K G xs ds) (hi : σ[i]? = some (some (.ref l))) (h : ED K te σ G d) (x : Ex G H) (hz : xs.length < 100000)
    (k : ∀ v H2 G2, Sep G H H2 G2 → G2 l = none → Da K G2 v d → DaAll K G2 (xs ++ [v]) (ds ++ [d]) → Ex G2 (upd H2 l (.lst (xs ++ [v]))) → tz D σ (upd H2 l (.lst (xs ++ [v])))) :
    tSeq (tDrop (tBM K "list" rAppend (tVar i) (tCons te tNil))) tz D σ H :=
  ⟨_, hi, .inl ⟨rfl, xs, sq_of hl⟩, h H x _ fun v H2 G2 s g => by
    obtain ⟨o1, o2⟩ := s.out hG hl
    exact ⟨l, xs, v, rfl, rfl, o2, sz_lt hz, k v H2 G2 s o1 g (daa_app (daa_ex s.an hx) (.cons g .nil)) (Ex.mut s.inn o1)⟩⟩
theorem d_app1 {l : Addr} {xs : List V} {i : Nat} (hG : G l = none) (hl : H l = some (.lst xs)) (hx : DaAll K G xs ds) (hi : σ[i]? = some (some (.ref l))) (h : ED K te σ G d) (x : Ex G H) (hz : xs.length < 100000)
    (k : ∀ v H2 G2, Sep G H H2 G2 → G2 l = none → Da K G2 v d → DaAll K G2 (xs ++ [v]) (ds ++ [d]) → Ex G2 (upd H2 l (.lst (xs ++ [v]))) → D.nx σ (upd H2 l (.lst (xs ++ [v])))) :
    tDrop (tBM K "list" rAppend (tVar i) (tCons te tNil)) D σ H := d_app (tz := tNext) hG hl hx hi h x hz k
/-- a new empty list, kept outside the anchor -/
theorem d_new {i : Nat} (x : Ex G H) (k : ∀ p, H p = none → G p = none → Ex G (upd H p (.lst [])) → Ex H (upd H p (.lst [])) → tz D (σ.set i (some (.ref p))) (upd H p (.lst []))) : tSeq (tAsg (tLst tNil) (gName i)) tz D σ H :=
  ⟨Nat.zero_le _, fun p hp => k p hp (fresh_back x hp) (Ex.mut x (fresh_back x hp)) (Ex.new hp)⟩
/-- if -/
theorem d_if {t : TT} {tw : TS} {b : Bool} (h : EvT t σ G b) (x : Ex G H) (h1 : b = true → ∀ H1, Ex H H1 → tu { D with nx := tz D } σ H1) (h2 : b = false → ∀ H1, Ex H H1 → tw { D with nx := tz D } σ H1) : tSeq (tIfS t tu tw) tz D σ H := h H x _ fun H1 e => by
  cases b with
  | true => exact h1 rfl H1 e
  | false => exact h2 rfl H1 e
theorem d_if1 {t : TT} {tw : TS} {b : Bool} (h : EvT t σ G b) (x : Ex G H) (h1 : b = true → ∀ H1, Ex H H1 → tu D σ H1) (h2 : b = false → ∀ H1, Ex H H1 → tw D σ H1) : tIfS t tu tw D σ H := h H x _ fun H1 e => by
  cases b with
  | true => exact h1 rfl H1 e
  | false => exact h2 rfl H1 e
/-- for i in range(n) -/
theorem d_range {j : Nat} {n : Int} (h : ED K te σ G (.int n)) (x : Ex G H) (hn : 0 ≤ n ∧ n ≤ 100000) (Pv : Nat → L2.St → Hp → Prop) (h0 : ∀ H1, Ex H H1 → Pv 0 σ H1)
    (hs : ∀ (i : Nat) σ' H', (i : Int) < n → Pv i σ' H' → tu { D with nx := Pv (i + 1), ct := Pv (i + 1), bk := tz D } (σ'.set j (some (.int (i : Int)))) H') (hd : ∀ σ' H', Pv n.toNat σ' H' → tz D σ' H') : tSeq (tFor (iRng1 (tCons te tNil)) (gName j) tu) tz D σ H := by
  have e : EvA (tCons te tNil) σ G [.int n] := ea_cons (ev_int h) ea_nil
  exact q_forR1 (EvA.mono x e) hn Pv h0 hs hd
end
end Tw

set_option Elab.async false
set_option linter.all false
set_option maxRecDepth 100000
set_option maxHeartbeats 4000000
namespace Tw
open PySem PySem.Spec PyProof.Rows L2 Evl
/-! comprehensions -/
theorem et_yes {σ : L2.St} {H : Hp} : EvT tYes σ H true := fun H1 _ Q q => q H1 (Ex.refl H1)
def Lw (K : PySem.W.Frag) (A H2 : Hp) (D : Addr) (out : Nat → List PyData) (i : Nat) (H' : Hp) : Prop :=
  H2 D = none ∧ ∃ G acc, Sep A H2 H' G ∧ G D = none ∧ H' D = some (.lst acc) ∧ DaAll K G acc (out i) ∧ acc.length ≤ i
theorem Lw.start {K : PySem.W.Frag} {A H2 : Hp} {D : Addr} {out : Nat → List PyData} (x : Ex A H2) (hD : H2 D = none) (h0 : out 0 = []) : Lw K A H2 D out 0 (upd H2 D (.lst [])) :=
  ⟨hD, A, [], ⟨Ex.new hD, Ex.refl A, Ex.mut x (fresh_back x hD), fun _ h _ => h⟩, fresh_back x hD, upd_same, by rw [h0]; exact .nil, Nat.le_refl 0⟩
theorem Lw.turn {K : PySem.W.Frag} {A H2 H' : Hp} {D : Addr} {out : Nat → List PyData} {i : Nat} {t : TT} {te : TE} {σ2 : L2.St} {f : Bool} {e : PyData} (p : Lw K A H2 D out i H') (hi : i < 50000)
    (ht : ∀ G, Ex A G → EvT t σ2 G f) (he : f = true → ∀ G, Ex A G → ED K te σ2 G e) (ho : out (i + 1) = if f = true then out i ++ [e] else out i) :
    t σ2 H' fun b H3 => if b = true then te σ2 H3 fun y H4 => ∃ acc, H4 D = some (.lst acc) ∧ acc.length < sizeLine ∧ Lw K A H2 D out (i + 1) (upd H4 D (.lst (acc ++ [y]))) else Lw K A H2 D out (i + 1) H3 := by
  obtain ⟨hD, G, acc, s, gD, hacc, ga, la⟩ := p
  refine ht G s.an H' s.inn _ fun H3 x3 => ?_
  cases f with
  | true =>
    rw [if_pos rfl] at ho
    show te σ2 H3 fun y H4 => ∃ acc, H4 D = some (.lst acc) ∧ acc.length < sizeLine ∧ Lw K A H2 D out (i + 1) (upd H4 D (.lst (acc ++ [y])))
    refine he rfl G s.an H3 (s.inn.trans x3) _ fun v H4 G4 s4 g4 => ?_
    obtain ⟨o1, o2⟩ := s4.out gD (x3 _ _ hacc)
    refine ⟨acc, o2, sz_lt (by omega), hD, G4, acc ++ [v], ⟨Ex.mut ((s.up.trans x3).trans s4.up) hD, s.an.trans s4.an, Ex.mut s4.inn o1, fun b h h1 => ?_⟩, o1, upd_same, ?_, by rw [List.length_append]; exact Nat.add_le_add_right la 1⟩
    · refine s4.sep b (s.sep b h h1) fun z => ?_
      cases q : H2 b with
      | none => exact h1 q
      | some o =>
        rw [(s.up.trans x3) b o q] at z
        cases z
    · rw [ho]
      exact daa_app (daa_ex s4.an ga) (.cons g4 .nil)
  | false =>
    rw [if_neg Bool.false_ne_true] at ho
    show Lw K A H2 D out (i + 1) H3
    refine ⟨hD, G, acc, ⟨s.up.trans x3, s.an, s.inn.trans x3, s.sep⟩, gD, x3 _ _ hacc, ?_, Nat.le_succ_of_le la⟩
    rw [ho]
    exact ga
theorem Lw.stop {K : PySem.W.Frag} {A H2 H' : Hp} {D : Addr} {out : Nat → List PyData} {n : Nat} (p : Lw K A H2 D out n H') : ∃ G, Sep A H2 H' G ∧ Da K G (.ref D) (.list (out n)) := by
  obtain ⟨hD, G, acc, s, gD, hacc, ga, _⟩ := p
  refine ⟨upd G D (.lst acc), ⟨s.up, s.an.trans (Ex.new gD), fun b u hb => ?_, fun b h h1 => ?_⟩, .lst upd_same (daa_ex (Ex.new gD) ga)⟩
  · by_cases q : b = D
    · subst q
      rw [upd_same] at hb
      rw [← hb]
      exact hacc
    · rw [upd_ne q] at hb
      exact s.inn b u hb
  · have q : b ≠ D := fun z => by
      rw [z] at h1
      exact h1 hD
    rw [upd_ne q]
    exact s.sep b h h1
theorem take_one {α : Type} {l : List α} {i : Nat} {x : α} (h : l[i]? = some x) : l.take (i + 1) = l.take i ++ [x] := by
  rw [List.take_add_one, h]
  rfl
theorem filt_step {l : List PyData} {p : PyData → Bool} {g : PyData → PyData} {i : Nat} {x : PyData} (h : l[i]? = some x) :
    ((l.take (i + 1)).filter p).map g = if p x = true then ((l.take i).filter p).map g ++ [g x] else ((l.take i).filter p).map g := by
  rw [take_one h, List.filter_append, List.map_append]
  by_cases q : p x = true
  · rw [if_pos q, List.filter_cons, if_pos q]
    rfl
  · rw [if_neg q, List.filter_cons, if_neg q]
    show _ ++ [] = _
    rw [List.append_nil]
section
variable {K : PySem.W.Frag} {σ : L2.St} {H : Hp} {ta te tl : TE} {t : TT} {ds : List PyData} {j : Nat} {vs : List Nat}
theorem lc_fin {A H2 H1 : Hp} {D : Addr} {out : Nat → List PyData} {n : Nat} {Q : VK} {H' : Hp} (s : Sep H H1 H2 A) (q : ∀ v H2 G, Sep H H1 H2 G → Da K G v (.list (out n)) → Q v H2) (p : Lw K A H2 D out n H') : Q (.ref D) H' := by
  obtain ⟨G, s2, g⟩ := p.stop
  exact q _ _ G (s.trans s2) g
/-- [e for i in range(n) if t] -/
theorem ed_lcRf {n : Int} (f : Nat → Bool) (g : Nat → PyData) (h : ED K ta σ H (.int n)) (hn : 0 ≤ n ∧ n ≤ 40000) (hw : ∀ x, wipe ((wipe σ vs).set j (some x)) vs = wipe σ vs)
    (ht : ∀ (i : Nat) G, Ex H G → (i : Int) < n → EvT t ((wipe σ vs).set j (some (.int (i : Int)))) G (f i)) (he : ∀ (i : Nat) G, Ex H G → (i : Int) < n → f i = true → ED K te ((wipe σ vs).set j (some (.int (i : Int)))) G (g i)) :
    ED K (tLc (iRng1 (tCons ta tNil)) (gName j) t te vs) σ H (.list (((List.range n.toNat).filter f).map g)) := fun H1 x Q q =>
  ev_int h H1 x _ fun H2 x2 => ⟨n, rfl, by omega, by omega, fun D hD => by
    have s0 : Sep H H1 H2 H := ⟨x2, Ex.refl H, x.trans x2, fun _ h _ => h⟩
    refine lc_range (lo := 0) (n := n.toNat) (Lw K H H2 D fun i => ((List.range i).filter f).map g) (Lw.start (x.trans x2) hD rfl) (fun i H' hi p => ?_) fun H' p => lc_fin s0 q p
    have e0 : (0 : Int) + (i : Int) = (i : Int) := Int.zero_add _
    show wipe ((wipe σ vs).set j (some (.int ((0 : Int) + (i : Int))))) vs = wipe σ vs ∧ t ((wipe σ vs).set j (some (.int ((0 : Int) + (i : Int))))) H' fun b H3 => if b = true then te ((wipe σ vs).set j (some (.int ((0 : Int) + (i : Int))))) H3 fun y H4 => ∃ acc, H4 D = some (.lst acc) ∧ acc.length < sizeLine ∧ Lw K H H2 D (fun i => ((List.range i).filter f).map g) (i + 1) (upd H4 D (.lst (acc ++ [y]))) else Lw K H H2 D (fun i => ((List.range i).filter f).map g) (i + 1) H3
    rw [e0]
    refine ⟨hw _, p.turn (by omega) (fun G xg => ht i G xg (by omega)) (fun hf G xg => he i G xg (by omega) hf) ?_⟩
    show ((List.range (i + 1)).filter f).map g = _
    rw [List.range_succ, List.filter_append, List.map_append]
    by_cases z : f i = true
    · rw [if_pos z, List.filter_cons, if_pos z]
      rfl
    · rw [if_neg z, List.filter_cons, if_neg z]
      show _ ++ [] = _
      rw [List.append_nil]⟩
theorem ed_lcR {n : Int} (g : Nat → PyData) (h : ED K ta σ H (.int n)) (hn : 0 ≤ n ∧ n ≤ 40000) (hw : ∀ x, wipe ((wipe σ vs).set j (some x)) vs = wipe σ vs)
    (he : ∀ (i : Nat) G, Ex H G → (i : Int) < n → ED K te ((wipe σ vs).set j (some (.int (i : Int)))) G (g i)) :
    ED K (tLc (iRng1 (tCons ta tNil)) (gName j) tYes te vs) σ H (.list ((List.range n.toNat).map g)) := by
  have h1 := ed_lcRf (t := tYes) (fun _ => true) g h hn hw (fun _ _ _ _ => et_yes) (fun i G x hi _ => he i G x hi)
  rw [List.filter_eq_self.mpr fun _ _ => rfl] at h1
  exact h1
/-- [e for x in xs if t] -/
theorem ed_lcLf (p : PyData → Bool) (g : PyData → PyData) (h : ED K tl σ H (.list ds)) (hz : ds.length ≤ 40000) (hw : ∀ x, wipe ((wipe σ vs).set j (some x)) vs = wipe σ vs)
    (ht : ∀ d v G, d ∈ ds → Ex H G → Da K G v d → EvT t ((wipe σ vs).set j (some v)) G (p d)) (he : ∀ d v G, d ∈ ds → Ex H G → Da K G v d → p d = true → ED K te ((wipe σ vs).set j (some v)) G (g d)) :
    ED K (tLc (iList K tl) (gName j) t te vs) σ H (.list ((ds.filter p).map g)) := fun H1 x Q q =>
  h H1 x _ fun v H2 A s gv => by
    cases gv with
    | @lst a xs _ ea ga =>
      refine ⟨a, rfl, ⟨xs, sq_of (s.inn _ _ ea)⟩, fun D hD => ?_⟩
      have hlen := daa_len ga
      refine lc_list (K := K) (a := a) (xs := xs) (Lw K A H2 D fun i => ((ds.take i).filter p).map g) (Lw.start s.inn hD (by rw [List.take_zero]; rfl)) (fun i H' _ pw => ?_) (fun i y H' hi pw => ?_) fun H' pw => ?_
      · obtain ⟨_, G, acc, s2, _⟩ := pw
        exact sq_of (s2.up _ _ (s.inn _ _ ea))
      · obtain ⟨d, hd, gd⟩ := daa_getV ga i y hi
        have hm : d ∈ ds := List.mem_of_getElem? hd
        have hlt := (List.getElem?_eq_some_iff.mp hi).1
        refine ⟨hw y, pw.turn (by omega) (fun G xg => ht d y G hm (s.an.trans xg) (da_ex xg gd)) (fun hf G xg => he d y G hm (s.an.trans xg) (da_ex xg gd) hf) ?_⟩
        exact filt_step hd
      · have e : ds.take xs.length = ds := List.take_of_length_le (by omega)
        refine lc_fin (out := fun i => ((ds.take i).filter p).map g) s (fun v H2 G s2 g2 => q v H2 G s2 ?_) pw
        have g3 : Da K G v (.list (((ds.take xs.length).filter p).map g)) := g2
        rw [e] at g3
        exact g3
theorem ed_lcL (g : PyData → PyData) (h : ED K tl σ H (.list ds)) (hz : ds.length ≤ 40000) (hw : ∀ x, wipe ((wipe σ vs).set j (some x)) vs = wipe σ vs)
    (he : ∀ d v G, d ∈ ds → Ex H G → Da K G v d → ED K te ((wipe σ vs).set j (some v)) G (g d)) :
    ED K (tLc (iList K tl) (gName j) tYes te vs) σ H (.list (ds.map g)) := by
  have h1 := ed_lcLf (t := tYes) (fun _ => true) g h hz hw (fun _ _ _ _ _ _ => et_yes) (fun d v G hm x gd _ => he d v G hm x gd)
  rw [List.filter_eq_self.mpr fun _ _ => rfl] at h1
  exact h1
theorem ed_lcT (g : PyData → PyData) (h : ED K tl σ H (.tuple ds)) (hz : ds.length ≤ 40000) (hw : ∀ x, wipe ((wipe σ vs).set j (some x)) vs = wipe σ vs)
    (he : ∀ d v G, d ∈ ds → Ex H G → Da K G v d → ED K te ((wipe σ vs).set j (some v)) G (g d)) :
    ED K (tLc (iTup K tl) (gName j) tYes te vs) σ H (.list (ds.map g)) := fun H1 x Q q =>
  h H1 x _ fun v H2 A s gv => by
    cases gv with
    | @tup a xs _ ea ga =>
      refine ⟨a, rfl, ⟨xs, ex_t s.inn ea⟩, fun D hD => ?_⟩
      have hlen := daa_len ga
      refine lc_tup (K := K) (a := a) (xs := xs) (Lw K A H2 D fun i => (ds.take i).map g) (Lw.start s.inn hD (by rw [List.take_zero]; rfl)) (fun i H' _ pw => ?_) (fun i y H' hi pw => ?_) fun H' pw => ?_
      · obtain ⟨_, G, acc, s2, _⟩ := pw
        exact ex_t (s.inn.trans s2.up) ea
      · obtain ⟨d, hd, gd⟩ := daa_getV ga i y hi
        have hm : d ∈ ds := List.mem_of_getElem? hd
        have hlt := (List.getElem?_eq_some_iff.mp hi).1
        refine ⟨hw y, pw.turn (f := true) (e := g d) (by omega) (fun G xg => et_yes) (fun hf G xg => he d y G hm (s.an.trans xg) (da_ex xg gd)) ?_⟩
        show (ds.take (i + 1)).map g = if true = true then (ds.take i).map g ++ [g d] else (ds.take i).map g
        rw [if_pos rfl, take_one hd, List.map_append]
        rfl
      · have e : ds.take xs.length = ds := List.take_of_length_le (by omega)
        refine lc_fin (out := fun i => (ds.take i).map g) s (fun v H2 G s2 g2 => q v H2 G s2 ?_) pw
        have g3 : Da K G v (.list ((ds.take xs.length).map g)) := g2
        rw [e] at g3
        exact g3
end
/-! a list or a tuple walked -/
def iSeq (K : PySem.W.Frag) (tl : TE) : TI := fun σ H R => tl σ H fun x H1 => ∃ a, x = .ref a ∧ (((∃ xs, SqL K H1 a xs) ∧ R (Itl K a) H1) ∨ ((∃ xs, SqT K H1 a xs) ∧ R (Itt K a) H1))
theorem pi_seq {X : Cx} {tg l : Expr} {tl : TE} (hl : PE X l tl) : PI X tg l (iSeq X.K tl) := by
  constructor
  intro pn s σ H R I h
  refine thn (hl.run pn s σ H _ I h) ?_
  rintro v s1 ⟨x, H1, J, rx, a, ex, q⟩
  cases ex
  cases rx
  have fresh : ∀ b ∈ [s1.heap.objs.size], FpOk X pn H1 b := by
    intro b hb
    cases List.mem_singleton.mp hb
    exact J.fpOk (Nat.le_refl _) (J.hok.fresh (Nat.le_refl _))
  rcases q with ⟨⟨xs, hx⟩, q⟩ | ⟨⟨xs, hx⟩, q⟩
  · obtain ⟨its, rv, pl, _⟩ := J.list hx
    refine wpAny_pyIter_list pl.isList ⟨_, _, _, _, H1, rfl, ?_, turn_list a s1.heap.objs.size, ?_, fresh, q⟩
    · exact J.kept (t' := s1.toks) fun c u z => Heap.get?_push_of_some _ z
    · exact ⟨_, Heap.get?_push_size _ rfl, rfl, rfl⟩
  · obtain ⟨its, rv, pl, _⟩ := J.tuple hx
    refine wpAny_pyIter_tuple (show s1.heap.IsTuple a its.toArray from pl) ⟨_, _, _, _, H1, rfl, ?_, turn_tuple a s1.heap.objs.size, ?_, fresh, q⟩
    · exact J.kept (t' := s1.toks) fun c u z => Heap.get?_push_of_some _ z
    · exact ⟨_, Heap.get?_push_size _ rfl, rfl, rfl⟩
section
variable {K : PySem.W.Frag} {σ : L2.St} {H : Hp} {te tl : TE} {d : PyData} {ds : List PyData} {j : Nat} {vs : List Nat}
theorem ed_lcS (g : PyData → PyData) (h : ED K tl σ H d) (hd : d = .list ds ∨ d = .tuple ds) (hz : ds.length ≤ 40000) (hw : ∀ x, wipe ((wipe σ vs).set j (some x)) vs = wipe σ vs)
    (he : ∀ d v G, d ∈ ds → Ex H G → Da K G v d → ED K te ((wipe σ vs).set j (some v)) G (g d)) :
    ED K (tLc (iSeq K tl) (gName j) tYes te vs) σ H (.list (ds.map g)) := fun H1 x Q q => by
  rcases hd with rfl | rfl
  · have h2 : ED K (tLc (iList K tl) (gName j) tYes te vs) σ H (.list (ds.map g)) := ed_lcL g h hz hw he
    -- the value first, then the walk of a list
    refine h H1 x _ fun v H2 A s gv => ?_
    cases gv with
    | @lst a xs _ ea ga =>
      have h3 : ED K (tLc (iList K (tC (.ref a))) (gName j) tYes te vs) σ A (.list (ds.map g)) := ed_lcL g (ed_ev ev_c (.lst ea ga)) hz hw fun d v G hm xg gd => he d v G hm (s.an.trans xg) gd
      have h4 := h3 H2 s.inn Q fun v H3 G s3 g3 => q v H3 G (s.trans s3) g3
      obtain ⟨b, eb, hx, r⟩ := h4
      cases eb
      exact ⟨a, rfl, .inl ⟨hx, r⟩⟩
  · refine h H1 x _ fun v H2 A s gv => ?_
    cases gv with
    | @tup a xs _ ea ga =>
      have h3 : ED K (tLc (iTup K (tC (.ref a))) (gName j) tYes te vs) σ A (.list (ds.map g)) := ed_lcT g (ed_ev ev_c (.tup ea ga)) hz hw fun d v G hm xg gd => he d v G hm (s.an.trans xg) gd
      have h4 := h3 H2 s.inn Q fun v H3 G s3 g3 => q v H3 G (s.trans s3) g3
      obtain ⟨b, eb, hx, r⟩ := h4
      cases eb
      exact ⟨a, rfl, .inr ⟨hx, r⟩⟩
end
/-! str(x) of an int or a text -/
def rStrX : List V → Hp → VK → Prop := fun xs H Q => (∃ i, xs = [.int i] ∧ i.natAbs.log2 < 1920 ∧ Q (.str (toString i)) H) ∨ ∃ a, xs = [.str a] ∧ Q (.str a) H
theorem call_strX {X : Cx} : CallR X (.type "str") rStrX := by
  intro pins s σ H xs us Q I r h
  rcases h with ⟨i, h1, h2, q⟩ | ⟨a, h1, q⟩
  · exact call_str_int pins s σ H xs us Q I r ⟨i, h1, h2, q⟩
  · exact SkE.call_str_str pins s σ H xs us Q I r ⟨a, h1, q⟩
section
variable {K : PySem.W.Frag} {σ : L2.St} {H : Hp} {ta : TE}
theorem ed_strI {i : Int} (h : ED K ta σ H (.int i)) (hi : i.natAbs.log2 < 1920) : ED K (tCB rStrX (tCons ta tNil)) σ H (.str (toString i)) := fun H1 x Q q =>
  ev_int h H1 x _ fun H2 x2 => .inl ⟨i, rfl, hi, q _ H2 H ⟨x2, Ex.refl H, x.trans x2, fun _ h _ => h⟩ (.str _)⟩
theorem ed_strS {a : Str} (h : ED K ta σ H (.str a)) : ED K (tCB rStrX (tCons ta tNil)) σ H (.str a) := fun H1 x Q q =>
  ev_str h H1 x _ fun H2 x2 => .inr ⟨a, rfl, q _ H2 H ⟨x2, Ex.refl H, x.trans x2, fun _ h _ => h⟩ (.str _)⟩
end
end Tw

set_option Elab.async false
set_option linter.all false
set_option maxRecDepth 100000
set_option maxHeartbeats 4000000
namespace Tw
open PySem PySem.Spec PyProof.Rows L2 Evl
/-! the law's own promise; the drawn numbers -/
def spLaw (K : PySem.W.Frag) : Sp := fun vs H Q _ => ∃ (a : Addr) (ns : List Int), vs = [.ref a] ∧ SqL K H a (ns.map V.int) ∧ ns.length ≤ 63 ∧ ∀ H', Q (.bl true) H'
theorem spLaw_len {K : PySem.W.Frag} : ∀ vs H Q E, spLaw K vs H Q E → vs.length = 1 := by
  rintro vs H Q E ⟨a, ns, rfl, _⟩
  rfl
/-- so many, from 0 to 999 -/
def Drawn (n : Nat) (ds : List Int) : Prop := ds.length = n ∧ ∀ d ∈ ds, 0 ≤ d ∧ d < 1000
theorem Drawn.get {n : Nat} {ds : List Int} (h : Drawn n ds) {i : Nat} (hi : i < n) : ∃ d, ds[i]? = some d ∧ 0 ≤ d ∧ d < 1000 := by
  have hl : i < ds.length := by rw [h.1]; exact hi
  exact ⟨ds[i], List.getElem?_eq_getElem hl, h.2 _ (List.getElem_mem hl)⟩
theorem Drawn.getD {n : Nat} {ds : List Int} (h : Drawn n ds) {i : Nat} (hi : i < n) : ds[i]? = some (ds.getD i 0) ∧ 0 ≤ ds.getD i 0 ∧ ds.getD i 0 < 1000 := by
  obtain ⟨d, hd, h0, h1⟩ := h.get hi
  have e : ds.getD i 0 = d := by rw [List.getD_eq_getElem?_getD, hd]; rfl
  rw [e]
  exact ⟨hd, h0, h1⟩
def spDraws (K : PySem.W.Frag) : Sp := fun vs H Q _ => ∃ (a : Addr) (ns : List Int) (n : Nat), vs = [.ref a, .int (n : Int)] ∧ SqL K H a (ns.map V.int) ∧ ns.length ≤ 63 ∧ n ≤ 1000 ∧
  ∀ ds p H2, Drawn n ds → H p = none → Ex H H2 → H2 p = some (.lst (ds.map V.int)) → Q (.ref p) H2
def WD (H : Hp) (a : Addr) (n m : Nat) (R L : Addr) (i : Nat) (σ' : L2.St) (H' : Hp) : Prop := ∃ (x3 x5 x6 x7 x8 : Option V) (rs ds : List Int), σ' = [some (.ref a), some (.int (n : Int)), some (.ref R), x3, some (.ref L), x5, x6, x7, x8] ∧
  Ex H H' ∧ H' R = some (.lst (rs.map V.int)) ∧ H' L = some (.lst (ds.map V.int)) ∧ rs.length = m ∧ Drawn i ds
theorem ev_toInt {te : TE} {σ : L2.St} {H : Hp} {i : Int} (h : Ev te σ H (.int i)) : Ev (tCB (fun xs H Q => (∃ i, xs = [V.int i] ∧ Q (.int i) H) ∨ ∃ k, xs = [.bl k] ∧ Q (.int (if k then 1 else 0)) H) (tCons te tNil)) σ H (.int i) := fun H1 x Q q =>
  h H1 x _ fun H2 x2 => .inl ⟨i, rfl, q H2 x2⟩
theorem mod1000 (x : Int) : 0 ≤ x % 1000 ∧ x % 1000 < 1000 := ⟨Int.emod_nonneg x (by decide), Int.emod_lt_of_pos x (by decide)⟩
theorem at_int {rs : List Int} {j : Nat} (h : j < rs.length) : atI (rs.map V.int) (j : Int) = some (.int rs[j]) := atI_nat (by rw [List.getElem?_map, List.getElem?_eq_getElem h]; rfl)
theorem given_all (l : List V) : given l.length (fun _ => true) (fun i => l.getD i .non) = l := by
  unfold given
  rw [List.filter_eq_self.mpr fun _ _ => rfl]
  apply List.ext_getElem?
  intro i
  rw [List.getElem?_map]
  by_cases hi : i < l.length
  · rw [List.getElem?_range hi, List.getElem?_eq_getElem hi]
    show some (l.getD i .non) = _
    rw [List.getD_eq_getElem?_getD, List.getElem?_eq_getElem hi]
    rfl
  · rw [List.getElem?_eq_none (by rw [List.length_range]; omega), List.getElem?_eq_none (by omega)]
    rfl
section
variable {K : PySem.W.Frag} {σ : L2.St} {G H : Hp} {ta tb te : TE} {d : PyData} {ds : List PyData} {D : Ends} {tu tz : TS}
/-- draws = _law_draws(script, n) -/
theorem d_draws {a : Addr} {ns : List Int} {n : Nat} {i : Nat} {m : Int} {E : XK} (hm : m = (n : Int)) (h0 : σ[0]? = some (some (.ref a))) (hS : SqL K H a (ns.map V.int)) (hl : ns.length ≤ 63) (hn : n ≤ 1000)
    (k : ∀ ds p H2, Drawn n ds → Ex H H2 → Da K H2 (.ref p) (.list (ds.map .int)) → tz D (σ.set i (some (.ref p))) H2) : tSeq (tAsg (tCall (spDraws K) [] E (tCons (tVar 0) (tCons (tC (.int m)) tNil))) (gName i)) tz D σ H := by
  subst hm
  exact ⟨_, h0, a, ns, n, rfl, hS, hl, hn, fun ds p H2 dr hp e h2 => k ds p H2 dr e (.lst h2 (daa_ints ds))⟩
/-- a, b, .. = e -/
theorem d_unp {n : Nat} {gs : TGs} (h : ED K te σ G (.tuple ds)) (x : Ex G H) (hn : ds.length = n) (k : ∀ vs H2 G2, Sep G H H2 G2 → DaAll K G2 vs ds → gs vs σ H2 (tz D)) : tSeq (tAsg te (gTup K n gs)) tz D σ H := h H x _ fun v H2 G2 s g => by
  cases g with
  | @tup a xs _ e g =>
    exact ⟨a, xs, rfl, ex_t s.inn e, by rw [daa_len g]; exact hn, k xs H2 G2 s g⟩
/-- repr(e) -/
theorem ed_repr (h : ED K te σ G d) (hc : ∃ es, d = .list es ∨ d = .tuple es) (h1 : d.showable = true) (h2 : d.hasDict = false) (h3 : d.depth ≤ 60) (h4 : d.shown.length ≤ sizeLine) : ED K (tCB (rRepr K) (tCons te tNil)) σ G (.str d.shown) := fun H1 x Q q =>
  h H1 x _ fun v H2 G2 s g => by
    obtain ⟨es, hc⟩ := hc
    have hv : ∃ a, v = .ref a := by
      rcases hc with rfl | rfl
      · cases g
        exact ⟨_, rfl⟩
      · cases g
        exact ⟨_, rfl⟩
    obtain ⟨a, rfl⟩ := hv
    exact ⟨a, d, rfl, da_dp (da_ex s.inn g), h1, h2, h3, h4, q _ H2 G2 s (.str _)⟩
end
/-! numbers as texts, and their lengths -/
def nS (i : Int) : Str := Str.ofString (toString i)
theorem small_log {i : Int} (h0 : 0 ≤ i) (h1 : i < 100000) : i.natAbs.log2 < 1920 := by
  by_cases z : i.natAbs = 0
  · rw [z]
    decide
  · refine (Nat.log2_lt z).mpr (Nat.lt_of_lt_of_le (show i.natAbs < 2 ^ 17 by omega) (Nat.pow_le_pow_right (by decide) (by decide)))
theorem nS_len {i : Int} (h0 : 0 ≤ i) (h1 : i < 1000) : (nS i).length ≤ 4 := by
  unfold nS
  rw [PySem.ofString_length]
  exact int_text_length_le10 (k := 3) (by decide) (by omega)
theorem join_le {sep : Str} {ts : List Str} {m b c : Nat} (hm : ts.length ≤ m) (hb : ∀ t ∈ ts, t.length ≤ b) (hc : sep.length ≤ c) : (ts.map (·.length)).sum + ts.length * sep.length ≤ m * (b + c) := by
  have h : (ts.map (·.length)).sum + ts.length * sep.length ≤ ts.length * (b + c) := by
    clear hm
    induction ts with
    | nil => simp
    | cons t r ih =>
      have i := ih fun t ht => hb t (List.mem_cons_of_mem _ ht)
      have ht := hb t List.mem_cons_self
      simp only [List.map_cons, List.sum_cons, List.length_cons, Nat.succ_mul]
      omega
  exact Nat.le_trans h (Nat.mul_le_mul_right _ hm)
theorem join_len {sep : Str} {ts : List Str} {m b c : Nat} (hm : ts.length ≤ m) (hb : ∀ t ∈ ts, t.length ≤ b) (hc : sep.length ≤ c) : (Txt.join sep ts).length ≤ m * (b + c) := by
  have e : Txt.join sep ts = Str.join sep ts := StrLaws.glued_eq_join sep ts
  rw [e]
  exact Nat.le_trans (StrLaws.join_length_le sep ts) (join_le hm hb hc)
end Tw
namespace Tw
open PySem PySem.Spec PyProof.Rows L2 Evl
section
variable {K : PySem.W.Frag}
theorem daa_inv {H : Hp} {vs : List V} {d : PyData} {ds : List PyData} (h : DaAll K H vs (d :: ds)) : ∃ v r, vs = v :: r ∧ Da K H v d ∧ DaAll K H r ds := by
  cases h with
  | cons a b => exact ⟨_, _, rfl, a, b⟩
theorem daa_inv0 {H : Hp} {vs : List V} (h : DaAll K H vs []) : vs = [] := by
  cases h
  rfl
theorem Sep.mut {A B C G : Hp} {p : Addr} {o : HO} (s : Sep A B C G) (hB : B p = none) (hG : G p = none) : Sep A B (upd C p o) G := ⟨Ex.mut s.up hB, s.an, Ex.mut s.inn hG, s.sep⟩
/-- a list of one's own becomes data -/
theorem Sep.seal {A B C G : Hp} {p : Addr} {xs : List V} {ds : List PyData} (s : Sep A B C G) (hB : B p = none) (hG : G p = none) (hC : C p = some (.lst xs)) (g : DaAll K G xs ds) :
    Sep A B C (upd G p (.lst xs)) ∧ Da K (upd G p (.lst xs)) (.ref p) (.list ds) := by
  refine ⟨⟨s.up, s.an.trans (Ex.new hG), fun b u hb => ?_, fun b h h1 => ?_⟩, .lst upd_same (daa_ex (Ex.new hG) g)⟩
  · by_cases q : b = p
    · subst q
      rw [upd_same] at hb
      rw [← hb]
      exact hC
    · rw [upd_ne q] at hb
      exact s.inn b u hb
  · have q : b ≠ p := fun z => by
      rw [z] at h1
      exact h1 hB
    rw [upd_ne q]
    exact s.sep b h h1
end
theorem dr_ix {n : Nat} {ds : List Int} (h : Drawn n ds) {i : Nat} (hi : i < n) : (ds.map PyData.int)[i]? = some (.int (ds.getD i 0)) := by
  rw [List.getElem?_map, (h.getD hi).1]
  rfl
theorem sIx_nat' (n : Nat) (d : Nat) (i : Nat) : HT.sIx n d (some (i : Int)) = min i n := HT.sIx_nat n d i
theorem cut_ix {l : List PyData} {a b j : Nat} (hj : a + j < b) (hb : b ≤ l.length) : (cutD l (some (a : Int)) (some (b : Int)))[j]? = l[a + j]? := by
  unfold cutD
  rw [sIx_nat', sIx_nat', List.getElem?_take_of_lt (by omega), List.getElem?_drop]
  congr 1
  omega
def intsOf : PyData → List Int
  | .tuple ds => ds.filterMap fun d => match d with | .int i => some i | _ => none
  | .list ds => ds.filterMap fun d => match d with | .int i => some i | _ => none
  | _ => []
theorem intsOf_fm (s : List Int) : (s.map PyData.int).filterMap (fun d => match d with | .int i => some i | _ => none) = s := by
  induction s with
  | nil => rfl
  | cons a r ih =>
    rw [List.map_cons, List.filterMap_cons]
    show a :: _ = _
    rw [ih]
theorem intsOf_tup (s : List Int) : intsOf (.tuple (s.map .int)) = s := intsOf_fm s
theorem intsOf_lst (s : List Int) : intsOf (.list (s.map .int)) = s := intsOf_fm s
end Tw
namespace Tw
open PySem PySem.Spec PyProof.Rows L2 Evl
/-! the rules with the written part said (within a comprehension's block the context is not the reading's) -/
section
variable {X : Cx} (K : PySem.W.Frag)
theorem ixl (e : X.K = K := by rfl) : IxR X (rIxL K) := e ▸ ix_list
theorem ixt (e : X.K = K := by rfl) : IxR X (rIxT K) := e ▸ ix_tup
theorem slL (e : X.K = K := by rfl) : SlR X (rSlL K) := e ▸ sl_list
theorem lenK (e : X.K = K := by rfl) : CallR X (.builtin "len") (fun xs H Q => ∃ p ys, xs = [V.ref p] ∧ (SqL K H p ys ∨ SqT K H p ys) ∧ Q (.int ys.length) H) := e ▸ call_len_seq
theorem tupK (e : X.K = K := by rfl) : CallR X (.type "tuple") (fun xs H Q => ∃ p ys, xs = [V.ref p] ∧ ((SqL K H p ys ∧ ∀ l, H l = none → Q (.ref l) (upd H l (.tup ys))) ∨ (SqT K H p ys ∧ Q (.ref p) H))) := e ▸ call_tuple_of
theorem pi_listK {tg l : Expr} {tl : TE} (hl : PE X l tl) (e : X.K = K := by rfl) : PI X tg l (iList K tl) := e ▸ pi_list hl
theorem pi_tupK {tg l : Expr} {tl : TE} (hl : PE X l tl) (e : X.K = K := by rfl) : PI X tg l (iTup K tl) := e ▸ pi_tup hl
theorem pi_seqK {tg l : Expr} {tl : TE} (hl : PE X l tl) (e : X.K = K := by rfl) : PI X tg l (iSeq K tl) := e ▸ pi_seq hl
theorem joinK (e : X.K = K := by rfl) : MtR X "str.join" (fun x xs H Q => ∃ a p, ∃ ys : List Str, x = .str a ∧ xs = [.ref p] ∧ (SqL K H p (ys.map V.str) ∨ SqT K H p (ys.map V.str)) ∧ (ys.map (·.length)).sum + ys.length * a.length ≤ 16777216 ∧ Q (.str (Txt.join a ys)) H) := e ▸ mt_join
theorem pe_joinK {o e : Expr} {to te : TE} {apos pos : Pos} (ho : PE X o to) (he : PE X e te) (hK : X.K = K := by rfl) (hs : starEach [e] X.env = [(false, eval e X.env)] := by rfl) (hbase : attributeBase o "join" X.env (eval o X.env) = eval o X.env := by rfl) (hline : (apos.endLine == pos.line) = true := by rfl) :
    PE X (.Call (.Attribute o "join" apos) [e] [] pos) (tM1 (fun x xs H Q => ∃ a p, ∃ ys : List Str, x = .str a ∧ xs = [.ref p] ∧ (SqL K H p (ys.map V.str) ∨ SqT K H p (ys.map V.str)) ∧
      (ys.map (·.length)).sum + ys.length * a.length ≤ 16777216 ∧ Q (.str (Txt.join a ys)) H) to te) :=
  pe_m1 PySem.F.slot_str_join PySem.F.type_str_join (joinK K hK) ho he hs hbase hline
theorem reprK (hg : X.A.guards = some []) (hu : X.A.units + 64 < cLine) (e : X.K = K := by rfl) : CallR X (.builtin "repr") (rRepr K) := e ▸ call_repr hg hu
theorem appendK : MtM X "list.append" rAppend := mt_append
end
end Tw
namespace Tw
open PySem PySem.Spec PyProof.Rows L2 Evl
/-! data of a small size: what repr and == ask -/
structure Ok (n w : Nat) (d : PyData) : Prop where
  sh : d.showable = true
  nd : d.hasDict = false
  dp : d.depth ≤ n
  ls : d.leavesShort 20 = true
  cl : d.canLay0 = true
  wt : d.weight ≤ w
theorem Ok.mono {n w n' w' : Nat} {d : PyData} (h : Ok n w d) (hn : n ≤ n') (hw : w ≤ w') : Ok n' w' d := ⟨h.sh, h.nd, Nat.le_trans h.dp hn, h.ls, h.cl, Nat.le_trans h.wt hw⟩
theorem ok_int {i : Int} (h0 : -100000 < i) (h1 : i < 100000) : Ok 0 17 (.int i) := by
  have hl : i.natAbs.log2 < 17 := by
    by_cases z : i.natAbs = 0
    · rw [z]
      decide
    · exact (Nat.log2_lt z).mpr (show i.natAbs < 2 ^ 17 by omega)
  refine ⟨decide_eq_true (by omega), rfl, Nat.le_refl 0, decide_eq_true ?_, rfl, ?_⟩
  · show (Str.ofString (toString i)).length ≤ 20
    rw [PySem.ofString_length]
    have := int_text_length_le10 (a := i) (k := 5) (by decide) (by omega)
    omega
  · show (if i == 0 then 0 else i.natAbs.log2 + 1) ≤ 17
    split <;> omega
theorem ok_none : Ok 0 17 .none := ⟨rfl, rfl, Nat.le_refl 0, rfl, rfl, Nat.zero_le _⟩
theorem ok_bool (b : Bool) : Ok 0 17 (.bool b) := ⟨rfl, rfl, Nat.le_refl 0, rfl, rfl, Nat.zero_le _⟩
theorem ok_all {n w : Nat} : ∀ {ds : List PyData}, (∀ d ∈ ds, Ok n w d) → PyData.showableAll ds = true ∧ PyData.hasDictAll ds = false ∧ PyData.depthAll ds ≤ n ∧ PyData.leavesShortAll 20 ds = true ∧ PyData.canLayAll0 ds = true ∧ PyData.weightAll ds ≤ ds.length * (w + 1)
  | [], _ => ⟨rfl, rfl, Nat.zero_le _, rfl, rfl, Nat.zero_le _⟩
  | d :: r, h => by
    have hd := h d List.mem_cons_self
    obtain ⟨a1, a2, a3, a4, a5, a6⟩ := ok_all (ds := r) fun x hx => h x (List.mem_cons_of_mem _ hx)
    refine ⟨?_, ?_, ?_, ?_, ?_, ?_⟩
    · show (d.showable && PyData.showableAll r) = true
      rw [hd.sh, a1]
      rfl
    · show (d.hasDict || PyData.hasDictAll r) = false
      rw [hd.nd, a2]
      rfl
    · show max d.depth (PyData.depthAll r) ≤ n
      have := hd.dp
      omega
    · show (d.leavesShort 20 && PyData.leavesShortAll 20 r) = true
      rw [hd.ls, a4]
      rfl
    · show (d.canLay0 && PyData.canLayAll0 r) = true
      rw [hd.cl, a5]
      rfl
    · show d.weight + 1 + PyData.weightAll r ≤ (r.length + 1) * (w + 1)
      have := hd.wt
      rw [Nat.succ_mul]
      omega
theorem ok_list {n w m : Nat} {ds : List PyData} (h : ∀ d ∈ ds, Ok n w d) (hm : ds.length * (w + 1) ≤ m) : Ok (n + 1) m (.list ds) := by
  obtain ⟨a1, a2, a3, a4, a5, a6⟩ := ok_all h
  exact ⟨a1, a2, Nat.succ_le_succ a3, a4, a5, Nat.le_trans a6 hm⟩
theorem ok_tup {n w m : Nat} {ds : List PyData} (h : ∀ d ∈ ds, Ok n w d) (hm : ds.length * (w + 1) ≤ m) : Ok (n + 1) m (.tuple ds) := by
  obtain ⟨a1, a2, a3, a4, a5, a6⟩ := ok_all h
  exact ⟨a1, a2, Nat.succ_le_succ a3, a4, a5, Nat.le_trans a6 hm⟩
theorem Ok.fits {n w : Nat} {d : PyData} (h : Ok n w d) (hw : w ≤ 700000) : d.shown.length ≤ sizeLine := by
  have h1 := PyData.shown_le 20 (by decide) d h.ls
  have h2 := h.wt
  have e : sizeLine = 16777216 := by decide
  rw [e]
  omega
theorem Ok.shaped {n w : Nat} {d : PyData} (h : Ok n w d) (hn : n ≤ 60) : SeqAt.shaped d = true := by
  show (d.canLay0 && decide (d.depth ≤ 64)) = true
  have := h.dp
  rw [h.cl, Bool.true_and, decide_eq_true_eq]
  omega
theorem mem2 {P : PyData → Prop} {a b : PyData} (ha : P a) (hb : P b) : ∀ d ∈ [a, b], P d := by
  intro d hd
  simp only [List.mem_cons, List.not_mem_nil, or_false] at hd
  rcases hd with rfl | rfl <;> assumption
section
variable {K : PySem.W.Frag} {σ : L2.St} {G H : Hp} {te : TE} {d : PyData}
theorem ed_reprO {n w : Nat} (h : ED K te σ G d) (hc : ∃ es, d = .list es ∨ d = .tuple es) (ho : Ok n w d) (hn : n ≤ 60) (hw : w ≤ 700000) : ED K (tCB (rRepr K) (tCons te tNil)) σ G (.str d.shown) :=
  ed_repr h hc ho.sh ho.nd (Nat.le_trans ho.dp hn) (ho.fits hw)
/-- isinstance(x, str) of a text -/
theorem et_isStr {x : Str} (h : ED K te σ G (.str x)) : EvT (tB (tCB RZ.rIsTy (tCons te (tCons (tC (.ty "str")) tNil)))) σ G true := fun H1 e Q q =>
  ev_str h H1 e _ fun H2 e2 => ⟨.str x, "str", rfl, .str x, true, rfl, q H2 e2⟩
theorem et_neS {ta tb : TE} {x y : Str} (ha : ED K ta σ G (.str x)) (hb : ED K tb σ G (.str y)) : EvT (tTest (tOp rNe ta tb)) σ G (!decide (V.str x = V.str y)) := et_test (ev_op (ev_str ha) (ev_str hb) (rv_ne rfl))
theorem ed_eqS {ta tb : TE} {x y : Str} (ha : ED K ta σ G (.str x)) (hb : ED K tb σ G (.str y)) : ED K (tOp rEq ta tb) σ G (.bool (decide (V.str x = V.str y))) := ed_ev (ev_op (ev_str ha) (ev_str hb) (rv_eq rfl)) (.bl _)
end
end Tw

set_option Elab.async false
set_option linter.all false
set_option maxRecDepth 100000
set_option maxHeartbeats 4000000
namespace Tw
open PySem PySem.Spec PyProof.Rows L2 Evl
/-! more of expressions -/
section
variable {K : PySem.W.Frag} {σ : L2.St} {G H : Hp} {ta tb te : TE} {d e : PyData} {ds es : List PyData}
theorem et_bool {b : Bool} (h : ED K te σ G (.bool b)) : EvT (tB te) σ G b := et_B (ev_bool h)
theorem et_cmp0 {p : Int → Int → Bool} {i j : Int} (ha : ED K ta σ G (.int i)) (hb : ED K tb σ G (.int j)) : EvT (tTest (tOp (rI0 fun i j => .bl (p i j)) ta tb)) σ G (p i j) := et_test (ev_op (ev_int ha) (ev_int hb) rv_I0)
theorem ed_cmp0 {p : Int → Int → Bool} {i j : Int} (ha : ED K ta σ G (.int i)) (hb : ED K tb σ G (.int j)) : ED K (tOp (rI0 fun i j => .bl (p i j)) ta tb) σ G (.bool (p i j)) := ed_ev (ev_op (ev_int ha) (ev_int hb) rv_I0) (.bl _)
theorem ed_neg {i : Int} (h : ED K te σ G (.int i)) : ED K (tUn (rU fun i => .int (-i)) te) σ G (.int (-i)) := ed_ev (ev_un (ev_int h) ru_neg) (.int _)
theorem ed_modN {i j : Int} (ha : ED K ta σ G (.int i)) (hb : ED K tb σ G (.int j)) (h0 : 0 < j) : ED K (tOp (rI (fun _ j => j ≠ 0) fun i j => .int (i.fmod j)) ta tb) σ G (.int (i % j)) :=
  ed_opC ha hb (by omega) (by rw [Int.fmod_eq_emod_of_nonneg i (by omega)])
/-- scalars -/
def sc : PyData → Bool
  | .none | .bool _ | .int _ | .str _ => true
  | _ => false
def vOf : PyData → V
  | .none => .non
  | .bool b => .bl b
  | .int i => .int i
  | .str x => .str x
  | _ => .non
theorem da_sc {v : V} (h : Da K H v d) (hs : sc d = true) : v = vOf d := by
  cases h <;> first | rfl | cases hs
theorem ev_sc (h : ED K te σ G d) (hs : sc d = true) : Ev te σ G (vOf d) := fun H1 x Q q => h H1 x Q fun v H2 G2 s g => by
  rw [da_sc g hs] at *
  exact q H2 s.up
theorem ed_vOf {σ : L2.St} (h : Ev te σ G (vOf d)) (hs : sc d = true) : ED K te σ G d := ed_ev h (by
  cases d <;> first | exact .non | exact .bl _ | exact .int _ | exact .str _ | cases hs)
theorem ed_eqSc (ha : ED K ta σ G d) (hb : ED K tb σ G e) (hd : sc d = true) (he : sc e = true) (h : scal (vOf d) (vOf e) = true) : ED K (tOp rEq ta tb) σ G (.bool (decide (vOf d = vOf e))) := ed_ev (ev_op (ev_sc ha hd) (ev_sc hb he) (rv_eq h)) (.bl _)
theorem et_eqSc (ha : ED K ta σ G d) (hb : ED K tb σ G e) (hd : sc d = true) (he : sc e = true) (h : scal (vOf d) (vOf e) = true) : EvT (tTest (tOp rEq ta tb)) σ G (decide (vOf d = vOf e)) := et_test (ev_op (ev_sc ha hd) (ev_sc hb he) (rv_eq h))
theorem et_neSc (ha : ED K ta σ G d) (hb : ED K tb σ G e) (hd : sc d = true) (he : sc e = true) (h : scal (vOf d) (vOf e) = true) : EvT (tTest (tOp rNe ta tb)) σ G (!decide (vOf d = vOf e)) := et_test (ev_op (ev_sc ha hd) (ev_sc hb he) (rv_ne h))
theorem et_eqI {i j : Int} (ha : ED K ta σ G (.int i)) (hb : ED K tb σ G (.int j)) : EvT (tTest (tOp rEq ta tb)) σ G (decide (i = j)) := et_is (et_eqSc ha hb rfl rfl rfl) (by
  show decide (V.int i = V.int j) = decide (i = j)
  by_cases h : i = j
  · rw [h, decide_eq_true rfl, decide_eq_true rfl]
  · rw [decide_eq_false h, decide_eq_false fun z => h (V.int.inj z)])
theorem ed_eqI {i j : Int} (ha : ED K ta σ G (.int i)) (hb : ED K tb σ G (.int j)) : ED K (tOp rEq ta tb) σ G (.bool (decide (i = j))) := ed_is (ed_eqSc ha hb rfl rfl rfl) (by
  show PyData.bool (decide (V.int i = V.int j)) = .bool (decide (i = j))
  by_cases h : i = j
  · rw [h, decide_eq_true rfl, decide_eq_true rfl]
  · rw [decide_eq_false h, decide_eq_false fun z => h (V.int.inj z)])
/-- x is None, x is not None -/
def isN : PyData → Bool
  | .none => true
  | _ => false
theorem da_isN {v : V} (h : Da K H v d) : decide (v = .non) = isN d := by
  cases h <;> first | rfl | exact decide_eq_false fun z => nomatch z
theorem ed_isN (h : ED K ta σ G d) : ED K (tOp (fun x y H Q => y = V.non ∧ Q (.bl (decide (x = .non))) H) ta (tC .non)) σ G (.bool (isN d)) := fun H1 x Q q => h H1 x _ fun v H2 G2 s g => ⟨rfl, by
  rw [da_isN g]
  exact q _ H2 G2 s (.bl _)⟩
theorem et_isN (h : ED K ta σ G d) : EvT (tTest (tOp (fun x y H Q => y = V.non ∧ Q (.bl (decide (x = .non))) H) ta (tC .non))) σ G (isN d) := et_test (ev_bool (ed_isN h))
theorem ed_notN (h : ED K ta σ G d) : ED K (tOp (fun x y H Q => y = V.non ∧ Q (.bl (!decide (x = .non))) H) ta (tC .non)) σ G (.bool (!isN d)) := fun H1 x Q q => h H1 x _ fun v H2 G2 s g => ⟨rfl, by
  rw [da_isN g]
  exact q _ H2 G2 s (.bl _)⟩
theorem et_notN (h : ED K ta σ G d) : EvT (tTest (tOp (fun x y H Q => y = V.non ∧ Q (.bl (!decide (x = .non))) H) ta (tC .non))) σ G (!isN d) := et_test (ev_bool (ed_notN h))
/-- isinstance(x, T) by the type's name -/
def tyD : PyData → String
  | .none => "NoneType"
  | .bool _ => "bool"
  | .int _ => "int"
  | .str _ => "str"
  | .list _ => "list"
  | .tuple _ => "tuple"
  | .dict _ => "dict"
theorem da_ty {v : V} (h : Da K H v d) : TyX K H v (.type (tyD d)) := by
  cases h with
  | non => exact .base .non
  | bl b => exact .base (.bl b)
  | int i => exact .base (.int i)
  | str x => exact .base (.str x)
  | lst e _ => exact .base (.lst e)
  | tup e _ =>
    rcases e with (e | ⟨o, e⟩) | ⟨o, its, n, e, c, _⟩
    · exact .base (.tup e)
    · exact .fTuple e
    · exact .kTuple e c
theorem ed_isi {T : String} {b : Bool} (h : ED K ta σ G d) (hb : kitB (tyD d) T = some b) : ED K (tCB (rIsi K) (tCons ta (tCons (tC (.ty T)) tNil))) σ G (.bool b) := fun H1 x Q q => h H1 x _ fun v H2 G2 s g =>
  ⟨v, .ty T, _, .type T, b, rfl, .ty T, da_ty (da_ex s.inn g), hb, q _ H2 G2 s (.bl b)⟩
/-- max, all, any, sum of a list -/
def mxI : List Int → Int
  | [] => 0
  | x :: r => r.foldl (fun a b => if a < b then b else a) x
theorem mx_fold : ∀ (r : List Int) (x : Int), (r.foldl (fun a b => if a < b then b else a) x ∈ x :: r) ∧ ∀ y ∈ x :: r, y ≤ r.foldl (fun a b => if a < b then b else a) x
  | [], x => ⟨List.mem_cons_self, fun y hy => by cases List.mem_singleton.mp hy; exact Int.le_refl _⟩
  | z :: r, x => by
    obtain ⟨h1, h2⟩ := mx_fold r (if x < z then z else x)
    rw [List.foldl_cons]
    refine ⟨?_, fun y hy => ?_⟩
    · rcases List.mem_cons.mp h1 with h | h
      · rw [h]
        split
        · exact List.mem_cons_of_mem _ List.mem_cons_self
        · exact List.mem_cons_self
      · exact List.mem_cons_of_mem _ (List.mem_cons_of_mem _ h)
    · have h0 := h2 _ List.mem_cons_self
      have key : ∀ a b m : Int, (if a < b then b else a) ≤ m → a ≤ m ∧ b ≤ m := fun a b m h => by
        split at h <;> omega
      obtain ⟨k1, k2⟩ := key x z _ h0
      rcases List.mem_cons.mp hy with e | hy
      · rw [e]
        exact k1
      · rcases List.mem_cons.mp hy with e | hy
        · rw [e]
          exact k2
        · exact h2 y (List.mem_cons_of_mem _ hy)
theorem mx_mem {ns : List Int} (h : ns ≠ []) : mxI ns ∈ ns := by
  cases ns with
  | nil => exact absurd rfl h
  | cons x r => exact (mx_fold r x).1
theorem mx_le {ns : List Int} {y : Int} (h : y ∈ ns) : y ≤ mxI ns := by
  cases ns with
  | nil => exact absurd h List.not_mem_nil
  | cons x r => exact (mx_fold r x).2 y h
theorem mx_is {ns : List Int} {m : Int} (h : m ∈ ns) (hm : ∀ y ∈ ns, y ≤ m) : m = mxI ns := by
  have h1 := mx_le h
  have h2 := hm _ (mx_mem (ns := ns) fun z => by rw [z] at h; exact absurd h List.not_mem_nil)
  omega
theorem ed_max {ns : List Int} (h : ED K ta σ G (.list (ns.map .int))) (hn : ns ≠ []) : ED K (tCB (rMax K) (tCons ta tNil)) σ G (.int (mxI ns)) := fun H1 x Q q => h H1 x _ fun v H2 G2 s g => by
  cases g with
  | @lst a xs _ e g =>
    cases daa_intsV g
    refine ⟨a, ns, rfl, sq_of (s.inn _ _ e), List.length_pos_iff.mpr hn, fun m hm hle => ?_⟩
    rw [mx_is hm hle]
    exact q _ H2 G2 s (.int _)
theorem daa_boolsV : ∀ {bs : List Bool} {vs : List V}, DaAll K H vs (bs.map PyData.bool) → vs = bs.map V.bl
  | [], _, .nil => rfl
  | n :: r, _, .cons (.bl _) a => by rw [daa_boolsV a]; rfl
theorem ed_all {bs : List Bool} (h : ED K ta σ G (.list (bs.map .bool))) : ED K (tCB (rAll K) (tCons ta tNil)) σ G (.bool (bs.all id)) := fun H1 x Q q => h H1 x _ fun v H2 G2 s g => by
  cases g with
  | @lst a xs _ e g =>
    cases daa_boolsV g
    exact ⟨a, bs, rfl, sq_of (s.inn _ _ e), q _ H2 G2 s (.bl _)⟩
theorem ed_any {bs : List Bool} (h : ED K ta σ G (.list (bs.map .bool))) : ED K (tCB (rAny K) (tCons ta tNil)) σ G (.bool (bs.any id)) := fun H1 x Q q => h H1 x _ fun v H2 G2 s g => by
  cases g with
  | @lst a xs _ e g =>
    cases daa_boolsV g
    exact ⟨a, bs, rfl, sq_of (s.inn _ _ e), q _ H2 G2 s (.bl _)⟩
theorem ed_sum {ns : List Int} (h : ED K ta σ G (.list (ns.map .int))) : ED K (tCB (rSum K) (tCons ta tNil)) σ G (.int ns.sum) := fun H1 x Q q => h H1 x _ fun v H2 G2 s g => by
  cases g with
  | @lst a xs _ e g =>
    cases daa_intsV g
    exact ⟨a, ns, rfl, sq_of (s.inn _ _ e), q _ H2 G2 s (.int _)⟩
/-- xs * k -/
theorem daa_rep {vs : List V} (g : DaAll K H vs ds) : ∀ k : Nat, DaAll K H (List.replicate k vs).flatten (List.replicate k ds).flatten
  | 0 => .nil
  | k + 1 => by
    rw [List.replicate_succ, List.replicate_succ, List.flatten_cons, List.flatten_cons]
    exact daa_app g (daa_rep g k)
theorem ed_rep {k : Int} (ha : ED K ta σ G (.list ds)) (hb : ∀ G2, Ex G G2 → ED K tb σ G2 (.int k)) (h0 : 0 ≤ k) (h1 : k < 2 ^ 63) (hz : ds.length * k.toNat ≤ 100000) : ED K (tOp rRep ta tb) σ G (.list (List.replicate k.toNat ds).flatten) := fun H1 x Q q =>
  ha H1 x _ fun v H2 G2 s g => ev_int (hb G2 s.an) H2 s.inn _ fun H3 x3 => by
    cases g with
    | @lst a xs _ e g =>
      refine ⟨a, k, xs, rfl, rfl, x3 _ _ (s.inn _ _ e), by omega, h1, by rw [daa_len g]; exact sz_of hz, fun p hp => ?_⟩
      have s' : Sep G H1 H3 G2 := ⟨s.up.trans x3, s.an, s.inn.trans x3, s.sep⟩
      exact q (.ref p) _ (upd G2 p (.lst (List.replicate k.toNat xs).flatten)) (s'.trans (Sep.new s'.inn hp)) (.lst upd_same (daa_ex (Ex.new (fresh_back s'.inn hp)) (daa_rep g _)))
/-- == of data -/
theorem et_neD {n w m u : Nat} (ha : ED K ta σ G d) (hb : ∀ G2, Ex G G2 → ED K tb σ G2 e) (hd : Ok n w d) (hn : n ≤ 60) (he : Ok m u e) (hm : m ≤ 60) : EvT (tTest (tOp (rNeD K) ta tb)) σ G (!PyData.eqv d e) := fun H1 x Q q =>
  ha H1 x _ fun v H2 G2 s g => hb G2 s.an H2 s.inn _ fun v2 H3 G3 s3 g3 =>
    ⟨d, e, da_dp (da_ex (s3.an.trans s3.inn) g), da_dp (da_ex s3.inn g3), hd.shaped hn, he.shaped hm, _, rfl, q H3 (s.up.trans s3.up)⟩
theorem ed_eqD {n w m u : Nat} (ha : ED K ta σ G d) (hb : ∀ G2, Ex G G2 → ED K tb σ G2 e) (hd : Ok n w d) (hn : n ≤ 60) (he : Ok m u e) (hm : m ≤ 60) : ED K (tOp (rEqD K) ta tb) σ G (.bool (PyData.eqv d e)) := fun H1 x Q q =>
  ha H1 x _ fun v H2 G2 s g => hb G2 s.an H2 s.inn _ fun v2 H3 G3 s3 g3 =>
    ⟨d, e, da_dp (da_ex (s3.an.trans s3.inn) g), da_dp (da_ex s3.inn g3), hd.shaped hn, he.shaped hm, q _ H3 G3 (s.trans s3) (.bl _)⟩
theorem eqv_ints : ∀ a b : List Int, PyData.eqv (.list (a.map .int)) (.list (b.map .int)) = decide (a = b)
  | [], [] => rfl
  | [], y :: b => by
    rw [decide_eq_false fun z => nomatch z]
    simp only [List.map_cons, List.map_nil, PyData.eqv, PyData.eqvAll]
  | x :: a, [] => by
    rw [decide_eq_false fun z => nomatch z]
    simp only [List.map_cons, List.map_nil, PyData.eqv, PyData.eqvAll]
  | x :: a, y :: b => by
    have h := eqv_ints a b
    have e : PyData.eqv (.list ((x :: a).map .int)) (.list ((y :: b).map .int)) = ((x == y) && PyData.eqv (.list (a.map .int)) (.list (b.map .int))) := by simp only [List.map_cons, PyData.eqv, PyData.eqvAll]
    rw [e, h]
    by_cases h1 : x = y
    · subst h1
      by_cases h2 : a = b
      · subst h2
        simp
      · rw [decide_eq_false h2, decide_eq_false fun z => h2 (List.cons.inj z).2, Bool.and_false]
    · rw [decide_eq_false fun z => h1 (List.cons.inj z).1, beq_eq_false_iff_ne.mpr h1, Bool.false_and]
theorem eqv_same {n w : Nat} (h : Ok n w d) : PyData.eqv d d = true := SeqAt.eqv_refl d h.cl
/-- xs[-1] -/
theorem ed_last {i : Int} (ha : ED K ta σ G (.list ds)) (hb : ∀ G2, Ex G G2 → ED K tb σ G2 (.int i)) (hi : i = -1) (hd : ds.getLast? = some d) : ED K (tOp (rIxL K) ta tb) σ G d := fun H1 x Q q =>
  ha H1 x _ fun v H2 G2 s g => ev_int (hb G2 s.an) H2 s.inn _ fun H3 x3 => by
    cases g with
    | @lst a xs _ e g =>
      subst hi
      have hl := daa_len g
      have hne : ds ≠ [] := fun z => by rw [z] at hd; cases hd
      have hpos : 0 < ds.length := List.length_pos_iff.mpr hne
      rw [List.getLast?_eq_getElem?] at hd
      obtain ⟨v, hv, gv⟩ := daa_get g _ d hd
      have hat : atI xs (-1) = some v := by
        unfold atI ixN
        rw [if_neg (by omega), if_pos (by omega)]
        show xs[(-1 + (xs.length : Int)).toNat]? = some v
        rw [show (-1 + (xs.length : Int)).toNat = ds.length - 1 by omega]
        exact hv
      exact ⟨a, xs, -1, v, rfl, rfl, sq_of (x3 _ _ (s.inn _ _ e)), hat, q v H3 G2 ⟨s.up.trans x3, s.an, s.inn.trans x3, s.sep⟩ gv⟩
end
section
variable {X : Cx} (K : PySem.W.Frag)
theorem maxK (hc : X.calm = true) (e : X.K = K := by rfl) : CallR X (.builtin "max") (rMax K) := e ▸ cr_max hc
theorem allK (hc : X.calm = true) (e : X.K = K := by rfl) : CallR X (.builtin "all") (rAll K) := e ▸ cr_all hc
theorem anyK (hc : X.calm = true) (e : X.K = K := by rfl) : CallR X (.builtin "any") (rAny K) := e ▸ cr_any hc
theorem sumK (hc : X.calm = true) (e : X.K = K := by rfl) : CallR X (.builtin "sum") (rSum K) := e ▸ cr_sum hc
theorem isiK (e : X.K = K := by rfl) : CallR X (.builtin "isinstance") (rIsi K) := e ▸ call_isi
theorem neDK (hu : X.A.units + 64 < cLine) (e : X.K = K := by rfl) : OpR X (compareOp .NotEq) (rNeD K) := e ▸ op_neD hu
theorem eqDK (hu : X.A.units + 64 < cLine) (e : X.K = K := by rfl) : OpR X (compareOp .Eq) (rEqD K) := e ▸ op_eqD hu
end
/-! more of statements -/
section
variable {K : PySem.W.Frag} {σ : L2.St} {G H : Hp} {ta tb te : TE} {d : PyData} {ds : List PyData} {D : Ends} {tu tz : TS}
/-- for i in range(a, b) -/
theorem d_range2 {j : Nat} {lo n : Int} (ha : ED K ta σ G (.int lo)) (hb : ED K tb σ G (.int n)) (x : Ex G H) (hn : 0 ≤ lo ∧ lo ≤ 100000 ∧ -100000 ≤ n ∧ n ≤ 100000) (Pv : Nat → L2.St → Hp → Prop) (h0 : ∀ H1, Ex H H1 → Pv 0 σ H1)
    (hs : ∀ (i : Nat) σ' H', lo + (i : Int) < n → Pv i σ' H' → tu { D with nx := Pv (i + 1), ct := Pv (i + 1), bk := tz D } (σ'.set j (some (.int (lo + (i : Int))))) H') (hd : ∀ σ' H', Pv (n - lo).toNat σ' H' → tz D σ' H') : tSeq (tFor (iRng2 (tCons ta (tCons tb tNil))) (gName j) tu) tz D σ H := by
  have e : EvA (tCons ta (tCons tb tNil)) σ G [.int lo, .int n] := ea_cons (ev_int ha) (ea_cons (ev_int hb) ea_nil)
  exact q_forR2 (EvA.mono x e) hn Pv h0 hs hd
/-- xs[-1] = e, xs outside the anchor, its items within -/
theorem daa_set : ∀ {vs : List V} {ds : List PyData} (n : Nat) {v : V}, DaAll K H vs ds → Da K H v d → DaAll K H (vs.set n v) (ds.set n d)
  | _, _, _, _, .nil, _ => .nil
  | _, _, 0, _, .cons _ a, g => .cons g a
  | _, _, n + 1, _, .cons h a, g => .cons h (daa_set n a g)
theorem d_setLast {l : Addr} {xs : List V} {i : Nat} {m : Int} (hG : G l = none) (hl : H l = some (.lst xs)) (hx : DaAll K G xs ds) (hi : σ[i]? = some (some (.ref l))) (h : ED K te σ G d) (x : Ex G H) (hne : 0 < xs.length) (hm : ∀ H', Ev tb σ H' (.int m)) (em : m = -1)
    (k : ∀ v H2 G2, Sep G H H2 G2 → G2 l = none → DaAll K G2 (xs.set (xs.length - 1) v) (ds.set (ds.length - 1) d) → Ex G2 (upd H2 l (.lst (xs.set (xs.length - 1) v))) → D.nx σ (upd H2 l (.lst (xs.set (xs.length - 1) v)))) :
    tAsg te (gSub (tVar i) tb rSetL) D σ H := h H x _ fun v H2 G2 s g => ⟨_, hi, hm H2 H2 (Ex.refl _) _ fun H3 x3 => by
    obtain ⟨o1, o2⟩ := s.out hG hl
    subst em
    refine ⟨l, xs, -1, xs.length - 1, rfl, rfl, x3 _ _ o2, ?_, ?_⟩
    · unfold ixN
      rw [if_neg (by omega), if_pos (by omega)]
      congr 1
      omega
    · have s' : Sep G H H3 G2 := ⟨s.up.trans x3, s.an, s.inn.trans x3, s.sep⟩
      refine k v H3 G2 s' o1 ?_ (Ex.mut s'.inn o1)
      rw [daa_len hx]
      exact daa_set _ (daa_ex s.an hx) g⟩
end
end Tw
namespace Tw
open PySem PySem.Spec PyProof.Rows L2 Evl
section
variable {K : PySem.W.Frag} {σ : L2.St} {G H : Hp} {ta tb te : TE} {d : PyData} {ds : List PyData} {D : Ends} {tu tz : TS}
/-- one new thing beside the anchor -/
theorem Sep.one {H2 : Hp} {p : Addr} {o : HO} (x : Ex G H) (np : H p = none) (e : Ex H H2) (hp : H2 p = some o) : Sep G H H2 (upd G p o) := by
  have gp : G p = none := fresh_back x np
  refine ⟨e, Ex.new gp, fun b u hb => ?_, fun b h h1 => ?_⟩
  · by_cases q : b = p
    · subst q
      rw [upd_same] at hb
      rw [← hb]
      exact hp
    · rw [upd_ne q] at hb
      exact e b u (x b u hb)
  · have q : b ≠ p := fun z => by
      rw [z] at h1
      exact h1 np
    rw [upd_ne q]
    exact h
/-- xs[-1] = (a, ..), the tuple's items told by the heap at hand -/
theorem d_setLastU {l : Addr} {xs ys : List V} {es : List PyData} {i : Nat} {m : Int} (hG : G l = none) (hl : H l = some (.lst xs)) (hx : DaAll K G xs ds) (hi : σ[i]? = some (some (.ref l))) (h : EvU te σ H ys) (hy : DaAll K G ys es) (x : Ex G H) (hne : 0 < xs.length) (hm : ∀ H', Ev tb σ H' (.int m)) (em : m = -1)
    (k : ∀ v H2 G2, Sep G H H2 G2 → G2 l = none → DaAll K G2 (xs.set (xs.length - 1) v) (ds.set (ds.length - 1) (.tuple es)) → Ex G2 (upd H2 l (.lst (xs.set (xs.length - 1) v))) → D.nx σ (upd H2 l (.lst (xs.set (xs.length - 1) v)))) :
    tAsg te (gSub (tVar i) tb rSetL) D σ H := h H (Ex.refl H) _ fun p H2 np e2 hp => ⟨_, hi, hm H2 H2 (Ex.refl _) _ fun H3 x3 => by
    have s := Sep.one x np (e2.trans x3) (x3 _ _ hp)
    obtain ⟨o1, o2⟩ := s.out hG hl
    subst em
    refine ⟨l, xs, -1, xs.length - 1, rfl, rfl, o2, ?_, ?_⟩
    · unfold ixN
      rw [if_neg (by omega), if_pos (by omega)]
      congr 1
      omega
    · refine k (.ref p) H3 _ s o1 ?_ (Ex.mut s.inn o1)
      rw [daa_len hx]
      exact daa_set _ (daa_ex s.an hx) (.tup (st_of upd_same) (daa_ex s.an hy))⟩
end
end Tw
namespace Tw
open PySem L2 Evl
theorem Sep.stay {G H H' : Hp} (x : Ex G H) (e : Ex H H') : Sep G H H' G := ⟨e, Ex.refl _, x.trans e, fun _ h _ => h⟩
end Tw
namespace Tw
open PySem PySem.Spec PyProof.Rows L2 Evl
/-! keyword-only parameters, all of them written -/
theorem kbn_mk {K : PySem.W.Frag} {x qual : Str} {st : Stmt} {f : Addr} {fd : FuncData} {ps ks : List Str} {n : Nat} (F : Fun K x qual st f fd)
    (h : ∀ (kV doc pm : Value) (an : Option Addr) (cdv ct : Value) (us ws : List Value), us.length = n → ws.length = ks.length →
      bindArgs (PySem.W.fnOf x qual (defArgs st) (defBody st) (defScope st) .none kV doc pm an cdv ct) ⟨us, ks.zip ws⟩ = pure (ps.zip (us ++ ws))) : KBn K fd ps n ks (fun us ws => us ++ ws) (fun vs zs => vs ++ zs) := by
  obtain ⟨_, _, kV, doc, pm, an, cdv, ct, _, rfl, _, _⟩ := F.ex
  exact ⟨fun s us ws _ h1 h2 => .of_eq (h kV doc pm an cdv ct us ws h1 h2), fun a b => a.append b⟩
section
variable {K : PySem.W.Frag} {σ : L2.St} {H : Hp} {d : PyData} {ds es : List PyData}
theorem ed_callN {n m : Nat} {R : List PyData → PyData → Prop} {E : XK} {t tk : TA} (h : EDA K t σ H ds) (hk : ∀ G, Ex H G → EDA K tk σ G es) (h1 : ds.length = n) (h2 : es.length = m) (hr : R (ds ++ es) d) : ED K (tCallN n m (spF K R) (fun vs zs => vs ++ zs) E t tk) σ H d := fun H1 x Q q =>
  h H1 x _ fun vs H2 G s g => hk G s.an H2 s.inn _ fun zs H3 G3 s3 g3 => ⟨by rw [daa_len g]; exact h1, by rw [daa_len g3]; exact h2, G3, ds ++ es, d, s3.inn, daa_app (daa_ex s3.an g) g3, hr, fun v H4 G4 s4 g4 => q v H4 G4 ((s.trans s3).trans s4) g4⟩
end
end Tw

set_option Elab.async false
set_option linter.all false
set_option maxRecDepth 100000
set_option maxHeartbeats 4000000
namespace Tw
open PySem PySem.Spec PyProof.Rows L2 Evl
/-! constants of the module -/
def TupK (K : PySem.W.Frag) (a : Addr) (xs : List V) : Prop :=
  ∃ (o : Obj) (its : Array Value) (n : Nat), K.lookup a = some o ∧ o.cls = .type "tuple" ∧ o.data = .seq its n ∧ its.size ≤ sizeLine ∧ Vals xs its.toList
theorem tupK_of {K : PySem.W.Frag} {a : Addr} {xs : List V} {its : Array Value} {n : Nat} {od : Option Addr} {sl : Array (Option Value)} (r : K.lookup a = some ⟨.type "tuple", od, .seq its n, sl⟩) (hl : its.size ≤ sizeLine) (hv : Vals xs its.toList) : TupK K a xs :=
  ⟨_, its, n, r, rfl, rfl, hl, hv⟩
section
variable {K : PySem.W.Frag} {σ : L2.St} {G H : Hp} {ta tb tc te to : TE} {d e : PyData} {ds es : List PyData}
theorem TupK.st {a : Addr} {xs : List V} (h : TupK K a xs) : SqT K H a xs := .inr h
theorem daa_strs : ∀ (ns : List Str), DaAll K H (ns.map V.str) (ns.map PyData.str)
  | [] => .nil
  | n :: r => .cons (.str n) (daa_strs r)
theorem TupK.strs {a : Addr} {ns : List Str} (h : TupK K a (ns.map V.str)) : Da K H (.ref a) (.tuple (ns.map .str)) := .tup h.st (daa_strs ns)
theorem TupK.ints {a : Addr} {ns : List Int} (h : TupK K a (ns.map V.int)) : Da K H (.ref a) (.tuple (ns.map .int)) := .tup h.st (daa_ints ns)
/-! texts -/
theorem ed_m0 {p : Str → Bool} {a : Str} (h : ED K to σ G (.str a)) : ED K (tM0 (fun x xs H Q => ∃ a, x = V.str a ∧ xs = [] ∧ True ∧ Q (.bl (p a)) H) to) σ G (.bool (p a)) := fun H1 x Q q =>
  ev_str h H1 x _ fun H2 x2 => ⟨⟨a, rfl⟩, a, rfl, rfl, trivial, q _ H2 G ⟨x2, Ex.refl G, x.trans x2, fun _ h _ => h⟩ (.bl _)⟩
theorem ed_m1 {p : Str → Str → Bool} {a b : Str} (h : ED K to σ G (.str a)) (hb : ED K te σ G (.str b)) : ED K (tM1 (fun x xs H Q => ∃ a b, x = V.str a ∧ xs = [V.str b] ∧ Q (.bl (p a b)) H) to te) σ G (.bool (p a b)) := fun H1 x Q q =>
  ev_str h H1 x _ fun H2 x2 => ⟨⟨a, rfl⟩, ev_str hb H2 (x.trans x2) _ fun H3 x3 => ⟨a, b, rfl, rfl, q _ H3 G ⟨x2.trans x3, Ex.refl G, (x.trans x2).trans x3, fun _ h _ => h⟩ (.bl _)⟩⟩
theorem two_le {n : Nat} (h : n ≤ 100000) : n + 2 ≤ sizeLine := by
  have e : sizeLine = 16777216 := by decide
  omega
theorem ed_words {a : Str} (h : ED K to σ G (.str a)) (hz : a.length ≤ 100000) : ED K (tM0 (fun x xs H Q => ∃ a, x = V.str a ∧ xs = [] ∧ a.length + 2 ≤ sizeLine ∧ rNewStrs (Txt.words a) H Q) to) σ G (.list ((Txt.words a).map .str)) := fun H1 x Q q =>
  ev_str h H1 x _ fun H2 x2 => ⟨⟨a, rfl⟩, a, rfl, rfl, two_le hz, fun p hp => by
    refine q (.ref p) _ (upd G p (.lst ((Txt.words a).map V.str))) ?_ (.lst upd_same (daa_strs _))
    have s0 : Sep G H1 H2 G := ⟨x2, Ex.refl G, x.trans x2, fun _ h _ => h⟩
    exact s0.trans (Sep.new s0.inn hp)⟩
theorem ed_split {a b : Str} (h : ED K to σ G (.str a)) (hb : ED K te σ G (.str b)) (hz : a.length ≤ 100000) (hn : (b.length == 0) = false) : ED K (tM1 (fun x xs H Q => ∃ a b, x = V.str a ∧ xs = [V.str b] ∧ (b.length == 0) = false ∧ a.length + 2 ≤ sizeLine ∧ rNewStrs (Txt.split a b) H Q) to te) σ G (.list ((Txt.split a b).map .str)) := fun H1 x Q q =>
  ev_str h H1 x _ fun H2 x2 => ⟨⟨a, rfl⟩, ev_str hb H2 (x.trans x2) _ fun H3 x3 => ⟨a, b, rfl, rfl, hn, two_le hz, fun p hp => by
    refine q (.ref p) _ (upd G p (.lst ((Txt.split a b).map V.str))) ?_ (.lst upd_same (daa_strs _))
    have s0 : Sep G H1 H3 G := ⟨x2.trans x3, Ex.refl G, (x.trans x2).trans x3, fun _ h _ => h⟩
    exact s0.trans (Sep.new s0.inn hp)⟩⟩
theorem ed_intS {a : Str} {n : Int} (h : ED K te σ G (.str a)) (hn : intText? a = some n) (hl : a.length ≤ 640) : ED K (tCB (fun xs H Q => ∃ a n, xs = [V.str a] ∧ PySem.intText? a = some n ∧ a.length ≤ 640 ∧ Q (.int n) H) (tCons te tNil)) σ G (.int n) := fun H1 x Q q =>
  ev_str h H1 x _ fun H2 x2 => ⟨a, n, rfl, hn, hl, q _ H2 G ⟨x2, Ex.refl G, x.trans x2, fun _ h _ => h⟩ (.int _)⟩
theorem ed_lenS {a : Str} (h : ED K te σ G (.str a)) (hl : a.length ≤ 100000) : ED K (tCB (fun xs H Q => ∃ z, xs = [V.str z] ∧ z.length ≤ sizeLine ∧ Q (.int z.length) H) (tCons te tNil)) σ G (.int a.length) := fun H1 x Q q =>
  ev_str h H1 x _ fun H2 x2 => ⟨a, rfl, sz_of hl, q _ H2 G ⟨x2, Ex.refl G, x.trans x2, fun _ h _ => h⟩ (.int _)⟩
theorem ed_ixS {a : Str} {i : Int} {c : Nat} (h : ED K te σ G (.str a)) (hb : ED K tb σ G (.int i)) (hl : a.length ≤ 100000) (hc : atI a.cps.toList i = some c) : ED K (tOp rIxS te tb) σ G (.str ⟨#[c]⟩) :=
  ed_ev (ev_op (ev_str h) (ev_int hb) (rv_ixS hl hc)) (.str _)
theorem ed_lenT (ha : ED K ta σ H (.tuple ds)) : ED K (tCB (fun xs H Q => ∃ p ys, xs = [V.ref p] ∧ (SqL K H p ys ∨ SqT K H p ys) ∧ Q (.int ys.length) H) (tCons ta tNil)) σ H (.int ds.length) := fun H1 x Q q =>
  ha H1 x _ fun v H2 G s g => by
    cases g with
    | @tup a xs _ e g =>
      refine ⟨a, xs, rfl, .inr (ex_t s.inn e), ?_⟩
      rw [daa_len g]
      exact q _ H2 G s (.int _)
/-- a text among texts -/
theorem et_inS {z : Str} {zs : List Str} (ha : ED K ta σ G (.str z)) (hb : ED K tb σ G (.list (zs.map .str))) : EvT (tTest (tOp (rIn K false) ta tb)) σ G (inV (.str z) (zs.map V.str)) := fun H1 x Q q =>
  ev_str ha H1 x _ fun H2 x2 => hb H2 (x.trans x2) _ fun v H3 G3 s g => by
    cases g with
    | @lst a xs _ e g =>
      cases daa_strsV g
      refine ⟨a, _, rfl, .inl (sq_of (s.inn _ _ e)), rfl, ?_, _, rfl, q H3 (x2.trans s.up)⟩
      rw [List.all_eq_true]
      intro y hy
      obtain ⟨t, _, rfl⟩ := List.mem_map.mp hy
      rfl
/-! chains, tests -/
theorem et_chain0 {p p' : Int → Int → Bool} {i j k : Int} (ha : ED K ta σ G (.int i)) (hb : ED K tb σ G (.int j)) (hc : ED K tc σ G (.int k)) :
    EvT (tTest (tChain (rI0 fun i j => .bl (p i j)) (rI0 fun i j => .bl (p' i j)) ta tb tc)) σ G (p i j && p' j k) := fun H1 x Q q =>
  ev_int ha H1 x _ fun H2 x2 => ev_int hb H2 (x.trans x2) _ fun H3 x3 => ⟨i, j, rfl, rfl, p i j, rfl, by
    cases hp : p i j with
    | false =>
      rw [if_neg Bool.false_ne_true]
      rw [hp] at q
      exact ⟨false, rfl, q H3 (x2.trans x3)⟩
    | true =>
      rw [if_pos rfl]
      rw [hp] at q
      exact ev_int hc H3 ((x.trans x2).trans x3) _ fun H4 x4 => ⟨j, k, rfl, rfl, p' j k, rfl, q H4 ((x2.trans x3).trans x4)⟩⟩
theorem ed_chain0 {p p' : Int → Int → Bool} {i j k : Int} (ha : ED K ta σ G (.int i)) (hb : ED K tb σ G (.int j)) (hc : ED K tc σ G (.int k)) :
    ED K (tChain (rI0 fun i j => .bl (p i j)) (rI0 fun i j => .bl (p' i j)) ta tb tc) σ G (.bool (p i j && p' j k)) := by
  have h : Ev (tChain (rI0 fun i j => .bl (p i j)) (rI0 fun i j => .bl (p' i j)) ta tb tc) σ G (.bl (p i j && p' j k)) := fun H1 x Q q =>
    ev_int ha H1 x _ fun H2 x2 => ev_int hb H2 (x.trans x2) _ fun H3 x3 => ⟨i, j, rfl, rfl, p i j, rfl, by
      cases hp : p i j with
      | false =>
        rw [if_neg Bool.false_ne_true]
        rw [hp] at q
        exact q H3 (x2.trans x3)
      | true =>
        rw [if_pos rfl]
        rw [hp] at q
        exact ev_int hc H3 ((x.trans x2).trans x3) _ fun H4 x4 => ⟨j, k, rfl, rfl, q H4 ((x2.trans x3).trans x4)⟩⟩
  exact ed_ev h (.bl _)
theorem et_truL (h : ED K te σ G (.list ds)) : EvT (fun σ H Q => te σ H fun x H' => ∃ k, TruV K x H' k ∧ Q k H') σ G (!ds.isEmpty) := fun H1 x Q q =>
  h H1 x _ fun v H2 G2 s g => by
    cases g with
    | @lst a xs _ e g =>
      refine ⟨!ds.isEmpty, .inl ⟨xs, sq_of (s.inn _ _ e), ?_⟩, q H2 s.up⟩
      have hl := daa_len g
      cases xs <;> cases ds <;> first | rfl | cases hl
theorem ed_ifE {t : TT} {b : Bool} (h : EvT t σ G b) (h1 : b = true → ED K ta σ G d) (h2 : b = false → ED K tb σ G d) : ED K (tIf t ta tb) σ G d := fun H1 x Q q => h H1 x _ fun H2 x2 => by
  have k : ∀ v H3 G3, Sep G H2 H3 G3 → Da K G3 v d → Q v H3 := fun v H3 G3 s g => q v H3 G3 ⟨x2.trans s.up, s.an, s.inn, fun b hb h1 => s.sep b hb fun z => by
    cases q1 : H1 b with
    | none => exact h1 q1
    | some o =>
      rw [x2 b o q1] at z
      cases z⟩ g
  cases b with
  | true => exact h1 rfl H2 (x.trans x2) Q k
  | false => exact h2 rfl H2 (x.trans x2) Q k
/-! slices -/
theorem cut_to {l : List PyData} {n : Nat} : cutD l none (some (n : Int)) = l.take n := by
  unfold cutD
  rw [sIx_nat']
  show (l.drop 0).take (min n l.length - 0) = _
  rw [List.drop_zero, Nat.sub_zero]
  by_cases h : n ≤ l.length
  · rw [Nat.min_eq_left h]
  · rw [Nat.min_eq_right (by omega), List.take_length, List.take_of_length_le (by omega)]
theorem cut_from {l : List PyData} {n : Nat} : cutD l (some (n : Int)) none = l.drop n := by
  unfold cutD
  rw [sIx_nat']
  show (l.drop (min n l.length)).take (l.length - min n l.length) = _
  rw [List.take_of_length_le (by rw [List.length_drop]; omega)]
  by_cases h : n ≤ l.length
  · rw [Nat.min_eq_left h]
  · rw [Nat.min_eq_right (by omega), List.drop_length, List.drop_of_length_le (by omega)]
theorem cut_init {l : List PyData} {m : Int} (hm : m = -1) : cutD l none (some m) = l.dropLast := by
  subst hm
  unfold cutD
  have e : HT.sIx l.length l.length (some (-1)) = l.length - 1 := by
    show (if (-1 : Int) < 0 then (-1 + (l.length : Int)).toNat else min (-1 : Int).toNat l.length) = _
    rw [if_pos (by decide)]
    omega
  rw [e]
  show (l.drop 0).take (l.length - 1 - 0) = _
  rw [List.drop_zero, Nat.sub_zero, List.dropLast_eq_take]
end
end Tw

set_option Elab.async false
set_option linter.all false
set_option maxRecDepth 100000
set_option maxHeartbeats 4000000
namespace Tw
open PySem PySem.Spec PyProof.Rows L2 Evl
/-! what is wholly new -/
def Nil : Hp := fun _ => none
theorem ex_nil {H : Hp} : Ex Nil H := fun _ _ h => nomatch h
theorem Sep.back {H1 H2 H3 G F : Hp} (e : Ex H1 H2) (s : Sep G H2 H3 F) : Sep G H1 H3 F := ⟨e.trans s.up, s.an, s.inn, fun b hb h1 => s.sep b hb fun z => by
  cases q : H1 b with
  | none => exact h1 q
  | some o =>
    rw [e b o q] at z
    cases z⟩
/-- what is new stands beside any anchor -/
theorem Sep.join {H H1 H2 F : Hp} (x : Ex H H1) (s : Sep Nil H1 H2 F) : ∃ G, Sep H H1 H2 G ∧ Ex F G := by
  refine ⟨fun b => if (H b).isSome then H b else F b, ⟨s.up, fun b o hb => ?_, fun b o hb => ?_, fun b hb hb1 => ?_⟩, fun b o hb => ?_⟩
  · show (if (H b).isSome then H b else F b) = some o
    rw [hb]
    rfl
  · have hb' : (if (H b).isSome then H b else F b) = some o := hb
    cases z : H b with
    | none =>
      rw [z] at hb'
      exact s.inn b o hb'
    | some u =>
      rw [z] at hb'
      have : u = o := Option.some.inj hb'
      subst this
      exact s.up b u (x b u z)
  · show (if (H b).isSome then H b else F b) = none
    rw [hb]
    exact s.sep b rfl hb1
  · show (if (H b).isSome then H b else F b) = some o
    cases z : H b with
    | none => exact hb
    | some u =>
      have := s.sep b rfl (by rw [x b u z]; exact Option.some_ne_none u)
      rw [hb] at this
      cases this
def EN (K : PySem.W.Frag) (te : TE) (σ : L2.St) (H : Hp) (d : PyData) : Prop :=
  ∀ H1, Ex H H1 → ∀ Q : VK, (∀ v H2 F, Sep Nil H1 H2 F → Da K F v d → Q v H2) → te σ H1 Q
def spO (K : PySem.W.Frag) (R : List PyData → PyData → Prop) : Sp := fun vs H1 Q _ => ∃ G0 ds d, Ex G0 H1 ∧ DaAll K G0 vs ds ∧ R ds d ∧ ∀ v H2 F, Sep Nil H1 H2 F → Da K F v d → Q v H2
section
variable {K : PySem.W.Frag} {σ : L2.St} {G H : Hp} {ta tb te tl : TE} {d e : PyData} {ds es : List PyData} {D : Ends} {tu tz : TS}
theorem EN.ed (h : EN K te σ H d) : ED K te σ H d := fun H1 x Q q => h H1 x Q fun v H2 F s g => by
  obtain ⟨G, s2, e⟩ := s.join x
  exact q v H2 G s2 (da_ex e g)
theorem en_call {R : List PyData → PyData → Prop} {E : XK} {t : TA} (h : EDA K t σ H ds) (hr : R ds d) : EN K (tCall (spO K R) [] E t) σ H d := fun H1 x Q q =>
  h H1 x _ fun vs H2 G s g => ⟨G, ds, d, s.inn, by rw [List.append_nil]; exact g, hr, fun v H3 F s2 g2 => q v H3 F (s2.back s.up) g2⟩
theorem spO_len {R : List PyData → PyData → Prop} {n : Nat} (h : ∀ ds d, R ds d → ds.length = n) : ∀ vs H Q E, spO K R vs H Q E → vs.length = n := by
  rintro vs H Q E ⟨G0, ds, d, _, g, hr, _⟩
  rw [daa_len g]
  exact h ds d hr
theorem d_asgN {i : Nat} (h : EN K te σ G d) (x : Ex G H) (k : ∀ v H2 F, Sep Nil H H2 F → Da K F v d → tz D (σ.set i (some v)) H2) : tSeq (tAsg te (gName i)) tz D σ H := h H x _ k
/-- a statement that is a call, its answer dropped -/
theorem d_drop (h : ED K te σ G d) (x : Ex G H) (k : ∀ H2, Ex H H2 → tz D σ H2) : tSeq (tDrop te) tz D σ H := h H x _ fun v H2 G2 s g => k H2 s.up
theorem d_drop1 (h : ED K te σ G d) (x : Ex G H) (k : ∀ H2, Ex H H2 → D.nx σ H2) : tDrop te D σ H := h H x _ fun v H2 G2 s g => k H2 s.up
/-- a, b, .. = e, e a list -/
theorem d_unpL {n : Nat} {gs : TGs} (h : ED K te σ G (.list ds)) (x : Ex G H) (hn : ds.length = n) (k : ∀ vs H2 G2, Sep G H H2 G2 → DaAll K G2 vs ds → gs vs σ H2 (tz D)) : tSeq (tAsg te (gLst K n gs)) tz D σ H := h H x _ fun v H2 G2 s g => by
  cases g with
  | @lst a xs _ e g => exact ⟨a, xs, rfl, sq_of (s.inn _ _ e), by rw [daa_len g]; exact hn, k xs H2 G2 s g⟩
/-- xs.append(e), e wholly new, xs outside the anchor of what is kept -/
theorem d_appN {l : Addr} {xs : List V} {i : Nat} {A F : Hp} (xF : Ex F H) (hF : F l = none) (hl : H l = some (.lst xs)) (hx : DaAll K F xs ds) (hi : σ[i]? = some (some (.ref l))) (h : EN K te σ A d) (x : Ex A H) (hz : xs.length < 100000)
    (k : ∀ v H2 F2, Sep F H H2 F2 → F2 l = none → DaAll K F2 (xs ++ [v]) (ds ++ [d]) → H2 l = some (.lst xs) → Ex H H2 → D.nx σ (upd H2 l (.lst (xs ++ [v])))) :
    tDrop (tBM K "list" rAppend (tVar i) (tCons te tNil)) D σ H :=
  ⟨_, hi, .inl ⟨rfl, xs, sq_of hl⟩, h H x _ fun v H2 F1 s g => by
    obtain ⟨F2, s2, e2⟩ := s.join xF
    obtain ⟨o1, o2⟩ := s2.out hF hl
    exact ⟨l, xs, v, rfl, rfl, o2, sz_lt hz, k v H2 F2 s2 o1 (daa_app (daa_ex s2.an hx) (.cons (da_ex e2 g) .nil)) o2 s.up⟩⟩
/-- for a, b in enumerate(xs) -/
theorem d_enum {i j1 j2 : Nat} {v : V} (hi : σ[i]? = some (some v)) (g : Da K G v (.list ds)) (x : Ex G H) (Pv : Nat → L2.St → Hp → Prop) (h0 : Pv 0 σ H) (hx : ∀ i σ' H', Pv i σ' H' → Ex G H')
    (hs : ∀ (i : Nat) w d σ' H', ds[i]? = some d → Da K G w d → Pv i σ' H' → ∀ H2, Ex H' H2 → tu { D with nx := Pv (i + 1), ct := Pv (i + 1), bk := tz D } ((σ'.set j1 (some (.int (i : Int)))).set j2 (some w)) H2)
    (hd : ∀ σ' H', Pv ds.length σ' H' → tz D σ' H') : tSeq (tFor (iEnum K (tCons (tVar i) tNil)) (gTup K 2 (gCons (gName j1) (gCons (gName j2) gNil))) tu) tz D σ H := by
  cases g with
  | @lst a xs _ e g =>
    have hl := daa_len g
    refine ⟨_, hi, a, xs, rfl, sq_of (x _ _ e), ?_⟩
    refine for_it (D := { D with nx := tz D }) (walk_enum (K := K) (a := a) (xs := xs)) Pv h0 (fun i σ' H' _ p => sq_of (hx i σ' H' p _ _ e)) (fun i y σ' H' H2 hlt p yy => ?_) (fun σ' H' p => hd σ' H' (by rw [← hl]; exact p))
    obtain ⟨T, p1, p2, rfl, hT, rfl, e1, e2⟩ := yy
    cases Option.some.inj e1
    obtain ⟨d, hd', gd⟩ := daa_getV g i p2 e2
    exact ⟨T, _, rfl, st_of upd_same, rfl, _, _, rfl, _, _, rfl, rfl, hs i p2 d σ' _ hd' gd p _ (Ex.new hT)⟩
/-- for a in xs -/
theorem d_for {i j : Nat} {v : V} (hi : σ[i]? = some (some v)) (g : Da K G v (.list ds)) (x : Ex G H) (Pv : Nat → L2.St → Hp → Prop) (h0 : Pv 0 σ H) (hx : ∀ i σ' H', Pv i σ' H' → Ex G H')
    (hs : ∀ (i : Nat) w d σ' H', ds[i]? = some d → Da K G w d → Pv i σ' H' → tu { D with nx := Pv (i + 1), ct := Pv (i + 1), bk := tz D } (σ'.set j (some w)) H')
    (hd : ∀ σ' H', Pv ds.length σ' H' → tz D σ' H') : tSeq (tFor (iList K (tVar i)) (gName j) tu) tz D σ H := by
  cases g with
  | @lst a xs _ e g =>
    have hl := daa_len g
    refine ⟨_, hi, a, rfl, ⟨xs, sq_of (x _ _ e)⟩, ?_⟩
    refine for_it (D := { D with nx := tz D }) (walk_list (K := K) (a := a) (xs := xs)) Pv h0 (fun i σ' H' _ p => sq_of (hx i σ' H' p _ _ e)) (fun i y σ' H' H2 hlt p yy => ?_) (fun σ' H' p => hd σ' H' (by rw [← hl]; exact p))
    obtain ⟨rfl, e2⟩ := yy
    obtain ⟨d, hd', gd⟩ := daa_getV g i y e2
    exact hs i y d σ' _ hd' gd p
theorem d_for1 {i j : Nat} {v : V} (hi : σ[i]? = some (some v)) (g : Da K G v (.list ds)) (x : Ex G H) (Pv : Nat → L2.St → Hp → Prop) (h0 : Pv 0 σ H) (hx : ∀ i σ' H', Pv i σ' H' → Ex G H')
    (hs : ∀ (i : Nat) w d σ' H', ds[i]? = some d → Da K G w d → Pv i σ' H' → tu { D with nx := Pv (i + 1), ct := Pv (i + 1), bk := D.nx } (σ'.set j (some w)) H')
    (hd : ∀ σ' H', Pv ds.length σ' H' → D.nx σ' H') : tFor (iList K (tVar i)) (gName j) tu D σ H := d_for (tz := tNext) hi g x Pv h0 hx hs hd
theorem d_enum1 {i j1 j2 : Nat} {v : V} (hi : σ[i]? = some (some v)) (g : Da K G v (.list ds)) (x : Ex G H) (Pv : Nat → L2.St → Hp → Prop) (h0 : Pv 0 σ H) (hx : ∀ i σ' H', Pv i σ' H' → Ex G H')
    (hs : ∀ (i : Nat) w d σ' H', ds[i]? = some d → Da K G w d → Pv i σ' H' → ∀ H2, Ex H' H2 → tu { D with nx := Pv (i + 1), ct := Pv (i + 1), bk := D.nx } ((σ'.set j1 (some (.int (i : Int)))).set j2 (some w)) H2)
    (hd : ∀ σ' H', Pv ds.length σ' H' → D.nx σ' H') : tFor (iEnum K (tCons (tVar i) tNil)) (gTup K 2 (gCons (gName j1) (gCons (gName j2) gNil))) tu D σ H := d_enum (tz := tNext) hi g x Pv h0 hx hs hd
/-- two tuples walked at once -/
theorem walk_zipT {a b : Addr} {xs ys : List V} {n : Nat} (hn : n = min xs.length ys.length) : Walk (RZ.ItzT K a b) n (fun H => SqT K H a xs ∧ SqT K H b ys) (YPair (fun i => xs[i]?) (fun i => ys[i]?)) := by
  subst hn
  refine ⟨fun i _ hi q => ?_, fun _ q => ⟨xs, ys, q.1, q.2, by omega⟩, fun i H v H' _ q y => ?_⟩
  · have h1 : i < xs.length := by omega
    have h2 : i < ys.length := by omega
    exact ⟨xs, ys, xs[i], ys[i], q.1, q.2, by simp [h1], by simp [h2]⟩
  · obtain ⟨T, x, z, h1, h2, h3, h4, h5⟩ := y
    exact ⟨T, x, z, h1, h2, h3, h4 xs q.1, h5 ys q.2⟩
theorem range_step {f : Nat → PyData} {i : Nat} : (List.range (i + 1)).map f = if true = true then (List.range i).map f ++ [f i] else (List.range i).map f := by
  rw [if_pos rfl, List.range_succ, List.map_append]
  rfl
/-- [e for v, (lo, hi) in zip(t, bounds)] -/
theorem ed_lcZ {ta : TA} {vs : List Nat} {j1 j2 j3 : Nat} {bs : List (Int × Int)} (f : Nat → PyData) (h : EDA K ta σ H [.tuple ds, .tuple (bs.map fun b => .tuple [.int b.1, .int b.2])]) (hl : ds.length = bs.length) (hz : ds.length ≤ 1000)
    (hw : ∀ x y z, wipe ((((wipe σ vs).set j1 (some x)).set j2 (some y)).set j3 (some z)) vs = wipe σ vs)
    (he : ∀ (i : Nat) d v lo hi G, ds[i]? = some d → bs[i]? = some (lo, hi) → Ex H G → Da K G v d → ED K te ((((wipe σ vs).set j1 (some v)).set j2 (some (.int lo))).set j3 (some (.int hi))) G (f i)) :
    ED K (tLc (RZ.iZipA K ta) (gTup K 2 (gCons (gName j1) (gCons (gTup K 2 (gCons (gName j2) (gCons (gName j3) gNil))) gNil))) tYes te vs) σ H (.list ((List.range ds.length).map f)) := fun H1 x Q q =>
  h H1 x _ fun us H2 A s ga => by
    obtain ⟨v0, r, rfl, g0, ga⟩ := daa_inv ga
    obtain ⟨v1, r, rfl, g1, ga⟩ := daa_inv ga
    cases daa_inv0 ga
    cases g0 with
    | @tup a xs _ ea gx =>
      cases g1 with
      | @tup b ys _ eb gy =>
        have l1 := daa_len gx
        have l2 := daa_len gy
        rw [List.length_map] at l2
        refine ⟨a, b, xs, ys, rfl, .inr ⟨ex_t s.inn ea, ex_t s.inn eb, fun D hD => ?_⟩⟩
        refine lc_it (walk_zipT (K := K) (a := a) (b := b) (xs := xs) (ys := ys) (n := ds.length) (by omega)) (Lw K A H2 D fun i => (List.range i).map f) (Lw.start s.inn hD rfl) (fun i H' _ pw => ?_) (fun i y H' H3 hlt pw yy => ?_) fun H' pw => ?_
        · obtain ⟨_, G, acc, s2, _⟩ := pw
          exact ⟨ex_t (s.inn.trans s2.up) ea, ex_t (s.inn.trans s2.up) eb⟩
        · obtain ⟨T, p1, p2, rfl, hT, rfl, e1, e2⟩ := yy
          obtain ⟨d, hd', gd⟩ := daa_getV gx i p1 e1
          obtain ⟨d2, hd2, gd2⟩ := daa_getV gy i p2 e2
          rw [List.getElem?_map] at hd2
          obtain ⟨⟨lo, hi⟩, hb, rfl⟩ := Option.map_eq_some_iff.mp hd2
          cases gd2 with
          | @tup c zs _ ec gz =>
            obtain ⟨w1, r, rfl, q1, gz⟩ := daa_inv gz
            obtain ⟨w2, r, rfl, q2, gz⟩ := daa_inv gz
            cases daa_inv0 gz
            cases q1
            cases q2
            have pw' := pw
            obtain ⟨hD', G, acc, s2, gD, hacc, ga', la⟩ := pw
            have ex3 : Ex A (upd H' T (.tup [p1, .ref c])) := (s.inn.trans s2.up).trans (Ex.new hT)
            have TD : T ≠ D := fun z => by
              rw [z] at hT
              rw [hT] at hacc
              cases hacc
            have pw3 : Lw K A H2 D (fun i => (List.range i).map f) i (upd H' T (.tup [p1, .ref c])) := ⟨hD', G, acc, ⟨s2.up.trans (Ex.new hT), s2.an, s2.inn.trans (Ex.new hT), s2.sep⟩, gD, Ex.new hT _ _ hacc, ga', la⟩
            have tn := pw3.turn (t := tYes) (te := te) (σ2 := (((wipe σ vs).set j1 (some p1)).set j2 (some (.int lo))).set j3 (some (.int hi))) (f := true) (e := f i) (by omega) (fun _ _ => et_yes) (fun _ G xg => he i d p1 lo hi G hd' hb (s.an.trans xg) (da_ex xg gd)) range_step
            exact ⟨T, _, rfl, st_of upd_same, rfl, _, _, rfl, _, _, rfl, ⟨c, _, rfl, ex_t ex3 ec, rfl, _, _, rfl, _, _, rfl, rfl, ⟨rfl, hw p1 (.int lo) (.int hi), tn⟩⟩⟩
        · have g3 := lc_fin (out := fun i => (List.range i).map f) s q pw
          exact g3
end
end Tw

set_option Elab.async false
set_option linter.all false
set_option maxRecDepth 100000
set_option maxHeartbeats 4000000
namespace Tw
open PySem PySem.Spec PyProof.Rows L2 Evl
/-! own exceptions as values -/
section
variable {X : Cx} {C : Addr} {x : Str} {p pos : Pos}
/-- C(), a class without own making -/
theorem pe_exc0 {bmB : List Value} {B newId initId : String} (F : ExcBaseFacts B newId initId bmB) (inC : PySem.W.excIn X.K C bmB newId = true) (mC : X.mg x = some (.ref C)) (keepC : PySem.W.keepIn X.K (.ref C) = true) (gl : Gl X x)
    (nd : (x == ("__debug__" : Str)) = false := by decide) : PE X (.Call (.Name x p) [] [] pos) (fun σ H Q => ∀ a, H a = none → Q (.ref a) (upd H a (ExO (.ref C) a))) := by
  constructor
  intro pn s σ H Q I want
  refine wpAny_Call_Name_kw (ld_glob I gl mC ?go nd)
  refine PySem.W.callWith_K0 I.kIn keepC ?_
  show wpAny _ _ (call (.ref C) []) _ _ _
  have look := exc_obj I.kIn inC
  obtain ⟨bm, N, nm, qn, bs, hdct, sn, sub, ab, col, dd, k0, k1, k2, k3, k5, mN, u1, u2, u3, tail⟩ := look
  refine wpAny_call_exc_subT F tail u1 u2 u3 (fun h' e made => ?_) (Nat.zero_le _)
  have free : H e = none := I.hok.gone made.new
  obtain ⟨t, there, _⟩ := made.there
  exact ⟨.ref e, _, I.laidN made.keeps made.new free (exO_ok there ⟨rfl, rfl⟩ rfl rfl rfl (show 4 < 6 by decide)), rfl, want e free⟩
/-- the heap with the arguments' tuple and the bare exception -/
def laid2 (hp : Heap) (us : List Value) (C : Addr) : Heap := (hp.push (PySem.W.kdv_tup us)).push (PySem.HandSPX.excO C hp.objs.size)
theorem laid2_old {hp : Heap} {us : List Value} {C b : Addr} {o : Obj} (h : hp.get? b = some o) : (laid2 hp us C).get? b = some o := Heap.get?_push_of_some _ (Heap.get?_push_of_some _ h)
theorem laid2_new {hp : Heap} {us : List Value} {C : Addr} : (laid2 hp us C).get? (hp.objs.size + 1) = some (PySem.HandSPX.excO C hp.objs.size) := by
  unfold laid2
  heap_get
/-- C(e, ..), C's own making keeping sp -/
def tMkV (C : Addr) (sp : Sp) (ta : TA) : TE := fun σ H Q => ta σ H fun vs H1 => vs.length ≤ 1000 ∧ ∀ a, H1 a = none → sp (.ref a :: vs) (upd H1 a (exo a C none)) (fun v H2 => v = .non ∧ Q (.ref a) H2) (fun _ _ _ => False)
theorem pe_excV {CX : CXT} {fI : Addr} {k : Nat} {fd : FuncData} {ps : List Str} {sp : Sp} {e : Expr} {es : List Expr} {ta : TA} (T : OexC X.K C) (own : PySem.W.findIn X.K (.ref C) "__init__" = some (some (.ref fI)))
    (isf : PySem.W.typeIn X.K (.ref fI) = some (.type "function")) (F1 : FnOk X.prog X.w X.K X.mg X.base CX k fI fd ps sp) (room : Room (k + 1) X.A) (bd : Binds X.K fd ps []) (lets : Passes CX X (fun _ _ _ => False)) (gl : Gl X x) (mC : X.mg x = some (.ref C)) (ha : PA X (e :: es) ta)
    (nd : (x == ("__debug__" : Str)) = false := by decide) (st : starEach (e :: es) X.env = (false, eval e X.env) :: starEach es X.env := by rfl) (pl : (backTo pos (starEach es X.env)).any (·.1) = false := by rfl) :
    PE X (.Call (.Name x p) (e :: es) [] pos) (tMkV C sp ta) := by
  constructor
  intro pn s σ H Q I want
  obtain ⟨nm, q, N, bs, bm, sn, sub, ab, col, dd, k0, k1, k2, k3, k5, hC, hbm⟩ := T.cls
  refine wpAny_Call_Name_kw (ld_glob I gl mC ?go nd)
  refine PySem.W.callWith_K (h₀ := X.base) I.ok.mod.kin T.kC (thn (ha.run pos pn s σ H _ I want) ?after) st pl
  rintro us ⟨hp, g, dr, tk, os⟩ ⟨vs, H1, I1, rs, few, then1⟩
  refine ⟨I1.kIn, ?_⟩
  show wpAny _ _ (call (.ref C) us) _ _ _
  have le1 : hp.objs.size ≤ hp.objs.size + 1 := Nat.le_succ _
  have free := I1.hok.fresh le1
  have go1 := then1 _ free
  have I2 := I1.laid (t' := tk) (o := exo (hp.objs.size + 1) C none) (h' := laid2 hp us C) (fun b o => laid2_old) le1 (exo_ok laid2_new)
  have rs2 : Vals (V.ref (hp.objs.size + 1) :: vs) (Value.ref (hp.objs.size + 1) :: us) := .cons rfl rs
  have lus : us.length ≤ sizeLine := by
    rw [← Paired.length rs]
    exact Nat.le_trans few (by decide)
  have lps : (Value.ref (hp.objs.size + 1) :: us).length = ps.length := by
    rw [← F1.len _ _ _ _ go1]
    exact rs2.length.symm
  have bind2 := bd _ (Value.ref (hp.objs.size + 1) :: us) I2.kIn (by rw [List.append_nil]; exact lps)
  rw [List.append_nil] at bind2
  have run2 := F1.run _ X.stack _ _ ⟨Value.ref (hp.objs.size + 1) :: us, []⟩ _ _ _ (fun _ _ _ => False) (room.make C us []) (I2.env0.make C us []) bind2 rs2 go1
  refine wpAny_call (PySem.HandSPX.call_own F.excBase_ValueError (fun Y => PySem.HandSPX.refsVE_contains Y bm hbm) (I1.kIn _ _ hC) (PySem.W.looks_findIn I1.kIn own) (fun self => PySem.W.bind_fn I1.kIn self isf) lus (codeAny_mono run2 ?fin))
  rintro (er | fl) s' hq
  · exact lets pn σ _ _ er s' I2 hq
  · cases fl with
    | ret u =>
      obtain ⟨v, H2, os2, bare2, un2, hok2, rv, ev, q2⟩ := hq
      cases ev
      exact ⟨rv, .ref (hp.objs.size + 1), H2, I2.call' (ch := []) os2 un2 hok2 bare2 (fun b z => nomatch z), rfl, q2⟩
    | next => cases hq
    | brk => cases hq
    | cont => cases hq
end
/-- an exception of the class at C, at a -/
def Xc (H : Hp) (a C : Addr) : Prop := H a = some (ExO (.ref C) a) ∨ ∃ d fs, H a = some (exo a C (some d)) ∧ H d = some (exd d fs)
theorem xc_ex {H H' : Hp} {a C : Addr} (e : Ex H H') : Xc H a C → Xc H' a C
  | .inl h => .inl (e _ _ h)
  | .inr ⟨d, fs, h1, h2⟩ => .inr ⟨d, fs, e _ _ h1, e _ _ h2⟩
theorem xc_inst {P : Program} {w : World} {H : Hp} {h : Heap} {a C : Addr} (hok : HOk P w H h) (e : Xc H a C) : ∃ ox od, PySem.W.InstAt h a ox C od := by
  rcases e with e | ⟨d, fs, e, ed⟩
  · have ok := hok a _ e
    obtain ⟨⟨oe, vs, he, hz, hd, _⟩, _⟩ := (show ObjOk P w H h a (ExO (.ref C) a) from ok)
    refine ⟨oe, none, he, hz.1, ?_, ?_⟩
    · unfold PySem.W.notCls
      rw [hd]
    · rw [hz.2]
      trivial
  · obtain ⟨t, he⟩ := exo_at hok e
    obtain ⟨mA, ⟨o, es, ep, ho, r⟩, _⟩ := exd_at hok ed
    exact ⟨_, some o, he, rfl, rfl, ho⟩
/-- isinstance(e, c) -/
def rIsX (K : PySem.W.Frag) : List V → Hp → VK → Prop := fun xs H Q => ∃ (a C : Addr) (c : V) (cv : Value) (b : Bool), xs = [.ref a, c] ∧ Xc H a C ∧ ExcC K C ∧ ClsV c cv ∧ PySem.W.kitOne K (.ref C) cv = some b ∧ Q (.bl b) H
theorem call_isX {X : Cx} : CallR X (.builtin "isinstance") (rIsX X.K) := by
  intro pins s σ H xs us Q I r h
  obtain ⟨a, C, c, cv, b, rfl, hx, T, k, e, q⟩ := h
  obtain ⟨u1, u2, rfl, r1, r2⟩ := vals2 r
  cases k.eq r2
  cases r1
  obtain ⟨ox, od, at_⟩ := xc_inst I.hok hx
  have hcl : (PySem.W.clsIn X.K C).isSome = true := by
    have hd := T.hd
    unfold PySem.W.hasDictIn at hd
    cases z : PySem.W.clsIn X.K C with
    | none =>
      rw [z] at hd
      cases hd
    | some _ => rfl
  exact PySem.W.kia_one (PySem.W.kitx_exc (od := od) hcl T.hg T.hk T.hs T.ha T.hn T.ht T.hm) I.kIn at_ e (fun z => nomatch z) fun tk => ⟨.bl b, H, I.tok tk, rfl, q⟩
/-- e.f of such an exception -/
def tFldX (K : PySem.W.Frag) (f : Str) (te : TE) : TE := fun σ H Q => te σ H fun x H1 => ∃ (a C d : Addr) (fs : List (Str × V)) (v : V), x = .ref a ∧ H1 a = some (exo a C (some d)) ∧ H1 d = some (exd d fs) ∧ fs.lookup f = some v ∧ ExcC K C ∧ PySem.W.findIn K (.ref C) f = some none ∧ Q v H1
theorem pe_fldX {X : Cx} {e : Expr} {te : TE} {f : Str} {pos : Pos} (he : PE X e te) (base : attributeBase e f X.env (eval e X.env) = eval e X.env := by rfl) : PE X (.Attribute e f pos) (tFldX X.K f te) := by
  constructor
  intro pn s σ H Q I want
  refine attr_of base (thn (he.run pn s σ H _ I want) ?_)
  rintro u s1 ⟨x, H1, J, rx, a, C, d, fs, v, rfl, ea, ed, lf, T, no, q⟩
  cases rx
  obtain ⟨t1, oa⟩ := exo_at J.hok ea
  obtain ⟨mA, hns, rel⟩ := exd_at J.hok ed
  obtain ⟨od, ho, look⟩ := lookIn_ns hns
  have rf := rel f
  rw [lf] at rf
  obtain ⟨u, hu, ru⟩ := RelO.some_of (v := v) (o := mA f) rf
  have at_ : PySem.W.InstAt s1.heap a _ C (some od) := ⟨oa, rfl, rfl, ho⟩
  exact PySem.HandSPX.exc_get J.kIn at_ T.hg T.hk T.hs (PySem.W.findObj_own T.hd no rfl (by rw [look, hu])) (handed_of ru) ⟨v, H1, J.tok _, ru, q⟩
end Tw

set_option Elab.async false
set_option linter.all false
set_option maxRecDepth 100000
set_option maxHeartbeats 4000000
namespace K6
open PySem PySem.Spec PyProof.Rows L2 Evl Tw
def topS (i : Nat) : Stmt := PySem.Challenge.pw_tidewaits_k06_errors_stand_apart.main.body.getD i (.Pass ⟨0, 0, 0, 0⟩)
abbrev s__law_draws : Stmt := topS 15
abbrev N__law_draws : List Str := ["script", "count", "rests", "cell", "draws", "k", "value", "at", "mixed"]
theorem sc_law_draws : FnScope N__law_draws ["script", "count"] (defScope s__law_draws) := ⟨rfl, rfl, rfl, by decide +kernel, rfl, by decide +kernel, by decide +kernel⟩
abbrev s__law_marks : Stmt := topS 17
abbrev N__law_marks : List Str := ["e", "marks"]
theorem sc_law_marks : FnScope N__law_marks ["e"] (defScope s__law_marks) := ⟨rfl, rfl, rfl, by decide +kernel, rfl, by decide +kernel, by decide +kernel⟩
abbrev s__law_alone : Stmt := topS 18
abbrev N__law_alone : List Str := ["e", "at", "marks", "k"]
theorem sc_law_alone : FnScope N__law_alone ["e", "at"] (defScope s__law_alone) := ⟨rfl, rfl, rfl, by decide +kernel, rfl, by decide +kernel, by decide +kernel⟩
abbrev s__law_plain_errors : Stmt := topS 19
abbrev N__law_plain_errors : List Str := ["good"]
theorem sc_law_plain_errors : FnScope N__law_plain_errors [] (defScope s__law_plain_errors) := ⟨rfl, rfl, rfl, by decide +kernel, rfl, by decide +kernel, by decide +kernel⟩
abbrev s_law : Stmt := topS 20
abbrev N_law : List Str := ["script", "draws", "word", "ships", "errors", "k"]
theorem sclaw : FnScope N_law ["script"] (defScope s_law) := ⟨rfl, rfl, rfl, by decide +kernel, rfl, by decide +kernel, by decide +kernel⟩
def inner (s : Stmt) : Stmt := match s with
  | .ClassDef _ _ _ body _ _ _ _ _ _ _ => body.getD 0 (.Pass ⟨0, 0, 0, 0⟩)
  | _ => .Pass ⟨0, 0, 0, 0⟩
abbrev s_BadShip : Stmt := inner (topS 4)
abbrev N_BadShip : List Str := ["self", "ship"]
theorem scBadShip : FnScope N_BadShip ["self", "ship"] (defScope s_BadShip) := ⟨rfl, rfl, rfl, by decide +kernel, rfl, by decide +kernel, by decide +kernel⟩
abbrev s_BadText : Stmt := inner (topS 5)
abbrev N_BadText : List Str := ["self", "line", "column"]
theorem scBadText : FnScope N_BadText ["self", "line", "column"] (defScope s_BadText) := ⟨rfl, rfl, rfl, by decide +kernel, rfl, by decide +kernel, by decide +kernel⟩
abbrev s_NoPlan : Stmt := inner (topS 6)
abbrev N_NoPlan : List Str := ["self", "word", "number"]
theorem scNoPlan : FnScope N_NoPlan ["self", "word", "number"] (defScope s_NoPlan) := ⟨rfl, rfl, rfl, by decide +kernel, rfl, by decide +kernel, by decide +kernel⟩
abbrev s_Clash : Stmt := inner (topS 12)
abbrev N_Clash : List Str := ["self", "ships"]
theorem scClash : FnScope N_Clash ["self", "ships"] (defScope s_Clash) := ⟨rfl, rfl, rfl, by decide +kernel, rfl, by decide +kernel, by decide +kernel⟩
abbrev s_BadEntry : Stmt := inner (topS 13)
abbrev N_BadEntry : List Str := ["self", "at"]
theorem scBadEntry : FnScope N_BadEntry ["self", "at"] (defScope s_BadEntry) := ⟨rfl, rfl, rfl, by decide +kernel, rfl, by decide +kernel, by decide +kernel⟩
structure Tx (K : PySem.W.Frag) (mg : Str → Option Value) where
  f__law_draws : Addr
  d__law_draws : FuncData
  F__law_draws : Fun K "_law_draws" "_law_draws" s__law_draws f__law_draws d__law_draws
  g__law_draws : mg "_law_draws" = some (.ref f__law_draws)
  b__law_draws : Binds K d__law_draws ["script", "count"] []
  f__law_marks : Addr
  d__law_marks : FuncData
  F__law_marks : Fun K "_law_marks" "_law_marks" s__law_marks f__law_marks d__law_marks
  g__law_marks : mg "_law_marks" = some (.ref f__law_marks)
  b__law_marks : Binds K d__law_marks ["e"] []
  f__law_alone : Addr
  d__law_alone : FuncData
  F__law_alone : Fun K "_law_alone" "_law_alone" s__law_alone f__law_alone d__law_alone
  g__law_alone : mg "_law_alone" = some (.ref f__law_alone)
  b__law_alone : Binds K d__law_alone ["e", "at"] []
  f__law_plain_errors : Addr
  d__law_plain_errors : FuncData
  F__law_plain_errors : Fun K "_law_plain_errors" "_law_plain_errors" s__law_plain_errors f__law_plain_errors d__law_plain_errors
  g__law_plain_errors : mg "_law_plain_errors" = some (.ref f__law_plain_errors)
  b__law_plain_errors : Binds K d__law_plain_errors [] []
  f_law : Addr
  d_law : FuncData
  F_law : Fun K "law" "law" s_law f_law d_law
  g_law : mg "law" = some (.ref f_law)
  b_law : Binds K d_law ["script"] []
  m_len : mg "len" = none
  m_int : mg "int" = none
  m_range : mg "range" = none
  m_isinstance : mg "isinstance" = none
  m_all : mg "all" = none
  m_list : mg "list" = none
  m_ValueError : mg "ValueError" = none
  c_TideError : Addr
  g_TideError : mg "TideError" = some (.ref c_TideError)
  c_BadSize : Addr
  g_BadSize : mg "BadSize" = some (.ref c_BadSize)
  e_BadSize : ExcC K c_BadSize
  q_BadSize : PySem.W.excIn K c_BadSize [.type "ValueError", .type "Exception", .type "BaseException", .type "object"] "ValueError.__new__" = true
  kp_BadSize : PySem.W.keepIn K (.ref c_BadSize) = true
  c_BadNumber : Addr
  g_BadNumber : mg "BadNumber" = some (.ref c_BadNumber)
  e_BadNumber : ExcC K c_BadNumber
  q_BadNumber : PySem.W.excIn K c_BadNumber [.type "ValueError", .type "Exception", .type "BaseException", .type "object"] "ValueError.__new__" = true
  kp_BadNumber : PySem.W.keepIn K (.ref c_BadNumber) = true
  c_BadHour : Addr
  g_BadHour : mg "BadHour" = some (.ref c_BadHour)
  e_BadHour : ExcC K c_BadHour
  q_BadHour : PySem.W.excIn K c_BadHour [.type "ValueError", .type "Exception", .type "BaseException", .type "object"] "ValueError.__new__" = true
  kp_BadHour : PySem.W.keepIn K (.ref c_BadHour) = true
  c_NotSo : Addr
  g_NotSo : mg "NotSo" = some (.ref c_NotSo)
  e_NotSo : ExcC K c_NotSo
  q_NotSo : PySem.W.excIn K c_NotSo [.type "ValueError", .type "Exception", .type "BaseException", .type "object"] "ValueError.__new__" = true
  kp_NotSo : PySem.W.keepIn K (.ref c_NotSo) = true
  c_NoWay : Addr
  g_NoWay : mg "NoWay" = some (.ref c_NoWay)
  e_NoWay : ExcC K c_NoWay
  q_NoWay : PySem.W.excIn K c_NoWay [.type "ValueError", .type "Exception", .type "BaseException", .type "object"] "ValueError.__new__" = true
  kp_NoWay : PySem.W.keepIn K (.ref c_NoWay) = true
  c_NothingToUndo : Addr
  g_NothingToUndo : mg "NothingToUndo" = some (.ref c_NothingToUndo)
  e_NothingToUndo : ExcC K c_NothingToUndo
  q_NothingToUndo : PySem.W.excIn K c_NothingToUndo [.type "ValueError", .type "Exception", .type "BaseException", .type "object"] "ValueError.__new__" = true
  kp_NothingToUndo : PySem.W.keepIn K (.ref c_NothingToUndo) = true
  c_NothingToRedo : Addr
  g_NothingToRedo : mg "NothingToRedo" = some (.ref c_NothingToRedo)
  e_NothingToRedo : ExcC K c_NothingToRedo
  q_NothingToRedo : PySem.W.excIn K c_NothingToRedo [.type "ValueError", .type "Exception", .type "BaseException", .type "object"] "ValueError.__new__" = true
  kp_NothingToRedo : PySem.W.keepIn K (.ref c_NothingToRedo) = true
  c_BadShip : Addr
  g_BadShip : mg "BadShip" = some (.ref c_BadShip)
  e_BadShip : ExcC K c_BadShip
  o_BadShip : OexC K c_BadShip
  f_BadShip : Addr
  d_BadShip : FuncData
  F_BadShip : Fun K "__init__" "BadShip.__init__" s_BadShip f_BadShip d_BadShip
  i_BadShip : PySem.W.findIn K (.ref c_BadShip) "__init__" = some (some (.ref f_BadShip))
  ti_BadShip : PySem.W.typeIn K (.ref f_BadShip) = some (.type "function")
  b_BadShip : Binds K d_BadShip ["self", "ship"] []
  n_BadShip_ship : PySem.W.findIn K (.ref c_BadShip) "ship" = some none
  c_BadText : Addr
  g_BadText : mg "BadText" = some (.ref c_BadText)
  e_BadText : ExcC K c_BadText
  o_BadText : OexC K c_BadText
  f_BadText : Addr
  d_BadText : FuncData
  F_BadText : Fun K "__init__" "BadText.__init__" s_BadText f_BadText d_BadText
  i_BadText : PySem.W.findIn K (.ref c_BadText) "__init__" = some (some (.ref f_BadText))
  ti_BadText : PySem.W.typeIn K (.ref f_BadText) = some (.type "function")
  b_BadText : Binds K d_BadText ["self", "line", "column"] []
  n_BadText_line : PySem.W.findIn K (.ref c_BadText) "line" = some none
  n_BadText_column : PySem.W.findIn K (.ref c_BadText) "column" = some none
  c_NoPlan : Addr
  g_NoPlan : mg "NoPlan" = some (.ref c_NoPlan)
  e_NoPlan : ExcC K c_NoPlan
  o_NoPlan : OexC K c_NoPlan
  f_NoPlan : Addr
  d_NoPlan : FuncData
  F_NoPlan : Fun K "__init__" "NoPlan.__init__" s_NoPlan f_NoPlan d_NoPlan
  i_NoPlan : PySem.W.findIn K (.ref c_NoPlan) "__init__" = some (some (.ref f_NoPlan))
  ti_NoPlan : PySem.W.typeIn K (.ref f_NoPlan) = some (.type "function")
  b_NoPlan : Binds K d_NoPlan ["self", "word", "number"] []
  n_NoPlan_word : PySem.W.findIn K (.ref c_NoPlan) "word" = some none
  n_NoPlan_number : PySem.W.findIn K (.ref c_NoPlan) "number" = some none
  c_Clash : Addr
  g_Clash : mg "Clash" = some (.ref c_Clash)
  e_Clash : ExcC K c_Clash
  o_Clash : OexC K c_Clash
  f_Clash : Addr
  d_Clash : FuncData
  F_Clash : Fun K "__init__" "Clash.__init__" s_Clash f_Clash d_Clash
  i_Clash : PySem.W.findIn K (.ref c_Clash) "__init__" = some (some (.ref f_Clash))
  ti_Clash : PySem.W.typeIn K (.ref f_Clash) = some (.type "function")
  b_Clash : Binds K d_Clash ["self", "ships"] []
  n_Clash_ships : PySem.W.findIn K (.ref c_Clash) "ships" = some none
  c_BadEntry : Addr
  g_BadEntry : mg "BadEntry" = some (.ref c_BadEntry)
  e_BadEntry : ExcC K c_BadEntry
  o_BadEntry : OexC K c_BadEntry
  f_BadEntry : Addr
  d_BadEntry : FuncData
  F_BadEntry : Fun K "__init__" "BadEntry.__init__" s_BadEntry f_BadEntry d_BadEntry
  i_BadEntry : PySem.W.findIn K (.ref c_BadEntry) "__init__" = some (some (.ref f_BadEntry))
  ti_BadEntry : PySem.W.typeIn K (.ref f_BadEntry) = some (.type "function")
  b_BadEntry : Binds K d_BadEntry ["self", "at"] []
  n_BadEntry_at : PySem.W.findIn K (.ref c_BadEntry) "at" = some none
  kt : ∀ i, i < 12 → ∀ j, j < 12 → PySem.W.kitOne K (.ref ([c_BadSize, c_BadNumber, c_BadHour, c_NotSo, c_NoWay, c_NothingToUndo, c_NothingToRedo, c_BadShip, c_BadText, c_NoPlan, c_Clash, c_BadEntry].getD i 0)) (.ref ([c_BadSize, c_BadNumber, c_BadHour, c_NotSo, c_NoWay, c_NothingToUndo, c_NothingToRedo, c_BadShip, c_BadText, c_NoPlan, c_Clash, c_BadEntry].getD j 0)) = some (decide (i = j))
  kb : ∀ i, i < 12 → PySem.W.kitOne K (.ref ([c_BadSize, c_BadNumber, c_BadHour, c_NotSo, c_NoWay, c_NothingToUndo, c_NothingToRedo, c_BadShip, c_BadText, c_NoPlan, c_Clash, c_BadEntry].getD i 0)) (.ref c_TideError) = some true
  kv : ∀ i, i < 12 → PySem.W.kitOne K (.ref ([c_BadSize, c_BadNumber, c_BadHour, c_NotSo, c_NoWay, c_NothingToUndo, c_NothingToRedo, c_BadShip, c_BadText, c_NoPlan, c_Clash, c_BadEntry].getD i 0)) (.type "ValueError") = some true
def Tx.cl {K : PySem.W.Frag} {mg : Str → Option Value} (T : Tx K mg) (i : Nat) : Addr := [T.c_BadSize, T.c_BadNumber, T.c_BadHour, T.c_NotSo, T.c_NoWay, T.c_NothingToUndo, T.c_NothingToRedo, T.c_BadShip, T.c_BadText, T.c_NoPlan, T.c_Clash, T.c_BadEntry].getD i 0
theorem Tx.ec {K : PySem.W.Frag} {mg : Str → Option Value} (T : Tx K mg) : ∀ i, i < 12 → ExcC K (T.cl i)
  | 0, _ => T.e_BadSize
  | 1, _ => T.e_BadNumber
  | 2, _ => T.e_BadHour
  | 3, _ => T.e_NotSo
  | 4, _ => T.e_NoWay
  | 5, _ => T.e_NothingToUndo
  | 6, _ => T.e_NothingToRedo
  | 7, _ => T.e_BadShip
  | 8, _ => T.e_BadText
  | 9, _ => T.e_NoPlan
  | 10, _ => T.e_Clash
  | 11, _ => T.e_BadEntry
  | n + 12, h => absurd h (by omega)
section
variable {P : Program} {w : World} {K : PySem.W.Frag} {mg : Str → Option Value} {base : Heap} {k : Nat}
/-! the defs -/
theorem ok_draws (T : Tx K mg) : FnOk P w K mg base CX0 (k + 1) T.f__law_draws T.d__law_draws ["script", "count"] (spDraws K) := by
  refine T.F__law_draws.ok sc_law_draws (fun vs H Q E h => ?_) (fun cdv A outer s H vs Q E hr h => ?_)
  · obtain ⟨a, ns, n, rfl, _⟩ := h
    rfl
  obtain ⟨a, ns, n, rfl, hS, hlen, hn, q⟩ := h
  refine ⟨_, (pss_cons (ps_setLc (i := 2) (own := [("cell", 3)]) (g := gName 3) (tt := tYes) rfl sc_law_draws.nd rfl rfl (sw_true rfl rfl rfl (by decide +kernel)) (pi_list (pv 0)) (blkOk_by (N := N__law_draws) (sc := defScope s__law_draws) (by decide +kernel)) (fun _ _ _ _ _ => (pg_name (i := 3) sc_law_draws.nd rfl (.inl rfl))) (fun _ _ _ _ _ => pts_nil) (fun _ _ _ _ _ => (pv 3)))
    (pss_cons (ps_set (i := 4) sc_law_draws.nd rfl (.inl rfl) (pe_lst pa_nil))
    (pss_cons (ps_for PassesOwn.never rfl (pi_range1 (by rfl) T.m_range (pa_cons (pv 1) pa_nil)) (pg_name (i := 5) sc_law_draws.nd rfl (.inl rfl))
      (pss_cons (ps_set (i := 6) sc_law_draws.nd rfl (.inl rfl) pe_int)
      (pss_cons (ps_if (pt_cmpR op_gt (pe_callB call_len_seq (by rfl) T.m_len (by decide +kernel) (pa_cons (pv 2) pa_nil)) pe_int (nomark _)) (pss_cons (ps_set (i := 7) sc_law_draws.nd rfl (.inl rfl) (pe_op op_modN (pe_callTy call_int1 (by rfl) T.m_int (by decide +kernel) (pa_cons (pv 5) pa_nil)) (pe_callB call_len_seq (by rfl) T.m_len (by decide +kernel) (pa_cons (pv 2) pa_nil))))
        (pss_one (ps_if (pt_cmpR op_ge (pe_ix ix_list (pv 2) (pv 7) (fun _ _ => rfl)) (pe_op op_pow pe_int pe_int) (nomark _)) (pss_cons (ps_set (i := 6) sc_law_draws.nd rfl (.inl rfl) (pe_op op_mod (pe_callTy call_int1 (by rfl) T.m_int (by decide +kernel) (pa_cons (pe_ix ix_list (pv 2) (pv 7) (fun _ _ => rfl)) pa_nil)) pe_int))
          (pss_one (ps_asg (pe_op op_fdiv (pe_ix ix_list (pv 2) (pv 7) (fun _ _ => rfl)) pe_int) (pg_sub (pv 2) (pv 7) set_list)))) (pss_cons (ps_set (i := 8) sc_law_draws.nd rfl (.inl rfl) (pe_op op_mod (pe_callTy call_int1 (by rfl) T.m_int (by decide +kernel) (pa_cons (pe_op op_add (pe_op op_add (pe_op op_mul (pe_ix ix_list (pv 2) (pv 7) (fun _ _ => rfl)) pe_int) (pe_op op_mul (pv 5) pe_int)) pe_int) pa_nil)) pe_int))
          (pss_cons (ps_set (i := 8) sc_law_draws.nd rfl (.inl rfl) (pe_op op_mod (pe_callTy call_int1 (by rfl) T.m_int (by decide +kernel) (pa_cons (pe_op op_add (pe_op op_mul (pv 8) pe_int) (pv 7)) pa_nil)) pe_int))
          (pss_one (ps_set (i := 6) sc_law_draws.nd rfl (.inl rfl) (pe_op op_mod (pe_callTy call_int1 (by rfl) T.m_int (by decide +kernel) (pa_cons (pe_op op_fdiv (pv 8) pe_int) pa_nil)) pe_int)))))))) pss_nil)
      (pss_one (ps_expr (pe_bm PySem.F.plainAttrs_list PySem.F.slot_list_append PySem.F.type_list_append mt_append (pv 4) (pa_cons (pv 6) pa_nil)))))))
    (pss_one (ps_ret (pv 4)))))), ?_⟩
  have hz : (ns.map V.int).length = ns.length := List.length_map ..
  -- rests
  refine q_asgL (xs := ns.map V.int) (fun H1 e Q2 q2 => ?_) fun R H1 nR e1 hR => ?_
  · have h1 := el_lcL (K := K) (a := a) (xs := ns.map V.int) (tl := tVar 0) (j := 3) (vs := [3]) (t := tYes) (te := tVar 3) (σ := start N__law_draws [.ref a, .int (n : Int)]) (H := H) (fun _ => true) (fun i => ((ns.map V.int).getD i .non)) (ev_var rfl) hS (by omega) (fun _ => rfl) (fun _ _ _ _ _ => et_yes)
      (fun i x H1 _ hi _ => by
        have hx : (ns.map V.int).getD i .non = x := by rw [List.getD_eq_getElem?_getD, hi]; rfl
        rw [hx]
        exact ev_var rfl)
    have hg : ∀ l : List V, given l.length (fun _ => true) (fun i => l.getD i .non) = l := by
      intro l
      unfold given
      rw [List.filter_eq_self.mpr fun _ _ => rfl]
      apply List.ext_getElem?
      intro i
      rw [List.getElem?_map]
      by_cases hi : i < l.length
      · rw [List.getElem?_range hi, List.getElem?_eq_getElem hi]
        show some (l.getD i .non) = _
        rw [List.getD_eq_getElem?_getD, List.getElem?_eq_getElem hi]
        rfl
      · rw [List.getElem?_eq_none (by rw [List.length_range]; omega), List.getElem?_eq_none (by omega)]
        rfl
    rw [hg] at h1
    exact h1 H1 e Q2 q2
  -- draws
  refine q_asgL (xs := []) (el_lst ea_nil (by decide)) fun L H2 nL e2 hL => ?_
  have nRL : R ≠ L := ne_of_none hR nL
  have nLH : H L = none := fresh_back e1 nL
  -- the loop
  refine q_forR1 (ea_cons (ev_var (v := .int (n : Int)) rfl) ea_nil) (by omega) (WD H a n ns.length R L) ?_ ?_ ?_
  · intro H3 e3
    exact ⟨none, none, none, none, none, ns, [], rfl, (e1.trans e2).trans e3, e3 _ _ (e2 _ _ hR), e3 _ _ hL, rfl, rfl, fun d hd => absurd hd List.not_mem_nil⟩
  · rintro i σ' H' hi ⟨x3, x5, x6, x7, x8, rs, ds, rfl, ex, hR', hL', lr, ld, bd⟩
    have hi' : i < n := by omega
    -- the turn's end
    have fin : ∀ (v : Int) (rs' : List Int) (y7 y8 : Option V) (H3 : Hp) (D : Ends), D.nx = WD H a n ns.length R L (i + 1) → 0 ≤ v → v < 1000 → rs'.length = ns.length → Ex H H3 → H3 R = some (.lst (rs'.map V.int)) → H3 L = some (.lst (ds.map V.int)) →
        tDrop (tBM K "list" rAppend (tVar 4) (tCons (tVar 6) tNil)) D [some (.ref a), some (.int (n : Int)), some (.ref R), x3, some (.ref L), some (.int (i : Int)), some (.int v), y7, y8] H3 := fun v rs' y7 y8 H3 D hD h0 h1 hl' hx hR3 hL3 => by
      refine s_app (xs := ds.map V.int) hL3 (ev_var rfl) (ev_var (v := .int v) rfl) (by rw [List.length_map]; omega) fun H4 e4 => ?_
      rw [hD]
      refine ⟨x3, _, _, y7, y8, rs', ds ++ [v], rfl, Ex.mut (hx.trans e4) nLH, ?_, ?_, hl', ?_, ?_⟩
      · rw [upd_ne nRL]
        exact e4 _ _ hR3
      · rw [upd_same, List.map_append]
        rfl
      · rw [List.length_append, ld]
        rfl
      · intro d hd
        rcases List.mem_append.mp hd with h | h
        · exact bd d h
        · cases List.mem_singleton.mp h
          exact ⟨h0, h1⟩
    refine q_asg ev_c fun H3 e3 => ?_
    refine q_when (et_test (ev_op (ev_len (K := K) (ev_var (v := .ref R) rfl) (sq_of (e3 _ _ hR'))) ev_c rv_I0)) (fun hb H4 e4 => ?_) (fun hb H4 e4 => ?_)
    · have hpos : 0 < rs.length := by
        have := of_decide_eq_true hb
        rw [List.length_map] at this
        omega
      have hR4 : H4 R = some (.lst (rs.map V.int)) := e4 _ _ (e3 _ _ hR')
      have hL4 : H4 L = some (.lst (ds.map V.int)) := e4 _ _ (e3 _ _ hL')
      have x4 : Ex H H4 := (ex.trans e3).trans e4
      have hj : i % rs.length < rs.length := Nat.mod_lt _ hpos
      have em : ((i : Int)).fmod (((rs.map V.int).length : Nat) : Int) = ((i % rs.length : Nat) : Int) := by
        rw [List.length_map, Int.fmod_eq_emod_of_nonneg _ (by omega)]
        rfl
      refine q_asg (v := .int ((i % rs.length : Nat) : Int)) (ev_is (ev_op (ev_toInt (ev_var (v := .int (i : Int)) rfl)) (ev_len (K := K) (ev_var (v := .ref R) rfl) (sq_of hR4)) (rv_I (show (((rs.map V.int).length : Nat) : Int) ≠ 0 by rw [List.length_map]; omega))) (by rw [em])) fun H5 e5 => ?_
      have hR5 := e5 _ _ hR4
      have hL5 := e5 _ _ hL4
      have x5' := x4.trans e5
      have ix : ∀ {σ : L2.St} {G : Hp}, σ[2]? = some (some (.ref R)) → σ[7]? = some (some (.int ((i % rs.length : Nat) : Int))) → G R = some (.lst (rs.map V.int)) → Ev (tOp (rIxL K) (tVar 2) (tVar 7)) σ G (.int rs[i % rs.length]) := fun s1 s2 hg =>
        ev_op (ev_var s1) (ev_var s2) (rv_ixL (sq_of hg) (at_int hj))
      refine s_if (et_test (ev_op (ix rfl rfl hR5) (ev_op ev_c ev_c (rv_I ⟨by decide, by decide, by decide⟩)) rv_I0)) (fun hc H6 e6 => ?_) (fun hc H6 e6 => ?_)
      · have hR6 := e6 _ _ hR5
        refine q_asg (ev_op (ev_toInt (ix rfl rfl hR6)) ev_c (rv_I (show (0 : Int) < 1000 by decide))) fun H7 e7 => ?_
        have hR7 := e7 _ _ hR6
        refine s_setL hR7 (ev_op (ix rfl rfl hR7) ev_c (rv_I (show CDiv _ 1000 from ⟨by decide, by decide⟩))) (ev_var rfl) (ev_var rfl) (by rw [List.length_map]; exact hj) fun H8 e8 => ?_
        have hL8 := e8 _ _ (e7 _ _ (e6 _ _ hL5))
        have nRH : H R = none := nR
        refine fin _ (rs.set (i % rs.length) (rs[i % rs.length] / 1000)) _ _ _ _ rfl (mod1000 _).1 (mod1000 _).2 (by rw [List.length_set]; exact lr) (Ex.mut (((x5'.trans e6).trans e7).trans e8) nRH) ?_ ?_
        · rw [upd_same, List.map_set]
        · rw [upd_ne nRL.symm]
          exact hL8
      · have hR6 := e6 _ _ hR5
        refine q_asg (ev_op (ev_toInt (ev_op (ev_op (ev_op (ix rfl rfl hR6) ev_c (rv_I (.inr ⟨by decide, by decide⟩))) (ev_op (ev_var (v := .int (i : Int)) rfl) ev_c (rv_I (.inr ⟨by decide, by decide⟩))) rv_I0) ev_c rv_I0)) ev_c (rv_I (show (0 : Int) < 2147483647 by decide))) fun H7 e7 => ?_
        refine q_asg (ev_op (ev_toInt (ev_op (ev_op (ev_var rfl) ev_c (rv_I (.inr ⟨by decide, by decide⟩))) (ev_var (v := .int ((i % rs.length : Nat) : Int)) rfl) rv_I0)) ev_c (rv_I (show (0 : Int) < 2147483629 by decide))) fun H8 e8 => ?_
        refine s_asg (ev_op (ev_toInt (ev_op (ev_var rfl) ev_c (rv_I (show CDiv _ 7 from ⟨by decide, by decide⟩)))) ev_c (rv_I (show (0 : Int) < 1000 by decide))) fun H9 e9 => ?_
        have x9 := ((e6.trans e7).trans e8).trans e9
        exact fin _ rs _ _ _ _ rfl (mod1000 _).1 (mod1000 _).2 lr (x5'.trans x9) (x9 _ _ hR5) (x9 _ _ hL5)
    · have x4 := e3.trans e4
      exact fin 0 rs _ _ _ _ rfl (by decide) (by decide) lr (ex.trans x4) (x4 _ _ hR') (x4 _ _ hL')
  · rintro σ' H' ⟨x3, x5, x6, x7, x8, rs, ds, rfl, ex, hR', hL', lr, dr⟩
    refine s_ret (ev_var rfl) fun H3 e3 => ?_
    have dr' : Drawn n ds := by
      have : ((n : Int)).toNat = n := by omega
      rw [this] at dr
      exact dr
    exact q ds L H3 dr' nLH (ex.trans e3) (e3 _ _ hL')

end
end K6

set_option Elab.async false
set_option linter.all false
set_option maxRecDepth 100000
set_option maxHeartbeats 4000000
namespace K6
open PySem PySem.Spec PyProof.Rows L2 Evl Tw
section
variable {P : Program} {w : World} {K : PySem.W.Frag} {mg : Str → Option Value} {base : Heap} {k : Nat}
/-! how errors are made -/
def spI1 (C : Addr) (f : Str) : Sp := fun vs H Q _ => ∃ a y, vs = [.ref a, y] ∧ H a = some (exo a C none) ∧ ∀ d, H d = none → d ≠ a → Q .non (upd (upd H d (exd d [(f, y)])) a (exo a C (some d)))
def spI2 (C : Addr) (f g : Str) : Sp := fun vs H Q _ => ∃ a y z, vs = [.ref a, y, z] ∧ H a = some (exo a C none) ∧ ∀ d, H d = none → d ≠ a → Q .non (upd (upd (upd H d (exd d [(f, y)])) a (exo a C (some d))) d (exd d [(g, z), (f, y)]))
def spIL (K : PySem.W.Frag) (C : Addr) (f : Str) : Sp := fun vs H Q _ => ∃ a p xs, vs = [.ref a, .ref p] ∧ SqL K H p xs ∧ H a = some (exo a C none) ∧ ∀ l d, H l = none → upd H l (.lst xs) d = none → d ≠ a → l ≠ a → Q .non (upd (upd (upd H l (.lst xs)) d (exd d [(f, .ref l)])) a (exo a C (some d)))
theorem ok_BadShip (T : Tx K mg) : FnOk P w K mg base CX0 (k + 1) T.f_BadShip T.d_BadShip ["self", "ship"] (spI1 T.c_BadShip "ship") := by
  refine T.F_BadShip.ok scBadShip (by rintro vs H Q E ⟨_, _, rfl, _⟩; rfl) (fun cdv A outer s H vs Q E hr h => ?_)
  obtain ⟨a, y, rfl, ea, q⟩ := h
  refine ⟨_, (pss_one (ps_ost (pv 0) (pv 1))), ?_⟩
  exact ⟨_, rfl, _, rfl, a, T.c_BadShip, rfl, T.o_BadShip, T.n_BadShip_ship, .inl ⟨ea, fun d n ne => q d n ne⟩⟩
theorem ok_BadEntry (T : Tx K mg) : FnOk P w K mg base CX0 (k + 1) T.f_BadEntry T.d_BadEntry ["self", "at"] (spI1 T.c_BadEntry "at") := by
  refine T.F_BadEntry.ok scBadEntry (by rintro vs H Q E ⟨_, _, rfl, _⟩; rfl) (fun cdv A outer s H vs Q E hr h => ?_)
  obtain ⟨a, y, rfl, ea, q⟩ := h
  refine ⟨_, (pss_one (ps_ost (pv 0) (pv 1))), ?_⟩
  exact ⟨_, rfl, _, rfl, a, T.c_BadEntry, rfl, T.o_BadEntry, T.n_BadEntry_at, .inl ⟨ea, fun d n ne => q d n ne⟩⟩
theorem ok_BadText (T : Tx K mg) : FnOk P w K mg base CX0 (k + 1) T.f_BadText T.d_BadText ["self", "line", "column"] (spI2 T.c_BadText "line" "column") := by
  refine T.F_BadText.ok scBadText (by rintro vs H Q E ⟨_, _, _, rfl, _⟩; rfl) (fun cdv A outer s H vs Q E hr h => ?_)
  obtain ⟨a, y, z, rfl, ea, q⟩ := h
  refine ⟨_, (pss_cons (ps_ost (pv 0) (pv 1)) (pss_one (ps_ost (pv 0) (pv 2)))), ?_⟩
  exact ⟨_, rfl, _, rfl, a, T.c_BadText, rfl, T.o_BadText, T.n_BadText_line, .inl ⟨ea, fun d n ne => ⟨_, rfl, _, rfl, a, T.c_BadText, rfl, T.o_BadText, T.n_BadText_column, .inr ⟨d, _, upd_same, by rw [upd_ne ne]; exact upd_same, by show 1 ≤ 900; decide, q d n ne⟩⟩⟩⟩
theorem ok_NoPlan (T : Tx K mg) : FnOk P w K mg base CX0 (k + 1) T.f_NoPlan T.d_NoPlan ["self", "word", "number"] (spI2 T.c_NoPlan "word" "number") := by
  refine T.F_NoPlan.ok scNoPlan (by rintro vs H Q E ⟨_, _, _, rfl, _⟩; rfl) (fun cdv A outer s H vs Q E hr h => ?_)
  obtain ⟨a, y, z, rfl, ea, q⟩ := h
  refine ⟨_, (pss_cons (ps_ost (pv 0) (pv 1)) (pss_one (ps_ost (pv 0) (pv 2)))), ?_⟩
  exact ⟨_, rfl, _, rfl, a, T.c_NoPlan, rfl, T.o_NoPlan, T.n_NoPlan_word, .inl ⟨ea, fun d n ne => ⟨_, rfl, _, rfl, a, T.c_NoPlan, rfl, T.o_NoPlan, T.n_NoPlan_number, .inr ⟨d, _, upd_same, by rw [upd_ne ne]; exact upd_same, by show 1 ≤ 900; decide, q d n ne⟩⟩⟩⟩
theorem listK {X : Cx} (e : X.K = K := by rfl) : CallR X (.type "list") (rListS K) := e ▸ call_list_of
theorem ok_Clash (T : Tx K mg) : FnOk P w K mg base CX0 (k + 1) T.f_Clash T.d_Clash ["self", "ships"] (spIL K T.c_Clash "ships") := by
  refine T.F_Clash.ok scClash (by rintro vs H Q E ⟨_, _, _, rfl, _⟩; rfl) (fun cdv A outer s H vs Q E hr h => ?_)
  obtain ⟨a, p, xs, rfl, hS, ea, q⟩ := h
  refine ⟨_, (pss_one (ps_ost (pv 0) (pe_callTy listK (by rfl) T.m_list (by decide +kernel) (pa_cons (pv 1) pa_nil)))), ?_⟩
  refine ⟨_, rfl, p, xs, rfl, .inl hS, fun l hl => ?_⟩
  have la : l ≠ a := fun z => by
    rw [z, ea] at hl
    cases hl
  exact ⟨_, rfl, a, T.c_Clash, rfl, T.o_Clash, T.n_Clash_ships, .inl ⟨by rw [upd_ne fun z => la z.symm]; exact ea, fun d n ne => q l d hl n ne la⟩⟩
/-! making as evaluation -/
def EvX (te : TE) (σ : L2.St) (H : Hp) (C : Addr) (fs : List (Str × V)) : Prop := ∀ H1, Ex H H1 → ∀ Q : VK, (∀ a d H2, Ex H1 H2 → H2 a = some (exo a C (some d)) → H2 d = some (exd d fs) → Q (.ref a) H2) → te σ H1 Q
theorem mk_ex {H : Hp} {a d : Addr} {o u v : HO} (ha : H a = none) (hd : H d = none) : Ex H (upd (upd (upd H a o) d u) a v) := Ex.mut (Ex.mut (Ex.new ha) hd) ha
theorem up_none {H : Hp} {a d : Addr} {o : HO} (h : upd H a o d = none) : H d = none := by
  by_cases q : d = a
  · rw [q, upd_same] at h
    cases h
  · rw [upd_ne q] at h
    exact h
section
variable {σ : L2.St} {H : Hp} {ta tb : TE} {C : Addr} {f g : Str} {y z : V}
theorem ev_mk1 (h : Ev ta σ H y) : EvX (tMkV C (spI1 C f) (tCons ta tNil)) σ H C [(f, y)] := fun H1 x Q q =>
  h H1 x _ fun H2 x2 => ⟨by show 1 ≤ 1000; decide, fun a ha => ⟨a, y, rfl, upd_same, fun d hd ne => ⟨rfl, q a d _ (x2.trans (mk_ex ha (up_none hd))) upd_same (by rw [upd_ne ne]; exact upd_same)⟩⟩⟩
theorem ev_mk2 (h : Ev ta σ H y) (hb : Ev tb σ H z) : EvX (tMkV C (spI2 C f g) (tCons ta (tCons tb tNil))) σ H C [(g, z), (f, y)] := fun H1 x Q q =>
  h H1 x _ fun H2 x2 => hb H2 (x.trans x2) _ fun H3 x3 => ⟨by show 2 ≤ 1000; decide, fun a ha => ⟨a, y, z, rfl, upd_same, fun d hd ne => ⟨rfl, q a d _ ((x2.trans x3).trans (Ex.mut (mk_ex ha (up_none hd)) (up_none hd))) (by rw [upd_ne fun z => ne z.symm]; exact upd_same) upd_same⟩⟩⟩
/-- a field -/
theorem ev_fld {te : TE} {a d : Addr} {fs : List (Str × V)} {v : V} (h : Ev te σ H (.ref a)) (ea : H a = some (exo a C (some d))) (ed : H d = some (exd d fs)) (hl : fs.lookup f = some v) (T : ExcC K C) (no : PySem.W.findIn K (.ref C) f = some none) : Ev (tFldX K f te) σ H v := fun H1 x Q q =>
  h H1 x _ fun H2 x2 => ⟨a, C, d, fs, v, rfl, x2 _ _ (x _ _ ea), x2 _ _ (x _ _ ed), hl, T, no, q H2 x2⟩
/-- isinstance -/
theorem ev_isX {te : TE} {a : Addr} {c : V} {cv : Value} {b : Bool} (h : Ev te σ H (.ref a)) (hx : Xc H a C) (T : ExcC K C) (hc : ClsV c cv) (hk : PySem.W.kitOne K (.ref C) cv = some b) : Ev (tCB (rIsX K) (tCons te (tCons (tC c) tNil))) σ H (.bl b) := fun H1 x Q q =>
  h H1 x _ fun H2 x2 => ⟨a, C, c, cv, b, rfl, xc_ex (x.trans x2) hx, T, hc, hk, q H2 x2⟩
end
theorem isXK {X : Cx} (e : X.K = K := by rfl) : CallR X (.builtin "isinstance") (rIsX K) := e ▸ call_isX
/-! the law's marks -/
def marksD (i : Nat) : PyData := .list ((List.range 12).map fun j => .bool (decide (i = j)))
def spM (T : Tx K mg) : Sp := fun vs H1 Q _ => ∃ G0 a i, Ex G0 H1 ∧ vs = [.ref a] ∧ i < 12 ∧ Xc G0 a (T.cl i) ∧ ∀ v H2 G, Sep G0 H1 H2 G → Da K G v (marksD i) → Q v H2
theorem ok__law_marks (T : Tx K mg) : FnOk P w K mg base CX0 (k + 1) T.f__law_marks T.d__law_marks ["e"] (spM T) := by
  refine T.F__law_marks.ok sc_law_marks (by rintro vs H Q E ⟨_, _, _, _, rfl, _⟩; rfl) (fun cdv A outer s H vs Q E hr h => ?_)
  obtain ⟨G, a, i, x, rfl, hi, hx, q⟩ := h
  refine ⟨_, (pss_cons (ps_set (i := 1) sc_law_marks.nd rfl (.inl rfl) (pe_lst pa_nil))
    (pss_cons (ps_set (i := 1) sc_law_marks.nd rfl (.inl rfl) (pe_op op_cat (pv 1) (pe_lst (pa_cons (pe_callB isXK (by rfl) T.m_isinstance (by decide +kernel) (pa_cons (pv 0) (pa_cons (pe_glob (v := .ref T.c_BadSize) (by rfl) T.g_BadSize rfl) pa_nil))) (pa_cons (pe_callB isXK (by rfl) T.m_isinstance (by decide +kernel) (pa_cons (pv 0) (pa_cons (pe_glob (v := .ref T.c_BadNumber) (by rfl) T.g_BadNumber rfl) pa_nil))) (pa_cons (pe_callB isXK (by rfl) T.m_isinstance (by decide +kernel) (pa_cons (pv 0) (pa_cons (pe_glob (v := .ref T.c_BadHour) (by rfl) T.g_BadHour rfl) pa_nil))) (pa_cons (pe_callB isXK (by rfl) T.m_isinstance (by decide +kernel) (pa_cons (pv 0) (pa_cons (pe_glob (v := .ref T.c_NotSo) (by rfl) T.g_NotSo rfl) pa_nil))) pa_nil)))))))
    (pss_cons (ps_set (i := 1) sc_law_marks.nd rfl (.inl rfl) (pe_op op_cat (pv 1) (pe_lst (pa_cons (pe_callB isXK (by rfl) T.m_isinstance (by decide +kernel) (pa_cons (pv 0) (pa_cons (pe_glob (v := .ref T.c_NoWay) (by rfl) T.g_NoWay rfl) pa_nil))) (pa_cons (pe_callB isXK (by rfl) T.m_isinstance (by decide +kernel) (pa_cons (pv 0) (pa_cons (pe_glob (v := .ref T.c_NothingToUndo) (by rfl) T.g_NothingToUndo rfl) pa_nil))) (pa_cons (pe_callB isXK (by rfl) T.m_isinstance (by decide +kernel) (pa_cons (pv 0) (pa_cons (pe_glob (v := .ref T.c_NothingToRedo) (by rfl) T.g_NothingToRedo rfl) pa_nil))) (pa_cons (pe_callB isXK (by rfl) T.m_isinstance (by decide +kernel) (pa_cons (pv 0) (pa_cons (pe_glob (v := .ref T.c_BadShip) (by rfl) T.g_BadShip rfl) pa_nil))) pa_nil)))))))
    (pss_cons (ps_set (i := 1) sc_law_marks.nd rfl (.inl rfl) (pe_op op_cat (pv 1) (pe_lst (pa_cons (pe_callB isXK (by rfl) T.m_isinstance (by decide +kernel) (pa_cons (pv 0) (pa_cons (pe_glob (v := .ref T.c_BadText) (by rfl) T.g_BadText rfl) pa_nil))) (pa_cons (pe_callB isXK (by rfl) T.m_isinstance (by decide +kernel) (pa_cons (pv 0) (pa_cons (pe_glob (v := .ref T.c_NoPlan) (by rfl) T.g_NoPlan rfl) pa_nil))) (pa_cons (pe_callB isXK (by rfl) T.m_isinstance (by decide +kernel) (pa_cons (pv 0) (pa_cons (pe_glob (v := .ref T.c_Clash) (by rfl) T.g_Clash rfl) pa_nil))) (pa_cons (pe_callB isXK (by rfl) T.m_isinstance (by decide +kernel) (pa_cons (pv 0) (pa_cons (pe_glob (v := .ref T.c_BadEntry) (by rfl) T.g_BadEntry rfl) pa_nil))) pa_nil)))))))
    (pss_one (ps_ret (pv 1))))))), ?_⟩
  have is : ∀ {σ : L2.St} {H : Hp} (j : Nat) (hj : j < 12), σ[0]? = some (some (.ref a)) → Ex G H → ED K (tCB (rIsX K) (tCons (tVar 0) (tCons (tC (.ref (T.cl j))) tNil))) σ H (.bool (decide (i = j))) := fun j hj h0 e =>
    ed_ev (ev_isX (ev_var h0) (xc_ex e hx) (T.ec i hi) (.own _) (T.kt i hi j hj)) (.bl _)
  refine d_asg (K := K) (ed_lst eda_nil (Nat.zero_le _)) x fun v1 H1 G1 s1 a1 => ?_
  refine d_asg (ed_cat (ed_var rfl a1) (fun G2 x2 => ed_lst (eda_cons (is 0 (by decide) rfl (s1.an.trans x2)) fun G3 x3 => eda_cons (is 1 (by decide) rfl ((s1.an.trans x2).trans x3)) fun G4 x4 => eda_cons (is 2 (by decide) rfl (((s1.an.trans x2).trans x3).trans x4)) fun G5 x5 => eda_cons (is 3 (by decide) rfl ((((s1.an.trans x2).trans x3).trans x4).trans x5)) fun _ _ => eda_nil) (by show 4 ≤ 100000; decide)) (by show 0 + 4 ≤ 100000; decide)) s1.inn fun v2 H2 G2 s2 a2 => ?_
  have S2 := s1.trans s2
  refine d_asg (ed_cat (ed_var rfl a2) (fun G3 x2 => ed_lst (eda_cons (is 4 (by decide) rfl (S2.an.trans x2)) fun G3 x3 => eda_cons (is 5 (by decide) rfl ((S2.an.trans x2).trans x3)) fun G4 x4 => eda_cons (is 6 (by decide) rfl (((S2.an.trans x2).trans x3).trans x4)) fun G5 x5 => eda_cons (is 7 (by decide) rfl ((((S2.an.trans x2).trans x3).trans x4).trans x5)) fun _ _ => eda_nil) (by show 4 ≤ 100000; decide)) (by show 4 + 4 ≤ 100000; decide)) s2.inn fun v3 H3 G3 s3 a3 => ?_
  have S3 := S2.trans s3
  refine d_asg (ed_cat (ed_var rfl a3) (fun G4 x2 => ed_lst (eda_cons (is 8 (by decide) rfl (S3.an.trans x2)) fun G3 x3 => eda_cons (is 9 (by decide) rfl ((S3.an.trans x2).trans x3)) fun G4 x4 => eda_cons (is 10 (by decide) rfl (((S3.an.trans x2).trans x3).trans x4)) fun G5 x5 => eda_cons (is 11 (by decide) rfl ((((S3.an.trans x2).trans x3).trans x4).trans x5)) fun _ _ => eda_nil) (by show 4 ≤ 100000; decide)) (by show 8 + 4 ≤ 100000; decide)) s3.inn fun v4 H4 G4 s4 a4 => ?_
  exact d_ret (ed_var rfl a4) s4.inn fun v H5 G5 s5 a5 => q v H5 G5 ((S3.trans s4).trans s5) a5
def spA (T : Tx K mg) : Sp := fun vs H1 Q _ => ∃ G0 a i, Ex G0 H1 ∧ vs = [.ref a, .int (i : Nat)] ∧ i < 12 ∧ Xc G0 a (T.cl i) ∧ ∀ H2, Ex H1 H2 → Q (.bl true) H2
theorem ok__law_alone (T : Tx K mg) : FnOk P w K mg base CX0 (k + 2) T.f__law_alone T.d__law_alone ["e", "at"] (spA T) := by
  refine T.F__law_alone.ok sc_law_alone (by rintro vs H Q E ⟨_, _, _, _, rfl, _⟩; rfl) (fun cdv A outer s H vs Q E hr h => ?_)
  obtain ⟨G, a, i, x, rfl, hi, hx, q⟩ := h
  refine ⟨_, (pss_cons (ps_if (PW.pt (pw_or (pt_not (pt_val (pe_callB isXK (by rfl) T.m_isinstance (by decide +kernel) (pa_cons (pv 0) (pa_cons (pe_glob (v := .ref T.c_TideError) (by rfl) T.g_TideError rfl) pa_nil))))) (pw_or1 (pt_not (pt_val (pe_callB isXK (by rfl) T.m_isinstance (by decide +kernel) (pa_cons (pv 0) (pa_cons (pe_bltn (v := .ty "ValueError") (by rfl) T.m_ValueError (by decide +kernel) rfl) pa_nil)))))))) (pss_one (ps_ret pe_bl)) pss_nil)
    (pss_cons (ps_set (i := 2) sc_law_alone.nd rfl (.inr rfl) (pe_call (ok__law_marks T) hr (by rfl) T.g__law_marks T.F__law_marks.kp T.b__law_marks .nil pass0 (pa_cons (pv 0) pa_nil)))
    (pss_one (ps_ret (pe_callB (allK K (by rfl)) (by rfl) T.m_all (by decide +kernel) (pa_cons (pe_lc (own := [("k", 3)]) (g := gName 3) (tt := tYes) rfl sc_law_alone.nd (pi_range1 (by rfl) T.m_range (pa_cons (pe_callB (lenK K) (by rfl) T.m_len (by decide +kernel) (pa_cons (pv 2) pa_nil)) pa_nil)) (blkOk_by (N := N__law_alone) (sc := defScope s__law_alone) (by decide +kernel)) (fun _ _ _ _ _ => (pg_name (i := 3) sc_law_alone.nd rfl (.inl rfl))) (fun _ _ _ _ _ => pts_nil) (fun _ _ _ _ _ => (pe_cmpR op_eq (pe_ix (ixl K) (pv 2) (pv 3) (fun _ _ => rfl)) (pe_cmpR op_eq (pv 3) (pv 1) (nomark _)) (nomark _)))) pa_nil)))))), ?_⟩
  refine d_if (b := false) (et_is (et_or (et_not (et_B (ev_isX (ev_var rfl) hx (T.ec i hi) (.own _) (T.kb i hi)))) fun _ => et_not (et_B (ev_isX (ev_var rfl) hx (T.ec i hi) (.ty _) (T.kv i hi)))) rfl) x (fun hb => nomatch hb) fun _ H1 e1 => ?_
  have em : ED K (tCall (spM T) [] E0 (tCons (tVar 0) tNil)) (L2.start N__law_alone [.ref a, .int (i : Int)]) G (marksD i) := fun H2 x2 Q2 q2 => ⟨_, rfl, G, a, i, x2, rfl, hi, hx, q2⟩
  refine d_asg em (x.trans e1) fun v2 H2 G2 s2 a2 => ?_
  have ll : ((List.range 12).map fun j => PyData.bool (decide (i = j))).length = 12 := by rw [List.length_map, List.length_range]
  refine d_ret (d := .bool true) (ed_is (ed_all (bs := (List.range 12).map fun _ => true) (ed_is (ed_lcR (n := 12) (fun _ => .bool true) (ed_is (ed_len (ed_var rfl a2)) (by rw [ll]; rfl)) (by decide) (fun _ => rfl) ?_) rfl)) rfl) s2.inn fun v H5 G5 s5 a5 => ?_
  · intro j G3 x3 hj
    have hj' : j < 12 := by omega
    refine ed_is (ed_eqSc (d := .bool (decide (i = j))) (e := .bool (decide ((j : Int) = (i : Int)))) (ed_ix (n := j) (ed_var rfl (da_ex x3 a2)) (fun _ _ => ed_var rfl (.int (j : Int))) rfl ?_) (ed_eqI (ed_var rfl (.int (j : Int))) (ed_var rfl (.int (i : Int)))) rfl rfl rfl) ?_
    · rw [List.getElem?_map, List.getElem?_range hj']
      rfl
    · have e : decide (i = j) = decide ((j : Int) = (i : Int)) := by
        by_cases h : i = j
        · rw [decide_eq_true h, decide_eq_true (by omega)]
        · rw [decide_eq_false h, decide_eq_false (by omega)]
      rw [e, decide_eq_true rfl]
  · cases a5
    exact q H5 ((e1.trans s2.up).trans s5.up)
end
end K6

set_option Elab.async false
set_option linter.all false
set_option maxRecDepth 100000
set_option maxHeartbeats 4000000
namespace K6
open PySem PySem.Spec PyProof.Rows L2 Evl Tw
section
variable {P : Program} {w : World} {K : PySem.W.Frag} {mg : Str → Option Value} {base : Heap} {k : Nat}
/-! the plain errors -/
def tNew (C : Addr) : TE := fun σ H Q => ∀ a, H a = none → Q (.ref a) (upd H a (ExO (.ref C) a))
theorem ed_alone0 (T : Tx K mg) {σ : L2.St} {H : Hp} {E : XK} (i : Nat) (hi : i < 12) : ED K (tCall (spA T) [] E (tCons (tNew (T.cl i)) (tCons (tC (.int (i : Nat))) tNil))) σ H (.bool true) := by
  have h : Ev (tCall (spA T) [] E (tCons (tNew (T.cl i)) (tCons (tC (.int (i : Nat))) tNil))) σ H (.bl true) := fun H1 x Q q a ha => ⟨_, a, i, Ex.refl _, rfl, hi, .inl upd_same, fun H2 e2 => q H2 ((Ex.new ha).trans e2)⟩
  exact ed_ev h (.bl _)
def spP : Sp := fun vs H1 Q _ => vs = [] ∧ ∀ H2, Ex H1 H2 → Q (.bl true) H2
theorem ok__law_plain_errors (T : Tx K mg) : FnOk P w K mg base CX0 (k + 3) T.f__law_plain_errors T.d__law_plain_errors [] spP := by
  refine T.F__law_plain_errors.ok sc_law_plain_errors (by rintro vs H Q E ⟨rfl, _⟩; rfl) (fun cdv A outer s H vs Q E hr h => ?_)
  obtain ⟨rfl, q⟩ := h
  refine ⟨_, (pss_cons (ps_set (i := 0) sc_law_plain_errors.nd rfl (.inl rfl) (pe_lst pa_nil))
    (pss_cons (ps_set (i := 0) sc_law_plain_errors.nd rfl (.inl rfl) (pe_op op_cat (pv 0) (pe_lst (pa_cons (pe_call (ok__law_alone T) hr (by rfl) T.g__law_alone T.F__law_alone.kp T.b__law_alone .nil pass0 (pa_cons (pe_exc0 PySem.F.excBase_ValueError T.q_BadSize T.g_BadSize T.kp_BadSize (by rfl)) (pa_cons pe_int pa_nil))) (pa_cons (pe_call (ok__law_alone T) hr (by rfl) T.g__law_alone T.F__law_alone.kp T.b__law_alone .nil pass0 (pa_cons (pe_exc0 PySem.F.excBase_ValueError T.q_BadNumber T.g_BadNumber T.kp_BadNumber (by rfl)) (pa_cons pe_int pa_nil))) (pa_cons (pe_call (ok__law_alone T) hr (by rfl) T.g__law_alone T.F__law_alone.kp T.b__law_alone .nil pass0 (pa_cons (pe_exc0 PySem.F.excBase_ValueError T.q_BadHour T.g_BadHour T.kp_BadHour (by rfl)) (pa_cons pe_int pa_nil))) pa_nil))))))
    (pss_cons (ps_set (i := 0) sc_law_plain_errors.nd rfl (.inl rfl) (pe_op op_cat (pv 0) (pe_lst (pa_cons (pe_call (ok__law_alone T) hr (by rfl) T.g__law_alone T.F__law_alone.kp T.b__law_alone .nil pass0 (pa_cons (pe_exc0 PySem.F.excBase_ValueError T.q_NotSo T.g_NotSo T.kp_NotSo (by rfl)) (pa_cons pe_int pa_nil))) (pa_cons (pe_call (ok__law_alone T) hr (by rfl) T.g__law_alone T.F__law_alone.kp T.b__law_alone .nil pass0 (pa_cons (pe_exc0 PySem.F.excBase_ValueError T.q_NoWay T.g_NoWay T.kp_NoWay (by rfl)) (pa_cons pe_int pa_nil))) (pa_cons (pe_call (ok__law_alone T) hr (by rfl) T.g__law_alone T.F__law_alone.kp T.b__law_alone .nil pass0 (pa_cons (pe_exc0 PySem.F.excBase_ValueError T.q_NothingToUndo T.g_NothingToUndo T.kp_NothingToUndo (by rfl)) (pa_cons pe_int pa_nil))) pa_nil))))))
    (pss_cons (ps_set (i := 0) sc_law_plain_errors.nd rfl (.inl rfl) (pe_op op_cat (pv 0) (pe_lst (pa_cons (pe_call (ok__law_alone T) hr (by rfl) T.g__law_alone T.F__law_alone.kp T.b__law_alone .nil pass0 (pa_cons (pe_exc0 PySem.F.excBase_ValueError T.q_NothingToRedo T.g_NothingToRedo T.kp_NothingToRedo (by rfl)) (pa_cons pe_int pa_nil))) pa_nil))))
    (pss_one (ps_ret (pe_callB (allK K (by rfl)) (by rfl) T.m_all (by decide +kernel) (pa_cons (pv 0) pa_nil)))))))), ?_⟩
  refine d_asg (K := K) (ed_lst eda_nil (Nat.zero_le _)) (Ex.refl H) fun v1 H1 G1 s1 a1 => ?_
  refine d_asg (ed_cat (ed_var rfl a1) (fun G2 x2 => ed_lst (eda_cons (ed_alone0 T 0 (by decide)) fun _ _ => eda_cons (ed_alone0 T 1 (by decide)) fun _ _ => eda_cons (ed_alone0 T 2 (by decide)) fun _ _ => eda_nil) (by show 3 ≤ 100000; decide)) (by show 0 + 3 ≤ 100000; decide)) s1.inn fun v2 H2 G2 s2 a2 => ?_
  refine d_asg (ed_cat (ed_var rfl a2) (fun G2 x2 => ed_lst (eda_cons (ed_alone0 T 3 (by decide)) fun _ _ => eda_cons (ed_alone0 T 4 (by decide)) fun _ _ => eda_cons (ed_alone0 T 5 (by decide)) fun _ _ => eda_nil) (by show 3 ≤ 100000; decide)) (by show 3 + 3 ≤ 100000; decide)) s2.inn fun v3 H3 G3 s3 a3 => ?_
  refine d_asg (ed_cat (ed_var rfl a3) (fun G2 x2 => ed_lst (eda_cons (ed_alone0 T 6 (by decide)) fun _ _ => eda_nil) (by show 1 ≤ 100000; decide)) (by show 6 + 1 ≤ 100000; decide)) s3.inn fun v4 H4 G4 s4 a4 => ?_
  refine d_ret (d := .bool true) (ed_is (ed_all (bs := (List.range 7).map fun _ => true) (ed_var rfl a4)) rfl) s4.inn fun v H5 G5 s5 a5 => ?_
  cases a5
  exact q H5 ((((s1.up.trans s2.up).trans s3.up).trans s4.up).trans s5.up)
end
section
variable {P : Program} {w : World} {K : PySem.W.Frag} {mg : Str → Option Value} {base : Heap}
/-! the law -/
theorem ev_mkL {σ : L2.St} {H : Hp} {C p : Addr} {f : Str} {xs : List V} {i : Nat} (hi : σ[i]? = some (some (.ref p))) (hp : H p = some (.lst xs)) (H1 : Hp) (x : Ex H H1) (Q : VK) (q : ∀ a d l H2, Ex H1 H2 → H2 a = some (exo a C (some d)) → H2 d = some (exd d [(f, .ref l)]) → H2 l = some (.lst xs) → Q (.ref a) H2) :
    tMkV C (spIL K C f) (tCons (tCB (rListS K) (tCons (tVar i) tNil)) tNil) σ H1 Q := by
  refine ⟨_, hi, p, xs, rfl, .inl (sq_of (x _ _ hp)), fun l0 h0 => ⟨by show 1 ≤ 1000; decide, fun a ha => ⟨a, l0, xs, rfl, sq_of ?_, upd_same, fun l d hl hd da la => ⟨rfl, ?_⟩⟩⟩⟩
  · have ne : l0 ≠ a := fun z => by
      rw [← z, upd_same] at ha
      cases ha
    rw [upd_ne ne, upd_same]
  · have n1 := up_none hl
    have dl : d ≠ l := fun z => by
      rw [z, upd_same] at hd
      cases hd
    have n2 := up_none (up_none hd)
    refine q a d l _ (Ex.trans (Ex.new h0) (Ex.mut (Ex.mut (Ex.mut (Ex.new ha) n1) n2) ha)) upd_same (by rw [upd_ne da]; exact upd_same) ?_
    rw [upd_ne la, upd_ne dl.symm, upd_same]
theorem vi_eq {x : V} : (!decide (x = x)) = false := by
  rw [decide_eq_true rfl]
  rfl
theorem d_asgL3 {σ : L2.St} {H : Hp} {D : Ends} {tz : TS} {i : Nat} {tA tB tC : TE} (h : tA σ H fun x H1 => tB σ H1 fun y H2 => tC σ H2 fun z H3 => 3 ≤ sizeLine ∧ ∀ p, H3 p = none → tz D (σ.set i (some (.ref p))) (upd H3 p (.lst [x, y, z]))) :
    tSeq (tAsg (tLst (tCons tA (tCons tB (tCons tC tNil)))) (gName i)) tz D σ H := h
theorem d_cat2 {σ : L2.St} {H : Hp} {D : Ends} {tz : TS} {i j : Nat} {L : Addr} {tA tB : TE} (hi : σ[j]? = some (some (.ref L))) (h : tA σ H fun x H1 => tB σ H1 fun y H2 => 2 ≤ sizeLine ∧ ∀ l, H2 l = none → rCat (.ref L) (.ref l) (upd H2 l (.lst [x, y])) fun v H3 => tz D (σ.set i (some v)) H3) :
    tSeq (tAsg (tOp rCat (tVar j) (tLst (tCons tA (tCons tB tNil)))) (gName i)) tz D σ H := ⟨_, hi, h⟩
def lawLevel : Nat := 4
theorem ok_law (T : Tx K mg) : FnG P w K mg base lawLevel T.f_law T.d_law ["script"] (spLaw K) := by
  refine fnG_of T.F_law sclaw spLaw_len (fun cdv A outer s H vs Q E gg hr h => ?_)
  have hu := hr.units
  obtain ⟨a, ns, rfl, hS, hl, q⟩ := h
  refine ⟨_, (pss_cons (ps_set (i := 1) sclaw.nd rfl (.inl rfl) (pe_call (ok_draws T) hr (by rfl) T.g__law_draws T.F__law_draws.kp T.b__law_draws .nil pass0 (pa_cons (pv 0) (pa_cons pe_int pa_nil))))
    (pss_cons (ps_set (i := 2) sclaw.nd rfl (.inl rfl) (pe_ix (ixl K) (pe_lst (pa_cons pe_str (pa_cons pe_str (pa_cons pe_str (pa_cons pe_str (pa_cons pe_str (pa_cons pe_str (pa_cons pe_str pa_nil)))))))) (pe_op op_mod (pe_callTy call_int1 (by rfl) T.m_int (by decide +kernel) (pa_cons (pe_ix (ixl K) (pv 1) pe_int (fun _ _ => rfl)) pa_nil)) pe_int) (fun _ _ => rfl)))
    (pss_cons (ps_set (i := 3) sclaw.nd rfl (.inl rfl) (pe_lst (pa_cons pe_int (pa_cons (pe_op op_add pe_int (pe_op op_mod (pe_callTy call_int1 (by rfl) T.m_int (by decide +kernel) (pa_cons (pe_ix (ixl K) (pv 1) pe_int (fun _ _ => rfl)) pa_nil)) pe_int)) pa_nil))))
    (pss_cons (ps_set (i := 4) sclaw.nd rfl (.inr rfl) (pe_lst (pa_cons (pe_excV T.o_BadShip T.i_BadShip T.ti_BadShip (ok_BadShip T) hr T.b_BadShip pass0 (by rfl) T.g_BadShip (pa_cons (pe_op op_mod (pe_callTy call_int1 (by rfl) T.m_int (by decide +kernel) (pa_cons (pe_ix (ixl K) (pv 1) pe_int (fun _ _ => rfl)) pa_nil)) pe_int) pa_nil)) (pa_cons (pe_excV T.o_BadText T.i_BadText T.ti_BadText (ok_BadText T) hr T.b_BadText pass0 (by rfl) T.g_BadText (pa_cons (pe_op op_add (pe_callTy call_int1 (by rfl) T.m_int (by decide +kernel) (pa_cons (pe_ix (ixl K) (pv 1) pe_int (fun _ _ => rfl)) pa_nil)) pe_int) (pa_cons (pe_op op_add (pe_callTy call_int1 (by rfl) T.m_int (by decide +kernel) (pa_cons (pe_ix (ixl K) (pv 1) pe_int (fun _ _ => rfl)) pa_nil)) pe_int) pa_nil))) (pa_cons (pe_excV T.o_NoPlan T.i_NoPlan T.ti_NoPlan (ok_NoPlan T) hr T.b_NoPlan pass0 (by rfl) T.g_NoPlan (pa_cons (pv 2) (pa_cons (pe_op op_mod (pe_callTy call_int1 (by rfl) T.m_int (by decide +kernel) (pa_cons (pe_ix (ixl K) (pv 1) pe_int (fun _ _ => rfl)) pa_nil)) pe_int) pa_nil))) pa_nil)))))
    (pss_cons (ps_set (i := 4) sclaw.nd rfl (.inr rfl) (pe_op op_cat (pv 4) (pe_lst (pa_cons (pe_excV T.o_Clash T.i_Clash T.ti_Clash (ok_Clash T) hr T.b_Clash pass0 (by rfl) T.g_Clash (pa_cons (pe_callTy listK (by rfl) T.m_list (by decide +kernel) (pa_cons (pv 3) pa_nil)) pa_nil)) (pa_cons (pe_excV T.o_BadEntry T.i_BadEntry T.ti_BadEntry (ok_BadEntry T) hr T.b_BadEntry pass0 (by rfl) T.g_BadEntry (pa_cons (pe_callTy call_int1 (by rfl) T.m_int (by decide +kernel) (pa_cons (pe_ix (ixl K) (pv 1) pe_int (fun _ _ => rfl)) pa_nil)) pa_nil)) pa_nil)))))
    (pss_cons (ps_if (PW.pt (pw_or (pt_cmpR op_ne (pe_fldX (pe_ix (ixl K) (pv 4) pe_int (fun _ _ => rfl))) (pe_op op_mod (pe_callTy call_int1 (by rfl) T.m_int (by decide +kernel) (pa_cons (pe_ix (ixl K) (pv 1) pe_int (fun _ _ => rfl)) pa_nil)) pe_int) (nomark _)) (pw_or1 (pt_cmpR op_ne (pe_fldX (pe_ix (ixl K) (pv 4) pe_int (fun _ _ => rfl))) (pe_op op_add (pe_callTy call_int1 (by rfl) T.m_int (by decide +kernel) (pa_cons (pe_ix (ixl K) (pv 1) pe_int (fun _ _ => rfl)) pa_nil)) pe_int) (nomark _))))) (pss_one (ps_ret pe_bl)) pss_nil)
    (pss_cons (ps_if (PW.pt (pw_or (pt_cmpR op_ne (pe_fldX (pe_ix (ixl K) (pv 4) pe_int (fun _ _ => rfl))) (pe_op op_add (pe_callTy call_int1 (by rfl) T.m_int (by decide +kernel) (pa_cons (pe_ix (ixl K) (pv 1) pe_int (fun _ _ => rfl)) pa_nil)) pe_int) (nomark _)) (pw_or (pt_cmpR op_ne (pe_fldX (pe_ix (ixl K) (pv 4) pe_int (fun _ _ => rfl))) (pv 2) (nomark _)) (pw_or1 (pt_cmpR op_ne (pe_fldX (pe_ix (ixl K) (pv 4) pe_int (fun _ _ => rfl))) (pe_op op_mod (pe_callTy call_int1 (by rfl) T.m_int (by decide +kernel) (pa_cons (pe_ix (ixl K) (pv 1) pe_int (fun _ _ => rfl)) pa_nil)) pe_int) (nomark _)))))) (pss_one (ps_ret pe_bl)) pss_nil)
    (pss_cons (ps_if (PW.pt (pw_or (pt_cmpR (neDK K hu) (pe_fldX (pe_ix (ixl K) (pv 4) pe_int (fun _ _ => rfl))) (pv 3) (nomark _)) (pw_or1 (pt_cmpR op_ne (pe_fldX (pe_ix (ixl K) (pv 4) pe_int (fun _ _ => rfl))) (pe_callTy call_int1 (by rfl) T.m_int (by decide +kernel) (pa_cons (pe_ix (ixl K) (pv 1) pe_int (fun _ _ => rfl)) pa_nil)) (nomark _))))) (pss_one (ps_ret pe_bl)) pss_nil)
    (pss_cons (ps_if (pt_not (pt_val (pe_callB (allK K (by rfl)) (by rfl) T.m_all (by decide +kernel) (pa_cons (pe_lc (own := [("k", 5)]) (g := gName 5) (tt := tYes) rfl sclaw.nd (pi_range1 (by rfl) T.m_range (pa_cons pe_int pa_nil)) (blkOk_by (N := N_law) (sc := defScope s_law) (by decide +kernel)) (fun _ _ _ _ _ => (pg_name (i := 5) sclaw.nd rfl (.inl rfl))) (fun _ _ _ _ _ => pts_nil) (fun _ _ _ _ _ => (pe_call (ok__law_alone T) hr (by rfl) T.g__law_alone T.F__law_alone.kp T.b__law_alone .nil pass0 (pa_cons (pe_ix (ixl K) (pv 4) (pv 5) (fun _ _ => rfl)) (pa_cons (pe_op op_add pe_int (pv 5)) pa_nil))))) pa_nil)))) (pss_one (ps_ret pe_bl)) pss_nil)
    (pss_one (ps_ret (pe_call0 (ok__law_plain_errors T) hr (by rfl) T.g__law_plain_errors T.F__law_plain_errors.kp T.b__law_plain_errors .nil pass0)))))))))))), ?_⟩
  refine d_draws (n := 10) rfl rfl hS hl (by decide) fun ds p H1 dr e1 b1 => ?_
  generalize hD : (fun i => ds.getD i 0) = D
  have at0 : ∀ {σ : L2.St} {G : Hp} {n : Int} (m : Nat), σ[1]? = some (some (.ref p)) → Ex H1 G → n = (m : Int) → m < 10 → ED K (tOp (rIxL K) (tVar 1) (tC (.int n))) σ G (.int (D m)) := fun m h0 xg hn hm => by
    rw [← hD]
    exact ed_ix (ed_var h0 (da_ex xg b1)) (fun _ _ => ed_int) hn (dr_ix dr hm)
  -- word
  have h7 : 0 ≤ D 3 % 7 ∧ D 3 % 7 < 7 := ⟨Int.emod_nonneg _ (by decide), Int.emod_lt_of_pos _ (by decide)⟩
  obtain ⟨wd, hwd⟩ : ∃ wd, ([Str.ofString "early", Str.ofString "late", Str.ofString "berth", Str.ofString "depth", Str.ofString "taken", Str.ofString "tugs", Str.ofString "pilots"])[(D 3 % 7).toNat]? = some wd := ⟨_, List.getElem?_eq_getElem (show (D 3 % 7).toNat < 7 by omega)⟩
  refine d_asg (K := K) (G := H1) (d := .str wd) (ed_ix (n := (D 3 % 7).toNat) (ed_lst (eda_cons ed_str fun _ _ => eda_cons ed_str fun _ _ => eda_cons ed_str fun _ _ => eda_cons ed_str fun _ _ => eda_cons ed_str fun _ _ => eda_cons ed_str fun _ _ => eda_cons ed_str fun _ _ => eda_nil) (by show 7 ≤ 100000; decide)) (fun G x => ed_mod (ed_toInt (at0 3 rfl x rfl (by decide))) ed_int (by decide)) (by omega) (by
    have e := congrArg (Option.map PyData.str) hwd
    rw [← List.getElem?_map] at e
    exact e)) (Ex.refl H1) fun v2 H2 G2 s2 a2 => ?_
  cases a2
  -- ships
  refine d_asg (K := K) (d := .list ([0, 1 + D 5 % 2].map .int)) (ed_lst (eda_cons ed_int fun G3 x3 => eda_cons (ed_add ed_int (ed_mod (ed_toInt (at0 5 rfl (s2.an.trans x3) rfl (by decide))) ed_int (by decide))) fun _ _ => eda_nil) (by show 2 ≤ 100000; decide)) s2.inn fun v3 H3 G3 s3 a3 => ?_
  have x3 : Ex H1 H3 := (s2.an.trans s3.an).trans s3.inn
  obtain ⟨ls, xs, rfl, ols, gls⟩ : ∃ ls xs, v3 = .ref ls ∧ H3 ls = some (.lst xs) ∧ DaAll K H3 xs ([0, 1 + D 5 % 2].map .int) := by
    cases a3 with
    | @lst l xs _ e g => exact ⟨l, xs, rfl, s3.inn _ _ e, daa_ex s3.inn g⟩
  have x0 : ∀ {G : Hp}, Ex H3 G → Ex H1 G := fun e => x3.trans e
  refine d_asgL3 ?_
  refine ev_mk1 (ev_int (K := K) (ed_mod (ed_toInt (at0 0 rfl (x0 (Ex.refl _)) rfl (by decide))) ed_int (by decide))) H3 (Ex.refl _) _ fun a0 d0 H4 e4 o0 f0 => ?_
  refine ev_mk2 (ev_int (K := K) (ed_add (ed_toInt (at0 1 rfl (x0 e4) rfl (by decide))) ed_int)) (ev_int (K := K) (ed_add (ed_toInt (at0 2 rfl (x0 e4) rfl (by decide))) ed_int)) H4 (Ex.refl _) _ fun a1 d1 H5 e5 o1 f1 => ?_
  have e45 := e4.trans e5
  refine ev_mk2 (ev_var (v := .str wd) rfl) (ev_int (K := K) (ed_mod (ed_toInt (at0 4 rfl (x0 e45) rfl (by decide))) ed_int (by decide))) H5 (Ex.refl _) _ fun a2 d2 H6 e6 o2 f2 => ?_
  refine ⟨by show 3 ≤ sizeLine; decide, fun L nL => ?_⟩
  have e46 := e45.trans e6
  have eL : Ex H6 (upd H6 L (.lst [.ref a0, .ref a1, .ref a2])) := Ex.new nL
  have hL : (upd H6 L (.lst [.ref a0, .ref a1, .ref a2])) L = some (.lst [.ref a0, .ref a1, .ref a2]) := upd_same
  generalize upd H6 L (.lst [.ref a0, .ref a1, .ref a2]) = H7 at eL hL
  have e47 := e46.trans eL
  refine d_cat2 (L := L) rfl ?_
  refine ev_mkL (K := K) (p := ls) (xs := xs) (H := H7) rfl (e47 _ _ ols) H7 (Ex.refl _) _ fun a3 d3 l3 H8 e8 o3 f3 l3s => ?_
  have e48 := e47.trans e8
  refine ev_mk1 (ev_int (K := K) (ed_toInt (at0 7 rfl (x0 e48) rfl (by decide)))) H8 (Ex.refl _) _ fun a4 d4 H9 e9 o4 f4 => ?_
  refine ⟨by show 2 ≤ sizeLine; decide, fun l nl => ⟨L, l, _, _, rfl, rfl, (Ex.trans (e8.trans e9) (Ex.new nl)) _ _ hL, upd_same, by show 3 + 2 ≤ sizeLine; decide, fun m nm => ?_⟩⟩
  have en : Ex H9 (upd (upd H9 l (.lst [.ref a3, .ref a4])) m (.lst ([.ref a0, .ref a1, .ref a2] ++ [.ref a3, .ref a4]))) := (Ex.new nl).trans (Ex.new nm)
  have hM : (upd (upd H9 l (.lst [.ref a3, .ref a4])) m (.lst ([.ref a0, .ref a1, .ref a2] ++ [.ref a3, .ref a4]))) m = some (.lst [.ref a0, .ref a1, .ref a2, .ref a3, .ref a4]) := upd_same
  generalize upd (upd H9 l (.lst [.ref a3, .ref a4])) m (.lst ([.ref a0, .ref a1, .ref a2] ++ [.ref a3, .ref a4])) = Hn at en hM
  have g8 : Ex H8 Hn := e9.trans en
  have g6 : Ex H6 Hn := eL.trans (e8.trans g8)
  have g5 : Ex H5 Hn := e6.trans g6
  have g4 : Ex H4 Hn := e5.trans g5
  have g3 : Ex H3 Hn := e4.trans g4
  have ixE : ∀ {σ : L2.St} {G : Hp} {n : Int} (j : Nat) (b : Addr), σ[4]? = some (some (.ref m)) → Ex Hn G → n = (j : Int) → ([V.ref a0, .ref a1, .ref a2, .ref a3, .ref a4])[j]? = some (.ref b) → Ev (tOp (rIxL K) (tVar 4) (tC (.int n))) σ G (.ref b) := fun j b h4 e hn hj => by
    subst hn
    exact ev_op (ev_var h4) ev_c (rv_ixL (sq_of (e _ _ hM)) (atI_nat (j := j) hj))
  refine d_if (b := false) (et_is (et_or (et_test (ev_op (ev_fld (ixE 0 _ rfl (Ex.refl _) rfl rfl) (g4 _ _ o0) (g4 _ _ f0) rfl T.e_BadShip T.n_BadShip_ship) (ev_int (K := K) (ed_mod (ed_toInt (at0 0 rfl (x0 g3) rfl (by decide))) ed_int (by decide))) (rv_ne rfl))) fun _ => et_test (ev_op (ev_fld (ixE 1 _ rfl (Ex.refl _) rfl rfl) (g5 _ _ o1) (g5 _ _ f1) rfl T.e_BadText T.n_BadText_line) (ev_int (K := K) (ed_add (ed_toInt (at0 1 rfl (x0 g3) rfl (by decide))) ed_int)) (rv_ne rfl))) (by rw [vi_eq, vi_eq]; rfl)) (Ex.refl Hn) (fun hb => nomatch hb) fun _ Ha ea => ?_
  refine d_if (b := false) (et_is (et_or (et_test (ev_op (ev_fld (ixE 1 _ rfl (Ex.refl _) rfl rfl) (g5 _ _ o1) (g5 _ _ f1) rfl T.e_BadText T.n_BadText_column) (ev_int (K := K) (ed_add (ed_toInt (at0 2 rfl (x0 g3) rfl (by decide))) ed_int)) (rv_ne rfl))) fun _ => et_or (et_test (ev_op (ev_fld (ixE 2 _ rfl (Ex.refl _) rfl rfl) (g6 _ _ o2) (g6 _ _ f2) rfl T.e_NoPlan T.n_NoPlan_word) (ev_var rfl) (rv_ne rfl))) fun _ => et_test (ev_op (ev_fld (ixE 2 _ rfl (Ex.refl _) rfl rfl) (g6 _ _ o2) (g6 _ _ f2) rfl T.e_NoPlan T.n_NoPlan_number) (ev_int (K := K) (ed_mod (ed_toInt (at0 4 rfl (x0 g3) rfl (by decide))) ed_int (by decide))) (rv_ne rfl))) (by rw [vi_eq, vi_eq, vi_eq]; rfl)) ea (fun hb => nomatch hb) fun _ Hb eb => ?_
  have okd : Ok 1 300 (.list ([0, 1 + D 5 % 2].map .int)) := by
    have := Int.emod_nonneg (D 5) (b := 2) (by decide)
    have := Int.emod_lt_of_pos (D 5) (b := 2) (by decide)
    refine ok_list (n := 0) (w := 17) (fun d hd => ?_) (by show 2 * 18 ≤ 300; decide)
    obtain ⟨n, hn, rfl⟩ := List.mem_map.mp hd
    simp only [List.mem_cons, List.not_mem_nil, or_false] at hn
    rcases hn with rfl | rfl <;> exact ok_int (by omega) (by omega)
  refine d_if (b := false) (et_is (et_or (et_neD (K := K) (d := .list ([0, 1 + D 5 % 2].map .int)) (e := .list ([0, 1 + D 5 % 2].map .int)) (ed_ev (ev_fld (ixE 3 _ rfl (Ex.refl _) rfl rfl) (g8 _ _ o3) (g8 _ _ f3) rfl T.e_Clash T.n_Clash_ships) (.lst (g8 _ _ l3s) (daa_ex g3 gls))) (fun G2 x2 => ed_var rfl (.lst (x2 _ _ (g3 _ _ ols)) (daa_ex (g3.trans x2) gls))) okd (by decide) okd (by decide)) fun _ => et_test (ev_op (ev_fld (ixE 4 _ rfl (Ex.refl _) rfl rfl) (en _ _ o4) (en _ _ f4) rfl T.e_BadEntry T.n_BadEntry_at) (ev_int (K := K) (ed_toInt (at0 7 rfl (x0 g3) rfl (by decide)))) (rv_ne rfl))) (by rw [eqv_same okd, vi_eq]; rfl)) (ea.trans eb) (fun hb => nomatch hb) fun _ Hc ec => ?_
  have each : ∀ j, j < 5 → ∃ b, ([V.ref a0, .ref a1, .ref a2, .ref a3, .ref a4])[j]? = some (.ref b) ∧ Xc Hn b (T.cl (7 + j)) := fun j hj => match j, hj with
    | 0, _ => ⟨a0, rfl, .inr ⟨d0, _, g4 _ _ o0, g4 _ _ f0⟩⟩
    | 1, _ => ⟨a1, rfl, .inr ⟨d1, _, g5 _ _ o1, g5 _ _ f1⟩⟩
    | 2, _ => ⟨a2, rfl, .inr ⟨d2, _, g6 _ _ o2, g6 _ _ f2⟩⟩
    | 3, _ => ⟨a3, rfl, .inr ⟨d3, _, g8 _ _ o3, g8 _ _ f3⟩⟩
    | 4, _ => ⟨a4, rfl, .inr ⟨d4, _, en _ _ o4, en _ _ f4⟩⟩
    | n + 5, h => absurd h (by omega)
  refine d_if (b := false) (et_is (et_not (et_bool (ed_all (K := K) (bs := (List.range 5).map fun _ => true) (ed_is (ed_lcR (n := 5) (fun _ => .bool true) ed_int (by decide) (fun _ => rfl) ?elt) rfl)))) rfl) ((ea.trans eb).trans ec) (fun hb => nomatch hb) fun _ Hd ed => ?_
  case elt =>
    intro j G xG hj
    have hj' : j < 5 := by omega
    obtain ⟨b, hb, xb⟩ := each j hj'
    have args : EvA (tCons (tOp (rIxL K) (tVar 4) (tVar 5)) (tCons (tOp (rI0 fun i j => .int (i + j)) (tC (.int 7)) (tVar 5)) tNil)) ((wipe [some (.ref a), some (.ref p), some (.str wd), some (.ref ls), some (.ref m), none] [5]).set 5 (some (.int (j : Int)))) G [.ref b, .int ((7 + j : Nat) : Int)] :=
      ea_cons (ev_op (ev_var rfl) (ev_var rfl) (rv_ixL (sq_of (xG _ _ hM)) (atI_nat (j := j) hb))) (ea_cons (ev_is (ev_op (ev_c) (ev_var (v := .int (j : Int)) rfl) rv_I0) (congrArg V.int (by omega))) ea_nil)
    have call : Ev (tCall (spA T) [] E0 (tCons (tOp (rIxL K) (tVar 4) (tVar 5)) (tCons (tOp (rI0 fun i j => .int (i + j)) (tC (.int 7)) (tVar 5)) tNil))) ((wipe [some (.ref a), some (.ref p), some (.str wd), some (.ref ls), some (.ref m), none] [5]).set 5 (some (.int (j : Int)))) G (.bl true) := fun H1 x Q q => args H1 x _ fun H2 x2 => ⟨G, b, 7 + j, x.trans x2, rfl, by omega, xc_ex xG xb, fun H3 e3 => q H3 (x2.trans e3)⟩
    exact ed_ev call (.bl _)
  have call0 : ∀ (σ : L2.St) (H : Hp), Ev (tCall spP [] E0 tNil) σ H (.bl true) := by
    intro σ H H1 x Q q
    exact ⟨rfl, fun H2 e2 => q H2 e2⟩
  refine s_ret (σ := []) (call0 [] Hd) fun H' e => ?_
  exact q H'
end
end K6

set_option Elab.async false
set_option linter.all false
set_option maxRecDepth 100000
set_option maxHeartbeats 4000000
namespace K6
open PySem PySem.Spec PyProof.Rows L2 Evl Tw
section
variable {P : Program} {w : World} {K : PySem.W.Frag} {mg : Str → Option Value} {base : Heap}
theorem all_ok {fa : Addr} (T : Tx K mg) (hfa : mg "law" = some (.ref fa)) : ∃ fd : FuncData, (∀ (s : Shared) (v : Value), BindsTo s fd ⟨[v], []⟩ [("script", v)]) ∧ ∀ base : Heap, K.In base → base.Ns mainGlobals mg → FnG P w K mg base lawLevel fa fd ["script"] (spLaw K) := by
  have e := hfa.symm.trans T.g_law
  cases e
  refine ⟨T.d_law, fun s v => ?_, fun base _ _ => ok_law T⟩
  obtain ⟨_, _, _, _, _, _, _, _, _, h, _⟩ := T.F_law.ex
  rw [h]
  exact .of_eq rfl
end
def tx_mk {K : PySem.W.Frag} {h : Heap} {mg : Str → Option Value} (X : K.In h) (G : h.Ns mainGlobals mg)
    {f0 : Addr} {od0 an0 : Option Addr} {sl0 : Array (Option Value)} {oc0 kV0 dc0 pm0 cd0 ct0 : Value}
    (a0 : PySem.W.nsIn K mainGlobals "_law_draws" = some (some (.ref f0))) (l0 : K.lookup f0 = some ⟨oc0, od0, .func (PySem.W.fnOf "_law_draws" "_law_draws" (defArgs s__law_draws) (defBody s__law_draws) (defScope s__law_draws) .none kV0 dc0 pm0 an0 cd0 ct0), sl0⟩) (c0 : PySem.W.codeIn K cd0 "_law_draws" = true) (k0 : PySem.W.keepIn K (.ref f0) = true)
    {f1 : Addr} {od1 an1 : Option Addr} {sl1 : Array (Option Value)} {oc1 kV1 dc1 pm1 cd1 ct1 : Value}
    (a1 : PySem.W.nsIn K mainGlobals "_law_marks" = some (some (.ref f1))) (l1 : K.lookup f1 = some ⟨oc1, od1, .func (PySem.W.fnOf "_law_marks" "_law_marks" (defArgs s__law_marks) (defBody s__law_marks) (defScope s__law_marks) .none kV1 dc1 pm1 an1 cd1 ct1), sl1⟩) (c1 : PySem.W.codeIn K cd1 "_law_marks" = true) (k1 : PySem.W.keepIn K (.ref f1) = true)
    {f2 : Addr} {od2 an2 : Option Addr} {sl2 : Array (Option Value)} {oc2 kV2 dc2 pm2 cd2 ct2 : Value}
    (a2 : PySem.W.nsIn K mainGlobals "_law_alone" = some (some (.ref f2))) (l2 : K.lookup f2 = some ⟨oc2, od2, .func (PySem.W.fnOf "_law_alone" "_law_alone" (defArgs s__law_alone) (defBody s__law_alone) (defScope s__law_alone) .none kV2 dc2 pm2 an2 cd2 ct2), sl2⟩) (c2 : PySem.W.codeIn K cd2 "_law_alone" = true) (k2 : PySem.W.keepIn K (.ref f2) = true)
    {f3 : Addr} {od3 an3 : Option Addr} {sl3 : Array (Option Value)} {oc3 kV3 dc3 pm3 cd3 ct3 : Value}
    (a3 : PySem.W.nsIn K mainGlobals "_law_plain_errors" = some (some (.ref f3))) (l3 : K.lookup f3 = some ⟨oc3, od3, .func (PySem.W.fnOf "_law_plain_errors" "_law_plain_errors" (defArgs s__law_plain_errors) (defBody s__law_plain_errors) (defScope s__law_plain_errors) .none kV3 dc3 pm3 an3 cd3 ct3), sl3⟩) (c3 : PySem.W.codeIn K cd3 "_law_plain_errors" = true) (k3 : PySem.W.keepIn K (.ref f3) = true)
    {f4 : Addr} {od4 an4 : Option Addr} {sl4 : Array (Option Value)} {oc4 kV4 dc4 pm4 cd4 ct4 : Value}
    (a4 : PySem.W.nsIn K mainGlobals "law" = some (some (.ref f4))) (l4 : K.lookup f4 = some ⟨oc4, od4, .func (PySem.W.fnOf "law" "law" (defArgs s_law) (defBody s_law) (defScope s_law) .none kV4 dc4 pm4 an4 cd4 ct4), sl4⟩) (c4 : PySem.W.codeIn K cd4 "law" = true) (k4 : PySem.W.keepIn K (.ref f4) = true)
    (z0 : PySem.W.nsIn K mainGlobals "len" = some none)
    (z1 : PySem.W.nsIn K mainGlobals "int" = some none)
    (z2 : PySem.W.nsIn K mainGlobals "range" = some none)
    (z3 : PySem.W.nsIn K mainGlobals "isinstance" = some none)
    (z4 : PySem.W.nsIn K mainGlobals "all" = some none)
    (z5 : PySem.W.nsIn K mainGlobals "list" = some none)
    (z6 : PySem.W.nsIn K mainGlobals "ValueError" = some none)
    {cT : Addr}
    (gT : PySem.W.nsIn K mainGlobals "TideError" = some (some (.ref cT)))
    (xn : PySem.W.specialIn K (.builtin "object.__class__") "__get__" = some (some (.builtin "getset_descriptor.__get__")))
    (xt : PySem.W.takesIn K (.builtin "object.__class__") = some true)
    {C0 : Addr}
    (cg0 : PySem.W.nsIn K mainGlobals "BadSize" = some (some (.ref C0)))
    (cx0a : PySem.W.findIn K (.ref C0) "__getattribute__" = some (some (.builtin "BaseException.__getattribute__")))
    (cx0b : PySem.W.findIn K (.ref C0) "__getattr__" = some none)
    (cx0c : PySem.W.subIn K (.ref C0) (.type "BaseException") = some true)
    (cx0d : PySem.W.hasDictIn K C0 = true)
    (cx0e : PySem.W.findIn K (.ref C0) "__class__" = some (some (.builtin "object.__class__")))
    (cx0f : PySem.W.mroIn K C0 (.type "object") = some true)
    (ck0 : PySem.W.keepIn K (.ref C0) = true)
    (cq0 : PySem.W.excIn K C0 [.type "ValueError", .type "Exception", .type "BaseException", .type "object"] "ValueError.__new__" = true)
    {C1 : Addr}
    (cg1 : PySem.W.nsIn K mainGlobals "BadNumber" = some (some (.ref C1)))
    (cx1a : PySem.W.findIn K (.ref C1) "__getattribute__" = some (some (.builtin "BaseException.__getattribute__")))
    (cx1b : PySem.W.findIn K (.ref C1) "__getattr__" = some none)
    (cx1c : PySem.W.subIn K (.ref C1) (.type "BaseException") = some true)
    (cx1d : PySem.W.hasDictIn K C1 = true)
    (cx1e : PySem.W.findIn K (.ref C1) "__class__" = some (some (.builtin "object.__class__")))
    (cx1f : PySem.W.mroIn K C1 (.type "object") = some true)
    (ck1 : PySem.W.keepIn K (.ref C1) = true)
    (cq1 : PySem.W.excIn K C1 [.type "ValueError", .type "Exception", .type "BaseException", .type "object"] "ValueError.__new__" = true)
    {C2 : Addr}
    (cg2 : PySem.W.nsIn K mainGlobals "BadHour" = some (some (.ref C2)))
    (cx2a : PySem.W.findIn K (.ref C2) "__getattribute__" = some (some (.builtin "BaseException.__getattribute__")))
    (cx2b : PySem.W.findIn K (.ref C2) "__getattr__" = some none)
    (cx2c : PySem.W.subIn K (.ref C2) (.type "BaseException") = some true)
    (cx2d : PySem.W.hasDictIn K C2 = true)
    (cx2e : PySem.W.findIn K (.ref C2) "__class__" = some (some (.builtin "object.__class__")))
    (cx2f : PySem.W.mroIn K C2 (.type "object") = some true)
    (ck2 : PySem.W.keepIn K (.ref C2) = true)
    (cq2 : PySem.W.excIn K C2 [.type "ValueError", .type "Exception", .type "BaseException", .type "object"] "ValueError.__new__" = true)
    {C3 : Addr}
    (cg3 : PySem.W.nsIn K mainGlobals "NotSo" = some (some (.ref C3)))
    (cx3a : PySem.W.findIn K (.ref C3) "__getattribute__" = some (some (.builtin "BaseException.__getattribute__")))
    (cx3b : PySem.W.findIn K (.ref C3) "__getattr__" = some none)
    (cx3c : PySem.W.subIn K (.ref C3) (.type "BaseException") = some true)
    (cx3d : PySem.W.hasDictIn K C3 = true)
    (cx3e : PySem.W.findIn K (.ref C3) "__class__" = some (some (.builtin "object.__class__")))
    (cx3f : PySem.W.mroIn K C3 (.type "object") = some true)
    (ck3 : PySem.W.keepIn K (.ref C3) = true)
    (cq3 : PySem.W.excIn K C3 [.type "ValueError", .type "Exception", .type "BaseException", .type "object"] "ValueError.__new__" = true)
    {C4 : Addr}
    (cg4 : PySem.W.nsIn K mainGlobals "NoWay" = some (some (.ref C4)))
    (cx4a : PySem.W.findIn K (.ref C4) "__getattribute__" = some (some (.builtin "BaseException.__getattribute__")))
    (cx4b : PySem.W.findIn K (.ref C4) "__getattr__" = some none)
    (cx4c : PySem.W.subIn K (.ref C4) (.type "BaseException") = some true)
    (cx4d : PySem.W.hasDictIn K C4 = true)
    (cx4e : PySem.W.findIn K (.ref C4) "__class__" = some (some (.builtin "object.__class__")))
    (cx4f : PySem.W.mroIn K C4 (.type "object") = some true)
    (ck4 : PySem.W.keepIn K (.ref C4) = true)
    (cq4 : PySem.W.excIn K C4 [.type "ValueError", .type "Exception", .type "BaseException", .type "object"] "ValueError.__new__" = true)
    {C5 : Addr}
    (cg5 : PySem.W.nsIn K mainGlobals "NothingToUndo" = some (some (.ref C5)))
    (cx5a : PySem.W.findIn K (.ref C5) "__getattribute__" = some (some (.builtin "BaseException.__getattribute__")))
    (cx5b : PySem.W.findIn K (.ref C5) "__getattr__" = some none)
    (cx5c : PySem.W.subIn K (.ref C5) (.type "BaseException") = some true)
    (cx5d : PySem.W.hasDictIn K C5 = true)
    (cx5e : PySem.W.findIn K (.ref C5) "__class__" = some (some (.builtin "object.__class__")))
    (cx5f : PySem.W.mroIn K C5 (.type "object") = some true)
    (ck5 : PySem.W.keepIn K (.ref C5) = true)
    (cq5 : PySem.W.excIn K C5 [.type "ValueError", .type "Exception", .type "BaseException", .type "object"] "ValueError.__new__" = true)
    {C6 : Addr}
    (cg6 : PySem.W.nsIn K mainGlobals "NothingToRedo" = some (some (.ref C6)))
    (cx6a : PySem.W.findIn K (.ref C6) "__getattribute__" = some (some (.builtin "BaseException.__getattribute__")))
    (cx6b : PySem.W.findIn K (.ref C6) "__getattr__" = some none)
    (cx6c : PySem.W.subIn K (.ref C6) (.type "BaseException") = some true)
    (cx6d : PySem.W.hasDictIn K C6 = true)
    (cx6e : PySem.W.findIn K (.ref C6) "__class__" = some (some (.builtin "object.__class__")))
    (cx6f : PySem.W.mroIn K C6 (.type "object") = some true)
    (ck6 : PySem.W.keepIn K (.ref C6) = true)
    (cq6 : PySem.W.excIn K C6 [.type "ValueError", .type "Exception", .type "BaseException", .type "object"] "ValueError.__new__" = true)
    {C7 : Addr}
    (cg7 : PySem.W.nsIn K mainGlobals "BadShip" = some (some (.ref C7)))
    (cx7a : PySem.W.findIn K (.ref C7) "__getattribute__" = some (some (.builtin "BaseException.__getattribute__")))
    (cx7b : PySem.W.findIn K (.ref C7) "__getattr__" = some none)
    (cx7c : PySem.W.subIn K (.ref C7) (.type "BaseException") = some true)
    (cx7d : PySem.W.hasDictIn K C7 = true)
    (cx7e : PySem.W.findIn K (.ref C7) "__class__" = some (some (.builtin "object.__class__")))
    (cx7f : PySem.W.mroIn K C7 (.type "object") = some true)
    (ck7 : PySem.W.keepIn K (.ref C7) = true)
    {nm7 qn7 : Str} {N7 : Addr} {bs7 bm7 sb7 : List Value} {sn7 : List Str} {ab7 : Bool} {co7 : Option Bool} {dd7 : Option Addr} {k70 k71 k72 k73 k75 : Option Value}
    (cl7 : K.lookup C7 = some (excClassObj nm7 qn7 C7 N7 bs7 bm7 true sn7 sb7 ab7 co7 dd7 k70 k71 k72 k73 k75 "ValueError.__new__"))
    (cm7 : PySem.HandSPX.refsVE bm7 = true)
    (cs7 : PySem.W.findIn K (.ref C7) "__setattr__" = some (some (.builtin "object.__setattr__")))
    (ct7 : PySem.W.typeIn K (.ref C7) = some (.type "type"))
    {f7i : Addr} {od7i an7i : Option Addr} {sl7i : Array (Option Value)} {oc7i kV7i dc7i pm7i cd7i ct7i : Value}
    (ci7 : PySem.W.findIn K (.ref C7) "__init__" = some (some (.ref f7i)))
    (il7 : K.lookup f7i = some ⟨oc7i, od7i, .func (PySem.W.fnOf "__init__" "BadShip.__init__" (defArgs s_BadShip) (defBody s_BadShip) (defScope s_BadShip) .none kV7i dc7i pm7i an7i cd7i ct7i), sl7i⟩)
    (ic7 : PySem.W.codeIn K cd7i "BadShip.__init__" = true)
    (ik7 : PySem.W.keepIn K (.ref f7i) = true)
    (it7 : PySem.W.typeIn K (.ref f7i) = some (.type "function"))
    (cn7ship : PySem.W.findIn K (.ref C7) "ship" = some none)
    {C8 : Addr}
    (cg8 : PySem.W.nsIn K mainGlobals "BadText" = some (some (.ref C8)))
    (cx8a : PySem.W.findIn K (.ref C8) "__getattribute__" = some (some (.builtin "BaseException.__getattribute__")))
    (cx8b : PySem.W.findIn K (.ref C8) "__getattr__" = some none)
    (cx8c : PySem.W.subIn K (.ref C8) (.type "BaseException") = some true)
    (cx8d : PySem.W.hasDictIn K C8 = true)
    (cx8e : PySem.W.findIn K (.ref C8) "__class__" = some (some (.builtin "object.__class__")))
    (cx8f : PySem.W.mroIn K C8 (.type "object") = some true)
    (ck8 : PySem.W.keepIn K (.ref C8) = true)
    {nm8 qn8 : Str} {N8 : Addr} {bs8 bm8 sb8 : List Value} {sn8 : List Str} {ab8 : Bool} {co8 : Option Bool} {dd8 : Option Addr} {k80 k81 k82 k83 k85 : Option Value}
    (cl8 : K.lookup C8 = some (excClassObj nm8 qn8 C8 N8 bs8 bm8 true sn8 sb8 ab8 co8 dd8 k80 k81 k82 k83 k85 "ValueError.__new__"))
    (cm8 : PySem.HandSPX.refsVE bm8 = true)
    (cs8 : PySem.W.findIn K (.ref C8) "__setattr__" = some (some (.builtin "object.__setattr__")))
    (ct8 : PySem.W.typeIn K (.ref C8) = some (.type "type"))
    {f8i : Addr} {od8i an8i : Option Addr} {sl8i : Array (Option Value)} {oc8i kV8i dc8i pm8i cd8i ct8i : Value}
    (ci8 : PySem.W.findIn K (.ref C8) "__init__" = some (some (.ref f8i)))
    (il8 : K.lookup f8i = some ⟨oc8i, od8i, .func (PySem.W.fnOf "__init__" "BadText.__init__" (defArgs s_BadText) (defBody s_BadText) (defScope s_BadText) .none kV8i dc8i pm8i an8i cd8i ct8i), sl8i⟩)
    (ic8 : PySem.W.codeIn K cd8i "BadText.__init__" = true)
    (ik8 : PySem.W.keepIn K (.ref f8i) = true)
    (it8 : PySem.W.typeIn K (.ref f8i) = some (.type "function"))
    (cn8line : PySem.W.findIn K (.ref C8) "line" = some none)
    (cn8column : PySem.W.findIn K (.ref C8) "column" = some none)
    {C9 : Addr}
    (cg9 : PySem.W.nsIn K mainGlobals "NoPlan" = some (some (.ref C9)))
    (cx9a : PySem.W.findIn K (.ref C9) "__getattribute__" = some (some (.builtin "BaseException.__getattribute__")))
    (cx9b : PySem.W.findIn K (.ref C9) "__getattr__" = some none)
    (cx9c : PySem.W.subIn K (.ref C9) (.type "BaseException") = some true)
    (cx9d : PySem.W.hasDictIn K C9 = true)
    (cx9e : PySem.W.findIn K (.ref C9) "__class__" = some (some (.builtin "object.__class__")))
    (cx9f : PySem.W.mroIn K C9 (.type "object") = some true)
    (ck9 : PySem.W.keepIn K (.ref C9) = true)
    {nm9 qn9 : Str} {N9 : Addr} {bs9 bm9 sb9 : List Value} {sn9 : List Str} {ab9 : Bool} {co9 : Option Bool} {dd9 : Option Addr} {k90 k91 k92 k93 k95 : Option Value}
    (cl9 : K.lookup C9 = some (excClassObj nm9 qn9 C9 N9 bs9 bm9 true sn9 sb9 ab9 co9 dd9 k90 k91 k92 k93 k95 "ValueError.__new__"))
    (cm9 : PySem.HandSPX.refsVE bm9 = true)
    (cs9 : PySem.W.findIn K (.ref C9) "__setattr__" = some (some (.builtin "object.__setattr__")))
    (ct9 : PySem.W.typeIn K (.ref C9) = some (.type "type"))
    {f9i : Addr} {od9i an9i : Option Addr} {sl9i : Array (Option Value)} {oc9i kV9i dc9i pm9i cd9i ct9i : Value}
    (ci9 : PySem.W.findIn K (.ref C9) "__init__" = some (some (.ref f9i)))
    (il9 : K.lookup f9i = some ⟨oc9i, od9i, .func (PySem.W.fnOf "__init__" "NoPlan.__init__" (defArgs s_NoPlan) (defBody s_NoPlan) (defScope s_NoPlan) .none kV9i dc9i pm9i an9i cd9i ct9i), sl9i⟩)
    (ic9 : PySem.W.codeIn K cd9i "NoPlan.__init__" = true)
    (ik9 : PySem.W.keepIn K (.ref f9i) = true)
    (it9 : PySem.W.typeIn K (.ref f9i) = some (.type "function"))
    (cn9word : PySem.W.findIn K (.ref C9) "word" = some none)
    (cn9number : PySem.W.findIn K (.ref C9) "number" = some none)
    {C10 : Addr}
    (cg10 : PySem.W.nsIn K mainGlobals "Clash" = some (some (.ref C10)))
    (cx10a : PySem.W.findIn K (.ref C10) "__getattribute__" = some (some (.builtin "BaseException.__getattribute__")))
    (cx10b : PySem.W.findIn K (.ref C10) "__getattr__" = some none)
    (cx10c : PySem.W.subIn K (.ref C10) (.type "BaseException") = some true)
    (cx10d : PySem.W.hasDictIn K C10 = true)
    (cx10e : PySem.W.findIn K (.ref C10) "__class__" = some (some (.builtin "object.__class__")))
    (cx10f : PySem.W.mroIn K C10 (.type "object") = some true)
    (ck10 : PySem.W.keepIn K (.ref C10) = true)
    {nm10 qn10 : Str} {N10 : Addr} {bs10 bm10 sb10 : List Value} {sn10 : List Str} {ab10 : Bool} {co10 : Option Bool} {dd10 : Option Addr} {k100 k101 k102 k103 k105 : Option Value}
    (cl10 : K.lookup C10 = some (excClassObj nm10 qn10 C10 N10 bs10 bm10 true sn10 sb10 ab10 co10 dd10 k100 k101 k102 k103 k105 "ValueError.__new__"))
    (cm10 : PySem.HandSPX.refsVE bm10 = true)
    (cs10 : PySem.W.findIn K (.ref C10) "__setattr__" = some (some (.builtin "object.__setattr__")))
    (ct10 : PySem.W.typeIn K (.ref C10) = some (.type "type"))
    {f10i : Addr} {od10i an10i : Option Addr} {sl10i : Array (Option Value)} {oc10i kV10i dc10i pm10i cd10i ct10i : Value}
    (ci10 : PySem.W.findIn K (.ref C10) "__init__" = some (some (.ref f10i)))
    (il10 : K.lookup f10i = some ⟨oc10i, od10i, .func (PySem.W.fnOf "__init__" "Clash.__init__" (defArgs s_Clash) (defBody s_Clash) (defScope s_Clash) .none kV10i dc10i pm10i an10i cd10i ct10i), sl10i⟩)
    (ic10 : PySem.W.codeIn K cd10i "Clash.__init__" = true)
    (ik10 : PySem.W.keepIn K (.ref f10i) = true)
    (it10 : PySem.W.typeIn K (.ref f10i) = some (.type "function"))
    (cn10ships : PySem.W.findIn K (.ref C10) "ships" = some none)
    {C11 : Addr}
    (cg11 : PySem.W.nsIn K mainGlobals "BadEntry" = some (some (.ref C11)))
    (cx11a : PySem.W.findIn K (.ref C11) "__getattribute__" = some (some (.builtin "BaseException.__getattribute__")))
    (cx11b : PySem.W.findIn K (.ref C11) "__getattr__" = some none)
    (cx11c : PySem.W.subIn K (.ref C11) (.type "BaseException") = some true)
    (cx11d : PySem.W.hasDictIn K C11 = true)
    (cx11e : PySem.W.findIn K (.ref C11) "__class__" = some (some (.builtin "object.__class__")))
    (cx11f : PySem.W.mroIn K C11 (.type "object") = some true)
    (ck11 : PySem.W.keepIn K (.ref C11) = true)
    {nm11 qn11 : Str} {N11 : Addr} {bs11 bm11 sb11 : List Value} {sn11 : List Str} {ab11 : Bool} {co11 : Option Bool} {dd11 : Option Addr} {k110 k111 k112 k113 k115 : Option Value}
    (cl11 : K.lookup C11 = some (excClassObj nm11 qn11 C11 N11 bs11 bm11 true sn11 sb11 ab11 co11 dd11 k110 k111 k112 k113 k115 "ValueError.__new__"))
    (cm11 : PySem.HandSPX.refsVE bm11 = true)
    (cs11 : PySem.W.findIn K (.ref C11) "__setattr__" = some (some (.builtin "object.__setattr__")))
    (ct11 : PySem.W.typeIn K (.ref C11) = some (.type "type"))
    {f11i : Addr} {od11i an11i : Option Addr} {sl11i : Array (Option Value)} {oc11i kV11i dc11i pm11i cd11i ct11i : Value}
    (ci11 : PySem.W.findIn K (.ref C11) "__init__" = some (some (.ref f11i)))
    (il11 : K.lookup f11i = some ⟨oc11i, od11i, .func (PySem.W.fnOf "__init__" "BadEntry.__init__" (defArgs s_BadEntry) (defBody s_BadEntry) (defScope s_BadEntry) .none kV11i dc11i pm11i an11i cd11i ct11i), sl11i⟩)
    (ic11 : PySem.W.codeIn K cd11i "BadEntry.__init__" = true)
    (ik11 : PySem.W.keepIn K (.ref f11i) = true)
    (it11 : PySem.W.typeIn K (.ref f11i) = some (.type "function"))
    (cn11at : PySem.W.findIn K (.ref C11) "at" = some none)
    (y0x0 : PySem.W.kitOne K (.ref C0) (.ref C0) = some true)
    (y0x1 : PySem.W.kitOne K (.ref C0) (.ref C1) = some false)
    (y0x2 : PySem.W.kitOne K (.ref C0) (.ref C2) = some false)
    (y0x3 : PySem.W.kitOne K (.ref C0) (.ref C3) = some false)
    (y0x4 : PySem.W.kitOne K (.ref C0) (.ref C4) = some false)
    (y0x5 : PySem.W.kitOne K (.ref C0) (.ref C5) = some false)
    (y0x6 : PySem.W.kitOne K (.ref C0) (.ref C6) = some false)
    (y0x7 : PySem.W.kitOne K (.ref C0) (.ref C7) = some false)
    (y0x8 : PySem.W.kitOne K (.ref C0) (.ref C8) = some false)
    (y0x9 : PySem.W.kitOne K (.ref C0) (.ref C9) = some false)
    (y0x10 : PySem.W.kitOne K (.ref C0) (.ref C10) = some false)
    (y0x11 : PySem.W.kitOne K (.ref C0) (.ref C11) = some false)
    (y0b : PySem.W.kitOne K (.ref C0) (.ref cT) = some true)
    (y0v : PySem.W.kitOne K (.ref C0) (.type "ValueError") = some true)
    (y1x0 : PySem.W.kitOne K (.ref C1) (.ref C0) = some false)
    (y1x1 : PySem.W.kitOne K (.ref C1) (.ref C1) = some true)
    (y1x2 : PySem.W.kitOne K (.ref C1) (.ref C2) = some false)
    (y1x3 : PySem.W.kitOne K (.ref C1) (.ref C3) = some false)
    (y1x4 : PySem.W.kitOne K (.ref C1) (.ref C4) = some false)
    (y1x5 : PySem.W.kitOne K (.ref C1) (.ref C5) = some false)
    (y1x6 : PySem.W.kitOne K (.ref C1) (.ref C6) = some false)
    (y1x7 : PySem.W.kitOne K (.ref C1) (.ref C7) = some false)
    (y1x8 : PySem.W.kitOne K (.ref C1) (.ref C8) = some false)
    (y1x9 : PySem.W.kitOne K (.ref C1) (.ref C9) = some false)
    (y1x10 : PySem.W.kitOne K (.ref C1) (.ref C10) = some false)
    (y1x11 : PySem.W.kitOne K (.ref C1) (.ref C11) = some false)
    (y1b : PySem.W.kitOne K (.ref C1) (.ref cT) = some true)
    (y1v : PySem.W.kitOne K (.ref C1) (.type "ValueError") = some true)
    (y2x0 : PySem.W.kitOne K (.ref C2) (.ref C0) = some false)
    (y2x1 : PySem.W.kitOne K (.ref C2) (.ref C1) = some false)
    (y2x2 : PySem.W.kitOne K (.ref C2) (.ref C2) = some true)
    (y2x3 : PySem.W.kitOne K (.ref C2) (.ref C3) = some false)
    (y2x4 : PySem.W.kitOne K (.ref C2) (.ref C4) = some false)
    (y2x5 : PySem.W.kitOne K (.ref C2) (.ref C5) = some false)
    (y2x6 : PySem.W.kitOne K (.ref C2) (.ref C6) = some false)
    (y2x7 : PySem.W.kitOne K (.ref C2) (.ref C7) = some false)
    (y2x8 : PySem.W.kitOne K (.ref C2) (.ref C8) = some false)
    (y2x9 : PySem.W.kitOne K (.ref C2) (.ref C9) = some false)
    (y2x10 : PySem.W.kitOne K (.ref C2) (.ref C10) = some false)
    (y2x11 : PySem.W.kitOne K (.ref C2) (.ref C11) = some false)
    (y2b : PySem.W.kitOne K (.ref C2) (.ref cT) = some true)
    (y2v : PySem.W.kitOne K (.ref C2) (.type "ValueError") = some true)
    (y3x0 : PySem.W.kitOne K (.ref C3) (.ref C0) = some false)
    (y3x1 : PySem.W.kitOne K (.ref C3) (.ref C1) = some false)
    (y3x2 : PySem.W.kitOne K (.ref C3) (.ref C2) = some false)
    (y3x3 : PySem.W.kitOne K (.ref C3) (.ref C3) = some true)
    (y3x4 : PySem.W.kitOne K (.ref C3) (.ref C4) = some false)
    (y3x5 : PySem.W.kitOne K (.ref C3) (.ref C5) = some false)
    (y3x6 : PySem.W.kitOne K (.ref C3) (.ref C6) = some false)
    (y3x7 : PySem.W.kitOne K (.ref C3) (.ref C7) = some false)
    (y3x8 : PySem.W.kitOne K (.ref C3) (.ref C8) = some false)
    (y3x9 : PySem.W.kitOne K (.ref C3) (.ref C9) = some false)
    (y3x10 : PySem.W.kitOne K (.ref C3) (.ref C10) = some false)
    (y3x11 : PySem.W.kitOne K (.ref C3) (.ref C11) = some false)
    (y3b : PySem.W.kitOne K (.ref C3) (.ref cT) = some true)
    (y3v : PySem.W.kitOne K (.ref C3) (.type "ValueError") = some true)
    (y4x0 : PySem.W.kitOne K (.ref C4) (.ref C0) = some false)
    (y4x1 : PySem.W.kitOne K (.ref C4) (.ref C1) = some false)
    (y4x2 : PySem.W.kitOne K (.ref C4) (.ref C2) = some false)
    (y4x3 : PySem.W.kitOne K (.ref C4) (.ref C3) = some false)
    (y4x4 : PySem.W.kitOne K (.ref C4) (.ref C4) = some true)
    (y4x5 : PySem.W.kitOne K (.ref C4) (.ref C5) = some false)
    (y4x6 : PySem.W.kitOne K (.ref C4) (.ref C6) = some false)
    (y4x7 : PySem.W.kitOne K (.ref C4) (.ref C7) = some false)
    (y4x8 : PySem.W.kitOne K (.ref C4) (.ref C8) = some false)
    (y4x9 : PySem.W.kitOne K (.ref C4) (.ref C9) = some false)
    (y4x10 : PySem.W.kitOne K (.ref C4) (.ref C10) = some false)
    (y4x11 : PySem.W.kitOne K (.ref C4) (.ref C11) = some false)
    (y4b : PySem.W.kitOne K (.ref C4) (.ref cT) = some true)
    (y4v : PySem.W.kitOne K (.ref C4) (.type "ValueError") = some true)
    (y5x0 : PySem.W.kitOne K (.ref C5) (.ref C0) = some false)
    (y5x1 : PySem.W.kitOne K (.ref C5) (.ref C1) = some false)
    (y5x2 : PySem.W.kitOne K (.ref C5) (.ref C2) = some false)
    (y5x3 : PySem.W.kitOne K (.ref C5) (.ref C3) = some false)
    (y5x4 : PySem.W.kitOne K (.ref C5) (.ref C4) = some false)
    (y5x5 : PySem.W.kitOne K (.ref C5) (.ref C5) = some true)
    (y5x6 : PySem.W.kitOne K (.ref C5) (.ref C6) = some false)
    (y5x7 : PySem.W.kitOne K (.ref C5) (.ref C7) = some false)
    (y5x8 : PySem.W.kitOne K (.ref C5) (.ref C8) = some false)
    (y5x9 : PySem.W.kitOne K (.ref C5) (.ref C9) = some false)
    (y5x10 : PySem.W.kitOne K (.ref C5) (.ref C10) = some false)
    (y5x11 : PySem.W.kitOne K (.ref C5) (.ref C11) = some false)
    (y5b : PySem.W.kitOne K (.ref C5) (.ref cT) = some true)
    (y5v : PySem.W.kitOne K (.ref C5) (.type "ValueError") = some true)
    (y6x0 : PySem.W.kitOne K (.ref C6) (.ref C0) = some false)
    (y6x1 : PySem.W.kitOne K (.ref C6) (.ref C1) = some false)
    (y6x2 : PySem.W.kitOne K (.ref C6) (.ref C2) = some false)
    (y6x3 : PySem.W.kitOne K (.ref C6) (.ref C3) = some false)
    (y6x4 : PySem.W.kitOne K (.ref C6) (.ref C4) = some false)
    (y6x5 : PySem.W.kitOne K (.ref C6) (.ref C5) = some false)
    (y6x6 : PySem.W.kitOne K (.ref C6) (.ref C6) = some true)
    (y6x7 : PySem.W.kitOne K (.ref C6) (.ref C7) = some false)
    (y6x8 : PySem.W.kitOne K (.ref C6) (.ref C8) = some false)
    (y6x9 : PySem.W.kitOne K (.ref C6) (.ref C9) = some false)
    (y6x10 : PySem.W.kitOne K (.ref C6) (.ref C10) = some false)
    (y6x11 : PySem.W.kitOne K (.ref C6) (.ref C11) = some false)
    (y6b : PySem.W.kitOne K (.ref C6) (.ref cT) = some true)
    (y6v : PySem.W.kitOne K (.ref C6) (.type "ValueError") = some true)
    (y7x0 : PySem.W.kitOne K (.ref C7) (.ref C0) = some false)
    (y7x1 : PySem.W.kitOne K (.ref C7) (.ref C1) = some false)
    (y7x2 : PySem.W.kitOne K (.ref C7) (.ref C2) = some false)
    (y7x3 : PySem.W.kitOne K (.ref C7) (.ref C3) = some false)
    (y7x4 : PySem.W.kitOne K (.ref C7) (.ref C4) = some false)
    (y7x5 : PySem.W.kitOne K (.ref C7) (.ref C5) = some false)
    (y7x6 : PySem.W.kitOne K (.ref C7) (.ref C6) = some false)
    (y7x7 : PySem.W.kitOne K (.ref C7) (.ref C7) = some true)
    (y7x8 : PySem.W.kitOne K (.ref C7) (.ref C8) = some false)
    (y7x9 : PySem.W.kitOne K (.ref C7) (.ref C9) = some false)
    (y7x10 : PySem.W.kitOne K (.ref C7) (.ref C10) = some false)
    (y7x11 : PySem.W.kitOne K (.ref C7) (.ref C11) = some false)
    (y7b : PySem.W.kitOne K (.ref C7) (.ref cT) = some true)
    (y7v : PySem.W.kitOne K (.ref C7) (.type "ValueError") = some true)
    (y8x0 : PySem.W.kitOne K (.ref C8) (.ref C0) = some false)
    (y8x1 : PySem.W.kitOne K (.ref C8) (.ref C1) = some false)
    (y8x2 : PySem.W.kitOne K (.ref C8) (.ref C2) = some false)
    (y8x3 : PySem.W.kitOne K (.ref C8) (.ref C3) = some false)
    (y8x4 : PySem.W.kitOne K (.ref C8) (.ref C4) = some false)
    (y8x5 : PySem.W.kitOne K (.ref C8) (.ref C5) = some false)
    (y8x6 : PySem.W.kitOne K (.ref C8) (.ref C6) = some false)
    (y8x7 : PySem.W.kitOne K (.ref C8) (.ref C7) = some false)
    (y8x8 : PySem.W.kitOne K (.ref C8) (.ref C8) = some true)
    (y8x9 : PySem.W.kitOne K (.ref C8) (.ref C9) = some false)
    (y8x10 : PySem.W.kitOne K (.ref C8) (.ref C10) = some false)
    (y8x11 : PySem.W.kitOne K (.ref C8) (.ref C11) = some false)
    (y8b : PySem.W.kitOne K (.ref C8) (.ref cT) = some true)
    (y8v : PySem.W.kitOne K (.ref C8) (.type "ValueError") = some true)
    (y9x0 : PySem.W.kitOne K (.ref C9) (.ref C0) = some false)
    (y9x1 : PySem.W.kitOne K (.ref C9) (.ref C1) = some false)
    (y9x2 : PySem.W.kitOne K (.ref C9) (.ref C2) = some false)
    (y9x3 : PySem.W.kitOne K (.ref C9) (.ref C3) = some false)
    (y9x4 : PySem.W.kitOne K (.ref C9) (.ref C4) = some false)
    (y9x5 : PySem.W.kitOne K (.ref C9) (.ref C5) = some false)
    (y9x6 : PySem.W.kitOne K (.ref C9) (.ref C6) = some false)
    (y9x7 : PySem.W.kitOne K (.ref C9) (.ref C7) = some false)
    (y9x8 : PySem.W.kitOne K (.ref C9) (.ref C8) = some false)
    (y9x9 : PySem.W.kitOne K (.ref C9) (.ref C9) = some true)
    (y9x10 : PySem.W.kitOne K (.ref C9) (.ref C10) = some false)
    (y9x11 : PySem.W.kitOne K (.ref C9) (.ref C11) = some false)
    (y9b : PySem.W.kitOne K (.ref C9) (.ref cT) = some true)
    (y9v : PySem.W.kitOne K (.ref C9) (.type "ValueError") = some true)
    (y10x0 : PySem.W.kitOne K (.ref C10) (.ref C0) = some false)
    (y10x1 : PySem.W.kitOne K (.ref C10) (.ref C1) = some false)
    (y10x2 : PySem.W.kitOne K (.ref C10) (.ref C2) = some false)
    (y10x3 : PySem.W.kitOne K (.ref C10) (.ref C3) = some false)
    (y10x4 : PySem.W.kitOne K (.ref C10) (.ref C4) = some false)
    (y10x5 : PySem.W.kitOne K (.ref C10) (.ref C5) = some false)
    (y10x6 : PySem.W.kitOne K (.ref C10) (.ref C6) = some false)
    (y10x7 : PySem.W.kitOne K (.ref C10) (.ref C7) = some false)
    (y10x8 : PySem.W.kitOne K (.ref C10) (.ref C8) = some false)
    (y10x9 : PySem.W.kitOne K (.ref C10) (.ref C9) = some false)
    (y10x10 : PySem.W.kitOne K (.ref C10) (.ref C10) = some true)
    (y10x11 : PySem.W.kitOne K (.ref C10) (.ref C11) = some false)
    (y10b : PySem.W.kitOne K (.ref C10) (.ref cT) = some true)
    (y10v : PySem.W.kitOne K (.ref C10) (.type "ValueError") = some true)
    (y11x0 : PySem.W.kitOne K (.ref C11) (.ref C0) = some false)
    (y11x1 : PySem.W.kitOne K (.ref C11) (.ref C1) = some false)
    (y11x2 : PySem.W.kitOne K (.ref C11) (.ref C2) = some false)
    (y11x3 : PySem.W.kitOne K (.ref C11) (.ref C3) = some false)
    (y11x4 : PySem.W.kitOne K (.ref C11) (.ref C4) = some false)
    (y11x5 : PySem.W.kitOne K (.ref C11) (.ref C5) = some false)
    (y11x6 : PySem.W.kitOne K (.ref C11) (.ref C6) = some false)
    (y11x7 : PySem.W.kitOne K (.ref C11) (.ref C7) = some false)
    (y11x8 : PySem.W.kitOne K (.ref C11) (.ref C8) = some false)
    (y11x9 : PySem.W.kitOne K (.ref C11) (.ref C9) = some false)
    (y11x10 : PySem.W.kitOne K (.ref C11) (.ref C10) = some false)
    (y11x11 : PySem.W.kitOne K (.ref C11) (.ref C11) = some true)
    (y11b : PySem.W.kitOne K (.ref C11) (.ref cT) = some true)
    (y11v : PySem.W.kitOne K (.ref C11) (.type "ValueError") = some true) : Tx K mg where
  f__law_draws := _
  d__law_draws := _
  F__law_draws := fun_mk (st := s__law_draws) l0 c0 k0
  g__law_draws := PySem.W.mg_of X G a0
  b__law_draws := (fun_mk (st := s__law_draws) l0 c0 k0).binds fun _ _ _ _ _ _ us hl => match us, hl with | [_, _], _ => rfl
  f__law_marks := _
  d__law_marks := _
  F__law_marks := fun_mk (st := s__law_marks) l1 c1 k1
  g__law_marks := PySem.W.mg_of X G a1
  b__law_marks := (fun_mk (st := s__law_marks) l1 c1 k1).binds fun _ _ _ _ _ _ us hl => match us, hl with | [_], _ => rfl
  f__law_alone := _
  d__law_alone := _
  F__law_alone := fun_mk (st := s__law_alone) l2 c2 k2
  g__law_alone := PySem.W.mg_of X G a2
  b__law_alone := (fun_mk (st := s__law_alone) l2 c2 k2).binds fun _ _ _ _ _ _ us hl => match us, hl with | [_, _], _ => rfl
  f__law_plain_errors := _
  d__law_plain_errors := _
  F__law_plain_errors := fun_mk (st := s__law_plain_errors) l3 c3 k3
  g__law_plain_errors := PySem.W.mg_of X G a3
  b__law_plain_errors := (fun_mk (st := s__law_plain_errors) l3 c3 k3).binds fun _ _ _ _ _ _ us hl => match us, hl with | [], _ => rfl
  f_law := _
  d_law := _
  F_law := fun_mk (st := s_law) l4 c4 k4
  g_law := PySem.W.mg_of X G a4
  b_law := (fun_mk (st := s_law) l4 c4 k4).binds fun _ _ _ _ _ _ us hl => match us, hl with | [_], _ => rfl
  m_len := PySem.W.mg_none_of X G z0
  m_int := PySem.W.mg_none_of X G z1
  m_range := PySem.W.mg_none_of X G z2
  m_isinstance := PySem.W.mg_none_of X G z3
  m_all := PySem.W.mg_none_of X G z4
  m_list := PySem.W.mg_none_of X G z5
  m_ValueError := PySem.W.mg_none_of X G z6
  c_TideError := _
  g_TideError := PySem.W.mg_of X G gT
  c_BadSize := _
  g_BadSize := PySem.W.mg_of X G cg0
  e_BadSize := ⟨cx0a, cx0b, cx0c, cx0d, cx0e, xn, xt, cx0f⟩
  q_BadSize := cq0
  kp_BadSize := ck0
  c_BadNumber := _
  g_BadNumber := PySem.W.mg_of X G cg1
  e_BadNumber := ⟨cx1a, cx1b, cx1c, cx1d, cx1e, xn, xt, cx1f⟩
  q_BadNumber := cq1
  kp_BadNumber := ck1
  c_BadHour := _
  g_BadHour := PySem.W.mg_of X G cg2
  e_BadHour := ⟨cx2a, cx2b, cx2c, cx2d, cx2e, xn, xt, cx2f⟩
  q_BadHour := cq2
  kp_BadHour := ck2
  c_NotSo := _
  g_NotSo := PySem.W.mg_of X G cg3
  e_NotSo := ⟨cx3a, cx3b, cx3c, cx3d, cx3e, xn, xt, cx3f⟩
  q_NotSo := cq3
  kp_NotSo := ck3
  c_NoWay := _
  g_NoWay := PySem.W.mg_of X G cg4
  e_NoWay := ⟨cx4a, cx4b, cx4c, cx4d, cx4e, xn, xt, cx4f⟩
  q_NoWay := cq4
  kp_NoWay := ck4
  c_NothingToUndo := _
  g_NothingToUndo := PySem.W.mg_of X G cg5
  e_NothingToUndo := ⟨cx5a, cx5b, cx5c, cx5d, cx5e, xn, xt, cx5f⟩
  q_NothingToUndo := cq5
  kp_NothingToUndo := ck5
  c_NothingToRedo := _
  g_NothingToRedo := PySem.W.mg_of X G cg6
  e_NothingToRedo := ⟨cx6a, cx6b, cx6c, cx6d, cx6e, xn, xt, cx6f⟩
  q_NothingToRedo := cq6
  kp_NothingToRedo := ck6
  c_BadShip := _
  g_BadShip := PySem.W.mg_of X G cg7
  e_BadShip := ⟨cx7a, cx7b, cx7c, cx7d, cx7e, xn, xt, cx7f⟩
  o_BadShip := ⟨⟨_, _, _, _, _, _, _, _, _, _, _, _, _, _, _, cl7, cm7⟩, cs7, cx7c, ct7, ck7⟩
  f_BadShip := _
  d_BadShip := _
  F_BadShip := fun_mk (st := s_BadShip) il7 ic7 ik7
  i_BadShip := ci7
  ti_BadShip := it7
  b_BadShip := (fun_mk (st := s_BadShip) il7 ic7 ik7).binds fun _ _ _ _ _ _ us hl => match us, hl with | [_, _], _ => rfl
  n_BadShip_ship := cn7ship
  c_BadText := _
  g_BadText := PySem.W.mg_of X G cg8
  e_BadText := ⟨cx8a, cx8b, cx8c, cx8d, cx8e, xn, xt, cx8f⟩
  o_BadText := ⟨⟨_, _, _, _, _, _, _, _, _, _, _, _, _, _, _, cl8, cm8⟩, cs8, cx8c, ct8, ck8⟩
  f_BadText := _
  d_BadText := _
  F_BadText := fun_mk (st := s_BadText) il8 ic8 ik8
  i_BadText := ci8
  ti_BadText := it8
  b_BadText := (fun_mk (st := s_BadText) il8 ic8 ik8).binds fun _ _ _ _ _ _ us hl => match us, hl with | [_, _, _], _ => rfl
  n_BadText_line := cn8line
  n_BadText_column := cn8column
  c_NoPlan := _
  g_NoPlan := PySem.W.mg_of X G cg9
  e_NoPlan := ⟨cx9a, cx9b, cx9c, cx9d, cx9e, xn, xt, cx9f⟩
  o_NoPlan := ⟨⟨_, _, _, _, _, _, _, _, _, _, _, _, _, _, _, cl9, cm9⟩, cs9, cx9c, ct9, ck9⟩
  f_NoPlan := _
  d_NoPlan := _
  F_NoPlan := fun_mk (st := s_NoPlan) il9 ic9 ik9
  i_NoPlan := ci9
  ti_NoPlan := it9
  b_NoPlan := (fun_mk (st := s_NoPlan) il9 ic9 ik9).binds fun _ _ _ _ _ _ us hl => match us, hl with | [_, _, _], _ => rfl
  n_NoPlan_word := cn9word
  n_NoPlan_number := cn9number
  c_Clash := _
  g_Clash := PySem.W.mg_of X G cg10
  e_Clash := ⟨cx10a, cx10b, cx10c, cx10d, cx10e, xn, xt, cx10f⟩
  o_Clash := ⟨⟨_, _, _, _, _, _, _, _, _, _, _, _, _, _, _, cl10, cm10⟩, cs10, cx10c, ct10, ck10⟩
  f_Clash := _
  d_Clash := _
  F_Clash := fun_mk (st := s_Clash) il10 ic10 ik10
  i_Clash := ci10
  ti_Clash := it10
  b_Clash := (fun_mk (st := s_Clash) il10 ic10 ik10).binds fun _ _ _ _ _ _ us hl => match us, hl with | [_, _], _ => rfl
  n_Clash_ships := cn10ships
  c_BadEntry := _
  g_BadEntry := PySem.W.mg_of X G cg11
  e_BadEntry := ⟨cx11a, cx11b, cx11c, cx11d, cx11e, xn, xt, cx11f⟩
  o_BadEntry := ⟨⟨_, _, _, _, _, _, _, _, _, _, _, _, _, _, _, cl11, cm11⟩, cs11, cx11c, ct11, ck11⟩
  f_BadEntry := _
  d_BadEntry := _
  F_BadEntry := fun_mk (st := s_BadEntry) il11 ic11 ik11
  i_BadEntry := ci11
  ti_BadEntry := it11
  b_BadEntry := (fun_mk (st := s_BadEntry) il11 ic11 ik11).binds fun _ _ _ _ _ _ us hl => match us, hl with | [_, _], _ => rfl
  n_BadEntry_at := cn11at
  kt := fun i hi j hj => match i, hi, j, hj with
    | 0, _, j, hj => match j, hj with
      | 0, _ => y0x0
      | 1, _ => y0x1
      | 2, _ => y0x2
      | 3, _ => y0x3
      | 4, _ => y0x4
      | 5, _ => y0x5
      | 6, _ => y0x6
      | 7, _ => y0x7
      | 8, _ => y0x8
      | 9, _ => y0x9
      | 10, _ => y0x10
      | 11, _ => y0x11
      | n + 12, h => absurd h (by omega)
    | 1, _, j, hj => match j, hj with
      | 0, _ => y1x0
      | 1, _ => y1x1
      | 2, _ => y1x2
      | 3, _ => y1x3
      | 4, _ => y1x4
      | 5, _ => y1x5
      | 6, _ => y1x6
      | 7, _ => y1x7
      | 8, _ => y1x8
      | 9, _ => y1x9
      | 10, _ => y1x10
      | 11, _ => y1x11
      | n + 12, h => absurd h (by omega)
    | 2, _, j, hj => match j, hj with
      | 0, _ => y2x0
      | 1, _ => y2x1
      | 2, _ => y2x2
      | 3, _ => y2x3
      | 4, _ => y2x4
      | 5, _ => y2x5
      | 6, _ => y2x6
      | 7, _ => y2x7
      | 8, _ => y2x8
      | 9, _ => y2x9
      | 10, _ => y2x10
      | 11, _ => y2x11
      | n + 12, h => absurd h (by omega)
    | 3, _, j, hj => match j, hj with
      | 0, _ => y3x0
      | 1, _ => y3x1
      | 2, _ => y3x2
      | 3, _ => y3x3
      | 4, _ => y3x4
      | 5, _ => y3x5
      | 6, _ => y3x6
      | 7, _ => y3x7
      | 8, _ => y3x8
      | 9, _ => y3x9
      | 10, _ => y3x10
      | 11, _ => y3x11
      | n + 12, h => absurd h (by omega)
    | 4, _, j, hj => match j, hj with
      | 0, _ => y4x0
      | 1, _ => y4x1
      | 2, _ => y4x2
      | 3, _ => y4x3
      | 4, _ => y4x4
      | 5, _ => y4x5
      | 6, _ => y4x6
      | 7, _ => y4x7
      | 8, _ => y4x8
      | 9, _ => y4x9
      | 10, _ => y4x10
      | 11, _ => y4x11
      | n + 12, h => absurd h (by omega)
    | 5, _, j, hj => match j, hj with
      | 0, _ => y5x0
      | 1, _ => y5x1
      | 2, _ => y5x2
      | 3, _ => y5x3
      | 4, _ => y5x4
      | 5, _ => y5x5
      | 6, _ => y5x6
      | 7, _ => y5x7
      | 8, _ => y5x8
      | 9, _ => y5x9
      | 10, _ => y5x10
      | 11, _ => y5x11
      | n + 12, h => absurd h (by omega)
    | 6, _, j, hj => match j, hj with
      | 0, _ => y6x0
      | 1, _ => y6x1
      | 2, _ => y6x2
      | 3, _ => y6x3
      | 4, _ => y6x4
      | 5, _ => y6x5
      | 6, _ => y6x6
      | 7, _ => y6x7
      | 8, _ => y6x8
      | 9, _ => y6x9
      | 10, _ => y6x10
      | 11, _ => y6x11
      | n + 12, h => absurd h (by omega)
    | 7, _, j, hj => match j, hj with
      | 0, _ => y7x0
      | 1, _ => y7x1
      | 2, _ => y7x2
      | 3, _ => y7x3
      | 4, _ => y7x4
      | 5, _ => y7x5
      | 6, _ => y7x6
      | 7, _ => y7x7
      | 8, _ => y7x8
      | 9, _ => y7x9
      | 10, _ => y7x10
      | 11, _ => y7x11
      | n + 12, h => absurd h (by omega)
    | 8, _, j, hj => match j, hj with
      | 0, _ => y8x0
      | 1, _ => y8x1
      | 2, _ => y8x2
      | 3, _ => y8x3
      | 4, _ => y8x4
      | 5, _ => y8x5
      | 6, _ => y8x6
      | 7, _ => y8x7
      | 8, _ => y8x8
      | 9, _ => y8x9
      | 10, _ => y8x10
      | 11, _ => y8x11
      | n + 12, h => absurd h (by omega)
    | 9, _, j, hj => match j, hj with
      | 0, _ => y9x0
      | 1, _ => y9x1
      | 2, _ => y9x2
      | 3, _ => y9x3
      | 4, _ => y9x4
      | 5, _ => y9x5
      | 6, _ => y9x6
      | 7, _ => y9x7
      | 8, _ => y9x8
      | 9, _ => y9x9
      | 10, _ => y9x10
      | 11, _ => y9x11
      | n + 12, h => absurd h (by omega)
    | 10, _, j, hj => match j, hj with
      | 0, _ => y10x0
      | 1, _ => y10x1
      | 2, _ => y10x2
      | 3, _ => y10x3
      | 4, _ => y10x4
      | 5, _ => y10x5
      | 6, _ => y10x6
      | 7, _ => y10x7
      | 8, _ => y10x8
      | 9, _ => y10x9
      | 10, _ => y10x10
      | 11, _ => y10x11
      | n + 12, h => absurd h (by omega)
    | 11, _, j, hj => match j, hj with
      | 0, _ => y11x0
      | 1, _ => y11x1
      | 2, _ => y11x2
      | 3, _ => y11x3
      | 4, _ => y11x4
      | 5, _ => y11x5
      | 6, _ => y11x6
      | 7, _ => y11x7
      | 8, _ => y11x8
      | 9, _ => y11x9
      | 10, _ => y11x10
      | 11, _ => y11x11
      | n + 12, h => absurd h (by omega)
    | n + 12, h, _, _ => absurd h (by omega)
  kb := fun i hi => match i, hi with
    | 0, _ => y0b
    | 1, _ => y1b
    | 2, _ => y2b
    | 3, _ => y3b
    | 4, _ => y4b
    | 5, _ => y5b
    | 6, _ => y6b
    | 7, _ => y7b
    | 8, _ => y8b
    | 9, _ => y9b
    | 10, _ => y10b
    | 11, _ => y11b
    | n + 12, h => absurd h (by omega)
  kv := fun i hi => match i, hi with
    | 0, _ => y0v
    | 1, _ => y1v
    | 2, _ => y2v
    | 3, _ => y3v
    | 4, _ => y4v
    | 5, _ => y5v
    | 6, _ => y6v
    | 7, _ => y7v
    | 8, _ => y8v
    | 9, _ => y9v
    | 10, _ => y10v
    | 11, _ => y11v
    | n + 12, h => absurd h (by omega)
end K6
open PySem PySem.W PyProof.Rows
set_option maxHeartbeats 0 in
theorem PySem.Challenge.cw_tidewaits_k06_errors_stand_apart_holds : PySem.Challenge.rw_tidewaits_k06_errors_stand_apart.Holds := by
  w_on; o_law; k_head; (case hw => w_witness2)
  k_fill
  refine Tw.walk_G (l := PySem.Challenge.rw_tidewaits_k06_errors_stand_apart) (n := 63) (k := K6.lawLevel) (x := "script") (sp := Tw.spLaw) rfl (by decide) rfl ⟨rfl, by decide, by decide⟩ (fun w h Y => PySem.W.kIn_of Y) ?F (fun _ _ _ _ hl hS => ⟨_, _, rfl, hS, hl, fun _ => rfl⟩)
  case F =>
    intro w mg fa h KX G hmg
    refine' K6.all_ok (K6.tx_mk KX G ?a0 ?l0 ?c0 ?k0 ?a1 ?l1 ?c1 ?k1 ?a2 ?l2 ?c2 ?k2 ?a3 ?l3 ?c3 ?k3 ?a4 ?l4 ?c4 ?k4 ?z0 ?z1 ?z2 ?z3 ?z4 ?z5 ?z6 ?gT ?xn ?xt ?cg0 ?cx0a ?cx0b ?cx0c ?cx0d ?cx0e ?cx0f ?ck0 ?cq0 ?cg1 ?cx1a ?cx1b ?cx1c ?cx1d ?cx1e ?cx1f ?ck1 ?cq1 ?cg2 ?cx2a ?cx2b ?cx2c ?cx2d ?cx2e ?cx2f ?ck2 ?cq2 ?cg3 ?cx3a ?cx3b ?cx3c ?cx3d ?cx3e ?cx3f ?ck3 ?cq3 ?cg4 ?cx4a ?cx4b ?cx4c ?cx4d ?cx4e ?cx4f ?ck4 ?cq4 ?cg5 ?cx5a ?cx5b ?cx5c ?cx5d ?cx5e ?cx5f ?ck5 ?cq5 ?cg6 ?cx6a ?cx6b ?cx6c ?cx6d ?cx6e ?cx6f ?ck6 ?cq6 ?cg7 ?cx7a ?cx7b ?cx7c ?cx7d ?cx7e ?cx7f ?ck7 ?cl7 ?cm7 ?cs7 ?ct7 ?ci7 ?il7 ?ic7 ?ik7 ?it7 ?cn7ship ?cg8 ?cx8a ?cx8b ?cx8c ?cx8d ?cx8e ?cx8f ?ck8 ?cl8 ?cm8 ?cs8 ?ct8 ?ci8 ?il8 ?ic8 ?ik8 ?it8 ?cn8line ?cn8column ?cg9 ?cx9a ?cx9b ?cx9c ?cx9d ?cx9e ?cx9f ?ck9 ?cl9 ?cm9 ?cs9 ?ct9 ?ci9 ?il9 ?ic9 ?ik9 ?it9 ?cn9word ?cn9number ?cg10 ?cx10a ?cx10b ?cx10c ?cx10d ?cx10e ?cx10f ?ck10 ?cl10 ?cm10 ?cs10 ?ct10 ?ci10 ?il10 ?ic10 ?ik10 ?it10 ?cn10ships ?cg11 ?cx11a ?cx11b ?cx11c ?cx11d ?cx11e ?cx11f ?ck11 ?cl11 ?cm11 ?cs11 ?ct11 ?ci11 ?il11 ?ic11 ?ik11 ?it11 ?cn11at ?y0x0 ?y0x1 ?y0x2 ?y0x3 ?y0x4 ?y0x5 ?y0x6 ?y0x7 ?y0x8 ?y0x9 ?y0x10 ?y0x11 ?y0b ?y0v ?y1x0 ?y1x1 ?y1x2 ?y1x3 ?y1x4 ?y1x5 ?y1x6 ?y1x7 ?y1x8 ?y1x9 ?y1x10 ?y1x11 ?y1b ?y1v ?y2x0 ?y2x1 ?y2x2 ?y2x3 ?y2x4 ?y2x5 ?y2x6 ?y2x7 ?y2x8 ?y2x9 ?y2x10 ?y2x11 ?y2b ?y2v ?y3x0 ?y3x1 ?y3x2 ?y3x3 ?y3x4 ?y3x5 ?y3x6 ?y3x7 ?y3x8 ?y3x9 ?y3x10 ?y3x11 ?y3b ?y3v ?y4x0 ?y4x1 ?y4x2 ?y4x3 ?y4x4 ?y4x5 ?y4x6 ?y4x7 ?y4x8 ?y4x9 ?y4x10 ?y4x11 ?y4b ?y4v ?y5x0 ?y5x1 ?y5x2 ?y5x3 ?y5x4 ?y5x5 ?y5x6 ?y5x7 ?y5x8 ?y5x9 ?y5x10 ?y5x11 ?y5b ?y5v ?y6x0 ?y6x1 ?y6x2 ?y6x3 ?y6x4 ?y6x5 ?y6x6 ?y6x7 ?y6x8 ?y6x9 ?y6x10 ?y6x11 ?y6b ?y6v ?y7x0 ?y7x1 ?y7x2 ?y7x3 ?y7x4 ?y7x5 ?y7x6 ?y7x7 ?y7x8 ?y7x9 ?y7x10 ?y7x11 ?y7b ?y7v ?y8x0 ?y8x1 ?y8x2 ?y8x3 ?y8x4 ?y8x5 ?y8x6 ?y8x7 ?y8x8 ?y8x9 ?y8x10 ?y8x11 ?y8b ?y8v ?y9x0 ?y9x1 ?y9x2 ?y9x3 ?y9x4 ?y9x5 ?y9x6 ?y9x7 ?y9x8 ?y9x9 ?y9x10 ?y9x11 ?y9b ?y9v ?y10x0 ?y10x1 ?y10x2 ?y10x3 ?y10x4 ?y10x5 ?y10x6 ?y10x7 ?y10x8 ?y10x9 ?y10x10 ?y10x11 ?y10b ?y10v ?y11x0 ?y11x1 ?y11x2 ?y11x3 ?y11x4 ?y11x5 ?y11x6 ?y11x7 ?y11x8 ?y11x9 ?y11x10 ?y11x11 ?y11b ?y11v) hmg
    (case a0 => k_is); (case l0 => k_is); (case c0 => k_is); (case k0 => k_is); (case a1 => k_is); (case l1 => k_is); (case c1 => k_is); (case k1 => k_is); (case a2 => k_is); (case l2 => k_is); (case c2 => k_is); (case k2 => k_is); (case a3 => k_is); (case l3 => k_is); (case c3 => k_is); (case k3 => k_is); (case a4 => k_is); (case l4 => k_is); (case c4 => k_is); (case k4 => k_is); (case z0 => k_is); (case z1 => k_is); (case z2 => k_is); (case z3 => k_is); (case z4 => k_is); (case z5 => k_is); (case z6 => k_is); (case gT => k_is); (case xn => k_is); (case xt => k_is); (case cg0 => k_is); (case cx0a => k_is); (case cx0b => k_is); (case cx0c => k_is); (case cx0d => k_is); (case cx0e => k_is); (case cx0f => k_is); (case ck0 => k_is); (case cq0 => k_exc); (case cg1 => k_is); (case cx1a => k_is); (case cx1b => k_is); (case cx1c => k_is); (case cx1d => k_is); (case cx1e => k_is); (case cx1f => k_is); (case ck1 => k_is); (case cq1 => k_exc); (case cg2 => k_is); (case cx2a => k_is); (case cx2b => k_is); (case cx2c => k_is); (case cx2d => k_is); (case cx2e => k_is); (case cx2f => k_is); (case ck2 => k_is); (case cq2 => k_exc); (case cg3 => k_is); (case cx3a => k_is); (case cx3b => k_is); (case cx3c => k_is); (case cx3d => k_is); (case cx3e => k_is); (case cx3f => k_is); (case ck3 => k_is); (case cq3 => k_exc); (case cg4 => k_is); (case cx4a => k_is); (case cx4b => k_is); (case cx4c => k_is); (case cx4d => k_is); (case cx4e => k_is); (case cx4f => k_is); (case ck4 => k_is); (case cq4 => k_exc); (case cg5 => k_is); (case cx5a => k_is); (case cx5b => k_is); (case cx5c => k_is); (case cx5d => k_is); (case cx5e => k_is); (case cx5f => k_is); (case ck5 => k_is); (case cq5 => k_exc); (case cg6 => k_is); (case cx6a => k_is); (case cx6b => k_is); (case cx6c => k_is); (case cx6d => k_is); (case cx6e => k_is); (case cx6f => k_is); (case ck6 => k_is); (case cq6 => k_exc); (case cg7 => k_is); (case cx7a => k_is); (case cx7b => k_is); (case cx7c => k_is); (case cx7d => k_is); (case cx7e => k_is); (case cx7f => k_is); (case ck7 => k_is); (case cl7 => k_is); (case cm7 => rfl); (case cs7 => k_is); (case ct7 => k_is); (case ci7 => k_is); (case il7 => k_is); (case ic7 => k_is); (case ik7 => k_is); (case it7 => k_is); (case cn7ship => k_is); (case cg8 => k_is); (case cx8a => k_is); (case cx8b => k_is); (case cx8c => k_is); (case cx8d => k_is); (case cx8e => k_is); (case cx8f => k_is); (case ck8 => k_is); (case cl8 => k_is); (case cm8 => rfl); (case cs8 => k_is); (case ct8 => k_is); (case ci8 => k_is); (case il8 => k_is); (case ic8 => k_is); (case ik8 => k_is); (case it8 => k_is); (case cn8line => k_is); (case cn8column => k_is); (case cg9 => k_is); (case cx9a => k_is); (case cx9b => k_is); (case cx9c => k_is); (case cx9d => k_is); (case cx9e => k_is); (case cx9f => k_is); (case ck9 => k_is); (case cl9 => k_is); (case cm9 => rfl); (case cs9 => k_is); (case ct9 => k_is); (case ci9 => k_is); (case il9 => k_is); (case ic9 => k_is); (case ik9 => k_is); (case it9 => k_is); (case cn9word => k_is); (case cn9number => k_is); (case cg10 => k_is); (case cx10a => k_is); (case cx10b => k_is); (case cx10c => k_is); (case cx10d => k_is); (case cx10e => k_is); (case cx10f => k_is); (case ck10 => k_is); (case cl10 => k_is); (case cm10 => rfl); (case cs10 => k_is); (case ct10 => k_is); (case ci10 => k_is); (case il10 => k_is); (case ic10 => k_is); (case ik10 => k_is); (case it10 => k_is); (case cn10ships => k_is); (case cg11 => k_is); (case cx11a => k_is); (case cx11b => k_is); (case cx11c => k_is); (case cx11d => k_is); (case cx11e => k_is); (case cx11f => k_is); (case ck11 => k_is); (case cl11 => k_is); (case cm11 => rfl); (case cs11 => k_is); (case ct11 => k_is); (case ci11 => k_is); (case il11 => k_is); (case ic11 => k_is); (case ik11 => k_is); (case it11 => k_is); (case cn11at => k_is); (case y0x0 => kit_is); (case y0x1 => kit_is); (case y0x2 => kit_is); (case y0x3 => kit_is); (case y0x4 => kit_is); (case y0x5 => kit_is); (case y0x6 => kit_is); (case y0x7 => kit_is); (case y0x8 => kit_is); (case y0x9 => kit_is); (case y0x10 => kit_is); (case y0x11 => kit_is); (case y0b => kit_is); (case y0v => kit_is); (case y1x0 => kit_is); (case y1x1 => kit_is); (case y1x2 => kit_is); (case y1x3 => kit_is); (case y1x4 => kit_is); (case y1x5 => kit_is); (case y1x6 => kit_is); (case y1x7 => kit_is); (case y1x8 => kit_is); (case y1x9 => kit_is); (case y1x10 => kit_is); (case y1x11 => kit_is); (case y1b => kit_is); (case y1v => kit_is); (case y2x0 => kit_is); (case y2x1 => kit_is); (case y2x2 => kit_is); (case y2x3 => kit_is); (case y2x4 => kit_is); (case y2x5 => kit_is); (case y2x6 => kit_is); (case y2x7 => kit_is); (case y2x8 => kit_is); (case y2x9 => kit_is); (case y2x10 => kit_is); (case y2x11 => kit_is); (case y2b => kit_is); (case y2v => kit_is); (case y3x0 => kit_is); (case y3x1 => kit_is); (case y3x2 => kit_is); (case y3x3 => kit_is); (case y3x4 => kit_is); (case y3x5 => kit_is); (case y3x6 => kit_is); (case y3x7 => kit_is); (case y3x8 => kit_is); (case y3x9 => kit_is); (case y3x10 => kit_is); (case y3x11 => kit_is); (case y3b => kit_is); (case y3v => kit_is); (case y4x0 => kit_is); (case y4x1 => kit_is); (case y4x2 => kit_is); (case y4x3 => kit_is); (case y4x4 => kit_is); (case y4x5 => kit_is); (case y4x6 => kit_is); (case y4x7 => kit_is); (case y4x8 => kit_is); (case y4x9 => kit_is); (case y4x10 => kit_is); (case y4x11 => kit_is); (case y4b => kit_is); (case y4v => kit_is); (case y5x0 => kit_is); (case y5x1 => kit_is); (case y5x2 => kit_is); (case y5x3 => kit_is); (case y5x4 => kit_is); (case y5x5 => kit_is); (case y5x6 => kit_is); (case y5x7 => kit_is); (case y5x8 => kit_is); (case y5x9 => kit_is); (case y5x10 => kit_is); (case y5x11 => kit_is); (case y5b => kit_is); (case y5v => kit_is); (case y6x0 => kit_is); (case y6x1 => kit_is); (case y6x2 => kit_is); (case y6x3 => kit_is); (case y6x4 => kit_is); (case y6x5 => kit_is); (case y6x6 => kit_is); (case y6x7 => kit_is); (case y6x8 => kit_is); (case y6x9 => kit_is); (case y6x10 => kit_is); (case y6x11 => kit_is); (case y6b => kit_is); (case y6v => kit_is); (case y7x0 => kit_is); (case y7x1 => kit_is); (case y7x2 => kit_is); (case y7x3 => kit_is); (case y7x4 => kit_is); (case y7x5 => kit_is); (case y7x6 => kit_is); (case y7x7 => kit_is); (case y7x8 => kit_is); (case y7x9 => kit_is); (case y7x10 => kit_is); (case y7x11 => kit_is); (case y7b => kit_is); (case y7v => kit_is); (case y8x0 => kit_is); (case y8x1 => kit_is); (case y8x2 => kit_is); (case y8x3 => kit_is); (case y8x4 => kit_is); (case y8x5 => kit_is); (case y8x6 => kit_is); (case y8x7 => kit_is); (case y8x8 => kit_is); (case y8x9 => kit_is); (case y8x10 => kit_is); (case y8x11 => kit_is); (case y8b => kit_is); (case y8v => kit_is); (case y9x0 => kit_is); (case y9x1 => kit_is); (case y9x2 => kit_is); (case y9x3 => kit_is); (case y9x4 => kit_is); (case y9x5 => kit_is); (case y9x6 => kit_is); (case y9x7 => kit_is); (case y9x8 => kit_is); (case y9x9 => kit_is); (case y9x10 => kit_is); (case y9x11 => kit_is); (case y9b => kit_is); (case y9v => kit_is); (case y10x0 => kit_is); (case y10x1 => kit_is); (case y10x2 => kit_is); (case y10x3 => kit_is); (case y10x4 => kit_is); (case y10x5 => kit_is); (case y10x6 => kit_is); (case y10x7 => kit_is); (case y10x8 => kit_is); (case y10x9 => kit_is); (case y10x10 => kit_is); (case y10x11 => kit_is); (case y10b => kit_is); (case y10v => kit_is); (case y11x0 => kit_is); (case y11x1 => kit_is); (case y11x2 => kit_is); (case y11x3 => kit_is); (case y11x4 => kit_is); (case y11x5 => kit_is); (case y11x6 => kit_is); (case y11x7 => kit_is); (case y11x8 => kit_is); (case y11x9 => kit_is); (case y11x10 => kit_is); (case y11x11 => kit_is); (case y11b => kit_is); (case y11v => kit_is)

