import PyProof.Rows.All
import Wide.All
import OpenK.AllK
import Wide.FinOn
import HandS.ForMost
import HandS.Evl
import HandS.Zip
import HandS.RaiseMore
import PyProof.ReprRoads
import HandS.IsInst
import HandS.Defaults
import HandS.Walk
import HandS.TryOnly
import HandS.StrMore
import HandS.SetFor
import HandS.Strs
import HandS.Deep
import KE.OsSort
import HandS.TupAny
import HandS.Sort
import KE.SortData
import HandS.TupLe
import KE.DataMinMax
import HandS.SortKw
import HandS.Dict
import HandS.More
import HandS.Style
import PySem.Challenge.RW_tidewaits_k26_orders_of_rules
set_option Elab.async false
set_option linter.all false
set_option maxRecDepth 100000
set_option maxHeartbeats 4000000
namespace Tw
open PySem PySem.Spec PyProof.Rows L2 Evl
/-! data that stays -/
mutual
theorem dp_ex {K : PySem.W.Frag} {H H' : Hp} (e : Ex H H') : ∀ {v : V} {d : PyData}, Dp K H v d → Dp K H' v d
  | _, _, .non => .non
  | _, _, .bl b => .bl b
  | _, _, .int i => .int i
  | _, _, .str x => .str x
  | _, _, .lst h a => .lst (ex_l e h) (dpa_ex e a)
  | _, _, .tup h a => .tup (ex_t e h) (dpa_ex e a)
theorem dpa_ex {K : PySem.W.Frag} {H H' : Hp} (e : Ex H H') : ∀ {vs : List V} {ds : List PyData}, DpAll K H vs ds → DpAll K H' vs ds
  | _, _, .nil => .nil
  | _, _, .cons h a => .cons (dp_ex e h) (dpa_ex e a)
end
/-! repr of data -/
section
variable {X : Cx}
def rRepr (K : PySem.W.Frag) : List V → Hp → VK → Prop := fun xs H Q => ∃ (a : Addr) (d : PyData), xs = [.ref a] ∧ Dp K H (.ref a) d ∧ d.showable = true ∧ d.hasDict = false ∧ d.depth ≤ 60 ∧ d.shown.length ≤ sizeLine ∧ Q (.str d.shown) H
theorem call_repr (hg : X.A.guards = some []) (hu : X.A.units + 64 < cLine) : CallR X (.builtin "repr") (rRepr X.K) := by
  intro pins s σ H xs us Q I r h
  obtain ⟨a, d, rfl, hd, hs, hn, hz, hl, q⟩ := h
  cases r with
  | cons r1 r2 =>
    cases r2
    cases r1
    obtain ⟨as, rd⟩ := Dp.reads I d _ _ hd rfl
    exact repr_of_reads' rd hs (PyData.noDict_hsm hn) hg (by omega) (fun _ _ e => e) (fun h' u tk hk => ⟨.str d.shown, H, I.kept hk, ⟨u, rfl⟩, q⟩) hl
end
end Tw

set_option Elab.async false
set_option linter.all false
set_option maxRecDepth 100000
set_option maxHeartbeats 4000000
namespace Tw
open PySem PySem.Spec PyProof.Rows L2 Evl
/-! a def's promise where no repr is under way -/
structure FnG (P : Program) (w : World) (K : PySem.W.Frag) (mg : Str → Option Value) (base : Heap) (k : Nat) (f : Addr) (fd : FuncData) (ps : List Str) (sp : Sp) : Prop where
  len : ∀ vs H Q E, sp vs H Q E → vs.length = ps.length
  run : ∀ (A : Around) (outer : List Env) (s : Shared) (H : Hp) (args : Args) (us : List Value) (vs : List V) (Q : VK) (E : XK), A.guards = some [] → Room k A →
    Env0 P w K mg base A outer s H → BindsTo s fd args (ps.zip us) → Vals vs us → sp vs H Q E →
    codeAny (model P w) A (.call (.ref f) args) (CR CX0 outer P w H s Q E) s
theorem fnG_of {P : Program} {w : World} {K : PySem.W.Frag} {mg : Str → Option Value} {base : Heap} {x qual : Str} {st : Stmt} {f : Addr} {fd : FuncData} {N ps : List Str} {k : Nat} {sp : Sp}
    (F : Fun K x qual st f fd) (S : FnScope N ps (defScope st)) (len : ∀ vs H Q E, sp vs H Q E → vs.length = ps.length)
    (body : ∀ (cdv : Value) (A : Around) (outer : List Env) (s : Shared) (H : Hp) (vs : List V) (Q : VK) (E : XK), A.guards = some [] → Room k (A.deeper (envOfC qual (defScope st) s.heap.objs.size f cdv)) → sp vs H Q E →
      ∃ t, PSs (cxOf CX0 P w K mg base N qual (defScope st) f cdv A outer s H E).nox (defBody st) t ∧ t { nx := fun _ H' => Q .non H', rt := Q } (start N vs) H) :
    FnG P w K mg base (k + 1) f fd ps sp := by
  obtain ⟨_, _, _, _, _, _, cdv, _, _, rfl, lk, hcd⟩ := F.ex
  constructor
  · exact len
  intro A outer s H args us vs Q E gd room e0 bt rv hq
  have lenV := len _ _ _ _ hq
  have kin : K.In s.heap := by
    have h := e0.mod.kin
    exact h.keeps fun c u z => (e0.bs c u z).1
  have nol : s.heap.NoLimit := by
    have h := e0.mod.nolimit
    exact h.keeps fun c u z => (e0.bs c u z).1
  have kinds : ∀ y ∈ ps.zip us, (defScope st).names.lookup y.1 = some .local ∨
      ((defScope st).names.lookup y.1 = some .cell ∧ ((cellsFrom (s.heap.objs.size + 1) (defScope st).names []).lookup y.1).isSome = true) := by
    rintro ⟨n, u⟩ hy
    have hn := (List.of_mem_zip hy).1
    cases S.par n hn with
    | inl h => exact .inl h
    | inr h => exact .inr ⟨h, PySem.W.cellsFrom_some _ _ _ (.inl h)⟩
  refine codeAny_call_function room.depth (kin _ _ lk) rfl S.co S.gen rfl
    (PySem.W.codeRec_of kin hcd) (bt _ _ _ _ ?_)
  refine wpAny_newFunctionEnv_cells S.kind kinds ?_
  intro env he s1 inc
  cases he
  refine ⟨nol.keeps inc.toInCall.keep, codeAny_func ?_⟩
  obtain ⟨t, ht', hb⟩ := body cdv A outer s H vs Q E gd (room.deeper _) hq
  have ht := ht'.nox
  have J := inv_start (CX := CX0) (E := E) S room.hd e0 lenV rv inc
  have goal := ht.run [] s1 (start N vs) H _ J hb
  refine wpAny_mono goal ?_ ?_
  · intro fl s' hs
    cases fl with
    | ret u =>
      obtain ⟨v, σ', H', I, r, q⟩ := hs
      exact ⟨v, H', I.os, I.bare, I.base, I.hok, r, q⟩
    | next =>
      obtain ⟨σ', H', I, q⟩ := hs
      exact ⟨.non, H', I.os, I.bare, I.base, I.hok, rfl, q⟩
    | brk =>
      obtain ⟨_, _, _, q⟩ := hs
      exact q.elim
    | cont =>
      obtain ⟨_, _, _, q⟩ := hs
      exact q.elim
  · intro e s' hs
    exact hs
theorem law_callG {P : Program} {w : World} {K : PySem.W.Frag} {mg mb : Str → Option Value} {k : Nat} {fa a : Addr} {fd : FuncData} {x : Str} {sp : Sp} {s₁ : Shared} {vs : List Value} {ns : List Int}
    (KX : K.In s₁.heap) (gl : s₁.heap.Ns mainGlobals mg) (bl : s₁.heap.Ns builtinsNs mb) (bb : ∀ x : Str, x ≠ "__name__" → mb x = bootBuiltins x) (nl : s₁.heap.NoLimit) (ng : s₁.gens = #[])
    (ha : s₁.heap.get? a = some { cls := .type "list", data := .seq vs.toArray }) (hi : IntsAre vs ns) (hl : ns.length ≤ sizeLine) (room : Room k callerA)
    (F : ∀ base : Heap, K.In base → base.Ns mainGlobals mg → FnG P w K mg base k fa fd [x] sp) (bt : ∀ (s : Shared) (u : Value), BindsTo s fd ⟨[u], []⟩ [(x, u)])
    (hsp : ∀ H : Hp, SqL K H a (ns.map V.int) → sp [.ref a] H (fun v _ => v = .bl true) fun _ _ _ => False) :
    codeAny (model P w) callerA (.call (.ref fa) ⟨[.ref a], []⟩) (fun r s' => r = .ok (.ret (.bool true)) ∧ OldK s₁.heap s'.heap ∧ s'.os = s₁.os ∧ AllBare s'.gens) s₁ := by
  have rv := vals_ints hi
  have lenV := hi.length
  have main : ∀ H : Hp, Only H → SqL K H a (ns.map V.int) → HOk P w H s₁.heap → (∀ b, H b ≠ none → b = a) → (H a ≠ none → K.lookup a = none) →
      codeAny (model P w) callerA (.call (.ref fa) ⟨[.ref a], []⟩) (fun r s' => r = .ok (.ret (.bool true)) ∧ OldK s₁.heap s'.heap ∧ s'.os = s₁.os ∧ AllBare s'.gens) s₁ := by
    intro H only sq hok onlyA notK
    have hide : ∀ {b : Addr} {m : Str → Option Value}, s₁.heap.Ns b m → (hidT s₁.heap H).Ns b m := by
      rintro b m ⟨o, es, ep, e1, e2, r⟩
      refine ⟨o, es, ep, hidT_get e1 ?_, e2, r⟩
      cases q : H b with
      | none => rfl
      | some u =>
        have eb : b = a := onlyA b (by rw [q]; exact Option.some_ne_none u)
        subst eb
        rw [ha] at e1
        cases e1
        cases e2
    have kinB : K.In (hidT s₁.heap H) := by
      intro b o e
      refine hidT_get (KX b o e) ?_
      cases q : H b with
      | none => rfl
      | some u =>
        have eb : b = a := onlyA b (by rw [q]; exact Option.some_ne_none u)
        subst eb
        have := notK (by rw [q]; exact Option.some_ne_none u)
        rw [this] at e
        cases e
    obtain ⟨mc, c1, c2⟩ := nl
    have md : Mod K mg (hidT s₁.heap H) := ⟨kinB, hide gl, ⟨mb, hide bl, bb⟩, ⟨mc, hide c1, c2⟩⟩
    have env : Env0 P w K mg (hidT s₁.heap H) callerA [] s₁ H := by
      refine ⟨rfl, md, fun b o e => of_hidT e, Nat.le_of_eq (hidT_size _ _), trivial, ?_, hok, .of_eq ng⟩
      intro b hb
      exact absurd (show b ∈ ([] : List Addr) from hb) List.not_mem_nil
    have FF := F _ kinB (hide gl)
    have go := FF.run callerA [] s₁ H ⟨[.ref a], []⟩ [.ref a] [.ref a] _ _ rfl room env (bt s₁ (.ref a)) (.cons rfl .nil) (hsp H sq)
    refine codeAny_mono go ?_
    intro r s' hr
    match r, hr with
    | .error e, hr => exact False.elim hr
    | .ok .next, hr => exact False.elim hr
    | .ok .brk, hr => exact False.elim hr
    | .ok .cont, hr => exact False.elim hr
    | .ok (.ret u), hr =>
      obtain ⟨v, H', os, bare, un, hok', r', q⟩ := hr
      cases (show v = .bl true from q)
      cases (show u = Value.bool true from r')
      refine ⟨rfl, OldK.of_keep ?_, os, bare⟩
      intro b o e
      cases q : H b with
      | none => exact un.keep b o e q (fun z => absurd (show b ∈ ([] : List Addr) from z) List.not_mem_nil) (fun z => absurd z List.not_mem_nil)
      | some u =>
        rcases only b with z | ⟨ob, xs, z⟩
        · rw [q] at z
          cases z
        · obtain ⟨e1, _⟩ := hok b _ z
          obtain ⟨e2, _⟩ := hok' b _ (un.frzs b ob _ z)
          rw [e] at e1
          cases e1
          exact e2
  cases hk : K.lookup a with
  | some o =>
    have e := KX a o hk
    rw [ha] at e
    cases e
    refine main (fun _ => none) (fun _ => .inl rfl) (.inr ⟨_, vs.toArray, _, hk, rfl, rfl, rfl, ?_, by simpa using rv⟩) (fun b u z => by cases z) (fun b z => absurd rfl z) fun z => absurd rfl z
    rw [List.size_toArray, lenV]
    exact hl
  | none =>
    let Ha : Hp := fun b => if b = a then some (.frz { cls := .type "list", data := .seq vs.toArray } (.lst (ns.map V.int))) else none
    have at_a : Ha a = some (.frz { cls := .type "list", data := .seq vs.toArray } (.lst (ns.map V.int))) := if_pos rfl
    have off : ∀ b, b ≠ a → Ha b = none := fun b hb => if_neg hb
    refine main Ha ?_ (.inl (.inr ⟨_, at_a⟩)) ?_ ?_ fun _ => hk
    · intro b
      by_cases hb : b = a
      · subst hb
        exact .inr ⟨_, _, at_a⟩
      · exact .inl (off b hb)
    · intro b u z
      by_cases hb : b = a
      · subst hb
        rw [at_a] at z
        cases z
        exact ⟨ha, by rw [List.length_map]; exact hl, vs, _, rv, ha⟩
      · rw [off b hb] at z
        cases z
    · intro b z
      by_cases hb : b = a
      · exact hb
      · exact absurd (off b hb) z
theorem walk_G {l : PySem.W.OpenLaw} {n k : Nat} {q : Program} {loose : List Str} {XP : (Str → Option Value) → Heap → Prop} {YP : World → Heap → Prop} {d : DefRec} {K : Params → PySem.W.Frag} {sp : PySem.W.Frag → Sp} {x : Str}
    (hn : l.most = some n) (hn2 : n ≤ sizeLine) (hdf : d.params.defaults = []) (room : Room k callerA) (hY : ∀ (w : World) (h : Heap), YP w h → (K w.params).In h)
    (F : ∀ (w : World) (mg : Str → Option Value) (fa : Addr) (h : Heap), (K w.params).In h → h.Ns mainGlobals mg → mg d.name = some (.ref fa) →
      ∃ fd : FuncData, (∀ (s : Shared) (u : Value), BindsTo s fd ⟨[u], []⟩ [(x, u)]) ∧
        ∀ base : Heap, (K w.params).In base → base.Ns mainGlobals mg → FnG l.prog w (K w.params) mg base k fa fd [x] (sp (K w.params)))
    (hsp : ∀ (K : PySem.W.Frag) (H : Hp) (a : Addr) (ns : List Int), ns.length ≤ n → SqL K H a (ns.map V.int) → sp K [.ref a] H (fun v _ => v = .bl true) fun _ _ _ => False) :
    PySem.W.WalkO q loose XP YP l.row.toRowW d [] (fun f vs => PySem.call f vs) := by
  refine Att.attach_call hn hdf ?_
  intro w s₀ s₁ mg mb fa o pm cd doc a vs ns G Y ho hd hcd hmg hobj hints hlen hg
  have KX := hY w _ Y
  obtain ⟨fd, hb, hF⟩ := F w mg fa _ KX G.T.g hmg
  exact law_callG KX G.T.g G.T.b G.T.builtins G.T.nolimit hg hobj hints (Nat.le_trans hlen hn2) room hF hb fun H hS => hsp _ H a ns hlen hS
end Tw

set_option Elab.async false
set_option linter.all false
set_option maxRecDepth 100000
set_option maxHeartbeats 4000000
namespace Tw
open PySem PySem.Spec PyProof.Rows L2 Evl
/-! data, its lists plain -/
mutual
inductive Da (K : PySem.W.Frag) (H : Hp) : V → PyData → Prop
  | non : Da K H .non .none
  | bl (b : Bool) : Da K H (.bl b) (.bool b)
  | int (i : Int) : Da K H (.int i) (.int i)
  | str (x : Str) : Da K H (.str x) (.str x)
  | lst {a : Addr} {xs : List V} {ds : List PyData} : H a = some (.lst xs) → DaAll K H xs ds → Da K H (.ref a) (.list ds)
  | tup {a : Addr} {xs : List V} {ds : List PyData} : SqT K H a xs → DaAll K H xs ds → Da K H (.ref a) (.tuple ds)
inductive DaAll (K : PySem.W.Frag) (H : Hp) : List V → List PyData → Prop
  | nil : DaAll K H [] []
  | cons {v : V} {vs : List V} {d : PyData} {ds : List PyData} : Da K H v d → DaAll K H vs ds → DaAll K H (v :: vs) (d :: ds)
end
section
variable {K : PySem.W.Frag} {H H' : Hp}
mutual
theorem da_ex (e : Ex H H') : ∀ {v : V} {d : PyData}, Da K H v d → Da K H' v d
  | _, _, .non => .non
  | _, _, .bl b => .bl b
  | _, _, .int i => .int i
  | _, _, .str x => .str x
  | _, _, .lst h a => .lst (e _ _ h) (daa_ex e a)
  | _, _, .tup h a => .tup (ex_t e h) (daa_ex e a)
theorem daa_ex (e : Ex H H') : ∀ {vs : List V} {ds : List PyData}, DaAll K H vs ds → DaAll K H' vs ds
  | _, _, .nil => .nil
  | _, _, .cons h a => .cons (da_ex e h) (daa_ex e a)
end
mutual
theorem da_dp : ∀ {v : V} {d : PyData}, Da K H v d → Dp K H v d
  | _, _, .non => .non
  | _, _, .bl b => .bl b
  | _, _, .int i => .int i
  | _, _, .str x => .str x
  | _, _, .lst h a => .lst (sq_of h) (daa_dp a)
  | _, _, .tup h a => .tup h (daa_dp a)
theorem daa_dp : ∀ {vs : List V} {ds : List PyData}, DaAll K H vs ds → DpAll K H vs ds
  | _, _, .nil => .nil
  | _, _, .cons h a => .cons (da_dp h) (daa_dp a)
end
theorem daa_len : ∀ {vs : List V} {ds : List PyData}, DaAll K H vs ds → vs.length = ds.length
  | _, _, .nil => rfl
  | _, _, .cons _ a => by rw [List.length_cons, List.length_cons, daa_len a]
theorem daa_get : ∀ {vs : List V} {ds : List PyData}, DaAll K H vs ds → ∀ (i : Nat) (d : PyData), ds[i]? = some d → ∃ v, vs[i]? = some v ∧ Da K H v d
  | _, _, .nil, i, d, h => by simp at h
  | _, _, .cons (v := v) h a, 0, d, e => ⟨v, rfl, by
      have e' := Option.some.inj e
      rw [← e']
      exact h⟩
  | _, _, .cons h a, i + 1, d, e => daa_get a i d e
theorem daa_getV : ∀ {vs : List V} {ds : List PyData}, DaAll K H vs ds → ∀ (i : Nat) (v : V), vs[i]? = some v → ∃ d, ds[i]? = some d ∧ Da K H v d
  | _, _, .nil, i, d, h => by simp at h
  | _, _, .cons (d := d) h a, 0, v, e => ⟨d, rfl, by
      have e' := Option.some.inj e
      rw [← e']
      exact h⟩
  | _, _, .cons h a, i + 1, v, e => daa_getV a i v e
theorem daa_app : ∀ {vs ws : List V} {ds es : List PyData}, DaAll K H vs ds → DaAll K H ws es → DaAll K H (vs ++ ws) (ds ++ es)
  | _, _, _, _, .nil, b => b
  | _, _, _, _, .cons h a, b => .cons h (daa_app a b)
theorem daa_drop : ∀ {vs : List V} {ds : List PyData} (n : Nat), DaAll K H vs ds → DaAll K H (vs.drop n) (ds.drop n)
  | _, _, 0, h => h
  | _, _, n + 1, .nil => .nil
  | _, _, n + 1, .cons _ a => daa_drop n a
theorem daa_take : ∀ {vs : List V} {ds : List PyData} (n : Nat), DaAll K H vs ds → DaAll K H (vs.take n) (ds.take n)
  | _, _, 0, h => .nil
  | _, _, n + 1, .nil => .nil
  | _, _, n + 1, .cons h a => .cons h (daa_take n a)
theorem daa_ints : ∀ (ns : List Int), DaAll K H (ns.map V.int) (ns.map PyData.int)
  | [] => .nil
  | n :: r => .cons (.int n) (daa_ints r)
theorem daa_intsV : ∀ {ns : List Int} {vs : List V}, DaAll K H vs (ns.map PyData.int) → vs = ns.map V.int
  | [], _, .nil => rfl
  | n :: r, _, .cons (.int _) a => by rw [daa_intsV a]; rfl
theorem daa_strsV : ∀ {ns : List Str} {vs : List V}, DaAll K H vs (ns.map PyData.str) → vs = ns.map V.str
  | [], _, .nil => rfl
  | n :: r, _, .cons (.str _) a => by rw [daa_strsV a]; rfl
end
/-! what is had behind an evaluation: v tells d, by old things of the anchor H and new ones alone -/
structure Sep (H H1 H2 G : Hp) : Prop where
  up : Ex H1 H2
  an : Ex H G
  inn : Ex G H2
  sep : ∀ b, H b = none → H1 b ≠ none → G b = none
theorem Sep.refl {H H1 : Hp} (e : Ex H H1) : Sep H H1 H1 H := ⟨Ex.refl _, Ex.refl _, e, fun _ h _ => h⟩
theorem Sep.trans {H H1 H2 H3 G G2 : Hp} (a : Sep H H1 H2 G) (b : Sep G H2 H3 G2) : Sep H H1 H3 G2 :=
  ⟨a.up.trans b.up, a.an.trans b.an, b.inn, fun c h h1 => b.sep c (a.sep c h h1) fun z => by
    cases q : H1 c with
    | none => exact h1 q
    | some o =>
      rw [a.up c o q] at z
      cases z⟩
theorem Sep.new {H H1 : Hp} {p : Addr} {o : HO} (e : Ex H H1) (h : H1 p = none) : Sep H H1 (upd H1 p o) (upd H p o) := by
  have hp : H p = none := fresh_back e h
  refine ⟨Ex.new h, Ex.new hp, fun b u hb => ?_, fun b hb h1 => ?_⟩
  · by_cases q : b = p
    · subst q
      rw [upd_same] at hb ⊢
      exact hb
    · rw [upd_ne q] at hb ⊢
      exact e b u hb
  · have q : b ≠ p := fun z => by
      rw [z] at h1
      exact h1 h
    rw [upd_ne q]
    exact hb
/-- a place outside the anchor stays outside, and stays -/
theorem Sep.out {H H1 H2 G : Hp} (a : Sep H H1 H2 G) {p : Addr} {o : HO} (h : H p = none) (h1 : H1 p = some o) : G p = none ∧ H2 p = some o :=
  ⟨a.sep p h (by rw [h1]; exact Option.some_ne_none o), a.up p o h1⟩
/-- the place changes; the anchor stands -/
theorem ex_chg {G H : Hp} {p : Addr} {o : HO} (e : Ex G H) (h : G p = none) : Ex G (upd H p o) := Ex.mut e h

def ED (K : PySem.W.Frag) (te : TE) (σ : L2.St) (H : Hp) (d : PyData) : Prop :=
  ∀ H1, Ex H H1 → ∀ Q : VK, (∀ v H2 G, Sep H H1 H2 G → Da K G v d → Q v H2) → te σ H1 Q
def EDA (K : PySem.W.Frag) (ta : TA) (σ : L2.St) (H : Hp) (ds : List PyData) : Prop :=
  ∀ H1, Ex H H1 → ∀ Q : List V → Hp → Prop, (∀ vs H2 G, Sep H H1 H2 G → DaAll K G vs ds → Q vs H2) → ta σ H1 Q
section
variable {K : PySem.W.Frag} {σ : L2.St} {H H' : Hp} {ta tb te : TE} {d e : PyData} {ds es : List PyData}
theorem ED.mono (x : Ex H H') (h : ED K te σ H d) : ED K te σ H' d := fun H1 a Q q => h H1 (x.trans a) Q fun v H2 G s g => by
  -- the anchor grows: what is new stands beside it
  refine q v H2 (fun b => if (H' b).isSome then H' b else G b) ⟨s.up, fun b o hb => ?_, fun b o hb => ?_, fun b hb hb1 => ?_⟩ (da_ex (fun b o hb => ?_) g)
  · show (if (H' b).isSome then H' b else G b) = some o
    rw [hb]
    rfl
  · have hb' : (if (H' b).isSome then H' b else G b) = some o := hb
    cases z : H' b with
    | none =>
      rw [z] at hb'
      exact s.inn b o hb'
    | some u =>
      rw [z] at hb'
      have : u = o := Option.some.inj hb'
      subst this
      exact s.up b u (a b u z)
  · show (if (H' b).isSome then H' b else G b) = none
    rw [hb]
    exact s.sep b (fresh_back x hb) hb1
  · show (if (H' b).isSome then H' b else G b) = some o
    cases z : H' b with
    | none => exact hb
    | some u =>
      have h2 := s.up b u (a b u z)
      rw [s.inn b o hb] at h2
      exact h2.symm
theorem ed_is (h : ED K te σ H d) (x : d = e) : ED K te σ H e := x ▸ h
theorem ed_ev {v : V} (h : Ev te σ H v) (g : Da K H v d) : ED K te σ H d := fun H1 x Q q => h H1 x Q fun H2 x2 =>
  q v H2 H ⟨x2, Ex.refl H, x.trans x2, fun _ h _ => h⟩ g
theorem ev_int {i : Int} (h : ED K te σ H (.int i)) : Ev te σ H (.int i) := fun H1 x Q q => h H1 x Q fun v H2 G s g => by
  cases g
  exact q H2 s.up
theorem ev_bool {b : Bool} (h : ED K te σ H (.bool b)) : Ev te σ H (.bl b) := fun H1 x Q q => h H1 x Q fun v H2 G s g => by
  cases g
  exact q H2 s.up
theorem ev_str {x : Str} (h : ED K te σ H (.str x)) : Ev te σ H (.str x) := fun H1 x Q q => h H1 x Q fun v H2 G s g => by
  cases g
  exact q H2 s.up
theorem ev_non (h : ED K te σ H .none) : Ev te σ H .non := fun H1 x Q q => h H1 x Q fun v H2 G s g => by
  cases g
  exact q H2 s.up
theorem ed_var {i : Nat} {v : V} (h : σ[i]? = some (some v)) (g : Da K H v d) : ED K (tVar i) σ H d := ed_ev (ev_var h) g
theorem ed_int {i : Int} : ED K (tC (.int i)) σ H (.int i) := ed_ev ev_c (.int i)
theorem ed_str {x : Str} : ED K (tC (.str x)) σ H (.str x) := ed_ev ev_c (.str x)
theorem ed_bl {b : Bool} : ED K (tC (.bl b)) σ H (.bool b) := ed_ev ev_c (.bl b)
theorem ed_non : ED K (tC .non) σ H .none := ed_ev ev_c .non
theorem ed_op0 {g : Int → Int → V} {i j k : Int} (ha : ED K ta σ H (.int i)) (hb : ED K tb σ H (.int j)) (hg : g i j = .int k) : ED K (tOp (rI0 g) ta tb) σ H (.int k) :=
  ed_ev (ev_op (ev_int ha) (ev_int hb) rv_I0) (by rw [hg]; exact .int k)
theorem ed_opC {C : Int → Int → Prop} {g : Int → Int → V} {i j k : Int} (ha : ED K ta σ H (.int i)) (hb : ED K tb σ H (.int j)) (hc : C i j) (hg : g i j = .int k) : ED K (tOp (rI C g) ta tb) σ H (.int k) :=
  ed_ev (ev_op (ev_int ha) (ev_int hb) (rv_I hc)) (by rw [hg]; exact .int k)
theorem ed_add {i j : Int} (ha : ED K ta σ H (.int i)) (hb : ED K tb σ H (.int j)) : ED K (tOp (rI0 fun i j => .int (i + j)) ta tb) σ H (.int (i + j)) := ed_op0 ha hb rfl
theorem ed_sub {i j : Int} (ha : ED K ta σ H (.int i)) (hb : ED K tb σ H (.int j)) : ED K (tOp (rI0 fun i j => .int (i - j)) ta tb) σ H (.int (i - j)) := ed_op0 ha hb rfl
theorem ed_mul {i j : Int} (ha : ED K ta σ H (.int i)) (hb : ED K tb σ H (.int j)) (hc : CMul i j) : ED K (tOp (rI CMul fun i j => .int (i * j)) ta tb) σ H (.int (i * j)) := ed_opC ha hb hc rfl
theorem ed_mod {i j : Int} (ha : ED K ta σ H (.int i)) (hb : ED K tb σ H (.int j)) (hc : 0 < j) : ED K (tOp (rI (fun _ j => 0 < j) fun i j => .int (i % j)) ta tb) σ H (.int (i % j)) := ed_opC ha hb hc rfl
theorem ed_fdiv {i j : Int} (ha : ED K ta σ H (.int i)) (hb : ED K tb σ H (.int j)) (hc : CDiv i j) : ED K (tOp (rI CDiv fun i j => .int (i / j)) ta tb) σ H (.int (i / j)) := ed_opC ha hb hc rfl
/-- arguments -/
theorem eda_nil : EDA K tNil σ H [] := fun H1 x Q q => q [] H1 H (Sep.refl x) .nil
theorem EDA.mono' {tr : TA} : True := trivial
theorem eda_cons {tr : TA} (h : ED K te σ H d) (hr : ∀ G, Ex H G → EDA K tr σ G ds) : EDA K (tCons te tr) σ H (d :: ds) := fun H1 x Q q =>
  h H1 x _ fun v H2 G s g => hr G s.an H2 s.inn _ fun vs H3 G2 s2 g2 => q (v :: vs) H3 G2 (s.trans s2) (.cons (da_ex s2.an g) g2)
theorem ed_lst {t : TA} (h : EDA K t σ H ds) (hl : ds.length ≤ 100000) : ED K (tLst t) σ H (.list ds) := fun H1 x Q q =>
  h H1 x _ fun vs H2 G s g => ⟨by rw [daa_len g]; exact sz_of hl, fun p hp => by
    refine q (.ref p) _ (upd G p (.lst vs)) (s.trans (Sep.new s.inn hp)) (.lst upd_same (daa_ex (Ex.new (fresh_back s.inn hp)) g))⟩
theorem ed_tup {t : TA} (h : EDA K t σ H ds) (hl : ds.length ≤ 100000) : ED K (tTup t) σ H (.tuple ds) := fun H1 x Q q =>
  h H1 x _ fun vs H2 G s g => ⟨by rw [daa_len g]; exact sz_of hl, fun p hp => by
    refine q (.ref p) _ (upd G p (.tup vs)) (s.trans (Sep.new s.inn hp)) (.tup (st_of upd_same) (daa_ex (Ex.new (fresh_back s.inn hp)) g))⟩
/-- int(n) -/
theorem ed_toInt {i : Int} (h : ED K ta σ H (.int i)) : ED K (tCB (fun xs H Q => (∃ i, xs = [V.int i] ∧ Q (.int i) H) ∨ ∃ k, xs = [.bl k] ∧ Q (.int (if k then 1 else 0)) H) (tCons ta tNil)) σ H (.int i) := fun H1 x Q q =>
  ev_int h H1 x _ fun H2 x2 => .inl ⟨i, rfl, q (.int i) H2 H ⟨x2, Ex.refl H, x.trans x2, fun _ h _ => h⟩ (.int i)⟩
/-- xs[i], t[i] -/
theorem at_of {vs : List V} (g : DaAll K H vs ds) {n : Nat} (hd : ds[n]? = some d) : ∃ v, atI vs (n : Int) = some v ∧ Da K H v d := by
  obtain ⟨v, hv, gv⟩ := daa_get g n d hd
  exact ⟨v, atI_nat hv, gv⟩
theorem ed_ix {i : Int} {n : Nat} (ha : ED K ta σ H (.list ds)) (hb : ∀ G, Ex H G → ED K tb σ G (.int i)) (hi : i = n) (hd : ds[n]? = some d) : ED K (tOp (rIxL K) ta tb) σ H d := fun H1 x Q q =>
  ha H1 x _ fun v H2 G s g => ev_int (hb G s.an) H2 s.inn _ fun H3 x3 => by
    cases g with
    | @lst a xs _ e g =>
      obtain ⟨v, hv, gv⟩ := at_of g hd
      subst hi
      exact ⟨a, xs, n, v, rfl, rfl, sq_of (x3 _ _ (s.inn _ _ e)), hv, q v H3 G ⟨s.up.trans x3, s.an, s.inn.trans x3, s.sep⟩ gv⟩
theorem ed_ixT {i : Int} {n : Nat} (ha : ED K ta σ H (.tuple ds)) (hb : ∀ G, Ex H G → ED K tb σ G (.int i)) (hi : i = n) (hd : ds[n]? = some d) : ED K (tOp (rIxT K) ta tb) σ H d := fun H1 x Q q =>
  ha H1 x _ fun v H2 G s g => ev_int (hb G s.an) H2 s.inn _ fun H3 x3 => by
    cases g with
    | @tup a xs _ e g =>
      obtain ⟨v, hv, gv⟩ := at_of g hd
      subst hi
      exact ⟨a, xs, n, v, rfl, rfl, ex_t (s.inn.trans x3) e, hv, q v H3 G ⟨s.up.trans x3, s.an, s.inn.trans x3, s.sep⟩ gv⟩
/-- xs + ys -/
theorem ed_cat (ha : ED K ta σ H (.list ds)) (hb : ∀ G, Ex H G → ED K tb σ G (.list es)) (hl : ds.length + es.length ≤ 100000) : ED K (tOp rCat ta tb) σ H (.list (ds ++ es)) := fun H1 x Q q =>
  ha H1 x _ fun v H2 G s g => hb G s.an H2 s.inn _ fun w H3 G2 s2 g2 => by
    cases g with
    | @lst a xs _ e g =>
      cases g2 with
      | @lst b ys _ e2 g2 =>
        refine ⟨a, b, xs, ys, rfl, rfl, s2.up _ _ (s.inn _ _ e), s2.inn _ _ e2, by rw [daa_len g, daa_len g2]; exact sz_of hl, fun p hp => ?_⟩
        have np : G2 p = none := fresh_back s2.inn hp
        exact q (.ref p) _ (upd G2 p (.lst (xs ++ ys))) ((s.trans s2).trans (Sep.new s2.inn hp)) (.lst upd_same (daa_app (daa_ex (s2.an.trans (Ex.new np)) g) (daa_ex (Ex.new np) g2)))
/-- xs[a:b] -/
def cutD (ds : List PyData) (lo hi : Option Int) : List PyData := (ds.drop (HT.sIx ds.length 0 lo)).take (HT.sIx ds.length ds.length hi - HT.sIx ds.length 0 lo)
theorem daa_cut {vs : List V} (g : DaAll K H vs ds) (lo hi : Option Int) : DaAll K H (cutV vs lo hi) (cutD ds lo hi) := by
  unfold cutV cutD
  rw [daa_len g]
  exact daa_take _ (daa_drop _ g)
theorem ed_cut {tl th : TO} {lo hi : Option Int} (ha : ED K ta σ H (.list ds)) (h1 : ∀ G, Ex H G → EvO tl σ G lo) (h2 : ∀ G, Ex H G → EvO th σ G hi) : ED K (tSl (rSlL K) ta tl th) σ H (.list (cutD ds lo hi)) := fun H1 x Q q =>
  ha H1 x _ fun v H2 G s g => h1 G s.an H2 s.inn _ fun H3 x3 => h2 G s.an H3 (s.inn.trans x3) _ fun H4 x4 => by
    cases g with
    | @lst a xs _ e g =>
      have x34 := x3.trans x4
      refine ⟨a, xs, rfl, sq_of (x34 _ _ (s.inn _ _ e)), fun p hp => ?_⟩
      have s' : Sep H H1 H4 G := ⟨s.up.trans x34, s.an, s.inn.trans x34, s.sep⟩
      exact q (.ref p) _ (upd G p (.lst (cutV xs lo hi))) (s'.trans (Sep.new s'.inn hp)) (.lst upd_same (daa_ex (Ex.new (fresh_back s'.inn hp)) (daa_cut g lo hi)))
/-- tuple(xs) of a list -/
theorem ed_tuple (ha : ED K ta σ H (.list ds)) : ED K (tCB (fun xs H Q => ∃ p ys, xs = [V.ref p] ∧ ((SqL K H p ys ∧ ∀ l, H l = none → Q (.ref l) (upd H l (.tup ys))) ∨ (SqT K H p ys ∧ Q (.ref p) H))) (tCons ta tNil)) σ H (.tuple ds) := fun H1 x Q q =>
  ha H1 x _ fun v H2 G s g => by
    cases g with
    | @lst a xs _ e g =>
      refine ⟨a, xs, rfl, .inl ⟨sq_of (s.inn _ _ e), fun p hp => ?_⟩⟩
      exact q (.ref p) _ (upd G p (.tup xs)) (s.trans (Sep.new s.inn hp)) (.tup (st_of upd_same) (daa_ex (Ex.new (fresh_back s.inn hp)) g))
/-- s + t -/
theorem ed_adds {x y : Str} (ha : ED K ta σ H (.str x)) (hb : ED K tb σ H (.str y)) (hl : x.length + y.length ≤ sizeLine) :
    ED K (tOp (fun x y H Q => ∃ i j, x = V.str i ∧ y = V.str j ∧ i.length + j.length ≤ sizeLine ∧ Q (.str (i ++ j)) H) ta tb) σ H (.str (x ++ y)) := fun H1 x1 Q q =>
  ev_str ha H1 x1 _ fun H2 x2 => ev_str hb H2 (x1.trans x2) _ fun H3 x3 => ⟨x, y, rfl, rfl, hl, q _ H3 H ⟨x2.trans x3, Ex.refl H, (x1.trans x2).trans x3, fun _ h _ => h⟩ (.str _)⟩
/-- sep.join(xs) -/
theorem ed_join {z : Str} {ys : List Str} (ha : ED K ta σ H (.str z)) (hb : ∀ G, Ex H G → ED K tb σ G (.list (ys.map .str))) (hl : (ys.map (·.length)).sum + ys.length * z.length ≤ 16777216) :
    ED K (tM1 (fun x xs H Q => ∃ a p, ∃ ys : List Str, x = V.str a ∧ xs = [V.ref p] ∧ (SqL K H p (ys.map V.str) ∨ SqT K H p (ys.map V.str)) ∧ (ys.map (·.length)).sum + ys.length * a.length ≤ 16777216 ∧ Q (.str (Txt.join a ys)) H) ta tb) σ H (.str (Txt.join z ys)) := fun H1 x1 Q q =>
  ev_str ha H1 x1 _ fun H2 x2 => ⟨⟨z, rfl⟩, hb H (Ex.refl H) H2 (x1.trans x2) _ fun v H3 G s g => by
    cases g with
    | @lst a xs _ e g =>
      have ex := daa_strsV g
      subst ex
      exact ⟨z, a, ys, rfl, rfl, .inl (sq_of (s.inn _ _ e)), hl, q _ H3 G ⟨x2.trans s.up, s.an, s.inn, fun b h h1 => s.sep b h fun zz => by
        cases qq : H1 b with
        | none => exact h1 qq
        | some o =>
          rw [x2 b o qq] at zz
          cases zz⟩ (.str _)⟩⟩
/-- len(xs) -/
def rLenS2 (K : PySem.W.Frag) : List V → Hp → VK → Prop := fun xs H Q => ∃ p ys, xs = [.ref p] ∧ (SqL K H p ys ∨ SqT K H p ys) ∧ Q (.int ys.length) H
theorem ed_len (ha : ED K ta σ H (.list ds)) : ED K (tCB (fun xs H Q => ∃ p ys, xs = [V.ref p] ∧ (SqL K H p ys ∨ SqT K H p ys) ∧ Q (.int ys.length) H) (tCons ta tNil)) σ H (.int ds.length) := fun H1 x Q q =>
  ha H1 x _ fun v H2 G s g => by
    cases g with
    | @lst a xs _ e g =>
      refine ⟨a, xs, rfl, .inl (sq_of (s.inn _ _ e)), ?_⟩
      rw [daa_len g]
      exact q _ H2 G s (.int _)
/-- a def's promise -/
def spF (K : PySem.W.Frag) (R : List PyData → PyData → Prop) : Sp := fun vs H1 Q _ => ∃ G0 ds d, Ex G0 H1 ∧ DaAll K G0 vs ds ∧ R ds d ∧ ∀ v H2 G, Sep G0 H1 H2 G → Da K G v d → Q v H2
theorem ed_call {R : List PyData → PyData → Prop} {E : XK} {t : TA} (h : EDA K t σ H ds) (hr : R ds d) : ED K (tCall (spF K R) [] E t) σ H d := fun H1 x Q q =>
  h H1 x _ fun vs H2 G s g => ⟨G, ds, d, s.inn, by rw [List.append_nil]; exact g, hr, fun v H3 G2 s2 g2 => q v H3 G2 (s.trans s2) g2⟩
theorem spF_len {R : List PyData → PyData → Prop} {n : Nat} (h : ∀ ds d, R ds d → ds.length = n) : ∀ vs H Q E, spF K R vs H Q E → vs.length = n := by
  rintro vs H Q E ⟨G0, ds, d, _, g, hr, _⟩
  rw [daa_len g]
  exact h ds d hr
end
/-! statements: the anchor G, the heap H over it -/
section
variable {K : PySem.W.Frag} {σ : L2.St} {G H : Hp} {ta tb te : TE} {d : PyData} {ds : List PyData} {D : Ends} {tu tz : TS}
theorem d_asg {i : Nat} (h : ED K te σ G d) (x : Ex G H) (k : ∀ v H2 G2, Sep G H H2 G2 → Da K G2 v d → tz D (σ.set i (some v)) H2) : tSeq (tAsg te (gName i)) tz D σ H := h H x _ k
theorem d_asg1 {i : Nat} (h : ED K te σ G d) (x : Ex G H) (k : ∀ v H2 G2, Sep G H H2 G2 → Da K G2 v d → D.nx (σ.set i (some v)) H2) : tAsg te (gName i) D σ H := h H x _ k
theorem d_ret (h : ED K te σ G d) (x : Ex G H) (k : ∀ v H2 G2, Sep G H H2 G2 → Da K G2 v d → D.rt v H2) : tRet te D σ H := h H x _ k
/-- xs.append(e), xs outside the anchor, its items within -/
theorem d_app {l : Addr} {xs : List V} {i : Nat} (hG : G l = none) (hl : H l = some (.lst xs)) (hx : DaAll K G xs ds) (hi : σ[i]? = some (some (.ref l))) (h : ED K te σ G d) (x : Ex G H) (hz : xs.length < 100000)
    (k : ∀ v H2 G2, Sep G H H2 G2 → G2 l = none → Da K G2 v d → DaAll K G2 (xs ++ [v]) (ds ++ [d]) → Ex G2 (upd H2 l (.lst (xs ++ [v]))) → tz D σ (upd H2 l (.lst (xs ++ [v])))) :
    tSeq (tDrop (tBM K "list" rAppend (tVar i) (tCons te tNil))) tz D σ H :=
  ⟨_, hi, .inl ⟨rfl, xs, sq_of hl⟩, h H x _ fun v H2 G2 s g => by
    obtain ⟨o1, o2⟩ := s.out hG hl
    exact ⟨l, xs, v, rfl, rfl, o2, sz_lt hz, k v H2 G2 s o1 g (daa_app (daa_ex s.an hx) (.cons g .nil)) (Ex.mut s.inn o1)⟩⟩
theorem d_app1 {l : Addr} {xs : List V} {i : Nat} (hG : G l = none) (hl : H l = some (.lst xs)) (hx : DaAll K G xs ds) (hi : σ[i]? = some (some (.ref l))) (h : ED K te σ G d) (x : Ex G H) (hz : xs.length < 100000)
    (k : ∀ v H2 G2, Sep G H H2 G2 → G2 l = none → Da K G2 v d → DaAll K G2 (xs ++ [v]) (ds ++ [d]) → Ex G2 (upd H2 l (.lst (xs ++ [v]))) → D.nx σ (upd H2 l (.lst (xs ++ [v])))) :
    tDrop (tBM K "list" rAppend (tVar i) (tCons te tNil)) D σ H := d_app (tz := tNext) hG hl hx hi h x hz k
/-- a new empty list, kept outside the anchor -/
theorem d_new {i : Nat} (x : Ex G H) (k : ∀ p, H p = none → G p = none → Ex G (upd H p (.lst [])) → Ex H (upd H p (.lst [])) → tz D (σ.set i (some (.ref p))) (upd H p (.lst []))) : tSeq (tAsg (tLst tNil) (gName i)) tz D σ H :=
  ⟨Nat.zero_le _, fun p hp => k p hp (fresh_back x hp) (Ex.mut x (fresh_back x hp)) (Ex.new hp)⟩
/-- if -/
theorem d_if {t : TT} {tw : TS} {b : Bool} (h : EvT t σ G b) (x : Ex G H) (h1 : b = true → ∀ H1, Ex H H1 → tu { D with nx := tz D } σ H1) (h2 : b = false → ∀ H1, Ex H H1 → tw { D with nx := tz D } σ H1) : tSeq (tIfS t tu tw) tz D σ H := h H x _ fun H1 e => by
  cases b with
  | true => exact h1 rfl H1 e
  | false => exact h2 rfl H1 e
theorem d_if1 {t : TT} {tw : TS} {b : Bool} (h : EvT t σ G b) (x : Ex G H) (h1 : b = true → ∀ H1, Ex H H1 → tu D σ H1) (h2 : b = false → ∀ H1, Ex H H1 → tw D σ H1) : tIfS t tu tw D σ H := h H x _ fun H1 e => by
  cases b with
  | true => exact h1 rfl H1 e
  | false => exact h2 rfl H1 e
/-- for i in range(n) -/
theorem d_range {j : Nat} {n : Int} (h : ED K te σ G (.int n)) (x : Ex G H) (hn : 0 ≤ n ∧ n ≤ 100000) (Pv : Nat → L2.St → Hp → Prop) (h0 : ∀ H1, Ex H H1 → Pv 0 σ H1)
    (hs : ∀ (i : Nat) σ' H', (i : Int) < n → Pv i σ' H' → tu { D with nx := Pv (i + 1), ct := Pv (i + 1), bk := tz D } (σ'.set j (some (.int (i : Int)))) H') (hd : ∀ σ' H', Pv n.toNat σ' H' → tz D σ' H') : tSeq (tFor (iRng1 (tCons te tNil)) (gName j) tu) tz D σ H := by
  have e : EvA (tCons te tNil) σ G [.int n] := ea_cons (ev_int h) ea_nil
  exact q_forR1 (EvA.mono x e) hn Pv h0 hs hd
end
end Tw

set_option Elab.async false
set_option linter.all false
set_option maxRecDepth 100000
set_option maxHeartbeats 4000000
namespace Tw
open PySem PySem.Spec PyProof.Rows L2 Evl
/-! comprehensions -/
theorem et_yes {σ : L2.St} {H : Hp} : EvT tYes σ H true := fun H1 _ Q q => q H1 (Ex.refl H1)
def Lw (K : PySem.W.Frag) (A H2 : Hp) (D : Addr) (out : Nat → List PyData) (i : Nat) (H' : Hp) : Prop :=
  H2 D = none ∧ ∃ G acc, Sep A H2 H' G ∧ G D = none ∧ H' D = some (.lst acc) ∧ DaAll K G acc (out i) ∧ acc.length ≤ i
theorem Lw.start {K : PySem.W.Frag} {A H2 : Hp} {D : Addr} {out : Nat → List PyData} (x : Ex A H2) (hD : H2 D = none) (h0 : out 0 = []) : Lw K A H2 D out 0 (upd H2 D (.lst [])) :=
  ⟨hD, A, [], ⟨Ex.new hD, Ex.refl A, Ex.mut x (fresh_back x hD), fun _ h _ => h⟩, fresh_back x hD, upd_same, by rw [h0]; exact .nil, Nat.le_refl 0⟩
theorem Lw.turn {K : PySem.W.Frag} {A H2 H' : Hp} {D : Addr} {out : Nat → List PyData} {i : Nat} {t : TT} {te : TE} {σ2 : L2.St} {f : Bool} {e : PyData} (p : Lw K A H2 D out i H') (hi : i < 50000)
    (ht : ∀ G, Ex A G → EvT t σ2 G f) (he : f = true → ∀ G, Ex A G → ED K te σ2 G e) (ho : out (i + 1) = if f = true then out i ++ [e] else out i) :
    t σ2 H' fun b H3 => if b = true then te σ2 H3 fun y H4 => ∃ acc, H4 D = some (.lst acc) ∧ acc.length < sizeLine ∧ Lw K A H2 D out (i + 1) (upd H4 D (.lst (acc ++ [y]))) else Lw K A H2 D out (i + 1) H3 := by
  obtain ⟨hD, G, acc, s, gD, hacc, ga, la⟩ := p
  refine ht G s.an H' s.inn _ fun H3 x3 => ?_
  cases f with
  | true =>
    rw [if_pos rfl] at ho
    show te σ2 H3 fun y H4 => ∃ acc, H4 D = some (.lst acc) ∧ acc.length < sizeLine ∧ Lw K A H2 D out (i + 1) (upd H4 D (.lst (acc ++ [y])))
    refine he rfl G s.an H3 (s.inn.trans x3) _ fun v H4 G4 s4 g4 => ?_
    obtain ⟨o1, o2⟩ := s4.out gD (x3 _ _ hacc)
    refine ⟨acc, o2, sz_lt (by omega), hD, G4, acc ++ [v], ⟨Ex.mut ((s.up.trans x3).trans s4.up) hD, s.an.trans s4.an, Ex.mut s4.inn o1, fun b h h1 => ?_⟩, o1, upd_same, ?_, by rw [List.length_append]; exact Nat.add_le_add_right la 1⟩
    · refine s4.sep b (s.sep b h h1) fun z => ?_
      cases q : H2 b with
      | none => exact h1 q
      | some o =>
        rw [(s.up.trans x3) b o q] at z
        cases z
    · rw [ho]
      exact daa_app (daa_ex s4.an ga) (.cons g4 .nil)
  | false =>
    rw [if_neg Bool.false_ne_true] at ho
    show Lw K A H2 D out (i + 1) H3
    refine ⟨hD, G, acc, ⟨s.up.trans x3, s.an, s.inn.trans x3, s.sep⟩, gD, x3 _ _ hacc, ?_, Nat.le_succ_of_le la⟩
    rw [ho]
    exact ga
theorem Lw.stop {K : PySem.W.Frag} {A H2 H' : Hp} {D : Addr} {out : Nat → List PyData} {n : Nat} (p : Lw K A H2 D out n H') : ∃ G, Sep A H2 H' G ∧ Da K G (.ref D) (.list (out n)) := by
  obtain ⟨hD, G, acc, s, gD, hacc, ga, _⟩ := p
  refine ⟨upd G D (.lst acc), ⟨s.up, s.an.trans (Ex.new gD), fun b u hb => ?_, fun b h h1 => ?_⟩, .lst upd_same (daa_ex (Ex.new gD) ga)⟩
  · by_cases q : b = D
    · subst q
      rw [upd_same] at hb
      rw [← hb]
      exact hacc
    · rw [upd_ne q] at hb
      exact s.inn b u hb
  · have q : b ≠ D := fun z => by
      rw [z] at h1
      exact h1 hD
    rw [upd_ne q]
    exact s.sep b h h1
theorem take_one {α : Type} {l : List α} {i : Nat} {x : α} (h : l[i]? = some x) : l.take (i + 1) = l.take i ++ [x] := by
  rw [List.take_add_one, h]
  rfl
theorem filt_step {l : List PyData} {p : PyData → Bool} {g : PyData → PyData} {i : Nat} {x : PyData} (h : l[i]? = some x) :
    ((l.take (i + 1)).filter p).map g = if p x = true then ((l.take i).filter p).map g ++ [g x] else ((l.take i).filter p).map g := by
  rw [take_one h, List.filter_append, List.map_append]
  by_cases q : p x = true
  · rw [if_pos q, List.filter_cons, if_pos q]
    rfl
  · rw [if_neg q, List.filter_cons, if_neg q]
    show _ ++ [] = _
    rw [List.append_nil]
section
variable {K : PySem.W.Frag} {σ : L2.St} {H : Hp} {ta te tl : TE} {t : TT} {ds : List PyData} {j : Nat} {vs : List Nat}
theorem lc_fin {A H2 H1 : Hp} {D : Addr} {out : Nat → List PyData} {n : Nat} {Q : VK} {H' : Hp} (s : Sep H H1 H2 A) (q : ∀ v H2 G, Sep H H1 H2 G → Da K G v (.list (out n)) → Q v H2) (p : Lw K A H2 D out n H') : Q (.ref D) H' := by
  obtain ⟨G, s2, g⟩ := p.stop
  exact q _ _ G (s.trans s2) g
/-- [e for i in range(n) if t] -/
theorem ed_lcRf {n : Int} (f : Nat → Bool) (g : Nat → PyData) (h : ED K ta σ H (.int n)) (hn : 0 ≤ n ∧ n ≤ 40000) (hw : ∀ x, wipe ((wipe σ vs).set j (some x)) vs = wipe σ vs)
    (ht : ∀ (i : Nat) G, Ex H G → (i : Int) < n → EvT t ((wipe σ vs).set j (some (.int (i : Int)))) G (f i)) (he : ∀ (i : Nat) G, Ex H G → (i : Int) < n → f i = true → ED K te ((wipe σ vs).set j (some (.int (i : Int)))) G (g i)) :
    ED K (tLc (iRng1 (tCons ta tNil)) (gName j) t te vs) σ H (.list (((List.range n.toNat).filter f).map g)) := fun H1 x Q q =>
  ev_int h H1 x _ fun H2 x2 => ⟨n, rfl, by omega, by omega, fun D hD => by
    have s0 : Sep H H1 H2 H := ⟨x2, Ex.refl H, x.trans x2, fun _ h _ => h⟩
    refine lc_range (lo := 0) (n := n.toNat) (Lw K H H2 D fun i => ((List.range i).filter f).map g) (Lw.start (x.trans x2) hD rfl) (fun i H' hi p => ?_) fun H' p => lc_fin s0 q p
    have e0 : (0 : Int) + (i : Int) = (i : Int) := Int.zero_add _
    show wipe ((wipe σ vs).set j (some (.int ((0 : Int) + (i : Int))))) vs = wipe σ vs ∧ t ((wipe σ vs).set j (some (.int ((0 : Int) + (i : Int))))) H' fun b H3 => if b = true then te ((wipe σ vs).set j (some (.int ((0 : Int) + (i : Int))))) H3 fun y H4 => ∃ acc, H4 D = some (.lst acc) ∧ acc.length < sizeLine ∧ Lw K H H2 D (fun i => ((List.range i).filter f).map g) (i + 1) (upd H4 D (.lst (acc ++ [y]))) else Lw K H H2 D (fun i => ((List.range i).filter f).map g) (i + 1) H3
    rw [e0]
    refine ⟨hw _, p.turn (by omega) (fun G xg => ht i G xg (by omega)) (fun hf G xg => he i G xg (by omega) hf) ?_⟩
    show ((List.range (i + 1)).filter f).map g = _
    rw [List.range_succ, List.filter_append, List.map_append]
    by_cases z : f i = true
    · rw [if_pos z, List.filter_cons, if_pos z]
      rfl
    · rw [if_neg z, List.filter_cons, if_neg z]
      show _ ++ [] = _
      rw [List.append_nil]⟩
theorem ed_lcR {n : Int} (g : Nat → PyData) (h : ED K ta σ H (.int n)) (hn : 0 ≤ n ∧ n ≤ 40000) (hw : ∀ x, wipe ((wipe σ vs).set j (some x)) vs = wipe σ vs)
    (he : ∀ (i : Nat) G, Ex H G → (i : Int) < n → ED K te ((wipe σ vs).set j (some (.int (i : Int)))) G (g i)) :
    ED K (tLc (iRng1 (tCons ta tNil)) (gName j) tYes te vs) σ H (.list ((List.range n.toNat).map g)) := by
  have h1 := ed_lcRf (t := tYes) (fun _ => true) g h hn hw (fun _ _ _ _ => et_yes) (fun i G x hi _ => he i G x hi)
  rw [List.filter_eq_self.mpr fun _ _ => rfl] at h1
  exact h1
/-- [e for x in xs if t] -/
theorem ed_lcLf (p : PyData → Bool) (g : PyData → PyData) (h : ED K tl σ H (.list ds)) (hz : ds.length ≤ 40000) (hw : ∀ x, wipe ((wipe σ vs).set j (some x)) vs = wipe σ vs)
    (ht : ∀ d v G, d ∈ ds → Ex H G → Da K G v d → EvT t ((wipe σ vs).set j (some v)) G (p d)) (he : ∀ d v G, d ∈ ds → Ex H G → Da K G v d → p d = true → ED K te ((wipe σ vs).set j (some v)) G (g d)) :
    ED K (tLc (iList K tl) (gName j) t te vs) σ H (.list ((ds.filter p).map g)) := fun H1 x Q q =>
  h H1 x _ fun v H2 A s gv => by
    cases gv with
    | @lst a xs _ ea ga =>
      refine ⟨a, rfl, ⟨xs, sq_of (s.inn _ _ ea)⟩, fun D hD => ?_⟩
      have hlen := daa_len ga
      refine lc_list (K := K) (a := a) (xs := xs) (Lw K A H2 D fun i => ((ds.take i).filter p).map g) (Lw.start s.inn hD (by rw [List.take_zero]; rfl)) (fun i H' _ pw => ?_) (fun i y H' hi pw => ?_) fun H' pw => ?_
      · obtain ⟨_, G, acc, s2, _⟩ := pw
        exact sq_of (s2.up _ _ (s.inn _ _ ea))
      · obtain ⟨d, hd, gd⟩ := daa_getV ga i y hi
        have hm : d ∈ ds := List.mem_of_getElem? hd
        have hlt := (List.getElem?_eq_some_iff.mp hi).1
        refine ⟨hw y, pw.turn (by omega) (fun G xg => ht d y G hm (s.an.trans xg) (da_ex xg gd)) (fun hf G xg => he d y G hm (s.an.trans xg) (da_ex xg gd) hf) ?_⟩
        exact filt_step hd
      · have e : ds.take xs.length = ds := List.take_of_length_le (by omega)
        refine lc_fin (out := fun i => ((ds.take i).filter p).map g) s (fun v H2 G s2 g2 => q v H2 G s2 ?_) pw
        have g3 : Da K G v (.list (((ds.take xs.length).filter p).map g)) := g2
        rw [e] at g3
        exact g3
theorem ed_lcL (g : PyData → PyData) (h : ED K tl σ H (.list ds)) (hz : ds.length ≤ 40000) (hw : ∀ x, wipe ((wipe σ vs).set j (some x)) vs = wipe σ vs)
    (he : ∀ d v G, d ∈ ds → Ex H G → Da K G v d → ED K te ((wipe σ vs).set j (some v)) G (g d)) :
    ED K (tLc (iList K tl) (gName j) tYes te vs) σ H (.list (ds.map g)) := by
  have h1 := ed_lcLf (t := tYes) (fun _ => true) g h hz hw (fun _ _ _ _ _ _ => et_yes) (fun d v G hm x gd _ => he d v G hm x gd)
  rw [List.filter_eq_self.mpr fun _ _ => rfl] at h1
  exact h1
theorem ed_lcT (g : PyData → PyData) (h : ED K tl σ H (.tuple ds)) (hz : ds.length ≤ 40000) (hw : ∀ x, wipe ((wipe σ vs).set j (some x)) vs = wipe σ vs)
    (he : ∀ d v G, d ∈ ds → Ex H G → Da K G v d → ED K te ((wipe σ vs).set j (some v)) G (g d)) :
    ED K (tLc (iTup K tl) (gName j) tYes te vs) σ H (.list (ds.map g)) := fun H1 x Q q =>
  h H1 x _ fun v H2 A s gv => by
    cases gv with
    | @tup a xs _ ea ga =>
      refine ⟨a, rfl, ⟨xs, ex_t s.inn ea⟩, fun D hD => ?_⟩
      have hlen := daa_len ga
      refine lc_tup (K := K) (a := a) (xs := xs) (Lw K A H2 D fun i => (ds.take i).map g) (Lw.start s.inn hD (by rw [List.take_zero]; rfl)) (fun i H' _ pw => ?_) (fun i y H' hi pw => ?_) fun H' pw => ?_
      · obtain ⟨_, G, acc, s2, _⟩ := pw
        exact ex_t (s.inn.trans s2.up) ea
      · obtain ⟨d, hd, gd⟩ := daa_getV ga i y hi
        have hm : d ∈ ds := List.mem_of_getElem? hd
        have hlt := (List.getElem?_eq_some_iff.mp hi).1
        refine ⟨hw y, pw.turn (f := true) (e := g d) (by omega) (fun G xg => et_yes) (fun hf G xg => he d y G hm (s.an.trans xg) (da_ex xg gd)) ?_⟩
        show (ds.take (i + 1)).map g = if true = true then (ds.take i).map g ++ [g d] else (ds.take i).map g
        rw [if_pos rfl, take_one hd, List.map_append]
        rfl
      · have e : ds.take xs.length = ds := List.take_of_length_le (by omega)
        refine lc_fin (out := fun i => (ds.take i).map g) s (fun v H2 G s2 g2 => q v H2 G s2 ?_) pw
        have g3 : Da K G v (.list ((ds.take xs.length).map g)) := g2
        rw [e] at g3
        exact g3
end
/-! a list or a tuple walked -/
def iSeq (K : PySem.W.Frag) (tl : TE) : TI := fun σ H R => tl σ H fun x H1 => ∃ a, x = .ref a ∧ (((∃ xs, SqL K H1 a xs) ∧ R (Itl K a) H1) ∨ ((∃ xs, SqT K H1 a xs) ∧ R (Itt K a) H1))
theorem pi_seq {X : Cx} {tg l : Expr} {tl : TE} (hl : PE X l tl) : PI X tg l (iSeq X.K tl) := by
  constructor
  intro pn s σ H R I h
  refine thn (hl.run pn s σ H _ I h) ?_
  rintro v s1 ⟨x, H1, J, rx, a, ex, q⟩
  cases ex
  cases rx
  have fresh : ∀ b ∈ [s1.heap.objs.size], FpOk X pn H1 b := by
    intro b hb
    cases List.mem_singleton.mp hb
    exact J.fpOk (Nat.le_refl _) (J.hok.fresh (Nat.le_refl _))
  rcases q with ⟨⟨xs, hx⟩, q⟩ | ⟨⟨xs, hx⟩, q⟩
  · obtain ⟨its, rv, pl, _⟩ := J.list hx
    refine wpAny_pyIter_list pl.isList ⟨_, _, _, _, H1, rfl, ?_, turn_list a s1.heap.objs.size, ?_, fresh, q⟩
    · exact J.kept (t' := s1.toks) fun c u z => Heap.get?_push_of_some _ z
    · exact ⟨_, Heap.get?_push_size _ rfl, rfl, rfl⟩
  · obtain ⟨its, rv, pl, _⟩ := J.tuple hx
    refine wpAny_pyIter_tuple (show s1.heap.IsTuple a its.toArray from pl) ⟨_, _, _, _, H1, rfl, ?_, turn_tuple a s1.heap.objs.size, ?_, fresh, q⟩
    · exact J.kept (t' := s1.toks) fun c u z => Heap.get?_push_of_some _ z
    · exact ⟨_, Heap.get?_push_size _ rfl, rfl, rfl⟩
section
variable {K : PySem.W.Frag} {σ : L2.St} {H : Hp} {te tl : TE} {d : PyData} {ds : List PyData} {j : Nat} {vs : List Nat}
theorem ed_lcS (g : PyData → PyData) (h : ED K tl σ H d) (hd : d = .list ds ∨ d = .tuple ds) (hz : ds.length ≤ 40000) (hw : ∀ x, wipe ((wipe σ vs).set j (some x)) vs = wipe σ vs)
    (he : ∀ d v G, d ∈ ds → Ex H G → Da K G v d → ED K te ((wipe σ vs).set j (some v)) G (g d)) :
    ED K (tLc (iSeq K tl) (gName j) tYes te vs) σ H (.list (ds.map g)) := fun H1 x Q q => by
  rcases hd with rfl | rfl
  · have h2 : ED K (tLc (iList K tl) (gName j) tYes te vs) σ H (.list (ds.map g)) := ed_lcL g h hz hw he
    -- the value first, then the walk of a list
    refine h H1 x _ fun v H2 A s gv => ?_
    cases gv with
    | @lst a xs _ ea ga =>
      have h3 : ED K (tLc (iList K (tC (.ref a))) (gName j) tYes te vs) σ A (.list (ds.map g)) := ed_lcL g (ed_ev ev_c (.lst ea ga)) hz hw fun d v G hm xg gd => he d v G hm (s.an.trans xg) gd
      have h4 := h3 H2 s.inn Q fun v H3 G s3 g3 => q v H3 G (s.trans s3) g3
      obtain ⟨b, eb, hx, r⟩ := h4
      cases eb
      exact ⟨a, rfl, .inl ⟨hx, r⟩⟩
  · refine h H1 x _ fun v H2 A s gv => ?_
    cases gv with
    | @tup a xs _ ea ga =>
      have h3 : ED K (tLc (iTup K (tC (.ref a))) (gName j) tYes te vs) σ A (.list (ds.map g)) := ed_lcT g (ed_ev ev_c (.tup ea ga)) hz hw fun d v G hm xg gd => he d v G hm (s.an.trans xg) gd
      have h4 := h3 H2 s.inn Q fun v H3 G s3 g3 => q v H3 G (s.trans s3) g3
      obtain ⟨b, eb, hx, r⟩ := h4
      cases eb
      exact ⟨a, rfl, .inr ⟨hx, r⟩⟩
end
/-! str(x) of an int or a text -/
def rStrX : List V → Hp → VK → Prop := fun xs H Q => (∃ i, xs = [.int i] ∧ i.natAbs.log2 < 1920 ∧ Q (.str (toString i)) H) ∨ ∃ a, xs = [.str a] ∧ Q (.str a) H
theorem call_strX {X : Cx} : CallR X (.type "str") rStrX := by
  intro pins s σ H xs us Q I r h
  rcases h with ⟨i, h1, h2, q⟩ | ⟨a, h1, q⟩
  · exact call_str_int pins s σ H xs us Q I r ⟨i, h1, h2, q⟩
  · exact SkE.call_str_str pins s σ H xs us Q I r ⟨a, h1, q⟩
section
variable {K : PySem.W.Frag} {σ : L2.St} {H : Hp} {ta : TE}
theorem ed_strI {i : Int} (h : ED K ta σ H (.int i)) (hi : i.natAbs.log2 < 1920) : ED K (tCB rStrX (tCons ta tNil)) σ H (.str (toString i)) := fun H1 x Q q =>
  ev_int h H1 x _ fun H2 x2 => .inl ⟨i, rfl, hi, q _ H2 H ⟨x2, Ex.refl H, x.trans x2, fun _ h _ => h⟩ (.str _)⟩
theorem ed_strS {a : Str} (h : ED K ta σ H (.str a)) : ED K (tCB rStrX (tCons ta tNil)) σ H (.str a) := fun H1 x Q q =>
  ev_str h H1 x _ fun H2 x2 => .inr ⟨a, rfl, q _ H2 H ⟨x2, Ex.refl H, x.trans x2, fun _ h _ => h⟩ (.str _)⟩
end
end Tw

set_option Elab.async false
set_option linter.all false
set_option maxRecDepth 100000
set_option maxHeartbeats 4000000
namespace Tw
open PySem PySem.Spec PyProof.Rows L2 Evl
/-! the law's own promise; the drawn numbers -/
def spLaw (K : PySem.W.Frag) : Sp := fun vs H Q _ => ∃ (a : Addr) (ns : List Int), vs = [.ref a] ∧ SqL K H a (ns.map V.int) ∧ ns.length ≤ 63 ∧ ∀ H', Q (.bl true) H'
theorem spLaw_len {K : PySem.W.Frag} : ∀ vs H Q E, spLaw K vs H Q E → vs.length = 1 := by
  rintro vs H Q E ⟨a, ns, rfl, _⟩
  rfl
/-- so many, from 0 to 999 -/
def Drawn (n : Nat) (ds : List Int) : Prop := ds.length = n ∧ ∀ d ∈ ds, 0 ≤ d ∧ d < 1000
theorem Drawn.get {n : Nat} {ds : List Int} (h : Drawn n ds) {i : Nat} (hi : i < n) : ∃ d, ds[i]? = some d ∧ 0 ≤ d ∧ d < 1000 := by
  have hl : i < ds.length := by rw [h.1]; exact hi
  exact ⟨ds[i], List.getElem?_eq_getElem hl, h.2 _ (List.getElem_mem hl)⟩
theorem Drawn.getD {n : Nat} {ds : List Int} (h : Drawn n ds) {i : Nat} (hi : i < n) : ds[i]? = some (ds.getD i 0) ∧ 0 ≤ ds.getD i 0 ∧ ds.getD i 0 < 1000 := by
  obtain ⟨d, hd, h0, h1⟩ := h.get hi
  have e : ds.getD i 0 = d := by rw [List.getD_eq_getElem?_getD, hd]; rfl
  rw [e]
  exact ⟨hd, h0, h1⟩
def spDraws (K : PySem.W.Frag) : Sp := fun vs H Q _ => ∃ (a : Addr) (ns : List Int) (n : Nat), vs = [.ref a, .int (n : Int)] ∧ SqL K H a (ns.map V.int) ∧ ns.length ≤ 63 ∧ n ≤ 1000 ∧
  ∀ ds p H2, Drawn n ds → H p = none → Ex H H2 → H2 p = some (.lst (ds.map V.int)) → Q (.ref p) H2
def WD (H : Hp) (a : Addr) (n m : Nat) (R L : Addr) (i : Nat) (σ' : L2.St) (H' : Hp) : Prop := ∃ (x3 x5 x6 x7 x8 : Option V) (rs ds : List Int), σ' = [some (.ref a), some (.int (n : Int)), some (.ref R), x3, some (.ref L), x5, x6, x7, x8] ∧
  Ex H H' ∧ H' R = some (.lst (rs.map V.int)) ∧ H' L = some (.lst (ds.map V.int)) ∧ rs.length = m ∧ Drawn i ds
theorem ev_toInt {te : TE} {σ : L2.St} {H : Hp} {i : Int} (h : Ev te σ H (.int i)) : Ev (tCB (fun xs H Q => (∃ i, xs = [V.int i] ∧ Q (.int i) H) ∨ ∃ k, xs = [.bl k] ∧ Q (.int (if k then 1 else 0)) H) (tCons te tNil)) σ H (.int i) := fun H1 x Q q =>
  h H1 x _ fun H2 x2 => .inl ⟨i, rfl, q H2 x2⟩
theorem mod1000 (x : Int) : 0 ≤ x % 1000 ∧ x % 1000 < 1000 := ⟨Int.emod_nonneg x (by decide), Int.emod_lt_of_pos x (by decide)⟩
theorem at_int {rs : List Int} {j : Nat} (h : j < rs.length) : atI (rs.map V.int) (j : Int) = some (.int rs[j]) := atI_nat (by rw [List.getElem?_map, List.getElem?_eq_getElem h]; rfl)
theorem given_all (l : List V) : given l.length (fun _ => true) (fun i => l.getD i .non) = l := by
  unfold given
  rw [List.filter_eq_self.mpr fun _ _ => rfl]
  apply List.ext_getElem?
  intro i
  rw [List.getElem?_map]
  by_cases hi : i < l.length
  · rw [List.getElem?_range hi, List.getElem?_eq_getElem hi]
    show some (l.getD i .non) = _
    rw [List.getD_eq_getElem?_getD, List.getElem?_eq_getElem hi]
    rfl
  · rw [List.getElem?_eq_none (by rw [List.length_range]; omega), List.getElem?_eq_none (by omega)]
    rfl
section
variable {K : PySem.W.Frag} {σ : L2.St} {G H : Hp} {ta tb te : TE} {d : PyData} {ds : List PyData} {D : Ends} {tu tz : TS}
/-- draws = _law_draws(script, n) -/
theorem d_draws {a : Addr} {ns : List Int} {n : Nat} {i : Nat} {m : Int} {E : XK} (hm : m = (n : Int)) (h0 : σ[0]? = some (some (.ref a))) (hS : SqL K H a (ns.map V.int)) (hl : ns.length ≤ 63) (hn : n ≤ 1000)
    (k : ∀ ds p H2, Drawn n ds → Ex H H2 → Da K H2 (.ref p) (.list (ds.map .int)) → tz D (σ.set i (some (.ref p))) H2) : tSeq (tAsg (tCall (spDraws K) [] E (tCons (tVar 0) (tCons (tC (.int m)) tNil))) (gName i)) tz D σ H := by
  subst hm
  exact ⟨_, h0, a, ns, n, rfl, hS, hl, hn, fun ds p H2 dr hp e h2 => k ds p H2 dr e (.lst h2 (daa_ints ds))⟩
/-- a, b, .. = e -/
theorem d_unp {n : Nat} {gs : TGs} (h : ED K te σ G (.tuple ds)) (x : Ex G H) (hn : ds.length = n) (k : ∀ vs H2 G2, Sep G H H2 G2 → DaAll K G2 vs ds → gs vs σ H2 (tz D)) : tSeq (tAsg te (gTup K n gs)) tz D σ H := h H x _ fun v H2 G2 s g => by
  cases g with
  | @tup a xs _ e g =>
    exact ⟨a, xs, rfl, ex_t s.inn e, by rw [daa_len g]; exact hn, k xs H2 G2 s g⟩
/-- repr(e) -/
theorem ed_repr (h : ED K te σ G d) (hc : ∃ es, d = .list es ∨ d = .tuple es) (h1 : d.showable = true) (h2 : d.hasDict = false) (h3 : d.depth ≤ 60) (h4 : d.shown.length ≤ sizeLine) : ED K (tCB (rRepr K) (tCons te tNil)) σ G (.str d.shown) := fun H1 x Q q =>
  h H1 x _ fun v H2 G2 s g => by
    obtain ⟨es, hc⟩ := hc
    have hv : ∃ a, v = .ref a := by
      rcases hc with rfl | rfl
      · cases g
        exact ⟨_, rfl⟩
      · cases g
        exact ⟨_, rfl⟩
    obtain ⟨a, rfl⟩ := hv
    exact ⟨a, d, rfl, da_dp (da_ex s.inn g), h1, h2, h3, h4, q _ H2 G2 s (.str _)⟩
end
/-! numbers as texts, and their lengths -/
def nS (i : Int) : Str := Str.ofString (toString i)
theorem small_log {i : Int} (h0 : 0 ≤ i) (h1 : i < 100000) : i.natAbs.log2 < 1920 := by
  by_cases z : i.natAbs = 0
  · rw [z]
    decide
  · refine (Nat.log2_lt z).mpr (Nat.lt_of_lt_of_le (show i.natAbs < 2 ^ 17 by omega) (Nat.pow_le_pow_right (by decide) (by decide)))
theorem nS_len {i : Int} (h0 : 0 ≤ i) (h1 : i < 1000) : (nS i).length ≤ 4 := by
  unfold nS
  rw [PySem.ofString_length]
  exact int_text_length_le10 (k := 3) (by decide) (by omega)
theorem join_le {sep : Str} {ts : List Str} {m b c : Nat} (hm : ts.length ≤ m) (hb : ∀ t ∈ ts, t.length ≤ b) (hc : sep.length ≤ c) : (ts.map (·.length)).sum + ts.length * sep.length ≤ m * (b + c) := by
  have h : (ts.map (·.length)).sum + ts.length * sep.length ≤ ts.length * (b + c) := by
    clear hm
    induction ts with
    | nil => simp
    | cons t r ih =>
      have i := ih fun t ht => hb t (List.mem_cons_of_mem _ ht)
      have ht := hb t List.mem_cons_self
      simp only [List.map_cons, List.sum_cons, List.length_cons, Nat.succ_mul]
      omega
  exact Nat.le_trans h (Nat.mul_le_mul_right _ hm)
theorem join_len {sep : Str} {ts : List Str} {m b c : Nat} (hm : ts.length ≤ m) (hb : ∀ t ∈ ts, t.length ≤ b) (hc : sep.length ≤ c) : (Txt.join sep ts).length ≤ m * (b + c) := by
  have e : Txt.join sep ts = Str.join sep ts := StrLaws.glued_eq_join sep ts
  rw [e]
  exact Nat.le_trans (StrLaws.join_length_le sep ts) (join_le hm hb hc)
end Tw
namespace Tw
open PySem PySem.Spec PyProof.Rows L2 Evl
section
variable {K : PySem.W.Frag}
theorem daa_inv {H : Hp} {vs : List V} {d : PyData} {ds : List PyData} (h : DaAll K H vs (d :: ds)) : ∃ v r, vs = v :: r ∧ Da K H v d ∧ DaAll K H r ds := by
  cases h with
  | cons a b => exact ⟨_, _, rfl, a, b⟩
theorem daa_inv0 {H : Hp} {vs : List V} (h : DaAll K H vs []) : vs = [] := by
  cases h
  rfl
theorem Sep.mut {A B C G : Hp} {p : Addr} {o : HO} (s : Sep A B C G) (hB : B p = none) (hG : G p = none) : Sep A B (upd C p o) G := ⟨Ex.mut s.up hB, s.an, Ex.mut s.inn hG, s.sep⟩
/-- a list of one's own becomes data -/
theorem Sep.seal {A B C G : Hp} {p : Addr} {xs : List V} {ds : List PyData} (s : Sep A B C G) (hB : B p = none) (hG : G p = none) (hC : C p = some (.lst xs)) (g : DaAll K G xs ds) :
    Sep A B C (upd G p (.lst xs)) ∧ Da K (upd G p (.lst xs)) (.ref p) (.list ds) := by
  refine ⟨⟨s.up, s.an.trans (Ex.new hG), fun b u hb => ?_, fun b h h1 => ?_⟩, .lst upd_same (daa_ex (Ex.new hG) g)⟩
  · by_cases q : b = p
    · subst q
      rw [upd_same] at hb
      rw [← hb]
      exact hC
    · rw [upd_ne q] at hb
      exact s.inn b u hb
  · have q : b ≠ p := fun z => by
      rw [z] at h1
      exact h1 hB
    rw [upd_ne q]
    exact s.sep b h h1
end
theorem dr_ix {n : Nat} {ds : List Int} (h : Drawn n ds) {i : Nat} (hi : i < n) : (ds.map PyData.int)[i]? = some (.int (ds.getD i 0)) := by
  rw [List.getElem?_map, (h.getD hi).1]
  rfl
theorem sIx_nat' (n : Nat) (d : Nat) (i : Nat) : HT.sIx n d (some (i : Int)) = min i n := HT.sIx_nat n d i
theorem cut_ix {l : List PyData} {a b j : Nat} (hj : a + j < b) (hb : b ≤ l.length) : (cutD l (some (a : Int)) (some (b : Int)))[j]? = l[a + j]? := by
  unfold cutD
  rw [sIx_nat', sIx_nat', List.getElem?_take_of_lt (by omega), List.getElem?_drop]
  congr 1
  omega
def intsOf : PyData → List Int
  | .tuple ds => ds.filterMap fun d => match d with | .int i => some i | _ => none
  | .list ds => ds.filterMap fun d => match d with | .int i => some i | _ => none
  | _ => []
theorem intsOf_fm (s : List Int) : (s.map PyData.int).filterMap (fun d => match d with | .int i => some i | _ => none) = s := by
  induction s with
  | nil => rfl
  | cons a r ih =>
    rw [List.map_cons, List.filterMap_cons]
    show a :: _ = _
    rw [ih]
theorem intsOf_tup (s : List Int) : intsOf (.tuple (s.map .int)) = s := intsOf_fm s
theorem intsOf_lst (s : List Int) : intsOf (.list (s.map .int)) = s := intsOf_fm s
end Tw
namespace Tw
open PySem PySem.Spec PyProof.Rows L2 Evl
/-! the rules with the written part said (within a comprehension's block the context is not the reading's) -/
section
variable {X : Cx} (K : PySem.W.Frag)
theorem ixl (e : X.K = K := by rfl) : IxR X (rIxL K) := e ▸ ix_list
theorem ixt (e : X.K = K := by rfl) : IxR X (rIxT K) := e ▸ ix_tup
theorem slL (e : X.K = K := by rfl) : SlR X (rSlL K) := e ▸ sl_list
theorem lenK (e : X.K = K := by rfl) : CallR X (.builtin "len") (fun xs H Q => ∃ p ys, xs = [V.ref p] ∧ (SqL K H p ys ∨ SqT K H p ys) ∧ Q (.int ys.length) H) := e ▸ call_len_seq
theorem tupK (e : X.K = K := by rfl) : CallR X (.type "tuple") (fun xs H Q => ∃ p ys, xs = [V.ref p] ∧ ((SqL K H p ys ∧ ∀ l, H l = none → Q (.ref l) (upd H l (.tup ys))) ∨ (SqT K H p ys ∧ Q (.ref p) H))) := e ▸ call_tuple_of
theorem pi_listK {tg l : Expr} {tl : TE} (hl : PE X l tl) (e : X.K = K := by rfl) : PI X tg l (iList K tl) := e ▸ pi_list hl
theorem pi_tupK {tg l : Expr} {tl : TE} (hl : PE X l tl) (e : X.K = K := by rfl) : PI X tg l (iTup K tl) := e ▸ pi_tup hl
theorem pi_seqK {tg l : Expr} {tl : TE} (hl : PE X l tl) (e : X.K = K := by rfl) : PI X tg l (iSeq K tl) := e ▸ pi_seq hl
theorem joinK (e : X.K = K := by rfl) : MtR X "str.join" (fun x xs H Q => ∃ a p, ∃ ys : List Str, x = .str a ∧ xs = [.ref p] ∧ (SqL K H p (ys.map V.str) ∨ SqT K H p (ys.map V.str)) ∧ (ys.map (·.length)).sum + ys.length * a.length ≤ 16777216 ∧ Q (.str (Txt.join a ys)) H) := e ▸ mt_join
theorem pe_joinK {o e : Expr} {to te : TE} {apos pos : Pos} (ho : PE X o to) (he : PE X e te) (hK : X.K = K := by rfl) (hs : starEach [e] X.env = [(false, eval e X.env)] := by rfl) (hbase : attributeBase o "join" X.env (eval o X.env) = eval o X.env := by rfl) (hline : (apos.endLine == pos.line) = true := by rfl) :
    PE X (.Call (.Attribute o "join" apos) [e] [] pos) (tM1 (fun x xs H Q => ∃ a p, ∃ ys : List Str, x = .str a ∧ xs = [.ref p] ∧ (SqL K H p (ys.map V.str) ∨ SqT K H p (ys.map V.str)) ∧
      (ys.map (·.length)).sum + ys.length * a.length ≤ 16777216 ∧ Q (.str (Txt.join a ys)) H) to te) :=
  pe_m1 PySem.F.slot_str_join PySem.F.type_str_join (joinK K hK) ho he hs hbase hline
theorem reprK (hg : X.A.guards = some []) (hu : X.A.units + 64 < cLine) (e : X.K = K := by rfl) : CallR X (.builtin "repr") (rRepr K) := e ▸ call_repr hg hu
theorem appendK : MtM X "list.append" rAppend := mt_append
end
end Tw
namespace Tw
open PySem PySem.Spec PyProof.Rows L2 Evl
/-! data of a small size: what repr and == ask -/
structure Ok (n w : Nat) (d : PyData) : Prop where
  sh : d.showable = true
  nd : d.hasDict = false
  dp : d.depth ≤ n
  ls : d.leavesShort 20 = true
  cl : d.canLay0 = true
  wt : d.weight ≤ w
theorem Ok.mono {n w n' w' : Nat} {d : PyData} (h : Ok n w d) (hn : n ≤ n') (hw : w ≤ w') : Ok n' w' d := ⟨h.sh, h.nd, Nat.le_trans h.dp hn, h.ls, h.cl, Nat.le_trans h.wt hw⟩
theorem ok_int {i : Int} (h0 : -100000 < i) (h1 : i < 100000) : Ok 0 17 (.int i) := by
  have hl : i.natAbs.log2 < 17 := by
    by_cases z : i.natAbs = 0
    · rw [z]
      decide
    · exact (Nat.log2_lt z).mpr (show i.natAbs < 2 ^ 17 by omega)
  refine ⟨decide_eq_true (by omega), rfl, Nat.le_refl 0, decide_eq_true ?_, rfl, ?_⟩
  · show (Str.ofString (toString i)).length ≤ 20
    rw [PySem.ofString_length]
    have := int_text_length_le10 (a := i) (k := 5) (by decide) (by omega)
    omega
  · show (if i == 0 then 0 else i.natAbs.log2 + 1) ≤ 17
    split <;> omega
theorem ok_none : Ok 0 17 .none := ⟨rfl, rfl, Nat.le_refl 0, rfl, rfl, Nat.zero_le _⟩
theorem ok_bool (b : Bool) : Ok 0 17 (.bool b) := ⟨rfl, rfl, Nat.le_refl 0, rfl, rfl, Nat.zero_le _⟩
theorem ok_all {n w : Nat} : ∀ {ds : List PyData}, (∀ d ∈ ds, Ok n w d) → PyData.showableAll ds = true ∧ PyData.hasDictAll ds = false ∧ PyData.depthAll ds ≤ n ∧ PyData.leavesShortAll 20 ds = true ∧ PyData.canLayAll0 ds = true ∧ PyData.weightAll ds ≤ ds.length * (w + 1)
  | [], _ => ⟨rfl, rfl, Nat.zero_le _, rfl, rfl, Nat.zero_le _⟩
  | d :: r, h => by
    have hd := h d List.mem_cons_self
    obtain ⟨a1, a2, a3, a4, a5, a6⟩ := ok_all (ds := r) fun x hx => h x (List.mem_cons_of_mem _ hx)
    refine ⟨?_, ?_, ?_, ?_, ?_, ?_⟩
    · show (d.showable && PyData.showableAll r) = true
      rw [hd.sh, a1]
      rfl
    · show (d.hasDict || PyData.hasDictAll r) = false
      rw [hd.nd, a2]
      rfl
    · show max d.depth (PyData.depthAll r) ≤ n
      have := hd.dp
      omega
    · show (d.leavesShort 20 && PyData.leavesShortAll 20 r) = true
      rw [hd.ls, a4]
      rfl
    · show (d.canLay0 && PyData.canLayAll0 r) = true
      rw [hd.cl, a5]
      rfl
    · show d.weight + 1 + PyData.weightAll r ≤ (r.length + 1) * (w + 1)
      have := hd.wt
      rw [Nat.succ_mul]
      omega
theorem ok_list {n w m : Nat} {ds : List PyData} (h : ∀ d ∈ ds, Ok n w d) (hm : ds.length * (w + 1) ≤ m) : Ok (n + 1) m (.list ds) := by
  obtain ⟨a1, a2, a3, a4, a5, a6⟩ := ok_all h
  exact ⟨a1, a2, Nat.succ_le_succ a3, a4, a5, Nat.le_trans a6 hm⟩
theorem ok_tup {n w m : Nat} {ds : List PyData} (h : ∀ d ∈ ds, Ok n w d) (hm : ds.length * (w + 1) ≤ m) : Ok (n + 1) m (.tuple ds) := by
  obtain ⟨a1, a2, a3, a4, a5, a6⟩ := ok_all h
  exact ⟨a1, a2, Nat.succ_le_succ a3, a4, a5, Nat.le_trans a6 hm⟩
theorem Ok.fits {n w : Nat} {d : PyData} (h : Ok n w d) (hw : w ≤ 700000) : d.shown.length ≤ sizeLine := by
  have h1 := PyData.shown_le 20 (by decide) d h.ls
  have h2 := h.wt
  have e : sizeLine = 16777216 := by decide
  rw [e]
  omega
theorem Ok.shaped {n w : Nat} {d : PyData} (h : Ok n w d) (hn : n ≤ 60) : SeqAt.shaped d = true := by
  show (d.canLay0 && decide (d.depth ≤ 64)) = true
  have := h.dp
  rw [h.cl, Bool.true_and, decide_eq_true_eq]
  omega
theorem mem2 {P : PyData → Prop} {a b : PyData} (ha : P a) (hb : P b) : ∀ d ∈ [a, b], P d := by
  intro d hd
  simp only [List.mem_cons, List.not_mem_nil, or_false] at hd
  rcases hd with rfl | rfl <;> assumption
section
variable {K : PySem.W.Frag} {σ : L2.St} {G H : Hp} {te : TE} {d : PyData}
theorem ed_reprO {n w : Nat} (h : ED K te σ G d) (hc : ∃ es, d = .list es ∨ d = .tuple es) (ho : Ok n w d) (hn : n ≤ 60) (hw : w ≤ 700000) : ED K (tCB (rRepr K) (tCons te tNil)) σ G (.str d.shown) :=
  ed_repr h hc ho.sh ho.nd (Nat.le_trans ho.dp hn) (ho.fits hw)
/-- isinstance(x, str) of a text -/
theorem et_isStr {x : Str} (h : ED K te σ G (.str x)) : EvT (tB (tCB RZ.rIsTy (tCons te (tCons (tC (.ty "str")) tNil)))) σ G true := fun H1 e Q q =>
  ev_str h H1 e _ fun H2 e2 => ⟨.str x, "str", rfl, .str x, true, rfl, q H2 e2⟩
theorem et_neS {ta tb : TE} {x y : Str} (ha : ED K ta σ G (.str x)) (hb : ED K tb σ G (.str y)) : EvT (tTest (tOp rNe ta tb)) σ G (!decide (V.str x = V.str y)) := et_test (ev_op (ev_str ha) (ev_str hb) (rv_ne rfl))
theorem ed_eqS {ta tb : TE} {x y : Str} (ha : ED K ta σ G (.str x)) (hb : ED K tb σ G (.str y)) : ED K (tOp rEq ta tb) σ G (.bool (decide (V.str x = V.str y))) := ed_ev (ev_op (ev_str ha) (ev_str hb) (rv_eq rfl)) (.bl _)
end
end Tw

set_option Elab.async false
set_option linter.all false
set_option maxRecDepth 100000
set_option maxHeartbeats 4000000
namespace Tw
open PySem PySem.Spec PyProof.Rows L2 Evl
/-! more of expressions -/
section
variable {K : PySem.W.Frag} {σ : L2.St} {G H : Hp} {ta tb te : TE} {d e : PyData} {ds es : List PyData}
theorem et_bool {b : Bool} (h : ED K te σ G (.bool b)) : EvT (tB te) σ G b := et_B (ev_bool h)
theorem et_cmp0 {p : Int → Int → Bool} {i j : Int} (ha : ED K ta σ G (.int i)) (hb : ED K tb σ G (.int j)) : EvT (tTest (tOp (rI0 fun i j => .bl (p i j)) ta tb)) σ G (p i j) := et_test (ev_op (ev_int ha) (ev_int hb) rv_I0)
theorem ed_cmp0 {p : Int → Int → Bool} {i j : Int} (ha : ED K ta σ G (.int i)) (hb : ED K tb σ G (.int j)) : ED K (tOp (rI0 fun i j => .bl (p i j)) ta tb) σ G (.bool (p i j)) := ed_ev (ev_op (ev_int ha) (ev_int hb) rv_I0) (.bl _)
theorem ed_neg {i : Int} (h : ED K te σ G (.int i)) : ED K (tUn (rU fun i => .int (-i)) te) σ G (.int (-i)) := ed_ev (ev_un (ev_int h) ru_neg) (.int _)
theorem ed_modN {i j : Int} (ha : ED K ta σ G (.int i)) (hb : ED K tb σ G (.int j)) (h0 : 0 < j) : ED K (tOp (rI (fun _ j => j ≠ 0) fun i j => .int (i.fmod j)) ta tb) σ G (.int (i % j)) :=
  ed_opC ha hb (by omega) (by rw [Int.fmod_eq_emod_of_nonneg i (by omega)])
/-- scalars -/
def sc : PyData → Bool
  | .none | .bool _ | .int _ | .str _ => true
  | _ => false
def vOf : PyData → V
  | .none => .non
  | .bool b => .bl b
  | .int i => .int i
  | .str x => .str x
  | _ => .non
theorem da_sc {v : V} (h : Da K H v d) (hs : sc d = true) : v = vOf d := by
  cases h <;> first | rfl | cases hs
theorem ev_sc (h : ED K te σ G d) (hs : sc d = true) : Ev te σ G (vOf d) := fun H1 x Q q => h H1 x Q fun v H2 G2 s g => by
  rw [da_sc g hs] at *
  exact q H2 s.up
theorem ed_vOf {σ : L2.St} (h : Ev te σ G (vOf d)) (hs : sc d = true) : ED K te σ G d := ed_ev h (by
  cases d <;> first | exact .non | exact .bl _ | exact .int _ | exact .str _ | cases hs)
theorem ed_eqSc (ha : ED K ta σ G d) (hb : ED K tb σ G e) (hd : sc d = true) (he : sc e = true) (h : scal (vOf d) (vOf e) = true) : ED K (tOp rEq ta tb) σ G (.bool (decide (vOf d = vOf e))) := ed_ev (ev_op (ev_sc ha hd) (ev_sc hb he) (rv_eq h)) (.bl _)
theorem et_eqSc (ha : ED K ta σ G d) (hb : ED K tb σ G e) (hd : sc d = true) (he : sc e = true) (h : scal (vOf d) (vOf e) = true) : EvT (tTest (tOp rEq ta tb)) σ G (decide (vOf d = vOf e)) := et_test (ev_op (ev_sc ha hd) (ev_sc hb he) (rv_eq h))
theorem et_neSc (ha : ED K ta σ G d) (hb : ED K tb σ G e) (hd : sc d = true) (he : sc e = true) (h : scal (vOf d) (vOf e) = true) : EvT (tTest (tOp rNe ta tb)) σ G (!decide (vOf d = vOf e)) := et_test (ev_op (ev_sc ha hd) (ev_sc hb he) (rv_ne h))
theorem et_eqI {i j : Int} (ha : ED K ta σ G (.int i)) (hb : ED K tb σ G (.int j)) : EvT (tTest (tOp rEq ta tb)) σ G (decide (i = j)) := et_is (et_eqSc ha hb rfl rfl rfl) (by
  show decide (V.int i = V.int j) = decide (i = j)
  by_cases h : i = j
  · rw [h, decide_eq_true rfl, decide_eq_true rfl]
  · rw [decide_eq_false h, decide_eq_false fun z => h (V.int.inj z)])
theorem ed_eqI {i j : Int} (ha : ED K ta σ G (.int i)) (hb : ED K tb σ G (.int j)) : ED K (tOp rEq ta tb) σ G (.bool (decide (i = j))) := ed_is (ed_eqSc ha hb rfl rfl rfl) (by
  show PyData.bool (decide (V.int i = V.int j)) = .bool (decide (i = j))
  by_cases h : i = j
  · rw [h, decide_eq_true rfl, decide_eq_true rfl]
  · rw [decide_eq_false h, decide_eq_false fun z => h (V.int.inj z)])
/-- x is None, x is not None -/
def isN : PyData → Bool
  | .none => true
  | _ => false
theorem da_isN {v : V} (h : Da K H v d) : decide (v = .non) = isN d := by
  cases h <;> first | rfl | exact decide_eq_false fun z => nomatch z
theorem ed_isN (h : ED K ta σ G d) : ED K (tOp (fun x y H Q => y = V.non ∧ Q (.bl (decide (x = .non))) H) ta (tC .non)) σ G (.bool (isN d)) := fun H1 x Q q => h H1 x _ fun v H2 G2 s g => ⟨rfl, by
  rw [da_isN g]
  exact q _ H2 G2 s (.bl _)⟩
theorem et_isN (h : ED K ta σ G d) : EvT (tTest (tOp (fun x y H Q => y = V.non ∧ Q (.bl (decide (x = .non))) H) ta (tC .non))) σ G (isN d) := et_test (ev_bool (ed_isN h))
theorem ed_notN (h : ED K ta σ G d) : ED K (tOp (fun x y H Q => y = V.non ∧ Q (.bl (!decide (x = .non))) H) ta (tC .non)) σ G (.bool (!isN d)) := fun H1 x Q q => h H1 x _ fun v H2 G2 s g => ⟨rfl, by
  rw [da_isN g]
  exact q _ H2 G2 s (.bl _)⟩
theorem et_notN (h : ED K ta σ G d) : EvT (tTest (tOp (fun x y H Q => y = V.non ∧ Q (.bl (!decide (x = .non))) H) ta (tC .non))) σ G (!isN d) := et_test (ev_bool (ed_notN h))
/-- isinstance(x, T) by the type's name -/
def tyD : PyData → String
  | .none => "NoneType"
  | .bool _ => "bool"
  | .int _ => "int"
  | .str _ => "str"
  | .list _ => "list"
  | .tuple _ => "tuple"
  | .dict _ => "dict"
theorem da_ty {v : V} (h : Da K H v d) : TyX K H v (.type (tyD d)) := by
  cases h with
  | non => exact .base .non
  | bl b => exact .base (.bl b)
  | int i => exact .base (.int i)
  | str x => exact .base (.str x)
  | lst e _ => exact .base (.lst e)
  | tup e _ =>
    rcases e with (e | ⟨o, e⟩) | ⟨o, its, n, e, c, _⟩
    · exact .base (.tup e)
    · exact .fTuple e
    · exact .kTuple e c
theorem ed_isi {T : String} {b : Bool} (h : ED K ta σ G d) (hb : kitB (tyD d) T = some b) : ED K (tCB (rIsi K) (tCons ta (tCons (tC (.ty T)) tNil))) σ G (.bool b) := fun H1 x Q q => h H1 x _ fun v H2 G2 s g =>
  ⟨v, .ty T, _, .type T, b, rfl, .ty T, da_ty (da_ex s.inn g), hb, q _ H2 G2 s (.bl b)⟩
/-- max, all, any, sum of a list -/
def mxI : List Int → Int
  | [] => 0
  | x :: r => r.foldl (fun a b => if a < b then b else a) x
theorem mx_fold : ∀ (r : List Int) (x : Int), (r.foldl (fun a b => if a < b then b else a) x ∈ x :: r) ∧ ∀ y ∈ x :: r, y ≤ r.foldl (fun a b => if a < b then b else a) x
  | [], x => ⟨List.mem_cons_self, fun y hy => by cases List.mem_singleton.mp hy; exact Int.le_refl _⟩
  | z :: r, x => by
    obtain ⟨h1, h2⟩ := mx_fold r (if x < z then z else x)
    rw [List.foldl_cons]
    refine ⟨?_, fun y hy => ?_⟩
    · rcases List.mem_cons.mp h1 with h | h
      · rw [h]
        split
        · exact List.mem_cons_of_mem _ List.mem_cons_self
        · exact List.mem_cons_self
      · exact List.mem_cons_of_mem _ (List.mem_cons_of_mem _ h)
    · have h0 := h2 _ List.mem_cons_self
      have key : ∀ a b m : Int, (if a < b then b else a) ≤ m → a ≤ m ∧ b ≤ m := fun a b m h => by
        split at h <;> omega
      obtain ⟨k1, k2⟩ := key x z _ h0
      rcases List.mem_cons.mp hy with e | hy
      · rw [e]
        exact k1
      · rcases List.mem_cons.mp hy with e | hy
        · rw [e]
          exact k2
        · exact h2 y (List.mem_cons_of_mem _ hy)
theorem mx_mem {ns : List Int} (h : ns ≠ []) : mxI ns ∈ ns := by
  cases ns with
  | nil => exact absurd rfl h
  | cons x r => exact (mx_fold r x).1
theorem mx_le {ns : List Int} {y : Int} (h : y ∈ ns) : y ≤ mxI ns := by
  cases ns with
  | nil => exact absurd h List.not_mem_nil
  | cons x r => exact (mx_fold r x).2 y h
theorem mx_is {ns : List Int} {m : Int} (h : m ∈ ns) (hm : ∀ y ∈ ns, y ≤ m) : m = mxI ns := by
  have h1 := mx_le h
  have h2 := hm _ (mx_mem (ns := ns) fun z => by rw [z] at h; exact absurd h List.not_mem_nil)
  omega
theorem ed_max {ns : List Int} (h : ED K ta σ G (.list (ns.map .int))) (hn : ns ≠ []) : ED K (tCB (rMax K) (tCons ta tNil)) σ G (.int (mxI ns)) := fun H1 x Q q => h H1 x _ fun v H2 G2 s g => by
  cases g with
  | @lst a xs _ e g =>
    cases daa_intsV g
    refine ⟨a, ns, rfl, sq_of (s.inn _ _ e), List.length_pos_iff.mpr hn, fun m hm hle => ?_⟩
    rw [mx_is hm hle]
    exact q _ H2 G2 s (.int _)
theorem daa_boolsV : ∀ {bs : List Bool} {vs : List V}, DaAll K H vs (bs.map PyData.bool) → vs = bs.map V.bl
  | [], _, .nil => rfl
  | n :: r, _, .cons (.bl _) a => by rw [daa_boolsV a]; rfl
theorem ed_all {bs : List Bool} (h : ED K ta σ G (.list (bs.map .bool))) : ED K (tCB (rAll K) (tCons ta tNil)) σ G (.bool (bs.all id)) := fun H1 x Q q => h H1 x _ fun v H2 G2 s g => by
  cases g with
  | @lst a xs _ e g =>
    cases daa_boolsV g
    exact ⟨a, bs, rfl, sq_of (s.inn _ _ e), q _ H2 G2 s (.bl _)⟩
theorem ed_any {bs : List Bool} (h : ED K ta σ G (.list (bs.map .bool))) : ED K (tCB (rAny K) (tCons ta tNil)) σ G (.bool (bs.any id)) := fun H1 x Q q => h H1 x _ fun v H2 G2 s g => by
  cases g with
  | @lst a xs _ e g =>
    cases daa_boolsV g
    exact ⟨a, bs, rfl, sq_of (s.inn _ _ e), q _ H2 G2 s (.bl _)⟩
theorem ed_sum {ns : List Int} (h : ED K ta σ G (.list (ns.map .int))) : ED K (tCB (rSum K) (tCons ta tNil)) σ G (.int ns.sum) := fun H1 x Q q => h H1 x _ fun v H2 G2 s g => by
  cases g with
  | @lst a xs _ e g =>
    cases daa_intsV g
    exact ⟨a, ns, rfl, sq_of (s.inn _ _ e), q _ H2 G2 s (.int _)⟩
/-- xs * k -/
theorem daa_rep {vs : List V} (g : DaAll K H vs ds) : ∀ k : Nat, DaAll K H (List.replicate k vs).flatten (List.replicate k ds).flatten
  | 0 => .nil
  | k + 1 => by
    rw [List.replicate_succ, List.replicate_succ, List.flatten_cons, List.flatten_cons]
    exact daa_app g (daa_rep g k)
theorem ed_rep {k : Int} (ha : ED K ta σ G (.list ds)) (hb : ∀ G2, Ex G G2 → ED K tb σ G2 (.int k)) (h0 : 0 ≤ k) (h1 : k < 2 ^ 63) (hz : ds.length * k.toNat ≤ 100000) : ED K (tOp rRep ta tb) σ G (.list (List.replicate k.toNat ds).flatten) := fun H1 x Q q =>
  ha H1 x _ fun v H2 G2 s g => ev_int (hb G2 s.an) H2 s.inn _ fun H3 x3 => by
    cases g with
    | @lst a xs _ e g =>
      refine ⟨a, k, xs, rfl, rfl, x3 _ _ (s.inn _ _ e), by omega, h1, by rw [daa_len g]; exact sz_of hz, fun p hp => ?_⟩
      have s' : Sep G H1 H3 G2 := ⟨s.up.trans x3, s.an, s.inn.trans x3, s.sep⟩
      exact q (.ref p) _ (upd G2 p (.lst (List.replicate k.toNat xs).flatten)) (s'.trans (Sep.new s'.inn hp)) (.lst upd_same (daa_ex (Ex.new (fresh_back s'.inn hp)) (daa_rep g _)))
/-- == of data -/
theorem et_neD {n w m u : Nat} (ha : ED K ta σ G d) (hb : ∀ G2, Ex G G2 → ED K tb σ G2 e) (hd : Ok n w d) (hn : n ≤ 60) (he : Ok m u e) (hm : m ≤ 60) : EvT (tTest (tOp (rNeD K) ta tb)) σ G (!PyData.eqv d e) := fun H1 x Q q =>
  ha H1 x _ fun v H2 G2 s g => hb G2 s.an H2 s.inn _ fun v2 H3 G3 s3 g3 =>
    ⟨d, e, da_dp (da_ex (s3.an.trans s3.inn) g), da_dp (da_ex s3.inn g3), hd.shaped hn, he.shaped hm, _, rfl, q H3 (s.up.trans s3.up)⟩
theorem ed_eqD {n w m u : Nat} (ha : ED K ta σ G d) (hb : ∀ G2, Ex G G2 → ED K tb σ G2 e) (hd : Ok n w d) (hn : n ≤ 60) (he : Ok m u e) (hm : m ≤ 60) : ED K (tOp (rEqD K) ta tb) σ G (.bool (PyData.eqv d e)) := fun H1 x Q q =>
  ha H1 x _ fun v H2 G2 s g => hb G2 s.an H2 s.inn _ fun v2 H3 G3 s3 g3 =>
    ⟨d, e, da_dp (da_ex (s3.an.trans s3.inn) g), da_dp (da_ex s3.inn g3), hd.shaped hn, he.shaped hm, q _ H3 G3 (s.trans s3) (.bl _)⟩
theorem eqv_ints : ∀ a b : List Int, PyData.eqv (.list (a.map .int)) (.list (b.map .int)) = decide (a = b)
  | [], [] => rfl
  | [], y :: b => by
    rw [decide_eq_false fun z => nomatch z]
    simp only [List.map_cons, List.map_nil, PyData.eqv, PyData.eqvAll]
  | x :: a, [] => by
    rw [decide_eq_false fun z => nomatch z]
    simp only [List.map_cons, List.map_nil, PyData.eqv, PyData.eqvAll]
  | x :: a, y :: b => by
    have h := eqv_ints a b
    have e : PyData.eqv (.list ((x :: a).map .int)) (.list ((y :: b).map .int)) = ((x == y) && PyData.eqv (.list (a.map .int)) (.list (b.map .int))) := by simp only [List.map_cons, PyData.eqv, PyData.eqvAll]
    rw [e, h]
    by_cases h1 : x = y
    · subst h1
      by_cases h2 : a = b
      · subst h2
        simp
      · rw [decide_eq_false h2, decide_eq_false fun z => h2 (List.cons.inj z).2, Bool.and_false]
    · rw [decide_eq_false fun z => h1 (List.cons.inj z).1, beq_eq_false_iff_ne.mpr h1, Bool.false_and]
theorem eqv_same {n w : Nat} (h : Ok n w d) : PyData.eqv d d = true := SeqAt.eqv_refl d h.cl
/-- xs[-1] -/
theorem ed_last {i : Int} (ha : ED K ta σ G (.list ds)) (hb : ∀ G2, Ex G G2 → ED K tb σ G2 (.int i)) (hi : i = -1) (hd : ds.getLast? = some d) : ED K (tOp (rIxL K) ta tb) σ G d := fun H1 x Q q =>
  ha H1 x _ fun v H2 G2 s g => ev_int (hb G2 s.an) H2 s.inn _ fun H3 x3 => by
    cases g with
    | @lst a xs _ e g =>
      subst hi
      have hl := daa_len g
      have hne : ds ≠ [] := fun z => by rw [z] at hd; cases hd
      have hpos : 0 < ds.length := List.length_pos_iff.mpr hne
      rw [List.getLast?_eq_getElem?] at hd
      obtain ⟨v, hv, gv⟩ := daa_get g _ d hd
      have hat : atI xs (-1) = some v := by
        unfold atI ixN
        rw [if_neg (by omega), if_pos (by omega)]
        show xs[(-1 + (xs.length : Int)).toNat]? = some v
        rw [show (-1 + (xs.length : Int)).toNat = ds.length - 1 by omega]
        exact hv
      exact ⟨a, xs, -1, v, rfl, rfl, sq_of (x3 _ _ (s.inn _ _ e)), hat, q v H3 G2 ⟨s.up.trans x3, s.an, s.inn.trans x3, s.sep⟩ gv⟩
end
section
variable {X : Cx} (K : PySem.W.Frag)
theorem maxK (hc : X.calm = true) (e : X.K = K := by rfl) : CallR X (.builtin "max") (rMax K) := e ▸ cr_max hc
theorem allK (hc : X.calm = true) (e : X.K = K := by rfl) : CallR X (.builtin "all") (rAll K) := e ▸ cr_all hc
theorem anyK (hc : X.calm = true) (e : X.K = K := by rfl) : CallR X (.builtin "any") (rAny K) := e ▸ cr_any hc
theorem sumK (hc : X.calm = true) (e : X.K = K := by rfl) : CallR X (.builtin "sum") (rSum K) := e ▸ cr_sum hc
theorem isiK (e : X.K = K := by rfl) : CallR X (.builtin "isinstance") (rIsi K) := e ▸ call_isi
theorem neDK (hu : X.A.units + 64 < cLine) (e : X.K = K := by rfl) : OpR X (compareOp .NotEq) (rNeD K) := e ▸ op_neD hu
theorem eqDK (hu : X.A.units + 64 < cLine) (e : X.K = K := by rfl) : OpR X (compareOp .Eq) (rEqD K) := e ▸ op_eqD hu
end
/-! more of statements -/
section
variable {K : PySem.W.Frag} {σ : L2.St} {G H : Hp} {ta tb te : TE} {d : PyData} {ds : List PyData} {D : Ends} {tu tz : TS}
/-- for i in range(a, b) -/
theorem d_range2 {j : Nat} {lo n : Int} (ha : ED K ta σ G (.int lo)) (hb : ED K tb σ G (.int n)) (x : Ex G H) (hn : 0 ≤ lo ∧ lo ≤ 100000 ∧ -100000 ≤ n ∧ n ≤ 100000) (Pv : Nat → L2.St → Hp → Prop) (h0 : ∀ H1, Ex H H1 → Pv 0 σ H1)
    (hs : ∀ (i : Nat) σ' H', lo + (i : Int) < n → Pv i σ' H' → tu { D with nx := Pv (i + 1), ct := Pv (i + 1), bk := tz D } (σ'.set j (some (.int (lo + (i : Int))))) H') (hd : ∀ σ' H', Pv (n - lo).toNat σ' H' → tz D σ' H') : tSeq (tFor (iRng2 (tCons ta (tCons tb tNil))) (gName j) tu) tz D σ H := by
  have e : EvA (tCons ta (tCons tb tNil)) σ G [.int lo, .int n] := ea_cons (ev_int ha) (ea_cons (ev_int hb) ea_nil)
  exact q_forR2 (EvA.mono x e) hn Pv h0 hs hd
/-- xs[-1] = e, xs outside the anchor, its items within -/
theorem daa_set : ∀ {vs : List V} {ds : List PyData} (n : Nat) {v : V}, DaAll K H vs ds → Da K H v d → DaAll K H (vs.set n v) (ds.set n d)
  | _, _, _, _, .nil, _ => .nil
  | _, _, 0, _, .cons _ a, g => .cons g a
  | _, _, n + 1, _, .cons h a, g => .cons h (daa_set n a g)
theorem d_setLast {l : Addr} {xs : List V} {i : Nat} {m : Int} (hG : G l = none) (hl : H l = some (.lst xs)) (hx : DaAll K G xs ds) (hi : σ[i]? = some (some (.ref l))) (h : ED K te σ G d) (x : Ex G H) (hne : 0 < xs.length) (hm : ∀ H', Ev tb σ H' (.int m)) (em : m = -1)
    (k : ∀ v H2 G2, Sep G H H2 G2 → G2 l = none → DaAll K G2 (xs.set (xs.length - 1) v) (ds.set (ds.length - 1) d) → Ex G2 (upd H2 l (.lst (xs.set (xs.length - 1) v))) → D.nx σ (upd H2 l (.lst (xs.set (xs.length - 1) v)))) :
    tAsg te (gSub (tVar i) tb rSetL) D σ H := h H x _ fun v H2 G2 s g => ⟨_, hi, hm H2 H2 (Ex.refl _) _ fun H3 x3 => by
    obtain ⟨o1, o2⟩ := s.out hG hl
    subst em
    refine ⟨l, xs, -1, xs.length - 1, rfl, rfl, x3 _ _ o2, ?_, ?_⟩
    · unfold ixN
      rw [if_neg (by omega), if_pos (by omega)]
      congr 1
      omega
    · have s' : Sep G H H3 G2 := ⟨s.up.trans x3, s.an, s.inn.trans x3, s.sep⟩
      refine k v H3 G2 s' o1 ?_ (Ex.mut s'.inn o1)
      rw [daa_len hx]
      exact daa_set _ (daa_ex s.an hx) g⟩
end
end Tw
namespace Tw
open PySem PySem.Spec PyProof.Rows L2 Evl
section
variable {K : PySem.W.Frag} {σ : L2.St} {G H : Hp} {ta tb te : TE} {d : PyData} {ds : List PyData} {D : Ends} {tu tz : TS}
/-- one new thing beside the anchor -/
theorem Sep.one {H2 : Hp} {p : Addr} {o : HO} (x : Ex G H) (np : H p = none) (e : Ex H H2) (hp : H2 p = some o) : Sep G H H2 (upd G p o) := by
  have gp : G p = none := fresh_back x np
  refine ⟨e, Ex.new gp, fun b u hb => ?_, fun b h h1 => ?_⟩
  · by_cases q : b = p
    · subst q
      rw [upd_same] at hb
      rw [← hb]
      exact hp
    · rw [upd_ne q] at hb
      exact e b u (x b u hb)
  · have q : b ≠ p := fun z => by
      rw [z] at h1
      exact h1 np
    rw [upd_ne q]
    exact h
/-- xs[-1] = (a, ..), the tuple's items told by the heap at hand -/
theorem d_setLastU {l : Addr} {xs ys : List V} {es : List PyData} {i : Nat} {m : Int} (hG : G l = none) (hl : H l = some (.lst xs)) (hx : DaAll K G xs ds) (hi : σ[i]? = some (some (.ref l))) (h : EvU te σ H ys) (hy : DaAll K G ys es) (x : Ex G H) (hne : 0 < xs.length) (hm : ∀ H', Ev tb σ H' (.int m)) (em : m = -1)
    (k : ∀ v H2 G2, Sep G H H2 G2 → G2 l = none → DaAll K G2 (xs.set (xs.length - 1) v) (ds.set (ds.length - 1) (.tuple es)) → Ex G2 (upd H2 l (.lst (xs.set (xs.length - 1) v))) → D.nx σ (upd H2 l (.lst (xs.set (xs.length - 1) v)))) :
    tAsg te (gSub (tVar i) tb rSetL) D σ H := h H (Ex.refl H) _ fun p H2 np e2 hp => ⟨_, hi, hm H2 H2 (Ex.refl _) _ fun H3 x3 => by
    have s := Sep.one x np (e2.trans x3) (x3 _ _ hp)
    obtain ⟨o1, o2⟩ := s.out hG hl
    subst em
    refine ⟨l, xs, -1, xs.length - 1, rfl, rfl, o2, ?_, ?_⟩
    · unfold ixN
      rw [if_neg (by omega), if_pos (by omega)]
      congr 1
      omega
    · refine k (.ref p) H3 _ s o1 ?_ (Ex.mut s.inn o1)
      rw [daa_len hx]
      exact daa_set _ (daa_ex s.an hx) (.tup (st_of upd_same) (daa_ex s.an hy))⟩
end
end Tw
namespace Tw
open PySem L2 Evl
theorem Sep.stay {G H H' : Hp} (x : Ex G H) (e : Ex H H') : Sep G H H' G := ⟨e, Ex.refl _, x.trans e, fun _ h _ => h⟩
end Tw
namespace Tw
open PySem PySem.Spec PyProof.Rows L2 Evl
/-! keyword-only parameters, all of them written -/
theorem kbn_mk {K : PySem.W.Frag} {x qual : Str} {st : Stmt} {f : Addr} {fd : FuncData} {ps ks : List Str} {n : Nat} (F : Fun K x qual st f fd)
    (h : ∀ (kV doc pm : Value) (an : Option Addr) (cdv ct : Value) (us ws : List Value), us.length = n → ws.length = ks.length →
      bindArgs (PySem.W.fnOf x qual (defArgs st) (defBody st) (defScope st) .none kV doc pm an cdv ct) ⟨us, ks.zip ws⟩ = pure (ps.zip (us ++ ws))) : KBn K fd ps n ks (fun us ws => us ++ ws) (fun vs zs => vs ++ zs) := by
  obtain ⟨_, _, kV, doc, pm, an, cdv, ct, _, rfl, _, _⟩ := F.ex
  exact ⟨fun s us ws _ h1 h2 => .of_eq (h kV doc pm an cdv ct us ws h1 h2), fun a b => a.append b⟩
section
variable {K : PySem.W.Frag} {σ : L2.St} {H : Hp} {d : PyData} {ds es : List PyData}
theorem ed_callN {n m : Nat} {R : List PyData → PyData → Prop} {E : XK} {t tk : TA} (h : EDA K t σ H ds) (hk : ∀ G, Ex H G → EDA K tk σ G es) (h1 : ds.length = n) (h2 : es.length = m) (hr : R (ds ++ es) d) : ED K (tCallN n m (spF K R) (fun vs zs => vs ++ zs) E t tk) σ H d := fun H1 x Q q =>
  h H1 x _ fun vs H2 G s g => hk G s.an H2 s.inn _ fun zs H3 G3 s3 g3 => ⟨by rw [daa_len g]; exact h1, by rw [daa_len g3]; exact h2, G3, ds ++ es, d, s3.inn, daa_app (daa_ex s3.an g) g3, hr, fun v H4 G4 s4 g4 => q v H4 G4 ((s.trans s3).trans s4) g4⟩
end
end Tw

set_option Elab.async false
set_option linter.all false
set_option maxRecDepth 100000
set_option maxHeartbeats 4000000
namespace Tw
open PySem PySem.Spec PyProof.Rows L2 Evl
/-! constants of the module -/
def TupK (K : PySem.W.Frag) (a : Addr) (xs : List V) : Prop :=
  ∃ (o : Obj) (its : Array Value) (n : Nat), K.lookup a = some o ∧ o.cls = .type "tuple" ∧ o.data = .seq its n ∧ its.size ≤ sizeLine ∧ Vals xs its.toList
theorem tupK_of {K : PySem.W.Frag} {a : Addr} {xs : List V} {its : Array Value} {n : Nat} {od : Option Addr} {sl : Array (Option Value)} (r : K.lookup a = some ⟨.type "tuple", od, .seq its n, sl⟩) (hl : its.size ≤ sizeLine) (hv : Vals xs its.toList) : TupK K a xs :=
  ⟨_, its, n, r, rfl, rfl, hl, hv⟩
section
variable {K : PySem.W.Frag} {σ : L2.St} {G H : Hp} {ta tb tc te to : TE} {d e : PyData} {ds es : List PyData}
theorem TupK.st {a : Addr} {xs : List V} (h : TupK K a xs) : SqT K H a xs := .inr h
theorem daa_strs : ∀ (ns : List Str), DaAll K H (ns.map V.str) (ns.map PyData.str)
  | [] => .nil
  | n :: r => .cons (.str n) (daa_strs r)
theorem TupK.strs {a : Addr} {ns : List Str} (h : TupK K a (ns.map V.str)) : Da K H (.ref a) (.tuple (ns.map .str)) := .tup h.st (daa_strs ns)
theorem TupK.ints {a : Addr} {ns : List Int} (h : TupK K a (ns.map V.int)) : Da K H (.ref a) (.tuple (ns.map .int)) := .tup h.st (daa_ints ns)
/-! texts -/
theorem ed_m0 {p : Str → Bool} {a : Str} (h : ED K to σ G (.str a)) : ED K (tM0 (fun x xs H Q => ∃ a, x = V.str a ∧ xs = [] ∧ True ∧ Q (.bl (p a)) H) to) σ G (.bool (p a)) := fun H1 x Q q =>
  ev_str h H1 x _ fun H2 x2 => ⟨⟨a, rfl⟩, a, rfl, rfl, trivial, q _ H2 G ⟨x2, Ex.refl G, x.trans x2, fun _ h _ => h⟩ (.bl _)⟩
theorem ed_m1 {p : Str → Str → Bool} {a b : Str} (h : ED K to σ G (.str a)) (hb : ED K te σ G (.str b)) : ED K (tM1 (fun x xs H Q => ∃ a b, x = V.str a ∧ xs = [V.str b] ∧ Q (.bl (p a b)) H) to te) σ G (.bool (p a b)) := fun H1 x Q q =>
  ev_str h H1 x _ fun H2 x2 => ⟨⟨a, rfl⟩, ev_str hb H2 (x.trans x2) _ fun H3 x3 => ⟨a, b, rfl, rfl, q _ H3 G ⟨x2.trans x3, Ex.refl G, (x.trans x2).trans x3, fun _ h _ => h⟩ (.bl _)⟩⟩
theorem two_le {n : Nat} (h : n ≤ 100000) : n + 2 ≤ sizeLine := by
  have e : sizeLine = 16777216 := by decide
  omega
theorem ed_words {a : Str} (h : ED K to σ G (.str a)) (hz : a.length ≤ 100000) : ED K (tM0 (fun x xs H Q => ∃ a, x = V.str a ∧ xs = [] ∧ a.length + 2 ≤ sizeLine ∧ rNewStrs (Txt.words a) H Q) to) σ G (.list ((Txt.words a).map .str)) := fun H1 x Q q =>
  ev_str h H1 x _ fun H2 x2 => ⟨⟨a, rfl⟩, a, rfl, rfl, two_le hz, fun p hp => by
    refine q (.ref p) _ (upd G p (.lst ((Txt.words a).map V.str))) ?_ (.lst upd_same (daa_strs _))
    have s0 : Sep G H1 H2 G := ⟨x2, Ex.refl G, x.trans x2, fun _ h _ => h⟩
    exact s0.trans (Sep.new s0.inn hp)⟩
theorem ed_split {a b : Str} (h : ED K to σ G (.str a)) (hb : ED K te σ G (.str b)) (hz : a.length ≤ 100000) (hn : (b.length == 0) = false) : ED K (tM1 (fun x xs H Q => ∃ a b, x = V.str a ∧ xs = [V.str b] ∧ (b.length == 0) = false ∧ a.length + 2 ≤ sizeLine ∧ rNewStrs (Txt.split a b) H Q) to te) σ G (.list ((Txt.split a b).map .str)) := fun H1 x Q q =>
  ev_str h H1 x _ fun H2 x2 => ⟨⟨a, rfl⟩, ev_str hb H2 (x.trans x2) _ fun H3 x3 => ⟨a, b, rfl, rfl, hn, two_le hz, fun p hp => by
    refine q (.ref p) _ (upd G p (.lst ((Txt.split a b).map V.str))) ?_ (.lst upd_same (daa_strs _))
    have s0 : Sep G H1 H3 G := ⟨x2.trans x3, Ex.refl G, (x.trans x2).trans x3, fun _ h _ => h⟩
    exact s0.trans (Sep.new s0.inn hp)⟩⟩
theorem ed_intS {a : Str} {n : Int} (h : ED K te σ G (.str a)) (hn : intText? a = some n) (hl : a.length ≤ 640) : ED K (tCB (fun xs H Q => ∃ a n, xs = [V.str a] ∧ PySem.intText? a = some n ∧ a.length ≤ 640 ∧ Q (.int n) H) (tCons te tNil)) σ G (.int n) := fun H1 x Q q =>
  ev_str h H1 x _ fun H2 x2 => ⟨a, n, rfl, hn, hl, q _ H2 G ⟨x2, Ex.refl G, x.trans x2, fun _ h _ => h⟩ (.int _)⟩
theorem ed_lenS {a : Str} (h : ED K te σ G (.str a)) (hl : a.length ≤ 100000) : ED K (tCB (fun xs H Q => ∃ z, xs = [V.str z] ∧ z.length ≤ sizeLine ∧ Q (.int z.length) H) (tCons te tNil)) σ G (.int a.length) := fun H1 x Q q =>
  ev_str h H1 x _ fun H2 x2 => ⟨a, rfl, sz_of hl, q _ H2 G ⟨x2, Ex.refl G, x.trans x2, fun _ h _ => h⟩ (.int _)⟩
theorem ed_ixS {a : Str} {i : Int} {c : Nat} (h : ED K te σ G (.str a)) (hb : ED K tb σ G (.int i)) (hl : a.length ≤ 100000) (hc : atI a.cps.toList i = some c) : ED K (tOp rIxS te tb) σ G (.str ⟨#[c]⟩) :=
  ed_ev (ev_op (ev_str h) (ev_int hb) (rv_ixS hl hc)) (.str _)
theorem ed_lenT (ha : ED K ta σ H (.tuple ds)) : ED K (tCB (fun xs H Q => ∃ p ys, xs = [V.ref p] ∧ (SqL K H p ys ∨ SqT K H p ys) ∧ Q (.int ys.length) H) (tCons ta tNil)) σ H (.int ds.length) := fun H1 x Q q =>
  ha H1 x _ fun v H2 G s g => by
    cases g with
    | @tup a xs _ e g =>
      refine ⟨a, xs, rfl, .inr (ex_t s.inn e), ?_⟩
      rw [daa_len g]
      exact q _ H2 G s (.int _)
/-- a text among texts -/
theorem et_inS {z : Str} {zs : List Str} (ha : ED K ta σ G (.str z)) (hb : ED K tb σ G (.list (zs.map .str))) : EvT (tTest (tOp (rIn K false) ta tb)) σ G (inV (.str z) (zs.map V.str)) := fun H1 x Q q =>
  ev_str ha H1 x _ fun H2 x2 => hb H2 (x.trans x2) _ fun v H3 G3 s g => by
    cases g with
    | @lst a xs _ e g =>
      cases daa_strsV g
      refine ⟨a, _, rfl, .inl (sq_of (s.inn _ _ e)), rfl, ?_, _, rfl, q H3 (x2.trans s.up)⟩
      rw [List.all_eq_true]
      intro y hy
      obtain ⟨t, _, rfl⟩ := List.mem_map.mp hy
      rfl
/-! chains, tests -/
theorem et_chain0 {p p' : Int → Int → Bool} {i j k : Int} (ha : ED K ta σ G (.int i)) (hb : ED K tb σ G (.int j)) (hc : ED K tc σ G (.int k)) :
    EvT (tTest (tChain (rI0 fun i j => .bl (p i j)) (rI0 fun i j => .bl (p' i j)) ta tb tc)) σ G (p i j && p' j k) := fun H1 x Q q =>
  ev_int ha H1 x _ fun H2 x2 => ev_int hb H2 (x.trans x2) _ fun H3 x3 => ⟨i, j, rfl, rfl, p i j, rfl, by
    cases hp : p i j with
    | false =>
      rw [if_neg Bool.false_ne_true]
      rw [hp] at q
      exact ⟨false, rfl, q H3 (x2.trans x3)⟩
    | true =>
      rw [if_pos rfl]
      rw [hp] at q
      exact ev_int hc H3 ((x.trans x2).trans x3) _ fun H4 x4 => ⟨j, k, rfl, rfl, p' j k, rfl, q H4 ((x2.trans x3).trans x4)⟩⟩
theorem ed_chain0 {p p' : Int → Int → Bool} {i j k : Int} (ha : ED K ta σ G (.int i)) (hb : ED K tb σ G (.int j)) (hc : ED K tc σ G (.int k)) :
    ED K (tChain (rI0 fun i j => .bl (p i j)) (rI0 fun i j => .bl (p' i j)) ta tb tc) σ G (.bool (p i j && p' j k)) := by
  have h : Ev (tChain (rI0 fun i j => .bl (p i j)) (rI0 fun i j => .bl (p' i j)) ta tb tc) σ G (.bl (p i j && p' j k)) := fun H1 x Q q =>
    ev_int ha H1 x _ fun H2 x2 => ev_int hb H2 (x.trans x2) _ fun H3 x3 => ⟨i, j, rfl, rfl, p i j, rfl, by
      cases hp : p i j with
      | false =>
        rw [if_neg Bool.false_ne_true]
        rw [hp] at q
        exact q H3 (x2.trans x3)
      | true =>
        rw [if_pos rfl]
        rw [hp] at q
        exact ev_int hc H3 ((x.trans x2).trans x3) _ fun H4 x4 => ⟨j, k, rfl, rfl, q H4 ((x2.trans x3).trans x4)⟩⟩
  exact ed_ev h (.bl _)
theorem et_truL (h : ED K te σ G (.list ds)) : EvT (fun σ H Q => te σ H fun x H' => ∃ k, TruV K x H' k ∧ Q k H') σ G (!ds.isEmpty) := fun H1 x Q q =>
  h H1 x _ fun v H2 G2 s g => by
    cases g with
    | @lst a xs _ e g =>
      refine ⟨!ds.isEmpty, .inl ⟨xs, sq_of (s.inn _ _ e), ?_⟩, q H2 s.up⟩
      have hl := daa_len g
      cases xs <;> cases ds <;> first | rfl | cases hl
theorem ed_ifE {t : TT} {b : Bool} (h : EvT t σ G b) (h1 : b = true → ED K ta σ G d) (h2 : b = false → ED K tb σ G d) : ED K (tIf t ta tb) σ G d := fun H1 x Q q => h H1 x _ fun H2 x2 => by
  have k : ∀ v H3 G3, Sep G H2 H3 G3 → Da K G3 v d → Q v H3 := fun v H3 G3 s g => q v H3 G3 ⟨x2.trans s.up, s.an, s.inn, fun b hb h1 => s.sep b hb fun z => by
    cases q1 : H1 b with
    | none => exact h1 q1
    | some o =>
      rw [x2 b o q1] at z
      cases z⟩ g
  cases b with
  | true => exact h1 rfl H2 (x.trans x2) Q k
  | false => exact h2 rfl H2 (x.trans x2) Q k
/-! slices -/
theorem cut_to {l : List PyData} {n : Nat} : cutD l none (some (n : Int)) = l.take n := by
  unfold cutD
  rw [sIx_nat']
  show (l.drop 0).take (min n l.length - 0) = _
  rw [List.drop_zero, Nat.sub_zero]
  by_cases h : n ≤ l.length
  · rw [Nat.min_eq_left h]
  · rw [Nat.min_eq_right (by omega), List.take_length, List.take_of_length_le (by omega)]
theorem cut_from {l : List PyData} {n : Nat} : cutD l (some (n : Int)) none = l.drop n := by
  unfold cutD
  rw [sIx_nat']
  show (l.drop (min n l.length)).take (l.length - min n l.length) = _
  rw [List.take_of_length_le (by rw [List.length_drop]; omega)]
  by_cases h : n ≤ l.length
  · rw [Nat.min_eq_left h]
  · rw [Nat.min_eq_right (by omega), List.drop_length, List.drop_of_length_le (by omega)]
theorem cut_init {l : List PyData} {m : Int} (hm : m = -1) : cutD l none (some m) = l.dropLast := by
  subst hm
  unfold cutD
  have e : HT.sIx l.length l.length (some (-1)) = l.length - 1 := by
    show (if (-1 : Int) < 0 then (-1 + (l.length : Int)).toNat else min (-1 : Int).toNat l.length) = _
    rw [if_pos (by decide)]
    omega
  rw [e]
  show (l.drop 0).take (l.length - 1 - 0) = _
  rw [List.drop_zero, Nat.sub_zero, List.dropLast_eq_take]
end
end Tw

set_option Elab.async false
set_option linter.all false
set_option maxRecDepth 100000
set_option maxHeartbeats 4000000
namespace Tw
open PySem PySem.Spec PyProof.Rows L2 Evl
/-! what is wholly new -/
def Nil : Hp := fun _ => none
theorem ex_nil {H : Hp} : Ex Nil H := fun _ _ h => nomatch h
theorem Sep.back {H1 H2 H3 G F : Hp} (e : Ex H1 H2) (s : Sep G H2 H3 F) : Sep G H1 H3 F := ⟨e.trans s.up, s.an, s.inn, fun b hb h1 => s.sep b hb fun z => by
  cases q : H1 b with
  | none => exact h1 q
  | some o =>
    rw [e b o q] at z
    cases z⟩
/-- what is new stands beside any anchor -/
theorem Sep.join {H H1 H2 F : Hp} (x : Ex H H1) (s : Sep Nil H1 H2 F) : ∃ G, Sep H H1 H2 G ∧ Ex F G := by
  refine ⟨fun b => if (H b).isSome then H b else F b, ⟨s.up, fun b o hb => ?_, fun b o hb => ?_, fun b hb hb1 => ?_⟩, fun b o hb => ?_⟩
  · show (if (H b).isSome then H b else F b) = some o
    rw [hb]
    rfl
  · have hb' : (if (H b).isSome then H b else F b) = some o := hb
    cases z : H b with
    | none =>
      rw [z] at hb'
      exact s.inn b o hb'
    | some u =>
      rw [z] at hb'
      have : u = o := Option.some.inj hb'
      subst this
      exact s.up b u (x b u z)
  · show (if (H b).isSome then H b else F b) = none
    rw [hb]
    exact s.sep b rfl hb1
  · show (if (H b).isSome then H b else F b) = some o
    cases z : H b with
    | none => exact hb
    | some u =>
      have := s.sep b rfl (by rw [x b u z]; exact Option.some_ne_none u)
      rw [hb] at this
      cases this
def EN (K : PySem.W.Frag) (te : TE) (σ : L2.St) (H : Hp) (d : PyData) : Prop :=
  ∀ H1, Ex H H1 → ∀ Q : VK, (∀ v H2 F, Sep Nil H1 H2 F → Da K F v d → Q v H2) → te σ H1 Q
def spO (K : PySem.W.Frag) (R : List PyData → PyData → Prop) : Sp := fun vs H1 Q _ => ∃ G0 ds d, Ex G0 H1 ∧ DaAll K G0 vs ds ∧ R ds d ∧ ∀ v H2 F, Sep Nil H1 H2 F → Da K F v d → Q v H2
section
variable {K : PySem.W.Frag} {σ : L2.St} {G H : Hp} {ta tb te tl : TE} {d e : PyData} {ds es : List PyData} {D : Ends} {tu tz : TS}
theorem EN.ed (h : EN K te σ H d) : ED K te σ H d := fun H1 x Q q => h H1 x Q fun v H2 F s g => by
  obtain ⟨G, s2, e⟩ := s.join x
  exact q v H2 G s2 (da_ex e g)
theorem en_call {R : List PyData → PyData → Prop} {E : XK} {t : TA} (h : EDA K t σ H ds) (hr : R ds d) : EN K (tCall (spO K R) [] E t) σ H d := fun H1 x Q q =>
  h H1 x _ fun vs H2 G s g => ⟨G, ds, d, s.inn, by rw [List.append_nil]; exact g, hr, fun v H3 F s2 g2 => q v H3 F (s2.back s.up) g2⟩
theorem spO_len {R : List PyData → PyData → Prop} {n : Nat} (h : ∀ ds d, R ds d → ds.length = n) : ∀ vs H Q E, spO K R vs H Q E → vs.length = n := by
  rintro vs H Q E ⟨G0, ds, d, _, g, hr, _⟩
  rw [daa_len g]
  exact h ds d hr
theorem d_asgN {i : Nat} (h : EN K te σ G d) (x : Ex G H) (k : ∀ v H2 F, Sep Nil H H2 F → Da K F v d → tz D (σ.set i (some v)) H2) : tSeq (tAsg te (gName i)) tz D σ H := h H x _ k
/-- a statement that is a call, its answer dropped -/
theorem d_drop (h : ED K te σ G d) (x : Ex G H) (k : ∀ H2, Ex H H2 → tz D σ H2) : tSeq (tDrop te) tz D σ H := h H x _ fun v H2 G2 s g => k H2 s.up
theorem d_drop1 (h : ED K te σ G d) (x : Ex G H) (k : ∀ H2, Ex H H2 → D.nx σ H2) : tDrop te D σ H := h H x _ fun v H2 G2 s g => k H2 s.up
/-- a, b, .. = e, e a list -/
theorem d_unpL {n : Nat} {gs : TGs} (h : ED K te σ G (.list ds)) (x : Ex G H) (hn : ds.length = n) (k : ∀ vs H2 G2, Sep G H H2 G2 → DaAll K G2 vs ds → gs vs σ H2 (tz D)) : tSeq (tAsg te (gLst K n gs)) tz D σ H := h H x _ fun v H2 G2 s g => by
  cases g with
  | @lst a xs _ e g => exact ⟨a, xs, rfl, sq_of (s.inn _ _ e), by rw [daa_len g]; exact hn, k xs H2 G2 s g⟩
/-- xs.append(e), e wholly new, xs outside the anchor of what is kept -/
theorem d_appN {l : Addr} {xs : List V} {i : Nat} {A F : Hp} (xF : Ex F H) (hF : F l = none) (hl : H l = some (.lst xs)) (hx : DaAll K F xs ds) (hi : σ[i]? = some (some (.ref l))) (h : EN K te σ A d) (x : Ex A H) (hz : xs.length < 100000)
    (k : ∀ v H2 F2, Sep F H H2 F2 → F2 l = none → DaAll K F2 (xs ++ [v]) (ds ++ [d]) → H2 l = some (.lst xs) → Ex H H2 → D.nx σ (upd H2 l (.lst (xs ++ [v])))) :
    tDrop (tBM K "list" rAppend (tVar i) (tCons te tNil)) D σ H :=
  ⟨_, hi, .inl ⟨rfl, xs, sq_of hl⟩, h H x _ fun v H2 F1 s g => by
    obtain ⟨F2, s2, e2⟩ := s.join xF
    obtain ⟨o1, o2⟩ := s2.out hF hl
    exact ⟨l, xs, v, rfl, rfl, o2, sz_lt hz, k v H2 F2 s2 o1 (daa_app (daa_ex s2.an hx) (.cons (da_ex e2 g) .nil)) o2 s.up⟩⟩
/-- for a, b in enumerate(xs) -/
theorem d_enum {i j1 j2 : Nat} {v : V} (hi : σ[i]? = some (some v)) (g : Da K G v (.list ds)) (x : Ex G H) (Pv : Nat → L2.St → Hp → Prop) (h0 : Pv 0 σ H) (hx : ∀ i σ' H', Pv i σ' H' → Ex G H')
    (hs : ∀ (i : Nat) w d σ' H', ds[i]? = some d → Da K G w d → Pv i σ' H' → ∀ H2, Ex H' H2 → tu { D with nx := Pv (i + 1), ct := Pv (i + 1), bk := tz D } ((σ'.set j1 (some (.int (i : Int)))).set j2 (some w)) H2)
    (hd : ∀ σ' H', Pv ds.length σ' H' → tz D σ' H') : tSeq (tFor (iEnum K (tCons (tVar i) tNil)) (gTup K 2 (gCons (gName j1) (gCons (gName j2) gNil))) tu) tz D σ H := by
  cases g with
  | @lst a xs _ e g =>
    have hl := daa_len g
    refine ⟨_, hi, a, xs, rfl, sq_of (x _ _ e), ?_⟩
    refine for_it (D := { D with nx := tz D }) (walk_enum (K := K) (a := a) (xs := xs)) Pv h0 (fun i σ' H' _ p => sq_of (hx i σ' H' p _ _ e)) (fun i y σ' H' H2 hlt p yy => ?_) (fun σ' H' p => hd σ' H' (by rw [← hl]; exact p))
    obtain ⟨T, p1, p2, rfl, hT, rfl, e1, e2⟩ := yy
    cases Option.some.inj e1
    obtain ⟨d, hd', gd⟩ := daa_getV g i p2 e2
    exact ⟨T, _, rfl, st_of upd_same, rfl, _, _, rfl, _, _, rfl, rfl, hs i p2 d σ' _ hd' gd p _ (Ex.new hT)⟩
/-- for a in xs -/
theorem d_for {i j : Nat} {v : V} (hi : σ[i]? = some (some v)) (g : Da K G v (.list ds)) (x : Ex G H) (Pv : Nat → L2.St → Hp → Prop) (h0 : Pv 0 σ H) (hx : ∀ i σ' H', Pv i σ' H' → Ex G H')
    (hs : ∀ (i : Nat) w d σ' H', ds[i]? = some d → Da K G w d → Pv i σ' H' → tu { D with nx := Pv (i + 1), ct := Pv (i + 1), bk := tz D } (σ'.set j (some w)) H')
    (hd : ∀ σ' H', Pv ds.length σ' H' → tz D σ' H') : tSeq (tFor (iList K (tVar i)) (gName j) tu) tz D σ H := by
  cases g with
  | @lst a xs _ e g =>
    have hl := daa_len g
    refine ⟨_, hi, a, rfl, ⟨xs, sq_of (x _ _ e)⟩, ?_⟩
    refine for_it (D := { D with nx := tz D }) (walk_list (K := K) (a := a) (xs := xs)) Pv h0 (fun i σ' H' _ p => sq_of (hx i σ' H' p _ _ e)) (fun i y σ' H' H2 hlt p yy => ?_) (fun σ' H' p => hd σ' H' (by rw [← hl]; exact p))
    obtain ⟨rfl, e2⟩ := yy
    obtain ⟨d, hd', gd⟩ := daa_getV g i y e2
    exact hs i y d σ' _ hd' gd p
theorem d_for1 {i j : Nat} {v : V} (hi : σ[i]? = some (some v)) (g : Da K G v (.list ds)) (x : Ex G H) (Pv : Nat → L2.St → Hp → Prop) (h0 : Pv 0 σ H) (hx : ∀ i σ' H', Pv i σ' H' → Ex G H')
    (hs : ∀ (i : Nat) w d σ' H', ds[i]? = some d → Da K G w d → Pv i σ' H' → tu { D with nx := Pv (i + 1), ct := Pv (i + 1), bk := D.nx } (σ'.set j (some w)) H')
    (hd : ∀ σ' H', Pv ds.length σ' H' → D.nx σ' H') : tFor (iList K (tVar i)) (gName j) tu D σ H := d_for (tz := tNext) hi g x Pv h0 hx hs hd
theorem d_enum1 {i j1 j2 : Nat} {v : V} (hi : σ[i]? = some (some v)) (g : Da K G v (.list ds)) (x : Ex G H) (Pv : Nat → L2.St → Hp → Prop) (h0 : Pv 0 σ H) (hx : ∀ i σ' H', Pv i σ' H' → Ex G H')
    (hs : ∀ (i : Nat) w d σ' H', ds[i]? = some d → Da K G w d → Pv i σ' H' → ∀ H2, Ex H' H2 → tu { D with nx := Pv (i + 1), ct := Pv (i + 1), bk := D.nx } ((σ'.set j1 (some (.int (i : Int)))).set j2 (some w)) H2)
    (hd : ∀ σ' H', Pv ds.length σ' H' → D.nx σ' H') : tFor (iEnum K (tCons (tVar i) tNil)) (gTup K 2 (gCons (gName j1) (gCons (gName j2) gNil))) tu D σ H := d_enum (tz := tNext) hi g x Pv h0 hx hs hd
/-- two tuples walked at once -/
theorem walk_zipT {a b : Addr} {xs ys : List V} {n : Nat} (hn : n = min xs.length ys.length) : Walk (RZ.ItzT K a b) n (fun H => SqT K H a xs ∧ SqT K H b ys) (YPair (fun i => xs[i]?) (fun i => ys[i]?)) := by
  subst hn
  refine ⟨fun i _ hi q => ?_, fun _ q => ⟨xs, ys, q.1, q.2, by omega⟩, fun i H v H' _ q y => ?_⟩
  · have h1 : i < xs.length := by omega
    have h2 : i < ys.length := by omega
    exact ⟨xs, ys, xs[i], ys[i], q.1, q.2, by simp [h1], by simp [h2]⟩
  · obtain ⟨T, x, z, h1, h2, h3, h4, h5⟩ := y
    exact ⟨T, x, z, h1, h2, h3, h4 xs q.1, h5 ys q.2⟩
theorem range_step {f : Nat → PyData} {i : Nat} : (List.range (i + 1)).map f = if true = true then (List.range i).map f ++ [f i] else (List.range i).map f := by
  rw [if_pos rfl, List.range_succ, List.map_append]
  rfl
/-- [e for v, (lo, hi) in zip(t, bounds)] -/
theorem ed_lcZ {ta : TA} {vs : List Nat} {j1 j2 j3 : Nat} {bs : List (Int × Int)} (f : Nat → PyData) (h : EDA K ta σ H [.tuple ds, .tuple (bs.map fun b => .tuple [.int b.1, .int b.2])]) (hl : ds.length = bs.length) (hz : ds.length ≤ 1000)
    (hw : ∀ x y z, wipe ((((wipe σ vs).set j1 (some x)).set j2 (some y)).set j3 (some z)) vs = wipe σ vs)
    (he : ∀ (i : Nat) d v lo hi G, ds[i]? = some d → bs[i]? = some (lo, hi) → Ex H G → Da K G v d → ED K te ((((wipe σ vs).set j1 (some v)).set j2 (some (.int lo))).set j3 (some (.int hi))) G (f i)) :
    ED K (tLc (RZ.iZipA K ta) (gTup K 2 (gCons (gName j1) (gCons (gTup K 2 (gCons (gName j2) (gCons (gName j3) gNil))) gNil))) tYes te vs) σ H (.list ((List.range ds.length).map f)) := fun H1 x Q q =>
  h H1 x _ fun us H2 A s ga => by
    obtain ⟨v0, r, rfl, g0, ga⟩ := daa_inv ga
    obtain ⟨v1, r, rfl, g1, ga⟩ := daa_inv ga
    cases daa_inv0 ga
    cases g0 with
    | @tup a xs _ ea gx =>
      cases g1 with
      | @tup b ys _ eb gy =>
        have l1 := daa_len gx
        have l2 := daa_len gy
        rw [List.length_map] at l2
        refine ⟨a, b, xs, ys, rfl, .inr ⟨ex_t s.inn ea, ex_t s.inn eb, fun D hD => ?_⟩⟩
        refine lc_it (walk_zipT (K := K) (a := a) (b := b) (xs := xs) (ys := ys) (n := ds.length) (by omega)) (Lw K A H2 D fun i => (List.range i).map f) (Lw.start s.inn hD rfl) (fun i H' _ pw => ?_) (fun i y H' H3 hlt pw yy => ?_) fun H' pw => ?_
        · obtain ⟨_, G, acc, s2, _⟩ := pw
          exact ⟨ex_t (s.inn.trans s2.up) ea, ex_t (s.inn.trans s2.up) eb⟩
        · obtain ⟨T, p1, p2, rfl, hT, rfl, e1, e2⟩ := yy
          obtain ⟨d, hd', gd⟩ := daa_getV gx i p1 e1
          obtain ⟨d2, hd2, gd2⟩ := daa_getV gy i p2 e2
          rw [List.getElem?_map] at hd2
          obtain ⟨⟨lo, hi⟩, hb, rfl⟩ := Option.map_eq_some_iff.mp hd2
          cases gd2 with
          | @tup c zs _ ec gz =>
            obtain ⟨w1, r, rfl, q1, gz⟩ := daa_inv gz
            obtain ⟨w2, r, rfl, q2, gz⟩ := daa_inv gz
            cases daa_inv0 gz
            cases q1
            cases q2
            have pw' := pw
            obtain ⟨hD', G, acc, s2, gD, hacc, ga', la⟩ := pw
            have ex3 : Ex A (upd H' T (.tup [p1, .ref c])) := (s.inn.trans s2.up).trans (Ex.new hT)
            have TD : T ≠ D := fun z => by
              rw [z] at hT
              rw [hT] at hacc
              cases hacc
            have pw3 : Lw K A H2 D (fun i => (List.range i).map f) i (upd H' T (.tup [p1, .ref c])) := ⟨hD', G, acc, ⟨s2.up.trans (Ex.new hT), s2.an, s2.inn.trans (Ex.new hT), s2.sep⟩, gD, Ex.new hT _ _ hacc, ga', la⟩
            have tn := pw3.turn (t := tYes) (te := te) (σ2 := (((wipe σ vs).set j1 (some p1)).set j2 (some (.int lo))).set j3 (some (.int hi))) (f := true) (e := f i) (by omega) (fun _ _ => et_yes) (fun _ G xg => he i d p1 lo hi G hd' hb (s.an.trans xg) (da_ex xg gd)) range_step
            exact ⟨T, _, rfl, st_of upd_same, rfl, _, _, rfl, _, _, rfl, ⟨c, _, rfl, ex_t ex3 ec, rfl, _, _, rfl, _, _, rfl, rfl, ⟨rfl, hw p1 (.int lo) (.int hi), tn⟩⟩⟩
        · have g3 := lc_fin (out := fun i => (List.range i).map f) s q pw
          exact g3
end
end Tw

set_option Elab.async false
set_option linter.all false
set_option maxRecDepth 100000
set_option maxHeartbeats 4000000
namespace Tw
open PySem PySem.Spec PySem.Calls PyProof.Rows L2 Evl
/-! set(xs), xs a list of hints -/
abbrev bareS (w : World) : Obj := { cls := .type "set", dict := none, data := .set #[] 0 (.fresh 0 0 (!w.params.followText "set-order")) }
abbrev withS (w : World) (s : Shared) : Shared := { s with heap := s.heap.push (bareS w) }
/-- the set at S is made of ns; all else stands -/
def Full (w : World) (s : Shared) (ns : List Int) : Value → Shared → Prop := fun r s2 => r = .none ∧ ∃ h tk c, s2 = { s with heap := h, toks := tk } ∧ SetR w h s.heap.objs.size (fun j => decide (j ∈ ns)) c ∧ c ≤ ns.length ∧ ∀ b o, s.heap.get? b = some o → h.get? b = some o
section
variable {P : Program} {w : World} {A : Around} {E : Value → Shared → Prop} {s : Shared} {l : Addr} {items : Array Value} {ns : List Int}
/-- the loop that fills it -/
theorem fill_set {B : Around} (calm : B.in1.handled = none) (hl : s.heap.IsList l items) (hints : IntsAre items.toList ns) (room : ns.length + 1 < scanBound) {R : Result → Shared → Prop}
    (give : ∀ s2, Full w s ns .none s2 → R (.ok (.ret .none)) s2) :
    codeAny (model P w) B (.builtin "set.update.loop" ⟨[.ref s.heap.objs.size, .ref (withS w s).heap.objs.size], []⟩) R { withS w s with heap := (withS w s).heap.push { cls := .type "list_iterator", data := .fields #[.ref l, .int 0 0] } } := by
  have len : items.size = ns.length := by
    have z := IntsAre.length hints
    rwa [Array.length_toList] at z
  have size1 : (withS w s).heap.objs.size = s.heap.objs.size + 1 := Heap.size_push ..
  have there : (withS w s).heap.get? s.heap.objs.size = some (bareS w) := Heap.get?_push_size _ rfl
  obtain ⟨ol, gl, rest⟩ := id hl
  have below : l < s.heap.objs.size := Heap.lt_size gl
  have apart : l ≠ (withS w s).heap.objs.size := fun z => by
    have z2 : l = s.heap.objs.size + 1 := z.trans size1
    exact absurd below (by rw [z2]; exact Nat.not_lt.mpr (Nat.le_succ _))
  have value : ∀ (i : Nat) (v : Value), items[i]? = some v → ∃ k t, ns[i]? = some k ∧ v = .int k t := by
    intro i v hv
    have hi : i < ns.length := by
      have := (Array.getElem?_eq_some_iff.mp hv).1
      omega
    obtain ⟨t, e⟩ := IntsAre.int_at hints i v (by rw [Array.getElem?_toList]; exact hv)
    rw [List.getD_eq_getElem?_getD, List.getElem?_eq_getElem hi] at e
    exact ⟨ns[i], t, List.getElem?_eq_getElem hi, e⟩
  have hl1 : (withS w s).heap.IsList l items := hl.push _
  refine set_update_ints (Walks.list calm _ l apart items).toS s.heap.objs.size ?out ns len room value items.size 0 _ (by omega) (Nat.zero_le _) ⟨⟨_, Heap.get?_push_size _ rfl, rfl, rfl⟩, hl1.push _⟩ ⟨0, Nat.le_refl 0, setR_new_at (Heap.get?_push_of_some _ there)⟩ ?fin
  case out =>
    intro hm
    rcases List.mem_cons.mp hm with z | hm
    · exact absurd (z.trans size1) (Nat.ne_of_lt (Nat.lt_succ_self _))
    · rcases List.mem_cons.mp hm with z | hm
      · exact absurd z (Nat.ne_of_gt below)
      · cases hm
  case fin =>
    rintro ⟨h2, g2, d2, t2, o2⟩ c moved few done
    obtain rfl : g2 = s.gens := moved.gens
    obtain rfl : d2 = s.drawn := moved.drawn
    obtain rfl : o2 = s.os := moved.os
    refine give _ ⟨rfl, h2, t2, c, rfl, done, by omega, fun b o e => ?_⟩
    have hb := Heap.lt_size e
    refine moved.heap b o (fun hm => ?_) (Heap.get?_push_of_some _ (Heap.get?_push_of_some _ e))
    rcases List.mem_cons.mp hm with z | hm
    · exact absurd z (Nat.ne_of_lt hb)
    · rcases List.mem_cons.mp hm with z | hm
      · exact absurd (z.trans size1) (Nat.ne_of_lt (Nat.lt_succ_of_lt hb))
      · cases hm
/-- set(xs) -/
theorem call_set_listI (calm : A.handled = none) (hl : s.heap.IsList l items) (hints : IntsAre items.toList ns) (room : ns.length + 1 < scanBound) {Q : Value → Shared → Prop}
    (give : ∀ h tk c, SetR w h s.heap.objs.size (fun j => decide (j ∈ ns)) c → c ≤ ns.length → (∀ b o, s.heap.get? b = some o → h.get? b = some o) → Q (.ref s.heap.objs.size) { s with heap := h, toks := tk }) :
    wpAny (model P w) A (call (.type "set") [.ref l]) Q E s := by
  have there : (withS w s).heap.get? s.heap.objs.size = some (bareS w) := Heap.get?_push_size _ rfl
  obtain ⟨c0, tl0, mroS⟩ := F.called_set.mro
  have madeS := F.called_set.made
  have subS := F.called_set.sub
  have ntS := F.called_set.notType
  have ccS := F.called_set.canCreate
  have tcS := F.typeCall_set_1 (.ref l)
  refine wpAny_call (codeAny_of_tree (show wpAny _ _ (callAny (.type "set") _) _ _ _ from wpAny_pure ⟨Code.quiet_builtin _ (by decide +kernel), codeAny_builtin F.entry_type_call ?body⟩))
  rw [Around.under_plain (weight_type_call_type "set" [.ref l] []) rfl]
  repeat (any_goals (first | assumption | wp_step))
  refine codeAny_mono (code_set_led1 (.ref l) (E := E) (Q₁ := fun r s2 => r = .ref s.heap.objs.size ∧ s2 = withS w s) ⟨rfl, rfl⟩) ?made
  rintro (e | fl) s2 hr
  · exact hr
  cases fl with
  | next => exact hr.elim
  | brk => exact hr.elim
  | cont => exact hr.elim
  | ret obj =>
    obtain ⟨rfl, rfl⟩ := hr
    have tyS : Shared.TypeIs (withS w s) (.ref s.heap.objs.size) "set" := ⟨_, there, rfl⟩
    have liS := F.called_set.init.lookup
    have biS := F.called_set.init.bind (.ref s.heap.objs.size)
    repeat (any_goals (first | assumption | wp_step))
    refine codeAny_mono (codeAny_call_builtin (R := wants (Full w s ns) E) F.called_set.init.plain F.entry_set_init (check_set_init_1 tyS ?fill)) ?rest
    case fill =>
      have hl1 : (withS w s).heap.IsList l items := hl.push _
      obtain ⟨⟨ocls, odict, odata, oslots⟩, gol, hcl, nl, hdl⟩ := hl
      cases hcl
      cases hdl
      have gol1 : (withS w s).heap.get? l = some { cls := .type "list", dict := odict, data := .seq items nl, slots := oslots } := Heap.get?_push_of_some _ gol
      have no1 := F.sub_list_set
      have no2 := F.sub_list_frozenset
      have no3 : (Value.type "list" == Value.type "dict") = false := by decide
      unfold Builtin.«set.__init__» noKeywords Builtin.Frozenset.updateFrom
      generalize keep : pyIter = PI
      wp_walk
      subst keep
      refine wpAny_pyIter_list hl1 (wpAny_bind (wpAny_runValue ?_))
      refine fill_set (by simp [calm]) ⟨_, gol, rfl, nl, rfl⟩ hints room fun s3 done => ?_
      exact wpAny_pure (wpAny_pure done)
    case rest =>
      rintro (e | fl) s3 hr3
      · exact hr3
      cases fl with
      | next => exact hr3.elim
      | brk => exact hr3.elim
      | cont => exact hr3.elim
      | ret r =>
        obtain ⟨rfl, h, tk, c, rfl, done, few, old⟩ := hr3
        repeat (any_goals (first | assumption | wp_step))
        exact give _ _ _ done few old
end
end Tw

set_option Elab.async false
set_option linter.all false
set_option maxRecDepth 100000
set_option maxHeartbeats 4000000
namespace Tw
open PySem PySem.Spec PyProof.Rows L2 Evl
/-! set(xs) of a list of ints; sorted(set(xs)) -/
def rSetL (K : PySem.W.Frag) (w : World) : List V → Hp → VK → Prop := fun vs H Q => ∃ (p : Addr) (ns : List Int), vs = [.ref p] ∧ SqL K H p (ns.map V.int) ∧ ns.length ≤ 1000 ∧ ∀ a c, H a = none → c ≤ ns.length → Q (.ref a) (upd H a (SetO w a (fun j => decide (j ∈ ns)) c))
theorem call_setL {X : Cx} (hc : X.calm = true) : CallR X (.type "set") (rSetL X.K X.w) := by
  intro pins s σ H vs us Q I r h
  obtain ⟨p, ns, rfl, hS, few, q⟩ := h
  rw [Vals.ref1 r]
  obtain ⟨its, rv, pl, _⟩ := I.list hS
  refine call_set_listI (I.ok.hd hc) pl.isList (ints_of_vals rv) (by unfold scanBound; omega) fun h2 tk c R1 hc2 old => ?_
  have free := I.hok.fresh (Nat.le_refl s.heap.objs.size)
  exact ⟨.ref s.heap.objs.size, _, I.laid old (Nat.le_refl _) (setO_new R1), rfl, q _ c free hc2⟩
theorem setLK {X : Cx} {K : PySem.W.Frag} {w : World} (hc : X.calm = true) (e : X.K = K := by rfl) (e2 : X.w = w := by rfl) : CallR X (.type "set") (rSetL K w) := e ▸ e2 ▸ call_setL hc
section
variable {K : PySem.W.Frag} {w : World} {σ : L2.St} {G H : Hp} {ta tb te tl : TE} {d e : PyData} {ds es : List PyData} {D : Ends} {tu tz : TS}
/-- xs = sorted(set(e)): an ascending list of the same numbers -/
theorem d_sortedSet {ns : List Int} {i : Nat} (h : ED K te σ G (.list (ns.map .int))) (x : Ex G H) (few : ns.length < 60) (k : ∀ (ms : List Int) v H2 G2, ms.Pairwise (· < ·) → (∀ k : Int, k ∈ ms ↔ k ∈ ns) → Sep G H H2 G2 → Da K G2 v (.list (ms.map .int)) → tz D (σ.set i (some v)) H2) :
    tSeq (tAsg (tCB (rSortedSet w) (tCons (tCB (rSetL K w) (tCons te tNil)) tNil)) (gName i)) tz D σ H := h H x _ fun v H2 G2 s g => by
  cases g with
  | @lst a xs _ e g =>
    cases daa_intsV g
    refine ⟨a, ns, rfl, sq_of (s.inn _ _ e), by omega, fun b c fb hc => ⟨b, _, c, rfl, upd_same, by omega, fun ms p asc mem len fp => ?_⟩⟩
    have s' : Sep G H (upd H2 b (SetO w b (fun j => decide (j ∈ ns)) c)) G2 := s.mut (by
      cases q : H b with
      | none => rfl
      | some o =>
        rw [s.up b o q] at fb
        cases fb) (fresh_back s.inn fb)
    refine k ms (.ref p) _ (upd G2 p (.lst (ms.map V.int))) asc (fun k => ?_) (s'.trans (Sep.new s'.inn fp)) (.lst upd_same (daa_ints ms))
    rw [mem]
    exact decide_eq_true_iff
/-- comprehensions with any target -/
theorem ed_lcG {tg : TG} {t : TT} {vs : List Nat} (p : PyData → Bool) (g : PyData → PyData) (h : ED K tl σ H (.list ds)) (hz : ds.length ≤ 40000)
    (ht : ∀ d v G H', d ∈ ds → Ex H G → Da K G v d → Ex G H' → ∀ Q : L2.St → Hp → Prop, (∀ σ2, wipe σ2 vs = wipe σ vs → EvT t σ2 G (p d) → (p d = true → ED K te σ2 G (g d)) → Q σ2 H') → tg v (wipe σ vs) H' Q) :
    ED K (tLc (iList K tl) tg t te vs) σ H (.list ((ds.filter p).map g)) := fun H1 x Q q =>
  h H1 x _ fun v H2 A s gv => by
    cases gv with
    | @lst a xs _ ea ga =>
      refine ⟨a, rfl, ⟨xs, sq_of (s.inn _ _ ea)⟩, fun D hD => ?_⟩
      have hlen := daa_len ga
      refine lc_it (walk_list (K := K) (a := a) (xs := xs)) (Lw K A H2 D fun i => ((ds.take i).filter p).map g) (Lw.start s.inn hD (by rw [List.take_zero]; rfl)) (fun i H' _ pw => ?_) (fun i y H' H3 hlt pw yy => ?_) fun H' pw => ?_
      · obtain ⟨_, G, acc, s2, _⟩ := pw
        exact sq_of (s2.up _ _ (s.inn _ _ ea))
      · obtain ⟨rfl, hi⟩ := yy
        obtain ⟨d, hd, gd⟩ := daa_getV ga i y hi
        have hm : d ∈ ds := List.mem_of_getElem? hd
        obtain ⟨hD', G, acc, s2, rest⟩ := id pw
        refine ht d y A _ hm s.an gd (s.inn.trans s2.up) _ fun σ2 hw hT hE => ⟨hw, pw.turn (by omega) (fun G xg => hT.mono xg) (fun hf G xg => (hE hf).mono xg) (filt_step hd)⟩
      · have e : ds.take xs.length = ds := List.take_of_length_le (by omega)
        refine lc_fin (out := fun i => ((ds.take i).filter p).map g) s (fun v H2 G s2 g2 => q v H2 G s2 ?_) pw
        have g3 : Da K G v (.list (((ds.take xs.length).filter p).map g)) := g2
        rw [e] at g3
        exact g3
theorem ed_lcE {ta : TA} {tg : TG} {t : TT} {vs : List Nat} (p : Nat → Bool) (g : Nat → PyData) (h : EDA K ta σ H [.list ds]) (hz : ds.length ≤ 40000)
    (ht : ∀ (i : Nat) d v T G H', ds[i]? = some d → Ex H G → Da K G v d → SqT K H' T [.int (i : Int), v] → Ex G H' → ∀ Q : L2.St → Hp → Prop, (∀ σ2, wipe σ2 vs = wipe σ vs → EvT t σ2 G (p i) → (p i = true → ED K te σ2 G (g i)) → Q σ2 H') → tg (.ref T) (wipe σ vs) H' Q) :
    ED K (tLc (iEnum K ta) tg t te vs) σ H (.list (((List.range ds.length).filter p).map g)) := fun H1 x Q q =>
  h H1 x _ fun us H2 A s ga => by
    obtain ⟨v0, r, rfl, g0, ga⟩ := daa_inv ga
    cases daa_inv0 ga
    cases g0 with
    | @lst a xs _ ea ga =>
      refine ⟨a, xs, rfl, sq_of (s.inn _ _ ea), fun D hD => ?_⟩
      have hlen := daa_len ga
      refine lc_it (walk_enum (K := K) (a := a) (xs := xs)) (Lw K A H2 D fun i => ((List.range i).filter p).map g) (Lw.start s.inn hD rfl) (fun i H' _ pw => ?_) (fun i y H' H3 hlt pw yy => ?_) fun H' pw => ?_
      · obtain ⟨_, G, acc, s2, _⟩ := pw
        exact sq_of (s2.up _ _ (s.inn _ _ ea))
      · obtain ⟨T, p1, p2, rfl, hT, rfl, e1, e2⟩ := yy
        cases Option.some.inj e1
        obtain ⟨d, hd, gd⟩ := daa_getV ga i p2 e2
        obtain ⟨hD', G, acc, s2, gD, hacc, ga', la⟩ := pw
        have pw3 : Lw K A H2 D (fun i => ((List.range i).filter p).map g) i (upd H' T (.tup [.int (i : Nat), p2])) := ⟨hD', G, acc, ⟨s2.up.trans (Ex.new hT), s2.an, s2.inn.trans (Ex.new hT), s2.sep⟩, gD, Ex.new hT _ _ hacc, ga', la⟩
        refine ht i d p2 T A _ hd s.an gd (st_of upd_same) ((s.inn.trans s2.up).trans (Ex.new hT)) _ fun σ2 hw hTt hE => ⟨hw, pw3.turn (by omega) (fun G xg => hTt.mono xg) (fun hf G xg => (hE hf).mono xg) ?_⟩
        show ((List.range (i + 1)).filter p).map g = _
        rw [List.range_succ, List.filter_append, List.map_append]
        by_cases z : p i = true
        · rw [if_pos z, List.filter_cons, if_pos z]
          rfl
        · rw [if_neg z, List.filter_cons, if_neg z]
          show _ ++ [] = _
          rw [List.append_nil]
      · refine lc_fin (out := fun i => ((List.range i).filter p).map g) s (fun v H2 G s2 g2 => q v H2 G s2 ?_) pw
        have g3 : Da K G v (.list (((List.range xs.length).filter p).map g)) := g2
        rw [hlen] at g3
        exact g3
/-- n in (a, b) -/
theorem et_inT2 {n a b : Int} (hn : ED K ta σ G (.int n)) (h1 : ED K tb σ G (.int a)) (h2 : ED K te σ G (.int b)) : EvT (tTest (tOp (rIn K false) ta (tTup (tCons tb (tCons te tNil))))) σ G (decide (n = a) || decide (n = b)) := by
  refine et_is (et_test (ev_inU (ev_int hn) (eu_tup (ea_cons (ev_int h1) (ea_cons (ev_int h2) ea_nil)) (by show 2 ≤ 100000; decide)) rfl rfl)) ?_
  show ((a == n) || ((b == n) || false)) = _
  rw [Bool.or_false]
  congr 1
  · by_cases z : n = a
    · rw [decide_eq_true z, z]
      exact beq_self_eq_true a
    · rw [decide_eq_false z]
      exact beq_eq_false_iff_ne.mpr fun e => z e.symm
  · by_cases z : n = b
    · rw [decide_eq_true z, z]
      exact beq_self_eq_true b
    · rw [decide_eq_false z]
      exact beq_eq_false_iff_ne.mpr fun e => z e.symm
theorem ed_andV {a b : Bool} (ha : ED K ta σ G (.bool a)) (hb : a = true → ED K tb σ G (.bool b)) : ED K (tAndV ta tb) σ G (.bool (a && b)) := ed_ev (ev_andV (ev_bool ha) fun h => ev_bool (hb h)) (.bl _)
/-- the i-th of a tuple or a list, unpacked in a target -/
theorem tg_tup3 {H' : Hp} {v : V} {a b c : PyData} {gs : TGs} {Q : L2.St → Hp → Prop} {σ0 : L2.St} (g : Da K G v (.tuple [a, b, c])) (x : Ex G H') (k : ∀ v1 v2 v3, Da K G v1 a → Da K G v2 b → Da K G v3 c → gs [v1, v2, v3] σ0 H' Q) : gTup K 3 gs v σ0 H' Q := by
  cases g with
  | @tup p xs _ e g =>
    obtain ⟨v1, r, rfl, g1, g⟩ := daa_inv g
    obtain ⟨v2, r, rfl, g2, g⟩ := daa_inv g
    obtain ⟨v3, r, rfl, g3, g⟩ := daa_inv g
    cases daa_inv0 g
    exact ⟨p, _, rfl, ex_t x e, rfl, k v1 v2 v3 g1 g2 g3⟩
end
end Tw

set_option Elab.async false
set_option linter.all false
set_option maxRecDepth 100000
set_option maxHeartbeats 4000000
namespace VL
open PySem PySem.Spec PyProof.Rows L2 Evl Tw
/-! plain states over data: what a def does is told without addresses -/
def Up (P : Option Addr) (H H' : Hp) : Prop := ∀ b o, P ≠ some b → H b = some o → H' b = some o
/-- the pool, if there is one: a list of ints of one's own -/
def Pl (P : Option Addr) (H : Hp) : Prop := ∀ p, P = some p → ∃ xs : List Int, H p = some (.lst (xs.map V.int)) ∧ 2 ≤ xs.length ∧ xs.length ≤ 50000
def PG (P : Option Addr) (G : Hp) : Prop := ∀ p, P = some p → G p = none
structure Sx (P : Option Addr) (G H G2 H2 : Hp) : Prop where
  up : Up P H H2
  an : Ex G G2
  inn : Ex G2 H2
  sep : ∀ b, G b = none → H b ≠ none → G2 b = none
theorem Up.refl {P : Option Addr} {H : Hp} : Up P H H := fun _ _ _ h => h
theorem Up.of {P : Option Addr} {H H' : Hp} (e : Ex H H') : Up P H H' := fun b o _ h => e b o h
theorem Up.trans {P : Option Addr} {A B C : Hp} (a : Up P A B) (b : Up P B C) : Up P A C := fun c o n h => b c o n (a c o n h)
theorem Up.some {P : Option Addr} {A B : Hp} (a : Up P A B) (pl : Pl P B) {b : Addr} (h : A b ≠ none) : B b ≠ none := by
  by_cases q : P = .some b
  · obtain ⟨xs, e, _⟩ := pl b q
    rw [e]
    exact Option.some_ne_none _
  · cases z : A b with
    | none => exact absurd z h
    | some o =>
      rw [a b o q z]
      exact Option.some_ne_none _
theorem Pl.ex {P : Option Addr} {A B : Hp} (a : Pl P A) (e : Ex A B) : Pl P B := fun p hp => by
  obtain ⟨xs, h, l⟩ := a p hp
  exact ⟨xs, e _ _ h, l⟩
theorem Sx.refl {P : Option Addr} {G H : Hp} (e : Ex G H) : Sx P G H G H := ⟨Up.refl, Ex.refl _, e, fun _ h _ => h⟩
theorem Sx.trans {P : Option Addr} {G H G2 H2 G3 H3 : Hp} (a : Sx P G H G2 H2) (pl : Pl P H2) (b : Sx P G2 H2 G3 H3) : Sx P G H G3 H3 :=
  ⟨a.up.trans b.up, a.an.trans b.an, b.inn, fun c h h1 => b.sep c (a.sep c h h1) (a.up.some pl h1)⟩
theorem Sx.of {P : Option Addr} {G H G2 H2 : Hp} (s : Sep G H H2 G2) : Sx P G H G2 H2 := ⟨Up.of s.up, s.an, s.inn, s.sep⟩
theorem Sx.pg {P : Option Addr} {G H G2 H2 : Hp} (s : Sx P G H G2 H2) (pl : Pl P H) (pg : PG P G) : PG P G2 := fun p hp => s.sep p (pg p hp) (by
  obtain ⟨xs, e, _⟩ := pl p hp
  rw [e]
  exact Option.some_ne_none _)
/-- a place: unknown, data, a list of one's own, the pool -/
inductive Sl where
  | un
  | da (d : PyData)
  | ow (ds : List PyData)
  | po
  /-- a caught exception: where it is, its class, its dict, its fields -/
  | xc (a C : Addr) (d : Option Addr) (fs : List (Str × PyData))
abbrev Ss := List Sl
/-- the fields of an exception, in the anchor -/
def XG (K : PySem.W.Frag) (G : Hp) (d : Option Addr) (fs : List (Str × PyData)) : Prop := (fs = [] ∧ d = none) ∨ ∃ (a : Addr) (f : Str) (e : PyData) (v : V), fs = [(f, e)] ∧ d = some a ∧ G a = some (.xd [(f, v)]) ∧ Da K G v e
theorem XG.ex {K : PySem.W.Frag} {G G' : Hp} {d : Option Addr} {fs : List (Str × PyData)} (h : XG K G d fs) (e : Ex G G') : XG K G' d fs := by
  rcases h with h | ⟨a, f, v, x, h1, h2, h3, h4⟩
  · exact .inl h
  · exact .inr ⟨a, f, v, x, h1, h2, e _ _ h3, da_ex e h4⟩
def SlOk (K : PySem.W.Frag) (P : Option Addr) (X : Addr → Prop) (G H : Hp) (a : Addr) (H0 : Hp) (o : Option V) : Sl → Prop
  | .un => True
  | .da d => ∃ v, o = some v ∧ Da K G v d
  | .ow ds => o = some (.ref a) ∧ (P ≠ some a ∧ ¬ X a) ∧ H0 a = none ∧ G a = none ∧ ∃ xs, H a = some (.lst xs) ∧ DaAll K G xs ds
  | .po => ∃ p, P = some p ∧ o = some (.ref p)
  | .xc b _ d fs => o = some (.ref b) ∧ XG K G d fs
structure Rel (K : PySem.W.Frag) (P : Option Addr) (X : Addr → Prop) (G0 H0 G H : Hp) (σ : L2.St) (S : Ss) : Prop where
  sx : Sx P G0 H0 G H
  pl : Pl P H
  pg : PG P G
  res : ∀ b, X b → G b = none ∧ H b ≠ none ∧ P ≠ some b
  len : S.length = σ.length
  sl : ∃ A : Nat → Addr, (∀ i s, S[i]? = some s → ∃ o, σ[i]? = some o ∧ SlOk K P X G H (A i) H0 o s) ∧ ∀ i j ds es, S[i]? = some (.ow ds) → S[j]? = some (.ow es) → A i = A j → i = j
section
variable {K : PySem.W.Frag} {P : Option Addr} {X : Addr → Prop} {G0 H0 G H G' H' : Hp} {σ : L2.St} {S : Ss}
theorem SlOk.go {a : Addr} {o : Option V} {s : Sl} (u : Up P H H') (e : Ex G G') (out : ∀ b, G b = none → H b ≠ none → G' b = none) (h : SlOk K P X G H a H0 o s) : SlOk K P X G' H' a H0 o s := by
  cases s with
  | un => trivial
  | da d =>
    obtain ⟨v, e1, g⟩ := h
    exact ⟨v, e1, da_ex e g⟩
  | ow ds =>
    obtain ⟨e1, n, h0, g0, xs, hx, g⟩ := h
    exact ⟨e1, n, h0, out _ g0 (by rw [hx]; exact Option.some_ne_none _), xs, u _ _ n.1 hx, daa_ex e g⟩
  | po => exact h
  | xc b C d fs => exact ⟨h.1, h.2.ex e⟩
/-- a step of an expression -/
theorem Rel.step (r : Rel K P X G0 H0 G H σ S) (s : Sx P G H G' H') (pl : Pl P H') : Rel K P X G0 H0 G' H' σ S := by
  obtain ⟨A, hA, inj⟩ := r.sl
  refine ⟨r.sx.trans r.pl s, pl, s.pg r.pl r.pg, fun b hb => ⟨s.sep b (r.res b hb).1 (r.res b hb).2.1, s.up.some pl (r.res b hb).2.1, (r.res b hb).2.2⟩, r.len, A, fun i t ht => ?_, inj⟩
  obtain ⟨o, ho, ok⟩ := hA i t ht
  exact ⟨o, ho, ok.go s.up s.an s.sep⟩
theorem Rel.inn (r : Rel K P X G0 H0 G H σ S) : Ex G H := r.sx.inn
theorem Rel.at (r : Rel K P X G0 H0 G H σ S) {i : Nat} {d : PyData} (h : S[i]? = some (.da d)) : ∃ v, σ[i]? = some (some v) ∧ Da K G v d := by
  obtain ⟨A, hA, _⟩ := r.sl
  obtain ⟨o, ho, v, e, g⟩ := hA i _ h
  subst e
  exact ⟨v, ho, g⟩
theorem Rel.own (r : Rel K P X G0 H0 G H σ S) {i : Nat} {ds : List PyData} (h : S[i]? = some (.ow ds)) : ∃ a xs, σ[i]? = some (some (.ref a)) ∧ (P ≠ some a ∧ ¬ X a) ∧ H0 a = none ∧ G a = none ∧ H a = some (.lst xs) ∧ DaAll K G xs ds := by
  obtain ⟨A, hA, _⟩ := r.sl
  obtain ⟨o, ho, e, n, h0, g0, xs, hx, g⟩ := hA i _ h
  subst e
  exact ⟨_, xs, ho, n, h0, g0, hx, g⟩
/-- an own list becomes data -/
theorem Rel.seal (r : Rel K P X G0 H0 G H σ S) {i : Nat} {ds : List PyData} (h : S[i]? = some (.ow ds)) : ∃ v G', σ[i]? = some (some v) ∧ Ex G G' ∧ Da K G' v (.list ds) ∧ Rel K P X G0 H0 G' H σ (S.set i (.da (.list ds))) := by
  obtain ⟨A, hA, inj⟩ := r.sl
  obtain ⟨o, ho, e, n, h0, g0, xs, hx, g⟩ := hA i _ h
  subst e
  have eG : Ex G (upd G (A i) (.lst xs)) := Ex.new g0
  refine ⟨_, upd G (A i) (.lst xs), ho, eG, .lst upd_same (daa_ex eG g), ⟨r.sx.up, r.sx.an.trans eG, fun b u hb => ?_, fun b hb h1 => ?_⟩, r.pl, fun p hp => ?_, fun b hb => ⟨?_, (r.res b hb).2⟩, by rw [List.length_set]; exact r.len, A, fun j t ht => ?_, fun j k es fs hj hk => ?_⟩
  · by_cases q : b = A i
    · subst q
      rw [upd_same] at hb
      rw [← hb]
      exact hx
    · rw [upd_ne q] at hb
      exact r.sx.inn b u hb
  · have q : b ≠ A i := fun z => h1 (z ▸ h0)
    rw [upd_ne q]
    exact r.sx.sep b hb h1
  · have q : p ≠ A i := fun z => n.1 (z ▸ hp)
    rw [upd_ne q]
    exact r.pg p hp
  · have q : b ≠ A i := fun z => n.2 (z ▸ hb)
    rw [upd_ne q]
    exact (r.res b hb).1
  · by_cases q : j = i
    · subst q
      rw [List.getElem?_set_self (List.getElem?_eq_some_iff.mp h).1] at ht
      cases ht
      exact ⟨_, ho, _, rfl, .lst upd_same (daa_ex eG g)⟩
    · rw [List.getElem?_set_ne (Ne.symm q)] at ht
      obtain ⟨o, ho2, ok⟩ := hA j t ht
      refine ⟨o, ho2, ?_⟩
      cases t with
      | un => trivial
      | da d =>
        obtain ⟨v, e1, g⟩ := ok
        exact ⟨v, e1, da_ex eG g⟩
      | ow es =>
        obtain ⟨e1, n1, h01, g01, ys, hy, gy⟩ := ok
        refine ⟨e1, n1, h01, ?_, ys, hy, daa_ex eG gy⟩
        rw [upd_ne fun z => q (inj j i es ds ht h z)]
        exact g01
      | po => exact ok
      | xc b C d fs => exact ⟨ok.1, ok.2.ex eG⟩
  · by_cases q : j = i
    · subst q
      rw [List.getElem?_set_self (List.getElem?_eq_some_iff.mp h).1] at hj
      cases hj
    · by_cases q2 : k = i
      · subst q2
        rw [List.getElem?_set_self (List.getElem?_eq_some_iff.mp h).1] at hk
        cases hk
      · rw [List.getElem?_set_ne (Ne.symm q)] at hj
        rw [List.getElem?_set_ne (Ne.symm q2)] at hk
        exact inj j k es fs hj hk
/-- stores -/
theorem Rel.setD (r : Rel K P X G0 H0 G H σ S) {i : Nat} {v : V} {d : PyData} (g : Da K G v d) : Rel K P X G0 H0 G H (σ.set i (some v)) (S.set i (.da d)) := by
  obtain ⟨A, hA, inj⟩ := r.sl
  refine ⟨r.sx, r.pl, r.pg, r.res, by rw [List.length_set, List.length_set]; exact r.len, A, fun j t ht => ?_, fun j k es fs hj hk => ?_⟩
  · by_cases q : i = j
    · subst q
      have hl : i < S.length := by
        have := (List.getElem?_eq_some_iff.mp ht).1
        rw [List.length_set] at this
        exact this
      rw [List.getElem?_set_self hl] at ht
      cases ht
      exact ⟨_, List.getElem?_set_self (by rw [← r.len]; exact hl), v, rfl, g⟩
    · rw [List.getElem?_set_ne q] at ht
      rw [List.getElem?_set_ne q]
      exact hA j t ht
  · by_cases q : i = j
    · subst q
      have hl : i < S.length := by
        have := (List.getElem?_eq_some_iff.mp hj).1
        rw [List.length_set] at this
        exact this
      rw [List.getElem?_set_self hl] at hj
      cases hj
    · by_cases q2 : i = k
      · subst q2
        have hl : i < S.length := by
          have := (List.getElem?_eq_some_iff.mp hk).1
          rw [List.length_set] at this
          exact this
        rw [List.getElem?_set_self hl] at hk
        cases hk
      · rw [List.getElem?_set_ne q] at hj
        rw [List.getElem?_set_ne q2] at hk
        exact inj j k es fs hj hk
/-- a list of one's own: new beside the others -/
theorem Rel.setO (r : Rel K P X G0 H0 G H σ S) {i : Nat} {a : Addr} {xs : List V} {ds : List PyData} (n : P ≠ some a ∧ ¬ X a) (h0 : H0 a = none) (g0 : G a = none) (hx : H a = some (.lst xs)) (g : DaAll K G xs ds)
    (new : ∀ (j : Nat) (es : List PyData), S[j]? = some (.ow es) → σ[j]? ≠ some (some (.ref a))) : Rel K P X G0 H0 G H (σ.set i (some (.ref a))) (S.set i (.ow ds)) := by
  obtain ⟨A, hA, inj⟩ := r.sl
  refine ⟨r.sx, r.pl, r.pg, r.res, by rw [List.length_set, List.length_set]; exact r.len, fun j => if j = i then a else A j, fun j t ht => ?_, fun j k es fs hj hk => ?_⟩
  · by_cases q : i = j
    · subst q
      have hl : i < S.length := by
        have := (List.getElem?_eq_some_iff.mp ht).1
        rw [List.length_set] at this
        exact this
      rw [List.getElem?_set_self hl] at ht
      cases ht
      refine ⟨_, List.getElem?_set_self (by rw [← r.len]; exact hl), ?_⟩
      simp only [if_true]
      exact ⟨rfl, n, h0, g0, xs, hx, g⟩
    · rw [List.getElem?_set_ne q] at ht
      rw [List.getElem?_set_ne q]
      simp only [if_neg (Ne.symm q)]
      exact hA j t ht
  · have far : ∀ j es, j ≠ i → S[j]? = some (.ow es) → A j ≠ a := fun j es _ hj z => by
      obtain ⟨o, ho, e, _⟩ := hA j _ hj
      refine new j es hj ?_
      rw [ho, e, z]
    by_cases q : i = j
    · by_cases q2 : i = k
      · intro _
        exact q.symm.trans q2
      · subst q
        rw [List.getElem?_set_ne q2] at hk
        simp only [if_true, if_neg (Ne.symm q2)]
        intro z
        exact absurd z.symm (far k fs (Ne.symm q2) hk)
    · rw [List.getElem?_set_ne q] at hj
      by_cases q2 : i = k
      · subst q2
        simp only [if_true, if_neg (Ne.symm q)]
        intro z
        exact absurd z (far j es (Ne.symm q) hj)
      · rw [List.getElem?_set_ne q2] at hk
        simp only [if_neg (Ne.symm q), if_neg (Ne.symm q2)]
        exact inj j k es fs hj hk
/-- a slot is forgotten -/
theorem Rel.forget (r : Rel K P X G0 H0 G H σ S) {i : Nat} {o : Option V} : Rel K P X G0 H0 G H (σ.set i o) (S.set i .un) := by
  obtain ⟨A, hA, inj⟩ := r.sl
  refine ⟨r.sx, r.pl, r.pg, r.res, by rw [List.length_set, List.length_set]; exact r.len, A, fun j t ht => ?_, fun j k es fs hj hk => ?_⟩
  · by_cases q : i = j
    · subst q
      have hl : i < S.length := by
        have := (List.getElem?_eq_some_iff.mp ht).1
        rw [List.length_set] at this
        exact this
      rw [List.getElem?_set_self hl] at ht
      cases ht
      exact ⟨_, List.getElem?_set_self (by rw [← r.len]; exact hl), trivial⟩
    · rw [List.getElem?_set_ne q] at ht
      rw [List.getElem?_set_ne q]
      exact hA j t ht
  · by_cases q : i = j
    · subst q
      have hl : i < S.length := by
        have := (List.getElem?_eq_some_iff.mp hj).1
        rw [List.length_set] at this
        exact this
      rw [List.getElem?_set_self hl] at hj
      cases hj
    · by_cases q2 : i = k
      · subst q2
        have hl : i < S.length := by
          have := (List.getElem?_eq_some_iff.mp hk).1
          rw [List.length_set] at this
          exact this
        rw [List.getElem?_set_self hl] at hk
        cases hk
      · rw [List.getElem?_set_ne q] at hj
        rw [List.getElem?_set_ne q2] at hk
        exact inj j k es fs hj hk
/-- an own list changes -/
theorem Rel.mut (r : Rel K P X G0 H0 G H σ S) {i : Nat} {a : Addr} {ds es : List PyData} {ys : List V} (h : S[i]? = some (.ow ds)) (ha : σ[i]? = some (some (.ref a))) (g : DaAll K G ys es) :
    Rel K P X G0 H0 G (upd H a (.lst ys)) σ (S.set i (.ow es)) := by
  obtain ⟨A, hA, inj⟩ := r.sl
  obtain ⟨o, ho, e, n, h0, g0, xs, hx, g1⟩ := hA i _ h
  subst e
  rw [ho] at ha
  have ea : A i = a := by
    have := Option.some.inj (Option.some.inj ha)
    injection this
  subst ea
  refine ⟨⟨fun b u nb hb => ?_, r.sx.an, Ex.mut r.sx.inn g0, r.sx.sep⟩, fun p hp => ?_, r.pg, fun b hb => ⟨(r.res b hb).1, ?_, (r.res b hb).2.2⟩, by rw [List.length_set]; exact r.len, A, fun j t ht => ?_, fun j k es fs hj hk => ?_⟩
  · have q : b ≠ A i := fun z => by
      rw [z, h0] at hb
      cases hb
    rw [upd_ne q]
    exact r.sx.up b u nb hb
  · have q : p ≠ A i := fun z => n.1 (z ▸ hp)
    obtain ⟨zs, e, l⟩ := r.pl p hp
    exact ⟨zs, by rw [upd_ne q]; exact e, l⟩
  · have q : b ≠ A i := fun z => n.2 (z ▸ hb)
    rw [upd_ne q]
    exact (r.res b hb).2.1
  · by_cases q : i = j
    · subst q
      rw [List.getElem?_set_self (List.getElem?_eq_some_iff.mp h).1] at ht
      cases ht
      exact ⟨_, ho, rfl, n, h0, g0, ys, upd_same, g⟩
    · rw [List.getElem?_set_ne q] at ht
      obtain ⟨o, ho2, ok⟩ := hA j t ht
      refine ⟨o, ho2, ?_⟩
      cases t with
      | un => trivial
      | da d => exact ok
      | ow es =>
        obtain ⟨e1, n1, h01, g01, ys, hy, gy⟩ := ok
        refine ⟨e1, n1, h01, g01, ys, ?_, gy⟩
        rw [upd_ne fun z => q (inj j i es ds ht h z).symm]
        exact hy
      | po => exact ok
      | xc b C d fs => exact ok
  · by_cases q : i = j
    · by_cases q2 : i = k
      · intro _
        exact q.symm.trans q2
      · subst q
        rw [List.getElem?_set_ne q2] at hk
        exact inj i k ds fs h hk
    · rw [List.getElem?_set_ne q] at hj
      by_cases q2 : i = k
      · subst q2
        exact inj j i _ ds hj h
      · rw [List.getElem?_set_ne q2] at hk
        exact inj j k _ fs hj hk
end
/-! readings -/
/-- a value seen for a while: data, or an own list -/
def Dv (K : PySem.W.Frag) (P : Option Addr) (G H : Hp) (v : V) (d : PyData) : Prop :=
  Da K G v d ∨ ∃ a xs ds, v = .ref a ∧ d = .list ds ∧ P ≠ some a ∧ G a = none ∧ H a = some (.lst xs) ∧ DaAll K G xs ds
inductive DvAll (K : PySem.W.Frag) (P : Option Addr) (G H : Hp) : List V → List PyData → Prop
  | nil : DvAll K P G H [] []
  | cons {v : V} {vs : List V} {d : PyData} {ds : List PyData} : Dv K P G H v d → DvAll K P G H vs ds → DvAll K P G H (v :: vs) (d :: ds)
/-- from one moment to a later one -/
structure Go (P : Option Addr) (G H G' H' : Hp) : Prop where
  up : Up P H H'
  an : Ex G G'
theorem Go.refl {P : Option Addr} {G H : Hp} : Go P G H G H := ⟨Up.refl, Ex.refl _⟩
theorem Go.trans {P : Option Addr} {G H G' H' G2 H2 : Hp} (a : Go P G H G' H') (b : Go P G' H' G2 H2) : Go P G H G2 H2 := ⟨a.up.trans b.up, a.an.trans b.an⟩
theorem Sx.go {P : Option Addr} {G H G' H' : Hp} (s : Sx P G H G' H') : Go P G H G' H' := ⟨s.up, s.an⟩
theorem Dv.list {K : PySem.W.Frag} {P : Option Addr} {G H : Hp} {v : V} {ds : List PyData} (x : Ex G H) (h : Dv K P G H v (.list ds)) : ∃ a xs, v = .ref a ∧ H a = some (.lst xs) ∧ DaAll K G xs ds := by
  rcases h with h | ⟨a, xs, es, rfl, e, n, _, hx, g⟩
  · cases h with
    | lst e g => exact ⟨_, _, rfl, x _ _ e, g⟩
  · cases e
    exact ⟨a, xs, rfl, hx, g⟩
theorem Dv.go {K : PySem.W.Frag} {P : Option Addr} {G H G' H' : Hp} {v : V} {d : PyData} (s : Go P G H G' H') (x : Ex G' H') (h : Dv K P G H v d) : Dv K P G' H' v d := by
  rcases h with h | ⟨a, xs, es, rfl, rfl, n, ga, hx, g⟩
  · exact .inl (da_ex s.an h)
  · have hx' := s.up _ _ n hx
    cases z : G' a with
    | none => exact .inr ⟨a, xs, es, rfl, rfl, n, z, hx', daa_ex s.an g⟩
    | some o =>
      refine .inl (.lst ?_ (daa_ex s.an g))
      have := x _ _ z
      rw [hx'] at this
      rw [z, this]
theorem DvAll.go {K : PySem.W.Frag} {P : Option Addr} {G H G' H' : Hp} (s : Go P G H G' H') (x : Ex G' H') : ∀ {vs : List V} {ds : List PyData}, DvAll K P G H vs ds → DvAll K P G' H' vs ds
  | _, _, .nil => .nil
  | _, _, .cons h a => .cons (h.go s x) (a.go s x)
abbrev WE := Ss → (PyData → Ss → Prop) → Prop
abbrev WT := Ss → (Bool → Ss → Prop) → Prop
abbrev WA := Ss → (List PyData → Ss → Prop) → Prop
section
variable (K : PySem.W.Frag)
def SE (te : TE) (w : WE) : Prop := ∀ P X G0 H0 G H σ S Q (R : VK), Rel K P X G0 H0 G H σ S → w S Q →
  (∀ d S' v H' G', Q d S' → Rel K P X G0 H0 G' H' σ S' → Go P G H G' H' → Da K G' v d → R v H') → te σ H R
def SV (te : TE) (w : WE) : Prop := ∀ P X G0 H0 G H σ S Q (R : VK), Rel K P X G0 H0 G H σ S → w S Q →
  (∀ d S' v H' G', Q d S' → Rel K P X G0 H0 G' H' σ S' → Go P G H G' H' → Dv K P G' H' v d → R v H') → te σ H R
/-- a list of one's own comes -/
def Own (K : PySem.W.Frag) (P : Option Addr) (X : Addr → Prop) (H0 H G' H' : Hp) (v : V) (d : PyData) : Prop := ∃ a xs ds, v = .ref a ∧ d = .list ds ∧ (P ≠ some a ∧ ¬ X a) ∧ H0 a = none ∧ G' a = none ∧ H' a = some (.lst xs) ∧ DaAll K G' xs ds
def NotIn (S : Ss) (σ : L2.St) (v : V) : Prop := ∀ (j : Nat) (es : List PyData), S[j]? = some (.ow es) → σ[j]? ≠ some (some v)
def SO (te : TE) (w : WE) : Prop := ∀ P X G0 H0 G H σ S Q (R : VK), Rel K P X G0 H0 G H σ S → w S Q →
  (∀ d S' v H' G', Q d S' → Rel K P X G0 H0 G' H' σ S' → Go P G H G' H' → Own K P X H0 H G' H' v d → NotIn S' σ v → R v H') → te σ H R
def ST (tt : TT) (w : WT) : Prop := ∀ P X G0 H0 G H σ S Q (R : Bool → Hp → Prop), Rel K P X G0 H0 G H σ S → w S Q →
  (∀ b S' H' G', Q b S' → Rel K P X G0 H0 G' H' σ S' → Go P G H G' H' → R b H') → tt σ H R
def SA (ta : TA) (w : WA) : Prop := ∀ P X G0 H0 G H σ S Q (R : List V → Hp → Prop), Rel K P X G0 H0 G H σ S → w S Q →
  (∀ ds S' vs H' G', Q ds S' → Rel K P X G0 H0 G' H' σ S' → Go P G H G' H' → DaAll K G' vs ds → R vs H') → ta σ H R
def SAV (ta : TA) (w : WA) : Prop := ∀ P X G0 H0 G H σ S Q (R : List V → Hp → Prop), Rel K P X G0 H0 G H σ S → w S Q →
  (∀ ds S' vs H' G', Q ds S' → Rel K P X G0 H0 G' H' σ S' → Go P G H G' H' → DvAll K P G' H' vs ds → R vs H') → ta σ H R
end
def wO {α : Type} (o : Option α) (Q : α → Prop) : Prop := ∃ d, o = some d ∧ Q d
@[simp] theorem wO_some {α : Type} {d : α} {Q : α → Prop} : wO (some d) Q = Q d := by
  unfold wO
  apply propext
  constructor
  · rintro ⟨e, h, q⟩
    cases h
    exact q
  · intro q
    exact ⟨d, rfl, q⟩
section
variable {K : PySem.W.Frag} {te ta tb tc : TE} {wa wb wc : WE} {t : TA}
theorem SE.v (h : SE K te wa) : SV K te wa := fun P X G0 H0 G H σ S Q R r w k => h P X G0 H0 G H σ S Q R r w fun d S' v H' G' q r' g a => k d S' v H' G' q r' g (.inl a)
theorem SO.v (h : SO K te wa) : SV K te wa := fun P X G0 H0 G H σ S Q R r w k => h P X G0 H0 G H σ S Q R r w fun d S' v H' G' q r' g a n => k d S' v H' G' q r' g (by
  obtain ⟨a, xs, ds, e1, e2, n1, _, g1, hx, ga⟩ := a
  exact .inr ⟨a, xs, ds, e1, e2, n1.1, g1, hx, ga⟩)
/-- the own list that came is taken for data -/
theorem Rel.take {P : Option Addr} {X : Addr → Prop} {G0 H0 G H : Hp} {σ : L2.St} {S : Ss} (r : Rel K P X G0 H0 G H σ S) {a : Addr} {xs : List V} {ds : List PyData} (n : P ≠ some a ∧ ¬ X a) (h0 : H0 a = none) (g0 : G a = none) (hx : H a = some (.lst xs)) (g : DaAll K G xs ds) (new : NotIn S σ (.ref a)) :
    ∃ G', Ex G G' ∧ Da K G' (.ref a) (.list ds) ∧ Rel K P X G0 H0 G' H σ S := by
  have eG : Ex G (upd G a (.lst xs)) := Ex.new g0
  obtain ⟨A, hA, inj⟩ := r.sl
  refine ⟨upd G a (.lst xs), eG, .lst upd_same (daa_ex eG g), ⟨r.sx.up, r.sx.an.trans eG, fun b u hb => ?_, fun b hb h1 => ?_⟩, r.pl, fun p hp => ?_, fun b hb => ⟨?_, (r.res b hb).2⟩, r.len, A, fun j t ht => ?_, inj⟩
  · by_cases q : b = a
    · subst q
      rw [upd_same] at hb
      rw [← hb]
      exact hx
    · rw [upd_ne q] at hb
      exact r.sx.inn b u hb
  · have q : b ≠ a := fun z => h1 (z ▸ h0)
    rw [upd_ne q]
    exact r.sx.sep b hb h1
  · have q : p ≠ a := fun z => n.1 (z ▸ hp)
    rw [upd_ne q]
    exact r.pg p hp
  · have q : b ≠ a := fun z => n.2 (z ▸ hb)
    rw [upd_ne q]
    exact (r.res b hb).1
  · obtain ⟨o, ho2, ok⟩ := hA j t ht
    refine ⟨o, ho2, ?_⟩
    cases t with
    | un => trivial
    | da d =>
      obtain ⟨v, e1, g⟩ := ok
      exact ⟨v, e1, da_ex eG g⟩
    | ow es =>
      obtain ⟨e1, n1, h01, g01, ys, hy, gy⟩ := ok
      refine ⟨e1, n1, h01, ?_, ys, hy, daa_ex eG gy⟩
      rw [upd_ne fun z => new j es ht (by rw [ho2, e1, z])]
      exact g01
    | po => exact ok
    | xc b C d fs => exact ⟨ok.1, ok.2.ex eG⟩
theorem SO.e (h : SO K te wa) : SE K te wa := fun P X G0 H0 G H σ S Q R r w k => h P X G0 H0 G H σ S Q R r w fun d S' v H' G' q r' g a n => by
  obtain ⟨a, xs, ds, e1, e2, n1, h0, g1, hx, ga⟩ := a
  subst e1
  subst e2
  obtain ⟨G2, e, da, r2⟩ := r'.take n1 h0 g1 hx ga n
  exact k _ S' _ H' G2 q r2 (g.trans ⟨Up.refl, e⟩) da
/-! variables, constants -/
def wVar (i : Nat) : WE := fun S Q => match S[i]? with
  | some (.da d) => Q d S
  | some (.ow ds) => Q (.list ds) (S.set i (.da (.list ds)))
  | _ => False
def wVarV (i : Nat) : WE := fun S Q => match S[i]? with
  | some (.da d) => Q d S
  | some (.ow ds) => Q (.list ds) S
  | _ => False
theorem se_var {i : Nat} : SE K (tVar i) (wVar i) := fun P X G0 H0 G H σ S Q R r w k => by
  unfold wVar at w
  split at w
  · rename_i d hd
    obtain ⟨v, hv, g⟩ := r.at hd
    exact ⟨v, hv, k d S v H G w r Go.refl g⟩
  · rename_i ds hd
    obtain ⟨v, G', hv, e, g, r'⟩ := r.seal hd
    exact ⟨v, hv, k _ _ v H G' w r' ⟨Up.refl, e⟩ g⟩
  · exact w.elim
theorem sv_var {i : Nat} : SV K (tVar i) (wVarV i) := fun P X G0 H0 G H σ S Q R r w k => by
  unfold wVarV at w
  split at w
  · rename_i d hd
    obtain ⟨v, hv, g⟩ := r.at hd
    exact ⟨v, hv, k d S v H G w r Go.refl (.inl g)⟩
  · rename_i ds hd
    obtain ⟨a, xs, hv, n, h0, g0, hx, g⟩ := r.own hd
    exact ⟨_, hv, k _ _ _ H G w r Go.refl (.inr ⟨a, xs, ds, rfl, rfl, n.1, g0, hx, g⟩)⟩
  · exact w.elim
def wC (d : PyData) : WE := fun S Q => Q d S
theorem se_const {v : V} {d : PyData} (h : ∀ H, Da K H v d) : SE K (tC v) (wC d) := fun P X G0 H0 G H σ S Q R r w k => k d S v H G w r Go.refl (h G)
theorem se_int {i : Int} : SE K (tC (.int i)) (wC (.int i)) := se_const fun _ => .int i
theorem se_bl {b : Bool} : SE K (tC (.bl b)) (wC (.bool b)) := se_const fun _ => .bl b
theorem se_str {x : Str} : SE K (tC (.str x)) (wC (.str x)) := se_const fun _ => .str x
theorem se_non : SE K (tC .non) (wC .none) := se_const fun _ => .non
/-! operations -/
def Pr2 (K : PySem.W.Frag) (r : R2) (f : PyData → PyData → Option PyData) : Prop := ∀ P G H v1 v2 d1 d2 d (R : VK), Ex G H → Dv K P G H v1 d1 → Dv K P G H v2 d2 → f d1 d2 = some d →
  (∀ v H' G', Sep G H H' G' → Da K G' v d → R v H') → r v1 v2 H R
def Pr2O (K : PySem.W.Frag) (r : R2) (f : PyData → PyData → Option PyData) : Prop := ∀ P G H v1 v2 d1 d2 d (R : VK), Ex G H → Dv K P G H v1 d1 → Dv K P G H v2 d2 → f d1 d2 = some d →
  (∀ p xs ds, d = .list ds → H p = none → DaAll K G xs ds → R (.ref p) (upd H p (.lst xs))) → r v1 v2 H R
def PrN (K : PySem.W.Frag) (r : List V → Hp → VK → Prop) (f : List PyData → Option PyData) : Prop := ∀ P G H vs ds d (R : VK), Ex G H → DvAll K P G H vs ds → f ds = some d →
  (∀ v H' G', Sep G H H' G' → Da K G' v d → R v H') → r vs H R
def PrNO (K : PySem.W.Frag) (r : List V → Hp → VK → Prop) (f : List PyData → Option PyData) : Prop := ∀ P G H vs ds d (R : VK), Ex G H → DvAll K P G H vs ds → f ds = some d →
  (∀ p xs ds, d = .list ds → H p = none → DaAll K G xs ds → R (.ref p) (upd H p (.lst xs))) → r vs H R
def w2 (f : PyData → PyData → Option PyData) (wa wb : WE) : WE := fun S Q => wa S fun x S1 => wb S1 fun y S2 => wO (f x y) fun d => Q d S2
def wN (f : List PyData → Option PyData) (wa : WA) : WE := fun S Q => wa S fun xs S1 => wO (f xs) fun d => Q d S1
theorem Rel.sep {P : Option Addr} {X : Addr → Prop} {G0 H0 G H G' H' : Hp} {σ : L2.St} {S : Ss} (r : Rel K P X G0 H0 G H σ S) (s : Sep G H H' G') : Rel K P X G0 H0 G' H' σ S := r.step (Sx.of s) (r.pl.ex s.up)
/-- a new list beside all -/
theorem Rel.fresh {P : Option Addr} {X : Addr → Prop} {G0 H0 G H : Hp} {σ : L2.St} {S : Ss} {p : Addr} {xs : List V} {ds : List PyData} (r : Rel K P X G0 H0 G H σ S) (hp : H p = none) (g : DaAll K G xs ds) :
    Rel K P X G0 H0 G (upd H p (.lst xs)) σ S ∧ Go P G H G (upd H p (.lst xs)) ∧ Own K P X H0 H G (upd H p (.lst xs)) (.ref p) (.list ds) ∧ NotIn S σ (.ref p) := by
  have eH : Ex H (upd H p (.lst xs)) := Ex.new hp
  have gp : G p = none := fresh_back r.inn hp
  have np : P ≠ some p := fun z => by
    obtain ⟨xs, e, _⟩ := r.pl p z
    rw [hp] at e
    cases e
  have h0 : H0 p = none := by
    cases z : H0 p with
    | none => rfl
    | some o =>
      rw [r.sx.up p o np z] at hp
      cases hp
  refine ⟨r.step ⟨Up.of eH, Ex.refl _, r.inn.trans eH, fun _ h _ => h⟩ (r.pl.ex eH), ⟨Up.of eH, Ex.refl _⟩, ⟨p, xs, ds, rfl, rfl, ⟨np, fun z => (r.res p z).2.1 hp⟩, h0, gp, upd_same, g⟩, fun j es hj z => ?_⟩
  obtain ⟨a, ys, hv, _, _, _, hy, _⟩ := r.own hj
  rw [hv] at z
  have e : a = p := by
    have := Option.some.inj (Option.some.inj z)
    injection this
  rw [e, hp] at hy
  cases hy
theorem se_op {r : R2} {f : PyData → PyData → Option PyData} (hr : Pr2 K r f) (ha : SV K ta wa) (hb : SV K tb wb) : SE K (tOp r ta tb) (w2 f wa wb) := fun P X G0 H0 G H σ S Q R rl w k =>
  ha P X G0 H0 G H σ S _ _ rl w fun d1 S1 v1 H1 G1 w1 r1 g1 a1 => hb P X G0 H0 G1 H1 σ S1 _ _ r1 w1 fun d2 S2 v2 H2 G2 w2 r2 g2 a2 => by
    obtain ⟨d, hd, q⟩ := w2
    exact hr P G2 H2 v1 v2 d1 d2 d R r2.inn (a1.go g2 r2.inn) a2 hd fun v H3 G3 s g => k d S2 v H3 G3 q (r2.sep s) (g1.trans (g2.trans (Sx.of s).go)) g
theorem so_op {r : R2} {f : PyData → PyData → Option PyData} (hr : Pr2O K r f) (ha : SV K ta wa) (hb : SV K tb wb) : SO K (tOp r ta tb) (w2 f wa wb) := fun P X G0 H0 G H σ S Q R rl w k =>
  ha P X G0 H0 G H σ S _ _ rl w fun d1 S1 v1 H1 G1 w1 r1 g1 a1 => hb P X G0 H0 G1 H1 σ S1 _ _ r1 w1 fun d2 S2 v2 H2 G2 w2 r2 g2 a2 => by
    obtain ⟨d, hd, q⟩ := w2
    refine hr P G2 H2 v1 v2 d1 d2 d R r2.inn (a1.go g2 r2.inn) a2 hd fun p xs ds ed hp g => ?_
    subst ed
    obtain ⟨r3, g3, o3, n3⟩ := r2.fresh hp g
    obtain ⟨a, ys, es, e1, e2, b⟩ := o3
    exact k _ S2 _ _ _ q r3 (g1.trans (g2.trans g3)) ⟨a, ys, es, e1, e2, b⟩ n3
theorem se_callB {r : List V → Hp → VK → Prop} {f : List PyData → Option PyData} {wt : WA} (hr : PrN K r f) (ha : SAV K t wt) : SE K (tCB r t) (wN f wt) := fun P X G0 H0 G H σ S Q R rl w k =>
  ha P X G0 H0 G H σ S _ _ rl w fun ds S1 vs H1 G1 w1 r1 g1 a1 => by
    obtain ⟨d, hd, q⟩ := w1
    exact hr P G1 H1 vs ds d R r1.inn a1 hd fun v H3 G3 s g => k d S1 v H3 G3 q (r1.sep s) (g1.trans (Sx.of s).go) g
theorem so_callB {r : List V → Hp → VK → Prop} {f : List PyData → Option PyData} {wt : WA} (hr : PrNO K r f) (ha : SAV K t wt) : SO K (tCB r t) (wN f wt) := fun P X G0 H0 G H σ S Q R rl w k =>
  ha P X G0 H0 G H σ S _ _ rl w fun ds S1 vs H1 G1 w1 r1 g1 a1 => by
    obtain ⟨d, hd, q⟩ := w1
    refine hr P G1 H1 vs ds d R r1.inn a1 hd fun p xs ds ed hp g => ?_
    subst ed
    obtain ⟨r3, g3, o3, n3⟩ := r1.fresh hp g
    obtain ⟨a, ys, es, e1, e2, b⟩ := o3
    exact k _ S1 _ _ _ q r3 (g1.trans g3) ⟨a, ys, es, e1, e2, b⟩ n3
/-! arguments -/
def wNil : WA := fun S Q => Q [] S
def wCons (wa : WE) (wt : WA) : WA := fun S Q => wa S fun x S1 => wt S1 fun xs S2 => Q (x :: xs) S2
theorem sa_nil : SA K tNil wNil := fun P X G0 H0 G H σ S Q R rl w k => k [] S [] H G w rl Go.refl .nil
theorem sa_cons {wt : WA} (ha : SE K ta wa) (hr : SA K t wt) : SA K (tCons ta t) (wCons wa wt) := fun P X G0 H0 G H σ S Q R rl w k =>
  ha P X G0 H0 G H σ S _ _ rl w fun d S1 v H1 G1 w1 r1 g1 a1 => hr P X G0 H0 G1 H1 σ S1 _ _ r1 w1 fun ds S2 vs H2 G2 q r2 g2 a2 => k _ S2 _ H2 G2 q r2 (g1.trans g2) (.cons (da_ex g2.an a1) a2)
theorem sv_nil : SAV K tNil wNil := fun P X G0 H0 G H σ S Q R rl w k => k [] S [] H G w rl Go.refl .nil
theorem sv_cons {wt : WA} (ha : SV K ta wa) (hr : SAV K t wt) : SAV K (tCons ta t) (wCons wa wt) := fun P X G0 H0 G H σ S Q R rl w k =>
  ha P X G0 H0 G H σ S _ _ rl w fun d S1 v H1 G1 w1 r1 g1 a1 => hr P X G0 H0 G1 H1 σ S1 _ _ r1 w1 fun ds S2 vs H2 G2 q r2 g2 a2 => k _ S2 _ H2 G2 q r2 (g1.trans g2) (.cons (a1.go g2 r2.inn) a2)
def wTup (wt : WA) : WE := fun S Q => wt S fun ds S1 => ds.length ≤ 100000 ∧ Q (.tuple ds) S1
def wLst (wt : WA) : WE := fun S Q => wt S fun ds S1 => ds.length ≤ 100000 ∧ Q (.list ds) S1
theorem se_tup {wt : WA} (h : SA K t wt) : SE K (tTup t) (wTup wt) := fun P X G0 H0 G H σ S Q R rl w k =>
  h P X G0 H0 G H σ S _ _ rl w fun ds S1 vs H1 G1 w1 r1 g1 a1 => ⟨by rw [daa_len a1]; exact sz_of w1.1, fun p hp => by
    have s : Sep G1 H1 (upd H1 p (.tup vs)) (upd G1 p (.tup vs)) := Sep.new r1.inn hp
    exact k _ S1 _ _ _ w1.2 (r1.sep s) (g1.trans (Sx.of s).go) (.tup (st_of upd_same) (daa_ex s.an a1))⟩
theorem so_lst {wt : WA} (h : SA K t wt) : SO K (tLst t) (wLst wt) := fun P X G0 H0 G H σ S Q R rl w k =>
  h P X G0 H0 G H σ S _ _ rl w fun ds S1 vs H1 G1 w1 r1 g1 a1 => ⟨by rw [daa_len a1]; exact sz_of w1.1, fun p hp => by
    obtain ⟨r3, g3, o3, n3⟩ := r1.fresh hp a1
    exact k _ S1 _ _ _ w1.2 r3 (g1.trans g3) o3 n3⟩
end
end VL

set_option Elab.async false
set_option linter.all false
set_option maxRecDepth 100000
set_option maxHeartbeats 4000000
namespace VL
open PySem PySem.Spec PyProof.Rows L2 Evl Tw
section
variable {K : PySem.W.Frag} {te ta tb tc : TE} {wa wb wc : WE} {t : TA} {wt : WA} {ct dt : TT} {cw dw : WT}
/-! tests -/
def boolD : PyData → Option Bool
  | .bool b => some b
  | _ => none
@[simp] theorem boolD_bool {b : Bool} : boolD (.bool b) = some b := rfl
theorem da_bool {H : Hp} {v : V} {d : PyData} {b : Bool} (g : Da K H v d) (h : boolD d = some b) : v = .bl b := by
  cases g <;> simp [boolD] at h
  subst h
  rfl
def wTst (w : WE) : WT := fun S Q => w S fun d S1 => wO (boolD d) fun b => Q b S1
theorem st_test (h : SE K te wa) : ST K (tTest te) (wTst wa) := fun P X G0 H0 G H σ S Q R r w k => h P X G0 H0 G H σ S _ _ r w fun d S' v H' G' q r' g a => by
  obtain ⟨b, hb, q⟩ := q
  exact ⟨b, da_bool a hb, k b S' H' G' q r' g⟩
theorem st_B (h : SE K te wa) : ST K (tB te) (wTst wa) := fun P X G0 H0 G H σ S Q R r w k => h P X G0 H0 G H σ S _ _ r w fun d S' v H' G' q r' g a => by
  obtain ⟨b, hb, q⟩ := q
  exact ⟨b, da_bool a hb, k b S' H' G' q r' g⟩
def wAnd (a b : WT) : WT := fun S Q => a S fun c S1 => if c = true then b S1 Q else Q false S1
def wOr (a b : WT) : WT := fun S Q => a S fun c S1 => if c = true then Q true S1 else b S1 Q
def wNot (a : WT) : WT := fun S Q => a S fun c S1 => Q (!c) S1
def wYes : WT := fun S Q => Q true S
theorem st_yes : ST K tYes wYes := fun P X G0 H0 G H σ S Q R r w k => k true S H G w r Go.refl
theorem st_and (ha : ST K ct cw) (hb : ST K dt dw) : ST K (tAnd ct dt) (wAnd cw dw) := fun P X G0 H0 G H σ S Q R r w k => ha P X G0 H0 G H σ S _ _ r w fun c S1 H1 G1 q r1 g1 => by
  cases c with
  | true => exact hb P X G0 H0 G1 H1 σ S1 Q R r1 q fun b S' H' G' q' r' g' => k b S' H' G' q' r' (g1.trans g')
  | false => exact k false S1 H1 G1 q r1 g1
theorem st_or (ha : ST K ct cw) (hb : ST K dt dw) : ST K (tOr ct dt) (wOr cw dw) := fun P X G0 H0 G H σ S Q R r w k => ha P X G0 H0 G H σ S _ _ r w fun c S1 H1 G1 q r1 g1 => by
  cases c with
  | false => exact hb P X G0 H0 G1 H1 σ S1 Q R r1 q fun b S' H' G' q' r' g' => k b S' H' G' q' r' (g1.trans g')
  | true => exact k true S1 H1 G1 q r1 g1
theorem st_not (ha : ST K ct cw) : ST K (tNot ct) (wNot cw) := fun P X G0 H0 G H σ S Q R r w k => ha P X G0 H0 G H σ S _ _ r w fun c S1 H1 G1 q r1 g1 => k (!c) S1 H1 G1 q r1 g1
def wIf (c : WT) (a b : WE) : WE := fun S Q => c S fun c S1 => if c = true then a S1 Q else b S1 Q
theorem se_if (hc : ST K ct cw) (ha : SE K ta wa) (hb : SE K tb wb) : SE K (tIf ct ta tb) (wIf cw wa wb) := fun P X G0 H0 G H σ S Q R r w k => hc P X G0 H0 G H σ S _ _ r w fun c S1 H1 G1 q r1 g1 => by
  cases c with
  | true => exact ha P X G0 H0 G1 H1 σ S1 Q R r1 q fun d S' v H' G' q' r' g' a => k d S' v H' G' q' r' (g1.trans g') a
  | false => exact hb P X G0 H0 G1 H1 σ S1 Q R r1 q fun d S' v H' G' q' r' g' a => k d S' v H' G' q' r' (g1.trans g') a
def wAndV (a b : WE) : WE := fun S Q => a S fun d S1 => wO (boolD d) fun c => if c = true then b S1 Q else Q (.bool false) S1
def wOrV (a b : WE) : WE := fun S Q => a S fun d S1 => wO (boolD d) fun c => if c = true then Q (.bool true) S1 else b S1 Q
def wNotV (a : WE) : WE := fun S Q => a S fun d S1 => wO (boolD d) fun c => Q (.bool (!c)) S1
theorem se_andV (ha : SE K ta wa) (hb : SE K tb wb) : SE K (tAndV ta tb) (wAndV wa wb) := fun P X G0 H0 G H σ S Q R r w k => ha P X G0 H0 G H σ S _ _ r w fun d S1 v H1 G1 q r1 g1 a => by
  obtain ⟨c, hc, q⟩ := q
  refine ⟨c, da_bool a hc, ?_⟩
  cases c with
  | true => exact hb P X G0 H0 G1 H1 σ S1 Q R r1 q fun d S' v H' G' q' r' g' a => k d S' v H' G' q' r' (g1.trans g') a
  | false => exact k _ S1 _ H1 G1 q r1 g1 (.bl false)
theorem se_orV (ha : SE K ta wa) (hb : SE K tb wb) : SE K (tOrV ta tb) (wOrV wa wb) := fun P X G0 H0 G H σ S Q R r w k => ha P X G0 H0 G H σ S _ _ r w fun d S1 v H1 G1 q r1 g1 a => by
  obtain ⟨c, hc, q⟩ := q
  refine ⟨c, da_bool a hc, ?_⟩
  cases c with
  | false => exact hb P X G0 H0 G1 H1 σ S1 Q R r1 q fun d S' v H' G' q' r' g' a => k d S' v H' G' q' r' (g1.trans g') a
  | true => exact k _ S1 _ H1 G1 q r1 g1 (.bl true)
theorem se_notV (ha : SE K ta wa) : SE K (tNotV ta) (wNotV wa) := fun P X G0 H0 G H σ S Q R r w k => ha P X G0 H0 G H σ S _ _ r w fun d S1 v H1 G1 q r1 g1 a => by
  obtain ⟨c, hc, q⟩ := q
  exact ⟨c, da_bool a hc, k _ S1 _ H1 G1 q r1 g1 (.bl _)⟩
/-- truth of a list, a number, a text -/
def truD : PyData → Option Bool
  | .bool b => some b
  | .none => some false
  | .int i => some (i != 0)
  | .list ds => some (!ds.isEmpty)
  | .tuple ds => some (!ds.isEmpty)
  | _ => none
def wTru (w : WE) : WT := fun S Q => w S fun d S1 => wO (truD d) fun b => Q b S1
theorem daa_empty {H : Hp} {vs : List V} {ds : List PyData} (g : DaAll K H vs ds) : vs.isEmpty = ds.isEmpty := by
  cases g <;> rfl
theorem st_tru (h : SV K te wa) : ST K (fun σ H Q => te σ H fun x H' => ∃ k, TruV K x H' k ∧ Q k H') (wTru wa) := fun P X G0 H0 G H σ S Q R r w k => h P X G0 H0 G H σ S _ _ r w fun d S' v H' G' q r' g a => by
  obtain ⟨b, hb, q⟩ := q
  refine ⟨b, ?_, k b S' H' G' q r' g⟩
  rcases a with a | ⟨p, xs, ds, rfl, rfl, _, _, hx, ga⟩
  · cases a with
    | non => cases hb; rfl
    | bl b' => cases hb; rfl
    | int i => cases hb; rfl
    | str x => cases hb
    | lst e ga =>
      cases hb
      exact .inl ⟨_, sq_of (r'.inn _ _ e), by rw [daa_empty ga]⟩
    | tup e ga =>
      cases hb
      exact .inr (.inl ⟨_, ex_t r'.inn e, by rw [daa_empty ga]⟩)
  · cases hb
    exact .inl ⟨_, sq_of hx, by rw [daa_empty ga]⟩
/-! chains -/
def w3 (f g : PyData → PyData → Option PyData) (wa wb wc : WE) : WE := fun S Q => wa S fun x S1 => wb S1 fun y S2 => wO (f x y) fun d => wO (boolD d) fun c => if c = true then wc S2 fun z S3 => wO (g y z) fun e => Q e S3 else Q (.bool false) S2
theorem se_chain {r r' : R2} {f g : PyData → PyData → Option PyData} (hr : Pr2 K r f) (hr' : Pr2 K r' g) (ha : SV K ta wa) (hb : SV K tb wb) (hc : SV K tc wc) : SE K (tChain r r' ta tb tc) (w3 f g wa wb wc) := fun P X G0 H0 G H σ S Q R rl w k =>
  ha P X G0 H0 G H σ S _ _ rl w fun d1 S1 v1 H1 G1 w1 r1 g1 a1 => hb P X G0 H0 G1 H1 σ S1 _ _ r1 w1 fun d2 S2 v2 H2 G2 w2 r2 g2 a2 => by
    obtain ⟨d, hd, c, hc', q⟩ := w2
    refine hr P G2 H2 v1 v2 d1 d2 d _ r2.inn (a1.go g2 r2.inn) a2 hd fun v H3 G3 s3 g3 => ⟨c, da_bool g3 hc', ?_⟩
    have r3 := r2.sep s3
    have g13 := g1.trans (g2.trans (Sx.of (P := P) s3).go)
    cases c with
    | true =>
      refine hc P X G0 H0 G3 H3 σ S2 _ _ r3 q fun d4 S4 v4 H4 G4 q4 r4 g4 a4 => ?_
      obtain ⟨e, he, q5⟩ := q4
      exact hr' P G4 H4 v2 v4 d2 d4 e R r4.inn (a2.go ((Sx.of (P := P) s3).go.trans g4) r4.inn) a4 he fun v5 H5 G5 s5 g5 => k e S4 v5 H5 G5 q5 (r4.sep s5) (g13.trans (g4.trans (Sx.of s5).go)) g5
    | false => exact k _ S2 _ H3 G3 q r3 g13 (.bl false)
/-! ### operations over data -/
theorem Sep.self {G H : Hp} (e : Ex G H) : Sep G H H G := Sep.refl e
theorem dv_da {P : Option Addr} {G H : Hp} {v : V} {d : PyData} (h : Dv K P G H v d) (hn : ∀ ds, d ≠ .list ds) : Da K G v d := by
  rcases h with h | ⟨a, xs, ds, _, e, _⟩
  · exact h
  · exact absurd e (hn ds)
theorem dv_int {P : Option Addr} {G H : Hp} {v : V} {i : Int} (h : Dv K P G H v (.int i)) : v = .int i := by
  cases dv_da h (fun _ e => by cases e)
  rfl
theorem dv_str {P : Option Addr} {G H : Hp} {v : V} {i : Str} (h : Dv K P G H v (.str i)) : v = .str i := by
  cases dv_da h (fun _ e => by cases e)
  rfl
theorem dv_bool {P : Option Addr} {G H : Hp} {v : V} {i : Bool} (h : Dv K P G H v (.bool i)) : v = .bl i := by
  cases dv_da h (fun _ e => by cases e)
  rfl
theorem dv_tup {P : Option Addr} {G H : Hp} {v : V} {ds : List PyData} (x : Ex G H) (h : Dv K P G H v (.tuple ds)) : ∃ a xs, v = .ref a ∧ SqT K H a xs ∧ DaAll K G xs ds := by
  cases dv_da h (fun _ e => by cases e) with
  | tup e g => exact ⟨_, _, rfl, ex_t x e, g⟩
theorem dv_dp {P : Option Addr} {G H : Hp} {v : V} {d : PyData} (x : Ex G H) (h : Dv K P G H v d) : Dp K H v d := by
  rcases h with h | ⟨a, xs, ds, rfl, rfl, _, _, hx, g⟩
  · exact da_dp (da_ex x h)
  · exact .lst (sq_of hx) (daa_dp (daa_ex x g))
def opI (g : Int → Int → Int) (C : Int → Int → Bool) : PyData → PyData → Option PyData
  | .int i, .int j => if C i j = true then some (.int (g i j)) else none
  | _, _ => none
def opB (g : Int → Int → Bool) : PyData → PyData → Option PyData
  | .int i, .int j => some (.bool (g i j))
  | _, _ => none
@[simp] theorem opB_int {g : Int → Int → Bool} {i j : Int} : opB g (.int i) (.int j) = some (.bool (g i j)) := rfl
@[simp] theorem opI_int {g : Int → Int → Int} {C : Int → Int → Bool} {i j : Int} : opI g C (.int i) (.int j) = if C i j = true then some (.int (g i j)) else none := rfl
def yes2 : Int → Int → Bool := fun _ _ => true
@[simp] theorem yes2_is {i j : Int} : yes2 i j = true := rfl
theorem pr_opI0 {g : Int → Int → Int} : Pr2 K (rI0 fun i j => .int (g i j)) (opI g yes2) := fun P G H v1 v2 d1 d2 d R x h1 h2 e k => by
  cases d1 <;> cases d2 <;> simp only [opI, reduceCtorEq, yes2_is, if_true, Option.some.injEq] at e
  subst e
  exact ⟨_, _, dv_int h1, dv_int h2, k _ H G (Sep.refl x) (.int _)⟩
theorem pr_opI {D : Int → Int → Prop} {g : Int → Int → Int} {C : Int → Int → Bool} (hC : ∀ i j, C i j = true → D i j) : Pr2 K (rI D fun i j => .int (g i j)) (opI g C) := fun P G H v1 v2 d1 d2 d R x h1 h2 e k => by
  cases d1 <;> cases d2 <;> simp only [opI, reduceCtorEq] at e
  split at e
  · rename_i hc
    cases e
    exact ⟨_, _, dv_int h1, dv_int h2, hC _ _ hc, k _ H G (Sep.refl x) (.int _)⟩
  · cases e
theorem pr_opB {g : Int → Int → Bool} : Pr2 K (rI0 fun i j => .bl (g i j)) (opB g) := fun P G H v1 v2 d1 d2 d R x h1 h2 e k => by
  cases d1 <;> cases d2 <;> simp only [opB, reduceCtorEq, Option.some.injEq] at e
  subst e
  exact ⟨_, _, dv_int h1, dv_int h2, k _ H G (Sep.refl x) (.bl _)⟩
abbrev addI := opI (fun i j => i + j) yes2
abbrev subI := opI (fun i j => i - j) yes2
def mulOk (i j : Int) : Bool := decide (-(2 ^ 64) < i) && decide (i < 2 ^ 64) || decide (-(2 ^ 64) < j) && decide (j < 2 ^ 64)
abbrev mulI := opI (fun i j => i * j) mulOk
def divOk (_ j : Int) : Bool := decide (0 < j) && decide (j < 1073741824)
abbrev divI := opI (fun i j => i / j) divOk
def modOk (_ j : Int) : Bool := decide (0 < j)
abbrev modI := opI (fun i j => i % j) modOk
theorem pr_add : Pr2 K (rI0 fun i j => .int (i + j)) addI := pr_opI0
theorem pr_sub : Pr2 K (rI0 fun i j => .int (i - j)) subI := pr_opI0
theorem pr_mul : Pr2 K (rI CMul fun i j => .int (i * j)) mulI := pr_opI fun i j h => by
  unfold mulOk at h
  simp only [Bool.or_eq_true, Bool.and_eq_true, decide_eq_true_eq] at h
  exact h
theorem pr_fdiv : Pr2 K (rI CDiv fun i j => .int (i / j)) divI := pr_opI fun i j h => by
  unfold divOk at h
  simp only [Bool.and_eq_true, decide_eq_true_eq] at h
  exact h
theorem pr_mod : Pr2 K (rI (fun _ j => 0 < j) fun i j => .int (i % j)) modI := pr_opI fun i j h => of_decide_eq_true h
theorem pr_modN : Pr2 K (rI (fun _ j => j ≠ 0) fun i j => .int (i.fmod j)) modI := fun P G H v1 v2 d1 d2 d R x h1 h2 e k => by
  cases d1 <;> cases d2 <;> simp only [opI, reduceCtorEq] at e
  split at e
  · rename_i i j hc
    cases e
    have h0 : 0 < j := of_decide_eq_true hc
    refine ⟨_, _, dv_int h1, dv_int h2, by omega, ?_⟩
    have e1 : i.fmod j = i % j := Int.fmod_eq_emod_of_nonneg _ (by omega)
    show R (.int (i.fmod j)) H
    rw [e1]
    exact k _ H G (Sep.refl x) (.int _)
  · cases e
/-- none? -/
def isND : PyData → PyData → Option PyData := fun d e => match e with
  | .none => some (.bool (isN d))
  | _ => none
def notND : PyData → PyData → Option PyData := fun d e => match e with
  | .none => some (.bool (!isN d))
  | _ => none
theorem dv_isN {P : Option Addr} {G H : Hp} {v : V} {d : PyData} (h : Dv K P G H v d) : decide (v = .non) = isN d := by
  rcases h with h | ⟨a, xs, ds, rfl, rfl, _⟩
  · exact da_isN h
  · rfl
theorem pr_isN : Pr2 K (fun x y H Q => y = V.non ∧ Q (.bl (decide (x = .non))) H) isND := fun P G H v1 v2 d1 d2 d R x h1 h2 e k => by
  cases d2 <;> simp only [isND, reduceCtorEq, Option.some.injEq] at e
  subst e
  cases dv_da h2 (fun _ e => by cases e)
  exact ⟨rfl, by rw [dv_isN h1]; exact k _ H G (Sep.refl x) (.bl _)⟩
theorem pr_notN : Pr2 K (fun x y H Q => y = V.non ∧ Q (.bl (!decide (x = .non))) H) notND := fun P G H v1 v2 d1 d2 d R x h1 h2 e k => by
  cases d2 <;> simp only [notND, reduceCtorEq, Option.some.injEq] at e
  subst e
  cases dv_da h2 (fun _ e => by cases e)
  exact ⟨rfl, by rw [dv_isN h1]; exact k _ H G (Sep.refl x) (.bl _)⟩
/-- bools: is, is not, ==, != -/
def isBD (neg : Bool) : PyData → PyData → Option PyData
  | .bool a, .bool b => some (.bool (if neg then !decide (a = b) else decide (a = b)))
  | _, _ => none
theorem pr_isnotB : Pr2 K (fun x y H Q => ∃ a b, x = V.bl a ∧ y = V.bl b ∧ Q (.bl (!decide (a = b))) H) (isBD true) := fun P G H v1 v2 d1 d2 d R x h1 h2 e k => by
  cases d1 <;> cases d2 <;> simp only [isBD, reduceCtorEq, Option.some.injEq, if_true] at e
  subst e
  exact ⟨_, _, dv_bool h1, dv_bool h2, k _ H G (Sep.refl x) (.bl _)⟩
/-- == and != of data -/
def eqD : PyData → PyData → Option PyData := fun d e => if SeqAt.shaped d = true ∧ SeqAt.shaped e = true then some (.bool (PyData.eqv d e)) else none
def neD : PyData → PyData → Option PyData := fun d e => if SeqAt.shaped d = true ∧ SeqAt.shaped e = true then some (.bool (!PyData.eqv d e)) else none
theorem pr_eqD : Pr2 K (rEqD K) eqD := fun P G H v1 v2 d1 d2 d R x h1 h2 e k => by
  unfold eqD at e
  split at e
  · rename_i hs
    cases e
    exact ⟨d1, d2, dv_dp x h1, dv_dp x h2, hs.1, hs.2, k _ H G (Sep.refl x) (.bl _)⟩
  · cases e
theorem pr_neD : Pr2 K (rNeD K) neD := fun P G H v1 v2 d1 d2 d R x h1 h2 e k => by
  unfold neD at e
  split at e
  · rename_i hs
    cases e
    exact ⟨d1, d2, dv_dp x h1, dv_dp x h2, hs.1, hs.2, k _ H G (Sep.refl x) (.bl _)⟩
  · cases e
/-- in and not in -/
def inDD (neg : Bool) : PyData → PyData → Option PyData := fun d e => match e with
  | .list ds => if SeqAt.shaped d = true ∧ SeqAt.shaped (.list ds) = true then some (.bool (if neg then !ds.any fun z => PyData.eqv z d else ds.any fun z => PyData.eqv z d)) else none
  | _ => none
theorem pr_inD : Pr2 K (rInD K) (inDD false) := fun P G H v1 v2 d1 d2 d R x h1 h2 e k => by
  cases d2 <;> simp only [inDD, reduceCtorEq] at e
  split at e
  · rename_i hs
    cases e
    exact ⟨d1, _, dv_dp x h1, dv_dp x h2, hs.1, hs.2, k _ H G (Sep.refl x) (.bl _)⟩
  · cases e
theorem pr_notInD : Pr2 K (rNotInD K) (inDD true) := fun P G H v1 v2 d1 d2 d R x h1 h2 e k => by
  cases d2 <;> simp only [inDD, reduceCtorEq] at e
  split at e
  · rename_i hs
    cases e
    exact ⟨d1, _, dv_dp x h1, dv_dp x h2, hs.1, hs.2, k _ H G (Sep.refl x) (.bl _)⟩
  · cases e
/-- xs[i], t[i] -/
def ixD : PyData → PyData → Option PyData
  | .list ds, .int i => atI ds i
  | .tuple ds, .int i => atI ds i
  | _, _ => none
def ixL : PyData → PyData → Option PyData
  | .list ds, .int i => atI ds i
  | _, _ => none
def ixT : PyData → PyData → Option PyData
  | .tuple ds, .int i => atI ds i
  | _, _ => none
theorem atI_da {G : Hp} {vs : List V} {ds : List PyData} (g : DaAll K G vs ds) {i : Int} {d : PyData} (h : atI ds i = some d) : ∃ v, atI vs i = some v ∧ Da K G v d := by
  unfold atI at h ⊢
  rw [daa_len g]
  cases q : ixN ds.length i with
  | none =>
    rw [q] at h
    cases h
  | some j =>
    rw [q] at h
    exact daa_get g j d h
theorem pr_ixL : Pr2 K (rIxL K) ixL := fun P G H v1 v2 d1 d2 d R x h1 h2 e k => by
  cases d1 <;> cases d2 <;> simp only [ixL, reduceCtorEq] at e
  obtain ⟨a, xs, rfl, hx, g⟩ := h1.list x
  obtain ⟨v, hv, gv⟩ := atI_da g e
  exact ⟨a, xs, _, v, rfl, dv_int h2, sq_of hx, hv, k v H G (Sep.refl x) gv⟩
theorem pr_ixT : Pr2 K (rIxT K) ixT := fun P G H v1 v2 d1 d2 d R x h1 h2 e k => by
  cases d1 <;> cases d2 <;> simp only [ixT, reduceCtorEq] at e
  obtain ⟨a, xs, rfl, hx, g⟩ := dv_tup x h1
  obtain ⟨v, hv, gv⟩ := atI_da g e
  exact ⟨a, xs, _, v, rfl, dv_int h2, hx, hv, k v H G (Sep.refl x) gv⟩
theorem pr_ix : Pr2 K (rIx K) ixD := fun P G H v1 v2 d1 d2 d R x h1 h2 e k => by
  cases d1 <;> cases d2 <;> simp only [ixD, reduceCtorEq] at e
  · exact .inl (pr_ixL P G H v1 v2 _ _ d R x h1 h2 e k)
  · exact .inr (.inl (pr_ixT P G H v1 v2 _ _ d R x h1 h2 e k))
/-- xs + ys -/
def catD : PyData → PyData → Option PyData
  | .list ds, .list es => if ds.length + es.length ≤ 100000 then some (.list (ds ++ es)) else none
  | _, _ => none
theorem pr_cat : Pr2O K rCat catD := fun P G H v1 v2 d1 d2 d R x h1 h2 e k => by
  cases d1 <;> cases d2 <;> simp only [catD, reduceCtorEq] at e
  split at e
  · rename_i ds es hl
    cases e
    obtain ⟨a, xs, rfl, hx, g⟩ := h1.list x
    obtain ⟨b, ys, rfl, hy, g2⟩ := h2.list x
    exact ⟨a, b, xs, ys, rfl, rfl, hx, hy, by rw [daa_len g, daa_len g2]; exact sz_of hl, fun p hp => k p _ _ rfl hp (daa_app g g2)⟩
  · cases e
def catTD : PyData → PyData → Option PyData
  | .tuple ds, .tuple es => if ds.length + es.length ≤ 100000 then some (.tuple (ds ++ es)) else none
  | _, _ => none
def catSD : PyData → PyData → Option PyData
  | .str x, .str y => if x.length + y.length ≤ sizeLine then some (.str (x ++ y)) else none
  | _, _ => none
theorem pr_catS : Pr2 K (fun x y H Q => ∃ i j, x = V.str i ∧ y = V.str j ∧ i.length + j.length ≤ sizeLine ∧ Q (.str (i ++ j)) H) catSD := fun P G H v1 v2 d1 d2 d R x h1 h2 e k => by
  cases d1 <;> cases d2 <;> simp only [catSD, reduceCtorEq] at e
  split at e
  · rename_i hl
    cases e
    exact ⟨_, _, dv_str h1, dv_str h2, hl, k _ H G (Sep.refl x) (.str _)⟩
  · cases e
end
end VL

set_option Elab.async false
set_option linter.all false
set_option maxRecDepth 100000
set_option maxHeartbeats 4000000
namespace VL
open PySem PySem.Spec PyProof.Rows L2 Evl Tw
/-! slices, iterators, targets, comprehensions -/
section
variable {K : PySem.W.Frag} {te ta tb tc tl : TE} {wa wb wc : WE} {t : TA} {wt : WA} {ct dt : TT} {cw dw : WT}
abbrev WO := Ss → (Option Int → Ss → Prop) → Prop
def SOp (K : PySem.W.Frag) (to : TO) (w : WO) : Prop := ∀ P X G0 H0 G H σ S Q (R : Option Int → Hp → Prop), Rel K P X G0 H0 G H σ S → w S Q →
  (∀ b S' H' G', Q b S' → Rel K P X G0 H0 G' H' σ S' → Go P G H G' H' → R b H') → to σ H R
def intD : PyData → Option Int
  | .int i => some i
  | _ => none
@[simp] theorem intD_int {i : Int} : intD (.int i) = some i := rfl
theorem da_intD {H : Hp} {v : V} {d : PyData} {b : Int} (g : Da K H v d) (h : intD d = some b) : v = .int b := by
  cases g <;> simp [intD] at h
  subst h
  rfl
def wPart (w : WE) : WO := fun S Q => w S fun d S1 => wO (intD d) fun i => Q (some i) S1
def wNoP : WO := fun S Q => Q none S
theorem so_part (h : SE K te wa) : SOp K (tPart te) (wPart wa) := fun P X G0 H0 G H σ S Q R r w k => h P X G0 H0 G H σ S _ _ r w fun d S' v H' G' q r' g a => by
  obtain ⟨b, hb, q⟩ := q
  exact ⟨b, da_intD a hb, k _ S' H' G' q r' g⟩
theorem so_noP : SOp K tNoPart wNoP := fun P X G0 H0 G H σ S Q R r w k => k none S H G w r Go.refl
def cutO (d : PyData) (lo hi : Option Int) : Option PyData := match d with
  | .list ds => some (.list (cutD ds lo hi))
  | _ => none
def wSl (wa : WE) (wl wh : WO) : WE := fun S Q => wa S fun d S1 => wl S1 fun lo S2 => wh S2 fun hi S3 => wO (cutO d lo hi) fun e => Q e S3
theorem so_sl {to th : TO} {wl wh : WO} (ha : SV K ta wa) (h1 : SOp K to wl) (h2 : SOp K th wh) : SO K (tSl (rSlL K) ta to th) (wSl wa wl wh) := fun P X G0 H0 G H σ S Q R rl w k =>
  ha P X G0 H0 G H σ S _ _ rl w fun d1 S1 v1 H1 G1 w1 r1 g1 a1 => h1 P X G0 H0 G1 H1 σ S1 _ _ r1 w1 fun lo S2 H2 G2 w2 r2 g2 => h2 P X G0 H0 G2 H2 σ S2 _ _ r2 w2 fun hi S3 H3 G3 w3 r3 g3 => by
    obtain ⟨d, hd, q⟩ := w3
    cases d1 <;> simp only [cutO, reduceCtorEq, Option.some.injEq] at hd
    subst hd
    obtain ⟨a, xs, rfl, hx, g⟩ := (a1.go (g2.trans g3) r3.inn).list r3.inn
    refine ⟨a, xs, rfl, sq_of hx, fun p hp => ?_⟩
    obtain ⟨r4, g4, o4, n4⟩ := r3.fresh hp (daa_cut g lo hi)
    exact k _ S3 _ _ _ q r4 (g1.trans (g2.trans (g3.trans g4))) o4 n4
/-! ### what is walked -/
/-- the walk's items are told by ds, wherever it stands over the anchor Ga and what Hd tells of the heap -/
structure ItOk (K : PySem.W.Frag) (J : It) (Ga : Hp) (ds : List PyData) (Hd : Hp → Prop) : Prop where
  walk : ∃ Y, Walk J ds.length Hd Y ∧ ∀ i H x H' G, i < ds.length → Hd H → Ex Ga G → Ex G H → Y i H x H' → ∃ d G', ds[i]? = some d ∧ Sep G H H' G' ∧ Da K G' x d
/-- walked while the state may change (a for), and within one expression -/
def SI (K : PySem.W.Frag) (ti : TI) (w : WA) : Prop := ∀ P X G0 H0 G H σ S Q (R : It → Hp → Prop), Rel K P X G0 H0 G H σ S → w S Q →
  (∀ ds S' J H' G' Hd, Q ds S' → Rel K P X G0 H0 G' H' σ S' → Go P G H G' H' → ItOk K J G' ds Hd → (∀ H2, Ex G' H2 → Hd H2) → R J H') → ti σ H R
def SIV (K : PySem.W.Frag) (ti : TI) (w : WA) : Prop := ∀ P X G0 H0 G H σ S Q (R : It → Hp → Prop), Rel K P X G0 H0 G H σ S → w S Q →
  (∀ ds S' J H' G' Hd, Q ds S' → Rel K P X G0 H0 G' H' σ S' → Go P G H G' H' → ItOk K J G' ds Hd → (∀ H2, Up P H' H2 → Hd H2) → R J H') → ti σ H R
theorem it_list {G : Hp} {a : Addr} {xs : List V} {ds : List PyData} (g : DaAll K G xs ds) : ItOk K (Itl K a) G ds (fun H => H a = some (.lst xs)) := by
  refine ⟨⟨YAt xs, ?_, ?_⟩⟩
  · have w := walk_list (K := K) (a := a) (xs := xs)
    rw [daa_len g] at w
    exact w.mono (fun H h => sq_of h) fun i H x H' _ _ y => y
  · rintro i H x H' G2 _ _ e1 e2 ⟨rfl, hx⟩
    obtain ⟨d, hd, gd⟩ := daa_getV g i x hx
    exact ⟨d, G2, hd, Sep.refl e2, da_ex e1 gd⟩
theorem it_tup {G : Hp} {a : Addr} {xs : List V} {ds : List PyData} (g : DaAll K G xs ds) : ItOk K (Itt K a) G ds (fun H => SqT K H a xs) := by
  refine ⟨⟨YAt xs, ?_, ?_⟩⟩
  · have w := walk_tup (K := K) (a := a) (xs := xs)
    rw [daa_len g] at w
    exact w
  · rintro i H x H' G2 _ _ e1 e2 ⟨rfl, hx⟩
    obtain ⟨d, hd, gd⟩ := daa_getV g i x hx
    exact ⟨d, G2, hd, Sep.refl e2, da_ex e1 gd⟩
def rngD (lo : Int) (n : Nat) : List PyData := (List.range n).map fun i => .int (lo + (i : Nat))
theorem it_rng {G : Hp} {lo : Int} {n : Nat} : ItOk K (Itr lo n) G (rngD lo n) (fun _ => True) := by
  refine ⟨⟨YFn fun i => .int (lo + i), ?_, ?_⟩⟩
  · have w := walk_range (lo := lo) (n := n)
    have e : (rngD lo n).length = n := by unfold rngD; rw [List.length_map, List.length_range]
    rw [e]
    exact w
  · rintro i H x H' G2 hi _ e1 e2 ⟨rfl, hx⟩
    have hn : i < n := by
      unfold rngD at hi
      rw [List.length_map, List.length_range] at hi
      exact hi
    refine ⟨.int (lo + (i : Nat)), G2, ?_, Sep.refl e2, ?_⟩
    · unfold rngD
      rw [List.getElem?_map, List.getElem?_range hn]
      rfl
    · rw [hx]
      exact .int _
def enumD (ds : List PyData) : List PyData := (List.range ds.length).map fun i => .tuple [.int (i : Nat), ds.getD i .none]
theorem it_enum {G : Hp} {a : Addr} {xs : List V} {ds : List PyData} (g : DaAll K G xs ds) : ItOk K (Ite K a) G (enumD ds) (fun H => H a = some (.lst xs)) := by
  have e : (enumD ds).length = xs.length := by unfold enumD; rw [List.length_map, List.length_range, daa_len g]
  refine ⟨⟨_, by rw [e]; exact (walk_enum (K := K) (a := a) (xs := xs)).mono (fun H h => sq_of h) fun i H x H' _ _ y => y, ?_⟩⟩
  rintro i H x H' G2 hi _ e1 e2 ⟨T, p1, p2, rfl, hT, rfl, h1, h2⟩
  cases Option.some.inj h1
  obtain ⟨d, hd, gd⟩ := daa_getV g i p2 h2
  have s : Sep G2 H (upd H T (.tup [.int (i : Nat), p2])) (upd G2 T (.tup [.int (i : Nat), p2])) := Sep.new e2 hT
  refine ⟨.tuple [.int (i : Nat), d], _, ?_, s, .tup (st_of upd_same) (.cons (.int _) (.cons (da_ex (e1.trans s.an) gd) .nil))⟩
  have hn : i < ds.length := (List.getElem?_eq_some_iff.mp hd).1
  unfold enumD
  rw [List.getElem?_map, List.getElem?_range hn]
  show some (PyData.tuple [.int (i : Nat), ds.getD i .none]) = _
  rw [List.getD_eq_getElem?_getD, hd]
  rfl
def zipD (ds es : List PyData) : List PyData := (ds.zip es).map fun z => .tuple [z.1, z.2]
theorem it_pair {J : It} {G : Hp} {n : Nat} {xs ys : List V} {ds es : List PyData} {Hd : Hp → Prop} (g : DaAll K G xs ds) (g2 : DaAll K G ys es) (hn : n = min xs.length ys.length) (w : Walk J n Hd (YPair (fun i => xs[i]?) (fun i => ys[i]?))) : ItOk K J G (zipD ds es) Hd := by
  have e : (zipD ds es).length = n := by unfold zipD; rw [List.length_map, List.length_zip, hn, daa_len g, daa_len g2]
  refine ⟨⟨_, by rw [e]; exact w, ?_⟩⟩
  rintro i H x H' G2 hi _ e1 e2 ⟨T, p1, p2, rfl, hT, rfl, h1, h2⟩
  obtain ⟨d1, hd1, gd1⟩ := daa_getV g i p1 h1
  obtain ⟨d2, hd2, gd2⟩ := daa_getV g2 i p2 h2
  have s : Sep G2 H (upd H T (.tup [p1, p2])) (upd G2 T (.tup [p1, p2])) := Sep.new e2 hT
  refine ⟨.tuple [d1, d2], _, ?_, s, .tup (st_of upd_same) (.cons (da_ex (e1.trans s.an) gd1) (.cons (da_ex (e1.trans s.an) gd2) .nil))⟩
  unfold zipD
  rw [List.getElem?_map, (List.getElem?_zip_eq_some (z := (d1, d2))).mpr ⟨hd1, hd2⟩]
  rfl
/-- the items of a list or a tuple -/
def seqD : PyData → Option (List PyData)
  | .list ds => some ds
  | .tuple ds => some ds
  | _ => none
def lstD : PyData → Option (List PyData)
  | .list ds => some ds
  | _ => none
def tupD : PyData → Option (List PyData)
  | .tuple ds => some ds
  | _ => none
@[simp] theorem seqD_l {ds : List PyData} : seqD (.list ds) = some ds := rfl
@[simp] theorem seqD_t {ds : List PyData} : seqD (.tuple ds) = some ds := rfl
@[simp] theorem lstD_l {ds : List PyData} : lstD (.list ds) = some ds := rfl
@[simp] theorem tupD_t {ds : List PyData} : tupD (.tuple ds) = some ds := rfl
def wSeq (w : WE) : WA := fun S Q => w S fun d S1 => wO (seqD d) fun ds => Q ds S1
def wLs (w : WE) : WA := fun S Q => w S fun d S1 => wO (lstD d) fun ds => Q ds S1
def wTp (w : WE) : WA := fun S Q => w S fun d S1 => wO (tupD d) fun ds => Q ds S1
theorem da_lst {G H : Hp} {v : V} {ds : List PyData} (x : Ex G H) (h : Da K G v (.list ds)) : ∃ a xs, v = .ref a ∧ G a = some (.lst xs) ∧ DaAll K G xs ds := by
  cases h with
  | lst e g => exact ⟨_, _, rfl, e, g⟩
theorem da_tupi {G : Hp} {v : V} {ds : List PyData} (h : Da K G v (.tuple ds)) : ∃ a xs, v = .ref a ∧ SqT K G a xs ∧ DaAll K G xs ds := by
  cases h with
  | tup e g => exact ⟨_, _, rfl, e, g⟩
theorem si_seq (h : SE K tl wa) : SI K (iSeq K tl) (wSeq wa) := fun P X G0 H0 G H σ S Q R r w k => h P X G0 H0 G H σ S _ _ r w fun d S' v H' G' q r' g a => by
  obtain ⟨ds, hd, q⟩ := q
  cases d <;> simp only [seqD, reduceCtorEq, Option.some.injEq] at hd
  · subst hd
    obtain ⟨b, xs, rfl, e, ga⟩ := da_lst r'.inn a
    exact ⟨b, rfl, .inl ⟨⟨xs, sq_of (r'.inn _ _ e)⟩, k _ S' _ H' G' _ q r' g (it_list ga) fun H2 x2 => x2 _ _ e⟩⟩
  · subst hd
    obtain ⟨b, xs, rfl, e, ga⟩ := da_tupi a
    exact ⟨b, rfl, .inr ⟨⟨xs, ex_t r'.inn e⟩, k _ S' _ H' G' _ q r' g (it_tup ga) fun H2 x2 => ex_t x2 e⟩⟩
theorem up_t {P : Option Addr} {H1 H2 : Hp} {a : Addr} {xs : List V} (n : P ≠ some a) (u : Up P H1 H2) (h : SqT K H1 a xs) : SqT K H2 a xs := by
  rcases h with h | h
  · rcases h with h | ⟨o, h⟩
    · exact .inl (.inl (u _ _ n h))
    · exact .inl (.inr ⟨o, u _ _ n h⟩)
  · exact .inr h

theorem up_tG {P : Option Addr} {G : Hp} (pg : PG P G) {a : Addr} {xs : List V} (h : SqT K G a xs) : ∀ H1 H2, Up P H1 H2 → SqT K H1 a xs → SqT K H2 a xs := fun H1 H2 u h1 => by
  by_cases n : P = some a
  · have g := pg a n
    rcases h with (h | ⟨o, h⟩) | h
    · rw [g] at h
      cases h
    · rw [g] at h
      cases h
    · exact .inr h
  · exact up_t n u h1
theorem dv_listP {P : Option Addr} {G H : Hp} {v : V} {ds : List PyData} (x : Ex G H) (pg : PG P G) (h : Dv K P G H v (.list ds)) : ∃ a xs, v = .ref a ∧ P ≠ some a ∧ H a = some (.lst xs) ∧ DaAll K G xs ds := by
  rcases h with h | ⟨a, xs, es, rfl, e, n, _, hx, g⟩
  · obtain ⟨a, xs, rfl, e, g⟩ := da_lst x h
    exact ⟨a, xs, rfl, fun z => (by rw [pg a z] at e; cases e), x _ _ e, g⟩
  · cases e
    exact ⟨a, xs, rfl, n, hx, g⟩
theorem siv_seq (h : SV K tl wa) : SIV K (iSeq K tl) (wSeq wa) := fun P X G0 H0 G H σ S Q R r w k => h P X G0 H0 G H σ S _ _ r w fun d S' v H' G' q r' g a => by
  obtain ⟨ds, hd, q⟩ := q
  cases d <;> simp only [seqD, reduceCtorEq, Option.some.injEq] at hd
  · subst hd
    obtain ⟨b, xs, rfl, n, e, ga⟩ := dv_listP r'.inn r'.pg a
    exact ⟨b, rfl, .inl ⟨⟨xs, sq_of e⟩, k _ S' _ H' G' _ q r' g (it_list ga) fun H2 u => u _ _ n e⟩⟩
  · subst hd
    obtain ⟨b, xs, rfl, e, ga⟩ := da_tupi (dv_da a fun _ e => by cases e)
    exact ⟨b, rfl, .inr ⟨⟨xs, ex_t r'.inn e⟩, k _ S' _ H' G' _ q r' g (it_tup ga) fun H2 u => up_tG r'.pg e _ _ u (ex_t r'.inn e)⟩⟩
theorem siv_list (h : SV K tl wa) : SIV K (iList K tl) (wLs wa) := fun P X G0 H0 G H σ S Q R r w k => h P X G0 H0 G H σ S _ _ r w fun d S' v H' G' q r' g a => by
  obtain ⟨ds, hd, q⟩ := q
  cases d <;> simp only [lstD, reduceCtorEq, Option.some.injEq] at hd
  subst hd
  obtain ⟨b, xs, rfl, n, e, ga⟩ := dv_listP r'.inn r'.pg a
  exact ⟨b, rfl, ⟨xs, sq_of e⟩, k _ S' _ H' G' _ q r' g (it_list ga) fun H2 u => u _ _ n e⟩
theorem siv_tup (h : SV K tl wa) : SIV K (iTup K tl) (wTp wa) := fun P X G0 H0 G H σ S Q R r w k => h P X G0 H0 G H σ S _ _ r w fun d S' v H' G' q r' g a => by
  obtain ⟨ds, hd, q⟩ := q
  cases d <;> simp only [tupD, reduceCtorEq, Option.some.injEq] at hd
  subst hd
  obtain ⟨b, xs, rfl, e, ga⟩ := da_tupi (dv_da a fun _ e => by cases e)
  exact ⟨b, rfl, ⟨xs, ex_t r'.inn e⟩, k _ S' _ H' G' _ q r' g (it_tup ga) fun H2 u => up_tG r'.pg e _ _ u (ex_t r'.inn e)⟩
theorem si_list (h : SE K tl wa) : SI K (iList K tl) (wLs wa) := fun P X G0 H0 G H σ S Q R r w k => h P X G0 H0 G H σ S _ _ r w fun d S' v H' G' q r' g a => by
  obtain ⟨ds, hd, q⟩ := q
  cases d <;> simp only [lstD, reduceCtorEq, Option.some.injEq] at hd
  subst hd
  obtain ⟨b, xs, rfl, e, ga⟩ := da_lst r'.inn a
  exact ⟨b, rfl, ⟨xs, sq_of (r'.inn _ _ e)⟩, k _ S' _ H' G' _ q r' g (it_list ga) fun H2 x2 => x2 _ _ e⟩
theorem si_tup (h : SE K tl wa) : SI K (iTup K tl) (wTp wa) := fun P X G0 H0 G H σ S Q R r w k => h P X G0 H0 G H σ S _ _ r w fun d S' v H' G' q r' g a => by
  obtain ⟨ds, hd, q⟩ := q
  cases d <;> simp only [tupD, reduceCtorEq, Option.some.injEq] at hd
  subst hd
  obtain ⟨b, xs, rfl, e, ga⟩ := da_tupi a
  exact ⟨b, rfl, ⟨xs, ex_t r'.inn e⟩, k _ S' _ H' G' _ q r' g (it_tup ga) fun H2 x2 => ex_t x2 e⟩
/-- the arguments of range, enumerate, zip -/
def rngA : List PyData → Option (List PyData)
  | [.int n] => if -(2 ^ 62) ≤ n ∧ n < 2 ^ 62 then some (rngD 0 n.toNat) else none
  | [.int i, .int j] => if -(2 ^ 62) ≤ i ∧ i < 2 ^ 62 ∧ -(2 ^ 62) ≤ j ∧ j < 2 ^ 62 then some (rngD i (j - i).toNat) else none
  | _ => none
def enumA : List PyData → Option (List PyData)
  | [.list ds] => some (enumD ds)
  | _ => none
def zipA : List PyData → Option (List PyData)
  | [.list ds, .list es] => some (zipD ds es)
  | _ => none
def wIt (f : List PyData → Option (List PyData)) (wt : WA) : WA := fun S Q => wt S fun xs S1 => wO (f xs) fun ds => Q ds S1
theorem rng1_of {P : Option Addr} {G H : Hp} {vs : List V} {xs ds : List PyData} (a : DvAll K P G H vs xs) (h : rngA xs = some ds) :
    (∃ n, vs = [.int n] ∧ -(2 ^ 62) ≤ n ∧ n < 2 ^ 62 ∧ ds = rngD 0 n.toNat) ∨ ∃ i j, vs = [.int i, .int j] ∧ (-(2 ^ 62) ≤ i ∧ i < 2 ^ 62 ∧ -(2 ^ 62) ≤ j ∧ j < 2 ^ 62) ∧ ds = rngD i (j - i).toNat := by
  unfold rngA at h
  split at h
  · split at h
    · rename_i n hn
      cases h
      cases a with
      | cons a b =>
        cases b
        exact .inl ⟨n, by rw [dv_int a], hn.1, hn.2, rfl⟩
    · cases h
  · split at h
    · rename_i i j hn
      cases h
      cases a with
      | cons a b =>
        cases b with
        | cons b c =>
          cases c
          exact .inr ⟨i, j, by rw [dv_int a, dv_int b], hn, rfl⟩
    · cases h
  · cases h
theorem daa_dv {P : Option Addr} {G H : Hp} : ∀ {vs : List V} {ds : List PyData}, DaAll K G vs ds → DvAll K P G H vs ds
  | _, _, .nil => .nil
  | _, _, .cons h a => .cons (.inl h) (daa_dv a)
theorem siv_rng1 (h : SAV K t wt) : SIV K (iRng1 t) (wIt (fun xs => if xs.length = 1 then rngA xs else none) wt) := fun P X G0 H0 G H σ S Q R r w k => h P X G0 H0 G H σ S _ _ r w fun xs S' vs H' G' q r' g a => by
  obtain ⟨ds, hd, q⟩ := q
  replace hd : (if xs.length = 1 then rngA xs else none) = some ds := hd
  split at hd
  · rename_i hl
    rcases rng1_of a hd with ⟨n, rfl, h1, h2, rfl⟩ | ⟨i, j, rfl, _⟩
    · exact ⟨n, rfl, h1, h2, k _ S' _ H' G' _ q r' g it_rng fun _ _ => trivial⟩
    · cases a with
      | cons a b =>
        cases b with
        | cons b c =>
          simp at hl
  · cases hd
theorem siv_rng2 (h : SAV K t wt) : SIV K (iRng2 t) (wIt (fun xs => if xs.length = 2 then rngA xs else none) wt) := fun P X G0 H0 G H σ S Q R r w k => h P X G0 H0 G H σ S _ _ r w fun xs S' vs H' G' q r' g a => by
  obtain ⟨ds, hd, q⟩ := q
  replace hd : (if xs.length = 2 then rngA xs else none) = some ds := hd
  split at hd
  · rename_i hl
    rcases rng1_of a hd with ⟨n, rfl, h1, h2, rfl⟩ | ⟨i, j, rfl, h1, rfl⟩
    · cases a with
      | cons a b =>
        cases b
        simp at hl
    · exact ⟨i, j, rfl, h1, k _ S' _ H' G' _ q r' g it_rng fun _ _ => trivial⟩
  · cases hd
theorem siv_enum (h : SAV K t wt) : SIV K (iEnum K t) (wIt enumA wt) := fun P X G0 H0 G H σ S Q R r w k => h P X G0 H0 G H σ S _ _ r w fun xs S' vs H' G' q r' g a => by
  obtain ⟨ds, hd, q⟩ := q
  unfold enumA at hd
  split at hd
  · cases hd
    cases a with
    | cons a b =>
      cases b
      obtain ⟨b, xs, rfl, n, e, ga⟩ := dv_listP r'.inn r'.pg a
      exact ⟨b, xs, rfl, sq_of e, k _ S' _ H' G' _ q r' g (it_enum ga) fun H2 u => u _ _ n e⟩
  · cases hd
theorem siv_zip (h : SAV K t wt) : SIV K (iZip K t) (wIt zipA wt) := fun P X G0 H0 G H σ S Q R r w k => h P X G0 H0 G H σ S _ _ r w fun xs S' vs H' G' q r' g a => by
  obtain ⟨ds, hd, q⟩ := q
  unfold zipA at hd
  split at hd
  · cases hd
    cases a with
    | cons a b =>
      cases b with
      | cons b c =>
        cases c
        obtain ⟨p1, xs, rfl, n, e, ga⟩ := dv_listP r'.inn r'.pg a
        obtain ⟨p2, ys, rfl, n2, e2, gb⟩ := dv_listP r'.inn r'.pg b
        refine ⟨p1, p2, xs, ys, rfl, sq_of e, sq_of e2, k _ S' _ H' G' (fun H => H p1 = some (.lst xs) ∧ H p2 = some (.lst ys)) q r' g ?_ fun H2 u => ⟨u _ _ n e, u _ _ n2 e2⟩⟩
        exact it_pair ga gb rfl ((walk_zip (K := K) (a := p1) (b := p2) rfl).mono (fun H h => ⟨sq_of h.1, sq_of h.2⟩) fun i H x H' _ _ y => y)
  · cases hd
theorem si_rng1 (h : SA K t wt) : SI K (iRng1 t) (wIt (fun xs => if xs.length = 1 then rngA xs else none) wt) := fun P X G0 H0 G H σ S Q R r w k => h P X G0 H0 G H σ S _ _ r w fun xs S' vs H' G' q r' g a => by
  obtain ⟨ds, hd, q⟩ := q
  replace hd : (if xs.length = 1 then rngA xs else none) = some ds := hd
  split at hd
  · rename_i hl
    rcases rng1_of (daa_dv (P := P) (H := H') a) hd with ⟨n, rfl, h1, h2, rfl⟩ | ⟨i, j, rfl, _⟩
    · exact ⟨n, rfl, h1, h2, k _ S' _ H' G' _ q r' g it_rng fun _ _ => trivial⟩
    · have := daa_len a
      simp [hl] at this
  · cases hd
theorem si_rng2 (h : SA K t wt) : SI K (iRng2 t) (wIt (fun xs => if xs.length = 2 then rngA xs else none) wt) := fun P X G0 H0 G H σ S Q R r w k => h P X G0 H0 G H σ S _ _ r w fun xs S' vs H' G' q r' g a => by
  obtain ⟨ds, hd, q⟩ := q
  replace hd : (if xs.length = 2 then rngA xs else none) = some ds := hd
  split at hd
  · rename_i hl
    rcases rng1_of (daa_dv (P := P) (H := H') a) hd with ⟨n, rfl, h1, h2, rfl⟩ | ⟨i, j, rfl, h1, rfl⟩
    · have := daa_len a
      simp [hl] at this
    · exact ⟨i, j, rfl, h1, k _ S' _ H' G' _ q r' g it_rng fun _ _ => trivial⟩
  · cases hd
theorem si_enum (h : SA K t wt) : SI K (iEnum K t) (wIt enumA wt) := fun P X G0 H0 G H σ S Q R r w k => h P X G0 H0 G H σ S _ _ r w fun xs S' vs H' G' q r' g a => by
  obtain ⟨ds, hd, q⟩ := q
  unfold enumA at hd
  split at hd
  · cases hd
    cases a with
    | cons a b =>
      cases b
      obtain ⟨b, xs, rfl, e, ga⟩ := da_lst r'.inn a
      exact ⟨b, xs, rfl, sq_of (r'.inn _ _ e), k _ S' _ H' G' _ q r' g (it_enum ga) fun H2 x2 => x2 _ _ e⟩
  · cases hd
theorem si_zip (h : SA K t wt) : SI K (iZip K t) (wIt zipA wt) := fun P X G0 H0 G H σ S Q R r w k => h P X G0 H0 G H σ S _ _ r w fun xs S' vs H' G' q r' g a => by
  obtain ⟨ds, hd, q⟩ := q
  unfold zipA at hd
  split at hd
  · cases hd
    cases a with
    | cons a b =>
      cases b with
      | cons b c =>
        cases c
        obtain ⟨p1, xs, rfl, e, ga⟩ := da_lst r'.inn a
        obtain ⟨p2, ys, rfl, e2, gb⟩ := da_lst r'.inn b
        refine ⟨p1, p2, xs, ys, rfl, sq_of (r'.inn _ _ e), sq_of (r'.inn _ _ e2), k _ S' _ H' G' (fun H => H p1 = some (.lst xs) ∧ H p2 = some (.lst ys)) q r' g ?_ fun H2 x2 => ⟨x2 _ _ e, x2 _ _ e2⟩⟩
        exact it_pair ga gb rfl ((walk_zip (K := K) (a := p1) (b := p2) rfl).mono (fun H h => ⟨sq_of h.1, sq_of h.2⟩) fun i H x H' _ _ y => y)
  · cases hd
/-! ### targets -/
abbrev WG := PyData → Ss → (Ss → Prop) → Prop
/-- js: the slots that are stored -/
def SG (K : PySem.W.Frag) (g : TG) (js : List Nat) (w : WG) : Prop := ∀ P X G0 H0 G H σ S v d Q (R : L2.St → Hp → Prop), Rel K P X G0 H0 G H σ S → Da K G v d → w d S Q →
  (∀ S' σ', Q S' → Rel K P X G0 H0 G H σ' S' → σ'.length = σ.length → (∀ i, i ∉ js → σ'[i]? = σ[i]?) → R σ' H) → g v σ H R
def SGs (K : PySem.W.Frag) (g : TGs) (js : List Nat) (w : List PyData → Ss → (Ss → Prop) → Prop) : Prop := ∀ P X G0 H0 G H σ S vs ds Q (R : L2.St → Hp → Prop), Rel K P X G0 H0 G H σ S → DaAll K G vs ds → w ds S Q →
  (∀ S' σ', Q S' → Rel K P X G0 H0 G H σ' S' → σ'.length = σ.length → (∀ i, i ∉ js → σ'[i]? = σ[i]?) → R σ' H) → g vs σ H R
def wName (j : Nat) : WG := fun d S Q => Q (S.set j (.da d))
theorem sg_name {j : Nat} : SG K (gName j) [j] (wName j) := fun P X G0 H0 G H σ S v d Q R r a w k => k _ _ w (r.setD a) (by rw [List.length_set]) fun i hi => List.getElem?_set_ne fun e => hi (by rw [e]; exact List.mem_singleton_self _)
def wgNil : List PyData → Ss → (Ss → Prop) → Prop := fun ds S Q => ds = [] ∧ Q S
def wgCons (w : WG) (ws : List PyData → Ss → (Ss → Prop) → Prop) : List PyData → Ss → (Ss → Prop) → Prop := fun ds S Q => match ds with
  | d :: r => w d S fun S1 => ws r S1 Q
  | [] => False
theorem sgs_nil : SGs K gNil [] wgNil := fun P X G0 H0 G H σ S vs ds Q R r a w k => by
  obtain ⟨rfl, w⟩ := w
  exact ⟨daa_inv0 a, k S σ w r rfl fun _ _ => rfl⟩
theorem sgs_cons {g : TG} {gs : TGs} {js ks : List Nat} {w : WG} {ws : List PyData → Ss → (Ss → Prop) → Prop} (h : SG K g js w) (hs : SGs K gs ks ws) : SGs K (gCons g gs) (js ++ ks) (wgCons w ws) := fun P X G0 H0 G H σ S vs ds Q R r a w k => by
  cases a with
  | nil => exact w.elim
  | cons a b => exact ⟨_, _, rfl, h P X G0 H0 G H σ S _ _ _ _ r a w fun S1 σ1 q1 r1 l1 e1 => hs P X G0 H0 G H σ1 S1 _ _ _ _ r1 b q1 fun S2 σ2 q2 r2 l2 e2 => k S2 σ2 q2 r2 (l2.trans l1) fun i hi => (e2 i fun z => hi (List.mem_append_right _ z)).trans (e1 i fun z => hi (List.mem_append_left _ z))⟩
def wgTup (n : Nat) (ws : List PyData → Ss → (Ss → Prop) → Prop) : WG := fun d S Q => wO (tupD d) fun ds => ds.length = n ∧ ws ds S Q
theorem sg_tup {n : Nat} {gs : TGs} {js : List Nat} {ws : List PyData → Ss → (Ss → Prop) → Prop} (hs : SGs K gs js ws) : SG K (gTup K n gs) js (wgTup n ws) := fun P X G0 H0 G H σ S v d Q R r a w k => by
  obtain ⟨ds, hd, hn, w⟩ := w
  cases d <;> simp only [tupD, reduceCtorEq, Option.some.injEq] at hd
  subst hd
  obtain ⟨b, xs, rfl, e, ga⟩ := da_tupi a
  exact ⟨b, xs, rfl, ex_t r.inn e, by rw [daa_len ga]; exact hn, hs P X G0 H0 G H σ S _ _ _ _ r ga w k⟩
end
end VL

set_option Elab.async false
set_option linter.all false
set_option maxRecDepth 100000
set_option maxHeartbeats 4000000
namespace VL
open PySem PySem.Spec PyProof.Rows L2 Evl Tw
/-! comprehensions -/
def wipeS (S : Ss) : List Nat → Ss
  | [] => S
  | v :: vs => (wipeS S vs).set v .un
theorem wipeS_len {S : Ss} : ∀ {vs : List Nat}, (wipeS S vs).length = S.length
  | [] => rfl
  | v :: vs => by unfold wipeS; rw [List.length_set, wipeS_len]
theorem wipeS_at {S : Ss} {i : Nat} : ∀ {vs : List Nat}, i ∈ vs → ∀ s, (wipeS S vs)[i]? = some s → s = .un
  | v :: vs, h, s, e => by
    unfold wipeS at e
    by_cases q : v = i
    · subst q
      have hl : v < (wipeS S vs).length := by
        have := (List.getElem?_eq_some_iff.mp e).1
        rw [List.length_set] at this
        exact this
      rw [List.getElem?_set_self hl] at e
      cases e
      rfl
    · rw [List.getElem?_set_ne q] at e
      rcases List.mem_cons.mp h with z | z
      · exact absurd z.symm q
      · exact wipeS_at z s e
theorem wipe_at {σ : L2.St} {i : Nat} : ∀ {vs : List Nat}, i ∉ vs → (wipe σ vs)[i]? = σ[i]?
  | [], _ => rfl
  | v :: vs, h => by
    unfold wipe
    rw [List.getElem?_set_ne fun e => h (by rw [e]; exact List.mem_cons_self)]
    exact wipe_at fun z => h (List.mem_cons_of_mem _ z)
theorem wipe_in {σ : L2.St} {i : Nat} : ∀ {vs : List Nat}, i ∈ vs → i < σ.length → (wipe σ vs)[i]? = some none
  | v :: vs, h, hi => by
    unfold wipe
    by_cases q : v = i
    · subst q
      rw [List.getElem?_set_self (by rw [wipe_length]; exact hi)]
    · rw [List.getElem?_set_ne q]
      rcases List.mem_cons.mp h with z | z
      · exact absurd z.symm q
      · exact wipe_in z hi
theorem wipe_eq {σ σ2 : L2.St} {vs : List Nat} (l : σ2.length = σ.length) (h : ∀ i, i ∉ vs → σ2[i]? = σ[i]?) : wipe σ2 vs = wipe σ vs := by
  apply List.ext_getElem?
  intro i
  by_cases q : i ∈ vs
  · by_cases hi : i < σ.length
    · rw [wipe_in q hi, wipe_in q (by rw [l]; exact hi)]
    · rw [List.getElem?_eq_none (by rw [wipe_length]; omega), List.getElem?_eq_none (by rw [wipe_length]; omega)]
  · rw [wipe_at q, wipe_at q, h i q]
section
variable {K : PySem.W.Frag} {P : Option Addr} {X : Addr → Prop} {G0 H0 G H G' H' : Hp} {σ : L2.St} {S : Ss}
theorem Rel.wipe (r : Rel K P X G0 H0 G H σ S) : ∀ vs : List Nat, Rel K P X G0 H0 G H (wipe σ vs) (wipeS S vs)
  | [] => r
  | v :: vs => (Rel.wipe r vs).forget
theorem Rel.unwipe {vs : List Nat} (r : Rel K P X G0 H0 G H (L2.wipe σ vs) S) (h : ∀ i ∈ vs, ∀ s, S[i]? = some s → s = .un) : Rel K P X G0 H0 G H σ S := by
  obtain ⟨A, hA, inj⟩ := r.sl
  refine ⟨r.sx, r.pl, r.pg, r.res, by rw [r.len, wipe_length], A, fun i s hs => ?_, inj⟩
  obtain ⟨o, ho, ok⟩ := hA i s hs
  by_cases q : i ∈ vs
  · cases h i q s hs
    have hi : i < σ.length := by
      have := (List.getElem?_eq_some_iff.mp hs).1
      rw [r.len, wipe_length] at this
      exact this
    exact ⟨_, List.getElem?_eq_getElem hi, trivial⟩
  · rw [wipe_at q] at ho
    exact ⟨o, ho, ok⟩
/-- one more address is kept apart -/
def Plus (X : Addr → Prop) (D : Addr) : Addr → Prop := fun b => X b ∨ b = D
theorem Rel.more (r : Rel K P X G0 H0 G H σ S) {D : Addr} (g : G D = none) (h : H D ≠ none) (n : P ≠ some D) (new : NotIn S σ (.ref D)) : Rel K P (Plus X D) G0 H0 G H σ S := by
  obtain ⟨A, hA, inj⟩ := r.sl
  refine ⟨r.sx, r.pl, r.pg, fun b hb => ?_, r.len, A, fun i s hs => ?_, inj⟩
  · rcases hb with hb | rfl
    · exact r.res b hb
    · exact ⟨g, h, n⟩
  · obtain ⟨o, ho, ok⟩ := hA i s hs
    refine ⟨o, ho, ?_⟩
    cases s with
    | un => trivial
    | da d => exact ok
    | ow es =>
      obtain ⟨e1, n1, rest⟩ := ok
      refine ⟨e1, ⟨n1.1, fun z => z.elim n1.2 fun z => ?_⟩, rest⟩
      exact new i es hs (by rw [ho, e1, z])
    | po => exact ok
    | xc b C d fs => exact ok
theorem Rel.less (r : Rel K P (Plus X D) G0 H0 G H σ S) : Rel K P X G0 H0 G H σ S ∧ NotIn S σ (.ref D) := by
  obtain ⟨A, hA, inj⟩ := r.sl
  refine ⟨⟨r.sx, r.pl, r.pg, fun b hb => r.res b (.inl hb), r.len, A, fun i s hs => ?_, inj⟩, fun j es hj z => ?_⟩
  · obtain ⟨o, ho, ok⟩ := hA i s hs
    refine ⟨o, ho, ?_⟩
    cases s with
    | un => trivial
    | da d => exact ok
    | ow es =>
      obtain ⟨e1, n1, rest⟩ := ok
      exact ⟨e1, ⟨n1.1, fun z => n1.2 (.inl z)⟩, rest⟩
    | po => exact ok
    | xc b C d fs => exact ok
  · obtain ⟨a, ys, hv, n, _⟩ := r.own hj
    rw [hv] at z
    have e : a = D := by
      have := Option.some.inj (Option.some.inj z)
      injection this
    exact n.2 (.inr e)
theorem Rel.mutX (r : Rel K P X G0 H0 G H σ S) {D : Addr} {o : HO} (hD : X D) (h0 : H0 D = none) : Rel K P X G0 H0 G (upd H D o) σ S := by
  obtain ⟨A, hA, inj⟩ := r.sl
  obtain ⟨g, _, n⟩ := r.res D hD
  refine ⟨⟨fun b u nb hb => ?_, r.sx.an, Ex.mut r.sx.inn g, r.sx.sep⟩, fun p hp => ?_, r.pg, fun b hb => ⟨(r.res b hb).1, ?_, (r.res b hb).2.2⟩, r.len, A, fun i s hs => ?_, inj⟩
  · have q : b ≠ D := fun z => by
      rw [z, h0] at hb
      cases hb
    rw [upd_ne q]
    exact r.sx.up b u nb hb
  · have q : p ≠ D := fun z => n (z ▸ hp)
    obtain ⟨zs, e, l⟩ := r.pl p hp
    exact ⟨zs, by rw [upd_ne q]; exact e, l⟩
  · by_cases q : b = D
    · rw [q, upd_same]
      exact Option.some_ne_none _
    · rw [upd_ne q]
      exact (r.res b hb).2.1
  · obtain ⟨o, ho, ok⟩ := hA i s hs
    refine ⟨o, ho, ?_⟩
    cases s with
    | un => trivial
    | da d => exact ok
    | ow es =>
      obtain ⟨e1, n1, h01, g01, ys, hy, gy⟩ := ok
      refine ⟨e1, n1, h01, g01, ys, ?_, gy⟩
      have q : A i ≠ D := fun z => n1.2 (by rw [z]; exact hD)
      rw [upd_ne q]
      exact hy
    | po => exact ok
    | xc b C d fs => exact ok
end
def wMap (wg : WG) (wt : WT) (we : WE) (vs : List Nat) (Q : PyData → Ss → Prop) : List PyData → List PyData → Ss → Prop
  | [], acc, S => Q (.list acc) S
  | d :: r, acc, S => wg d S fun S1 => wt S1 fun b S2 => if b = true then we S2 fun e S3 => wMap wg wt we vs Q r (acc ++ [e]) (wipeS S3 vs) else wMap wg wt we vs Q r acc (wipeS S2 vs)
def wLc (wi : WA) (wg : WG) (wt : WT) (we : WE) (vs : List Nat) : WE := fun S Q => wi S fun ds S1 => ds.length ≤ 100000 ∧ wMap wg wt we vs Q ds [] (wipeS S1 vs)
section
variable {K : PySem.W.Frag} {ti : TI} {tg : TG} {tt : TT} {te : TE} {wi : WA} {wg : WG} {wt : WT} {we : WE} {js vs : List Nat}
theorem so_lc (hi : SIV K ti wi) (hg : SG K tg js wg) (ht : ST K tt wt) (he : SE K te we) (hj : ∀ j ∈ js, j ∈ vs) : SO K (tLc ti tg tt te vs) (wLc wi wg wt we vs) := fun P X G0 H0 G H σ S Q R r w k =>
  hi P X G0 H0 G H σ S _ _ r w fun ds S1 J H1 G1 Hd w1 r1 g1 io st D hD => by
    obtain ⟨hl, w1⟩ := w1
    obtain ⟨r2, g2, o2, n2⟩ := r1.fresh (xs := []) (ds := []) hD .nil
    obtain ⟨a, xs, es, e1, e2, nD, h0, gD, hx, _⟩ := o2
    cases e1
    have rX := r2.more gD (by rw [hx]; exact Option.some_ne_none _) nD.1 n2
    obtain ⟨⟨Y, wk, yl⟩⟩ := io
    refine lc_it wk (fun i H2 => ∃ Sw G2 acc accd, Rel K P (Plus X D) G0 H0 G2 H2 (wipe σ vs) (wipeS Sw vs) ∧ Up P H1 H2 ∧ Ex G1 G2 ∧ H2 D = some (.lst acc) ∧ DaAll K G2 acc accd ∧ acc.length ≤ i ∧ i ≤ ds.length ∧ wMap wg wt we vs Q (ds.drop i) accd (wipeS Sw vs)) ?_ ?_ ?_ ?_
    · exact ⟨S1, G1, [], [], rX.wipe vs, Up.of (Ex.new hD), Ex.refl _, upd_same, .nil, Nat.le_refl 0, Nat.zero_le _, w1⟩
    · rintro i H2 _ ⟨Sw, G2, acc, accd, _, u, _⟩
      exact st H2 u
    · rintro i x H2 H3 hlt ⟨Sw, G2, acc, accd, rl, u, eG, hacc, ga, la, hi, wm⟩ hy
      obtain ⟨d, G3, hd, s3, gx⟩ := yl i H2 x H3 G2 hlt (st H2 u) eG rl.inn hy
      have ed : ds.drop i = d :: ds.drop (i + 1) := by
        rw [List.drop_eq_getElem_cons hlt]
        have := (List.getElem?_eq_some_iff.mp hd).2
        rw [this]
      rw [ed] at wm
      have r3 := rl.sep s3
      have D3 : H3 D = some (.lst acc) := s3.up _ _ hacc
      have a3 : DaAll K G3 acc accd := daa_ex s3.an ga
      have hXD : Plus X D D := .inr rfl
      refine hg P (Plus X D) G0 H0 G3 H3 (wipe σ vs) (wipeS Sw vs) x d _ _ r3 gx wm fun S4 σ4 w4 r4 l4 e4 => ?_
      have ew : wipe σ4 vs = wipe σ vs := by
        have z : wipe σ4 vs = wipe (wipe σ vs) vs := wipe_eq l4 fun i hi => e4 i fun z => hi (hj i z)
        rw [z]
        exact wipe_eq (wipe_length _ _) fun i hi => wipe_at hi
      refine ⟨ew, ht P (Plus X D) G0 H0 G3 H3 σ4 S4 _ _ r4 w4 fun b S5 H5 G5 w5 r5 g5 => ?_⟩
      have D5 : H5 D = some (.lst acc) := g5.up _ _ nD.1 D3
      have u5 : Up P H1 H5 := (u.trans (Up.of s3.up)).trans g5.up
      cases b with
      | true =>
        rw [if_pos rfl]
        refine he P (Plus X D) G0 H0 G5 H5 σ4 S5 _ _ r5 w5 fun e S6 y H6 G6 w6 r6 g6 gy => ?_
        have D6 : H6 D = some (.lst acc) := g6.up _ _ nD.1 D5
        refine ⟨acc, D6, sz_lt (by omega), S6, G6, acc ++ [y], accd ++ [e], ?_, ?_, eG.trans (s3.an.trans (g5.an.trans g6.an)), upd_same, daa_app (daa_ex (g5.an.trans g6.an) a3) (.cons gy .nil), by rw [List.length_append]; exact Nat.add_le_add_right la 1, hlt, w6⟩
        · have z := (r6.mutX (o := .lst (acc ++ [y])) hXD h0).wipe vs
          rw [ew] at z
          exact z
        · intro b o nb hb
          have q : b ≠ D := fun z => by
            rw [z, hD] at hb
            cases hb
          rw [upd_ne q]
          exact (u5.trans g6.up) b o nb hb
      | false =>
        rw [if_neg Bool.false_ne_true]
        refine ⟨S5, G5, acc, accd, ?_, u5, eG.trans (s3.an.trans g5.an), D5, daa_ex g5.an a3, Nat.le_succ_of_le la, hlt, w5⟩
        have z := r5.wipe vs
        rw [ew] at z
        exact z
    · rintro H2 ⟨Sw, G2, acc, accd, rl, u, eG, hacc, ga, la, hi, wm⟩
      rw [List.drop_length] at wm
      obtain ⟨rl1, nn⟩ := rl.less
      have ru := rl1.unwipe fun i hi s hs => wipeS_at hi s hs
      have res := rl.res D (.inr rfl)
      refine k _ _ _ H2 G2 wm ru (g1.trans ⟨u, eG⟩) ⟨D, acc, accd, rfl, rfl, nD, h0, res.1, hacc, ga⟩ fun j es hj z => ?_
      by_cases q : j ∈ vs
      · have := wipeS_at q _ hj
        cases this
      · exact nn j es hj (by rw [wipe_at q]; exact z)
end
/-! ### statements -/
structure WD where
  nx : Ss → Prop
  rt : PyData → Prop
  ro : List PyData → Prop
  bk : Ss → Prop := fun _ => False
  ct : Ss → Prop := fun _ => False
abbrev WS := WD → Ss → Prop
def NoX : Addr → Prop := fun _ => False
structure Oks (K : PySem.W.Frag) (P : Option Addr) (G0 H0 G : Hp) (W : WD) (D : Ends) : Prop where
  nx : ∀ S' σ' H' G', W.nx S' → Ex G G' → Rel K P NoX G0 H0 G' H' σ' S' → D.nx σ' H'
  bk : ∀ S' σ' H' G', W.bk S' → Ex G G' → Rel K P NoX G0 H0 G' H' σ' S' → D.bk σ' H'
  ct : ∀ S' σ' H' G', W.ct S' → Ex G G' → Rel K P NoX G0 H0 G' H' σ' S' → D.ct σ' H'
  rt : ∀ d v H' G', W.rt d → Sx P G0 H0 G' H' → Pl P H' → Da K G' v d → D.rt v H'
  ro : ∀ ds a xs H' G', W.ro ds → Sx P G0 H0 G' H' → Pl P H' → P ≠ some a → H0 a = none → G' a = none → H' a = some (.lst xs) → DaAll K G' xs ds → D.rt (.ref a) H'
theorem Oks.mono {K : PySem.W.Frag} {P : Option Addr} {G0 H0 G G' : Hp} {W : WD} {D : Ends} (o : Oks K P G0 H0 G W D) (e : Ex G G') : Oks K P G0 H0 G' W D :=
  ⟨fun S' σ' H' G2 q x r => o.nx S' σ' H' G2 q (e.trans x) r, fun S' σ' H' G2 q x r => o.bk S' σ' H' G2 q (e.trans x) r, fun S' σ' H' G2 q x r => o.ct S' σ' H' G2 q (e.trans x) r, o.rt, o.ro⟩
def SS (K : PySem.W.Frag) (ts : TS) (w : WS) : Prop := ∀ P G0 H0 G H σ S W D, Rel K P NoX G0 H0 G H σ S → w W S → Oks K P G0 H0 G W D → ts D σ H
section
variable {K : PySem.W.Frag} {te ta : TE} {wa we : WE} {ts tu : TS} {ws wu : WS} {ct : TT} {cw : WT} {g : TG} {js : List Nat} {wg : WG}
def wNx : WS := fun W S => W.nx S
theorem ss_next : SS K tNext wNx := fun P G0 H0 G H σ S W D r w o => o.nx S σ H G w (Ex.refl _) r
def wBk : WS := fun W S => W.bk S
theorem ss_break : SS K tBreak wBk := fun P G0 H0 G H σ S W D r w o => o.bk S σ H G w (Ex.refl _) r
def wCt : WS := fun W S => W.ct S
theorem ss_cont : SS K tCont wCt := fun P G0 H0 G H σ S W D r w o => o.ct S σ H G w (Ex.refl _) r
def wSeq2 (a b : WS) : WS := fun W S => a { W with nx := fun S' => b W S' } S
theorem ss_seq (ha : SS K ts ws) (hb : SS K tu wu) : SS K (tSeq ts tu) (wSeq2 ws wu) := fun P G0 H0 G H σ S W D r w o =>
  ha P G0 H0 G H σ S _ _ r w ⟨fun S' σ' H' G' q x r' => hb P G0 H0 G' H' σ' S' W D r' q (o.mono x), o.bk, o.ct, o.rt, o.ro⟩
def wAsg (wa : WE) (wg : WG) : WS := fun W S => wa S fun d S1 => wg d S1 W.nx
theorem ss_asg (ha : SE K ta wa) (hg : SG K g js wg) : SS K (tAsg ta g) (wAsg wa wg) := fun P G0 H0 G H σ S W D r w o =>
  ha P NoX G0 H0 G H σ S _ _ r w fun d S1 v H1 G1 q r1 g1 a => hg P NoX G0 H0 G1 H1 σ S1 v d _ _ r1 a q fun S' σ' q' r' _ _ => o.nx S' σ' H1 G1 q' g1.an r'
/-- a list of one's own is kept -/
def wAsgO (wa : WE) (j : Nat) : WS := fun W S => wa S fun d S1 => wO (lstD d) fun ds => W.nx (S1.set j (.ow ds))
theorem ss_asgO {j : Nat} (ha : SO K ta wa) : SS K (tAsg ta (gName j)) (wAsgO wa j) := fun P G0 H0 G H σ S W D r w o =>
  ha P NoX G0 H0 G H σ S _ _ r w fun d S1 v H1 G1 q r1 g1 a n => by
    obtain ⟨ds, hd, q⟩ := q
    obtain ⟨b, xs, es, rfl, e2, n1, h0, g0, hx, ga⟩ := a
    subst e2
    cases hd
    exact o.nx _ _ H1 G1 q g1.an (r1.setO n1 h0 g0 hx ga n)
def wDrop (wa : WE) : WS := fun W S => wa S fun _ S1 => W.nx S1
theorem ss_drop (ha : SV K ta wa) : SS K (tDrop ta) (wDrop wa) := fun P G0 H0 G H σ S W D r w o =>
  ha P NoX G0 H0 G H σ S _ _ r w fun d S1 v H1 G1 q r1 g1 a => o.nx S1 σ H1 G1 q g1.an r1
def wRet (wa : WE) : WS := fun W S => wa S fun d _ => W.rt d
theorem ss_ret (ha : SE K ta wa) : SS K (tRet ta) (wRet wa) := fun P G0 H0 G H σ S W D r w o =>
  ha P NoX G0 H0 G H σ S _ _ r w fun d S1 v H1 G1 q r1 g1 a => o.rt d v H1 G1 q r1.sx r1.pl a
def wRetO (wa : WE) : WS := fun W S => wa S fun d _ => wO (lstD d) W.ro
theorem ss_retO (ha : SO K ta wa) : SS K (tRet ta) (wRetO wa) := fun P G0 H0 G H σ S W D r w o =>
  ha P NoX G0 H0 G H σ S _ _ r w fun d S1 v H1 G1 q r1 g1 a n => by
    obtain ⟨ds, hd, q⟩ := q
    obtain ⟨b, xs, es, rfl, e2, n1, h0, g0, hx, ga⟩ := a
    subst e2
    cases hd
    exact o.ro _ b xs H1 G1 q r1.sx r1.pl n1.1 h0 g0 hx ga
/-- an own list's name, its list handed on -/
def wMove (i : Nat) : WE := fun S Q => match S[i]? with
  | some (.ow ds) => Q (.list ds) (S.set i .un)
  | _ => False
theorem so_move {i : Nat} : SO K (tVar i) (wMove i) := fun P X G0 H0 G H σ S Q R r w k => by
  unfold wMove at w
  split at w
  · rename_i ds hd
    obtain ⟨a, xs, hv, n, h0, g0, hx, g⟩ := r.own hd
    have hl : i < σ.length := by
      rw [← r.len]
      exact (List.getElem?_eq_some_iff.mp hd).1
    have r2 := r.forget (i := i) (o := some (.ref a))
    have e : σ.set i (some (.ref a)) = σ := by
      apply List.ext_getElem?
      intro j
      by_cases q : i = j
      · subst q
        rw [List.getElem?_set_self hl, hv]
      · rw [List.getElem?_set_ne q]
    rw [e] at r2
    refine ⟨_, hv, k _ _ _ H G w r2 Go.refl ⟨a, xs, ds, rfl, rfl, n, h0, g0, hx, g⟩ fun j es hj z => ?_⟩
    obtain ⟨A, hA, inj⟩ := r.sl
    by_cases q : i = j
    · subst q
      rw [List.getElem?_set_self (by rw [r.len]; exact hl)] at hj
      cases hj
    · rw [List.getElem?_set_ne q] at hj
      obtain ⟨o1, ho1, e1, _⟩ := hA i _ hd
      obtain ⟨o2, ho2, e2, _⟩ := hA j _ hj
      rw [hv] at ho1
      rw [z] at ho2
      cases ho1
      cases ho2
      have z1 : A i = a := by
        have := Option.some.inj e1
        injection this with this
        exact this.symm
      have z2 : A j = a := by
        have := Option.some.inj e2
        injection this with this
        exact this.symm
      exact q (inj i j _ _ hd hj (z1.trans z2.symm))
  · exact w.elim
def wIfS (c : WT) (a b : WS) : WS := fun W S => c S fun c S1 => if c = true then a W S1 else b W S1
theorem ss_if (hc : ST K ct cw) (ha : SS K ts ws) (hb : SS K tu wu) : SS K (tIfS ct ts tu) (wIfS cw ws wu) := fun P G0 H0 G H σ S W D r w o =>
  hc P NoX G0 H0 G H σ S _ _ r w fun c S1 H1 G1 q r1 g1 => by
    cases c with
    | true => exact ha P G0 H0 G1 H1 σ S1 W D r1 q (o.mono g1.an)
    | false => exact hb P G0 H0 G1 H1 σ S1 W D r1 q (o.mono g1.an)
/-- xs.append(e) -/
def wApp (i : Nat) (wa : WE) : WS := fun W S => ∃ es, S[i]? = some (.ow es) ∧ wa S fun d S1 => ∃ ds, S1[i]? = some (.ow ds) ∧ ds.length < 100000 ∧ W.nx (S1.set i (.ow (ds ++ [d])))
theorem ss_app {i : Nat} (ha : SE K ta wa) : SS K (tDrop (tBM K "list" rAppend (tVar i) (tCons ta tNil))) (wApp i wa) := fun P G0 H0 G H σ S W D r w o => by
  obtain ⟨es, hi, w⟩ := w
  obtain ⟨a, xs, hv, n, h0, g0, hx, g⟩ := r.own hi
  refine ⟨_, hv, .inl ⟨rfl, xs, sq_of hx⟩, ?_⟩
  refine ha P NoX G0 H0 G H σ S _ _ r w fun d S1 v H1 G1 q r1 g1 gd => ?_
  obtain ⟨ds, hj, hl, q⟩ := q
  obtain ⟨a2, xs2, hv2, n2, h02, g02, hx2, gx2⟩ := r1.own hj
  rw [hv] at hv2
  have e : a2 = a := by
    have := Option.some.inj (Option.some.inj hv2)
    injection this with this
    exact this.symm
  subst e
  exact ⟨a2, xs2, v, rfl, rfl, hx2, by rw [daa_len gx2]; exact sz_lt hl, o.nx _ _ _ G1 q g1.an (r1.mut hj hv (daa_app gx2 (.cons gd .nil)))⟩
/-- x op= e -/
def wAug (i : Nat) (f : PyData → PyData → Option PyData) (wa : WE) : WS := fun W S => ∃ d, S[i]? = some (.da d) ∧ wa S fun e S1 => wO (f d e) fun z => W.nx (S1.set i (.da z))
theorem ss_aug {i : Nat} {r : R2} {f : PyData → PyData → Option PyData} (hr : Pr2 K r f) (ha : SV K ta wa) : SS K (tAug i ta r) (wAug i f wa) := fun P G0 H0 G H σ S W D rl w o => by
  obtain ⟨d, hd, w⟩ := w
  obtain ⟨v, hv, g⟩ := rl.at hd
  refine ⟨v, hv, ha P NoX G0 H0 G H σ S _ _ rl w fun e S1 y H1 G1 q r1 g1 ge => ?_⟩
  obtain ⟨z, hz, q⟩ := q
  exact hr P G1 H1 v y d e z _ r1.inn (.inl (da_ex g1.an g)) ge hz fun u H2 G2 s gu => o.nx _ _ H2 G2 q (g1.an.trans s.an) ((r1.sep s).setD gu)
/-- for -/
def wLoop (wg : WG) (wb : WS) (W : WD) : List PyData → Ss → Prop
  | [], S => W.nx S
  | d :: r, S => wg d S fun S1 => wb { W with nx := wLoop wg wb W r, ct := wLoop wg wb W r, bk := W.nx } S1
def wFor (wi : WA) (wg : WG) (wb : WS) : WS := fun W S => wi S fun ds S1 => wLoop wg wb W ds S1
theorem ss_for {ti : TI} {wi : WA} (hi : SI K ti wi) (hg : SG K g js wg) (hb : SS K tu wu) : SS K (tFor ti g tu) (wFor wi wg wu) := fun P G0 H0 G H σ S W D r w o =>
  hi P NoX G0 H0 G H σ S _ _ r w fun ds S1 J H1 G1 Hd w1 r1 g1 io st => by
    obtain ⟨⟨Y, wk, yl⟩⟩ := io
    refine for_it wk (fun i σ2 H2 => ∃ S2 G2, Rel K P NoX G0 H0 G2 H2 σ2 S2 ∧ Ex G1 G2 ∧ i ≤ ds.length ∧ wLoop wg wu W (ds.drop i) S2) ⟨S1, G1, r1, Ex.refl _, Nat.zero_le _, w1⟩ ?_ ?_ ?_
    · rintro i σ2 H2 _ ⟨S2, G2, r2, e2, _⟩
      exact st H2 (e2.trans r2.inn)
    · rintro i x σ2 H2 H3 hlt ⟨S2, G2, r2, e2, hi, w2⟩ hy
      obtain ⟨d, G3, hd, s3, gx⟩ := yl i H2 x H3 G2 hlt (st H2 (e2.trans r2.inn)) e2 r2.inn hy
      have ed : ds.drop i = d :: ds.drop (i + 1) := by
        rw [List.drop_eq_getElem_cons hlt]
        have := (List.getElem?_eq_some_iff.mp hd).2
        rw [this]
      rw [ed] at w2
      refine hg P NoX G0 H0 G3 H3 σ2 S2 x d _ _ (r2.sep s3) gx w2 fun S4 σ4 w4 r4 _ _ => ?_
      have ex : Ex G1 G3 := e2.trans s3.an
      exact hb P G0 H0 G3 H3 σ4 S4 _ _ r4 w4 ⟨fun S' σ' H' G' q x r' => ⟨S', G', r', ex.trans x, hlt, q⟩, fun S' σ' H' G' q x r' => o.nx S' σ' H' G' q (g1.an.trans (ex.trans x)) r',
        fun S' σ' H' G' q x r' => ⟨S', G', r', ex.trans x, hlt, q⟩, o.rt, o.ro⟩
    · rintro σ2 H2 ⟨S2, G2, r2, e2, _, w2⟩
      rw [List.drop_length] at w2
      exact o.nx S2 σ2 H2 G2 w2 (g1.an.trans e2) r2
theorem wLoop_inv {wg : WG} {wb : WS} {W : WD} {ds : List PyData} {S : Ss} (I : Nat → Ss → Prop) (h0 : I 0 S)
    (hs : ∀ i d S' (N : Ss → Prop), ds[i]? = some d → I i S' → (∀ S, I (i + 1) S → N S) → wg d S' fun S1 => wb { W with nx := N, ct := N, bk := W.nx } S1) (hd : ∀ S', I ds.length S' → W.nx S') : wLoop wg wb W ds S := by
  have go : ∀ n i S', i + n = ds.length → I i S' → wLoop wg wb W (ds.drop i) S' := by
    intro n
    induction n with
    | zero =>
      intro i S' hi h
      have : i = ds.length := by omega
      subst this
      rw [List.drop_length]
      exact hd S' h
    | succ n ih =>
      intro i S' hi h
      have hlt : i < ds.length := by omega
      rw [List.drop_eq_getElem_cons hlt]
      exact hs i ds[i] S' _ (List.getElem?_eq_getElem hlt) h fun S1 h1 => ih (i + 1) S1 (by omega) h1
  exact go ds.length 0 S (by omega) h0
/-- one turn of a comprehension -/
def wTurn (wg : WG) (wt : WT) (we : WE) (vs : List Nat) (d : PyData) (S : Ss) (N1 : PyData → Ss → Prop) (N2 : Ss → Prop) : Prop := wg d S fun S1 => wt S1 fun b S2 => if b = true then we S2 fun e S3 => N1 e (wipeS S3 vs) else N2 (wipeS S2 vs)
theorem wMap_pure {wg : WG} {wt : WT} {we : WE} {vs : List Nat} {Q : PyData → Ss → Prop} {ds : List PyData} {S : Ss} (p : PyData → Bool) (g : PyData → PyData)
    (h : ∀ d ∈ ds, ∀ N1 N2, (p d = true → N1 (g d) S) → (p d = false → N2 S) → wTurn wg wt we vs d S N1 N2) (q : Q (.list ((ds.filter p).map g)) S) : wMap wg wt we vs Q ds [] S := by
  have go : ∀ (ds acc : List PyData), (∀ d ∈ ds, ∀ N1 N2, (p d = true → N1 (g d) S) → (p d = false → N2 S) → wTurn wg wt we vs d S N1 N2) → Q (.list (acc ++ (ds.filter p).map g)) S → wMap wg wt we vs Q ds acc S := by
    intro ds
    induction ds with
    | nil =>
      intro acc _ q
      rw [List.filter_nil, List.map_nil, List.append_nil] at q
      exact q
    | cons d r ih =>
      intro acc h q
      refine h d List.mem_cons_self (fun e S' => wMap wg wt we vs Q r (acc ++ [e]) S') (fun S' => wMap wg wt we vs Q r acc S') (fun hp => ?_) fun hp => ?_
      · refine ih _ (fun x hx => h x (List.mem_cons_of_mem _ hx)) ?_
        rw [List.filter_cons, if_pos hp, List.map_cons] at q
        rw [List.append_assoc]
        exact q
      · refine ih _ (fun x hx => h x (List.mem_cons_of_mem _ hx)) ?_
        rw [List.filter_cons, if_neg (by rw [hp]; exact Bool.false_ne_true)] at q
        exact q
  exact go ds [] h (by simpa using q)
/-- what comes is told by a relation alone -/
inductive All2 (J : PyData → PyData → Prop) : List PyData → List PyData → Prop
  | nil : All2 J [] []
  | cons {d e : PyData} {ds es : List PyData} : J d e → All2 J ds es → All2 J (d :: ds) (e :: es)
theorem All2.app {J : PyData → PyData → Prop} : ∀ {ds es ds' es' : List PyData}, All2 J ds es → All2 J ds' es' → All2 J (ds ++ ds') (es ++ es')
  | _, _, _, _, .nil, b => b
  | _, _, _, _, .cons h a, b => .cons h (a.app b)
theorem All2.len {J : PyData → PyData → Prop} : ∀ {ds es : List PyData}, All2 J ds es → ds.length = es.length
  | _, _, .nil => rfl
  | _, _, .cons _ a => by rw [List.length_cons, List.length_cons, a.len]
theorem All2.mem {J : PyData → PyData → Prop} : ∀ {ds es : List PyData}, All2 J ds es → ∀ e ∈ es, ∃ d ∈ ds, J d e
  | _, _, .cons h a, e, he => by
    rcases List.mem_cons.mp he with rfl | he
    · exact ⟨_, List.mem_cons_self, h⟩
    · obtain ⟨d, hd, j⟩ := a.mem e he
      exact ⟨d, List.mem_cons_of_mem _ hd, j⟩
theorem wMap_rel {wg : WG} {wt : WT} {we : WE} {vs : List Nat} {Q : PyData → Ss → Prop} {ds : List PyData} {S : Ss} (J : PyData → PyData → Prop)
    (h : ∀ d ∈ ds, ∀ N1 N2, (∀ e, J d e → N1 e S) → wTurn wg wt we vs d S N1 N2) (q : ∀ es, All2 J ds es → Q (.list es) S) : wMap wg wt we vs Q ds [] S := by
  have go : ∀ (ds ds' acc : List PyData), (∀ d ∈ ds, ∀ N1 N2, (∀ e, J d e → N1 e S) → wTurn wg wt we vs d S N1 N2) → All2 J ds' acc → (∀ es, All2 J (ds' ++ ds) es → Q (.list es) S) → wMap wg wt we vs Q ds acc S := by
    intro ds
    induction ds with
    | nil =>
      intro ds' acc _ a q
      rw [List.append_nil] at q
      exact q _ a
    | cons d r ih =>
      intro ds' acc h a q
      refine h d List.mem_cons_self (fun e S' => wMap wg wt we vs Q r (acc ++ [e]) S') _ fun e he => ?_
      refine ih (ds' ++ [d]) _ (fun x hx => h x (List.mem_cons_of_mem _ hx)) (a.app (.cons he .nil)) ?_
      rw [List.append_assoc]
      exact q
  exact go ds [] [] h .nil q
/-- while, by an invariant with a measure -/
def wWhile (c : WT) (wb : WS) : WS := fun W S => ∃ I : Nat → Ss → Prop, (∃ m, I m S) ∧ ∀ m S, I m S → c S fun b S1 => if b = true then wb { W with nx := fun S2 => ∃ m', m' < m ∧ I m' S2, ct := fun S2 => ∃ m', m' < m ∧ I m' S2, bk := W.nx } S1 else W.nx S1
theorem ss_while (hc : ST K ct cw) (hb : SS K tu wu) : SS K (tWhile ct tu) (wWhile cw wu) := fun P G0 H0 G H σ S W D r w o => by
  obtain ⟨I, ⟨m, h0⟩, hs⟩ := w
  refine ⟨fun m σ2 H2 => ∃ S2 G2, Rel K P NoX G0 H0 G2 H2 σ2 S2 ∧ Ex G G2 ∧ I m S2, ⟨m, S, G, r, Ex.refl _, h0⟩, ?_⟩
  rintro m σ2 H2 ⟨S2, G2, r2, e2, h2⟩
  refine hc P NoX G0 H0 G2 H2 σ2 S2 _ _ r2 (hs m S2 h2) fun b S3 H3 G3 w3 r3 g3 => ?_
  have ex : Ex G G3 := e2.trans g3.an
  cases b with
  | true =>
    refine ⟨fun σ' H' => ∃ S' G', Rel K P NoX G0 H0 G' H' σ' S' ∧ Ex G G' ∧ ∃ m', m' < m ∧ I m' S', fun σ' H' ⟨S', G', r', e', m', hm, hI⟩ => ⟨m', hm, S', G', r', e', hI⟩, ?_⟩
    exact hb P G0 H0 G3 H3 σ2 S3 _ _ r3 w3 ⟨fun S' σ' H' G' q x r' => ⟨S', G', r', ex.trans x, q⟩, fun S' σ' H' G' q x r' => o.nx S' σ' H' G' q (ex.trans x) r', fun S' σ' H' G' q x r' => ⟨S', G', r', ex.trans x, q⟩, o.rt, o.ro⟩
  | false => exact o.nx S3 σ2 H3 G3 w3 ex r3
end
/-! ### defs -/
abbrev Ct := List PyData → (PyData → Prop) → Prop
/-- a def's promise over data -/
def spV (K : PySem.W.Frag) (C : Ct) : Sp := fun vs H1 R _ => ∃ P G0 ds Q, Ex G0 H1 ∧ Pl P H1 ∧ PG P G0 ∧ DaAll K G0 vs ds ∧ C ds Q ∧ ∀ d v H2 G, Q d → Sx P G0 H1 G H2 → Pl P H2 → Da K G v d → R v H2
/-- it hands back a list that is its own -/
def spW (K : PySem.W.Frag) (C : Ct) : Sp := fun vs H1 R _ => ∃ P G0 ds Q, Ex G0 H1 ∧ Pl P H1 ∧ PG P G0 ∧ DaAll K G0 vs ds ∧ C ds Q ∧
  ∀ es a xs H2 G, Q (.list es) → Sx P G0 H1 G H2 → Pl P H2 → P ≠ some a → H1 a = none → G a = none → H2 a = some (.lst xs) → DaAll K G xs es → R (.ref a) H2
/-- its first argument is the pool -/
def spVP (K : PySem.W.Frag) (C : Ct) : Sp := fun vs H1 R _ => ∃ p G0 ds Q vs', Ex G0 H1 ∧ Pl (some p) H1 ∧ PG (some p) G0 ∧ vs = .ref p :: vs' ∧ DaAll K G0 vs' ds ∧ C ds Q ∧ ∀ d v H2 G, Q d → Sx (some p) G0 H1 G H2 → Pl (some p) H2 → Da K G v d → R v H2
section
variable {K : PySem.W.Frag} {t : TA} {wt : WA} {C : Ct} {E : XK}
theorem spV_len {n : Nat} (h : ∀ ds Q, C ds Q → ds.length = n) : ∀ vs H Q E, spV K C vs H Q E → vs.length = n := by
  rintro vs H Q E ⟨P, G0, ds, Q', _, _, _, g, c, _⟩
  rw [daa_len g]
  exact h ds Q' c
theorem spW_len {n : Nat} (h : ∀ ds Q, C ds Q → ds.length = n) : ∀ vs H Q E, spW K C vs H Q E → vs.length = n := by
  rintro vs H Q E ⟨P, G0, ds, Q', _, _, _, g, c, _⟩
  rw [daa_len g]
  exact h ds Q' c
theorem spVP_len {n : Nat} (h : ∀ ds Q, C ds Q → ds.length = n) : ∀ vs H Q E, spVP K C vs H Q E → vs.length = n + 1 := by
  rintro vs H Q E ⟨p, G0, ds, Q', vs', _, _, _, rfl, g, c, _⟩
  rw [List.length_cons, daa_len g, h ds Q' c]
def wCall (C : Ct) (wt : WA) : WE := fun S Q => wt S fun ds S1 => C ds fun d => Q d S1
theorem se_call (h : SA K t wt) : SE K (tCall (spV K C) [] E t) (wCall C wt) := fun P X G0 H0 G H σ S Q R r w k =>
  h P X G0 H0 G H σ S _ _ r w fun ds S1 vs H1 G1 q r1 g1 a => by
    rw [List.append_nil]
    exact ⟨P, G1, ds, _, r1.inn, r1.pl, r1.pg, a, q, fun d v H2 G2 q2 s pl gv => k d S1 v H2 G2 q2 (r1.step s pl) (g1.trans s.go) gv⟩
theorem so_call (h : SA K t wt) : SO K (tCall (spW K C) [] E t) (wCall C wt) := fun P X G0 H0 G H σ S Q R r w k =>
  h P X G0 H0 G H σ S _ _ r w fun ds S1 vs H1 G1 q r1 g1 a => by
    rw [List.append_nil]
    refine ⟨P, G1, ds, _, r1.inn, r1.pl, r1.pg, a, q, fun es b xs H2 G2 q2 s pl n h1 g0 hx gx => k _ S1 _ H2 G2 q2 (r1.step s pl) (g1.trans s.go) ⟨b, xs, es, rfl, rfl, ⟨n, fun z => (r1.res b z).2.1 h1⟩, ?_, g0, hx, gx⟩ fun j fs hj z => ?_⟩
    · cases z : H0 b with
      | none => rfl
      | some u =>
        rw [r1.sx.up b u n z] at h1
        cases h1
    · obtain ⟨c, ys, hv, _, _, _, hy, _⟩ := r1.own hj
      rw [hv] at z
      have e : c = b := by
        have := Option.some.inj (Option.some.inj z)
        injection this
      rw [e, h1] at hy
      cases hy
/-- with the pool -/
def wCallP (i : Nat) (C : Ct) (wt : WA) : WE := fun S Q => S[i]? = some .po ∧ wt S fun ds S1 => C ds fun d => Q d S1
theorem se_callP {i : Nat} (h : SA K t wt) : SE K (tCall (spVP K C) [] E (tCons (tVar i) t)) (wCallP i C wt) := fun P X G0 H0 G H σ S Q R r w k => by
  obtain ⟨hi, w⟩ := w
  obtain ⟨A, hA, _⟩ := r.sl
  obtain ⟨o, ho, p, rfl, rfl⟩ := hA i _ hi
  refine ⟨_, ho, h _ X G0 H0 G H σ S _ _ r w fun ds S1 vs H1 G1 q r1 g1 a => ?_⟩
  show spVP K C (.ref p :: vs ++ []) H1 R E
  rw [List.append_nil]
  exact ⟨p, G1, ds, _, vs, r1.inn, r1.pl, r1.pg, rfl, a, q, fun d v H2 G2 q2 s pl gv => k d S1 v H2 G2 q2 (r1.step s pl) (g1.trans s.go) gv⟩
/-- own lists lent for a plain answer -/
theorem lend {P : Option Addr} {G H : Hp} (x : Ex G H) (pg : PG P G) : ∀ {vs : List V} {ds : List PyData}, DvAll K P G H vs ds → ∃ G', Ex G G' ∧ Ex G' H ∧ PG P G' ∧ DaAll K G' vs ds
  | _, _, .nil => ⟨G, Ex.refl _, x, pg, .nil⟩
  | v :: vs, d :: ds, .cons h a => by
    obtain ⟨G', e1, e2, pg', g⟩ := lend x pg a
    rcases h with h | ⟨b, xs, es, rfl, rfl, n, gb, hx, gx⟩
    · exact ⟨G', e1, e2, pg', .cons (da_ex e1 h) g⟩
    · cases z : G' b with
      | some o =>
        have := e2 _ _ z
        rw [hx] at this
        cases this
        exact ⟨G', e1, e2, pg', .cons (.lst z (daa_ex e1 gx)) g⟩
      | none =>
        have e3 : Ex G' (upd G' b (.lst xs)) := Ex.new z
        refine ⟨upd G' b (.lst xs), e1.trans e3, fun c o hc => ?_, fun p hp => ?_, .cons (.lst upd_same (daa_ex (e1.trans e3) gx)) (daa_ex e3 g)⟩
        · by_cases q : c = b
          · subst q
            rw [upd_same] at hc
            rw [← hc]
            exact hx
          · rw [upd_ne q] at hc
            exact e2 c o hc
        · have q : p ≠ b := fun z => n (z ▸ hp)
          rw [upd_ne q]
          exact pg' p hp
theorem da_sc2 {G G' : Hp} {v : V} {d : PyData} (h : Da K G v d) (hs : sc d = true) : Da K G' v d := by
  cases h <;> first | (cases hs; done) | constructor
def wCallL (C : Ct) (wt : WA) : WE := fun S Q => wt S fun ds S1 => C ds fun d => sc d = true ∧ Q d S1
theorem se_callL (h : SAV K t wt) : SE K (tCall (spV K C) [] E t) (wCallL C wt) := fun P X G0 H0 G H σ S Q R r w k =>
  h P X G0 H0 G H σ S _ _ r w fun ds S1 vs H1 G1 q r1 g1 a => by
    rw [List.append_nil]
    obtain ⟨G', e1, e2, pg', g⟩ := lend r1.inn r1.pg a
    refine ⟨P, G', ds, _, e2, r1.pl, pg', g, q, fun d v H2 G2 q2 s pl gv => ?_⟩
    have s2 : Sx P G1 H1 G1 H2 := ⟨s.up, Ex.refl _, e1.trans (s.an.trans s.inn), fun _ h _ => h⟩
    exact k d S1 v H2 G1 q2.2 (r1.step s2 pl) (g1.trans s2.go) (da_sc2 gv q2.1)
/-- promises told the old way -/
theorem spV_of {R : List PyData → PyData → Prop} {vs : List V} {H : Hp} {Q : VK} {E : XK} (h : spV K (fun ds Q => ∃ d, R ds d ∧ Q d) vs H Q E) : spF K R vs H Q E := by
  obtain ⟨P, G0, ds, Q', x, pl, pg, g, ⟨d, hr, q⟩, k⟩ := h
  exact ⟨G0, ds, d, x, g, hr, fun v H2 G s a => k d v H2 G q (Sx.of s) (pl.ex s.up) a⟩
theorem spV_ofO {R : List PyData → PyData → Prop} {vs : List V} {H : Hp} {Q : VK} {E : XK} (h : spV K (fun ds Q => ∃ d, R ds d ∧ Q d) vs H Q E) : spO K R vs H Q E := by
  obtain ⟨P, G0, ds, Q', x, pl, pg, g, ⟨d, hr, q⟩, k⟩ := h
  refine ⟨G0, ds, d, x, g, hr, fun v H2 F s a => ?_⟩
  obtain ⟨G, s2, e⟩ := s.join x
  exact k d v H2 G q (Sx.of s2) (pl.ex s2.up) (da_ex e a)
def startS (n : Nat) (ds : List PyData) : Ss := ds.map .da ++ List.replicate (n - ds.length) .un
theorem rel_start {P : Option Addr} {G0 H0 : Hp} {N : List Str} {vs : List V} {ds : List PyData} (x : Ex G0 H0) (pl : Pl P H0) (pg : PG P G0) (g : DaAll K G0 vs ds) : Rel K P NoX G0 H0 G0 H0 (L2.start N vs) (startS N.length ds) := by
  have hl := daa_len g
  refine ⟨Sx.refl x, pl, pg, fun b hb => hb.elim, ?_, fun _ => 0, fun i s hs => ?_, fun i j es fs hi => ?_⟩
  · unfold startS L2.start
    simp [hl]
  · unfold startS at hs
    unfold L2.start
    by_cases hi : i < ds.length
    · rw [List.getElem?_append_left (by rw [List.length_map]; exact hi), List.getElem?_map, List.getElem?_eq_getElem hi] at hs
      cases hs
      obtain ⟨v, hv, gv⟩ := daa_get g i _ (List.getElem?_eq_getElem hi)
      exact ⟨some v, by rw [List.getElem?_append_left (by rw [List.length_map, hl]; exact hi), List.getElem?_map, hv]; rfl, v, rfl, gv⟩
    · rw [List.getElem?_append_right (by rw [List.length_map]; omega), List.length_map] at hs
      have h2 := (List.getElem?_eq_some_iff.mp hs).1
      rw [List.getElem?_replicate] at hs
      split at hs
      · cases hs
        refine ⟨none, ?_, trivial⟩
        rw [List.length_replicate] at h2
        rw [List.getElem?_append_right (by rw [List.length_map]; omega), List.length_map, hl, List.getElem?_replicate, if_pos h2]
      · cases hs
  · exfalso
    unfold startS at hi
    by_cases h : i < ds.length
    · rw [List.getElem?_append_left (by rw [List.length_map]; exact h), List.getElem?_map, List.getElem?_eq_getElem h] at hi
      cases hi
    · rw [List.getElem?_append_right (by rw [List.length_map]; omega), List.getElem?_replicate] at hi
      split at hi <;> cases hi
def endV (Q : PyData → Prop) : WD := { nx := fun _ => Q .none, rt := Q, ro := fun _ => False }
def endW (Q : PyData → Prop) : WD := { nx := fun _ => False, rt := fun _ => False, ro := fun ds => Q (.list ds) }
theorem body_V {N : List Str} {ts : TS} {ws : WS} {vs : List V} {H : Hp} {R : VK} {E : XK} (h : spV K C vs H R E) (hs : SS K ts ws) (hw : ∀ ds Q, C ds Q → ws (endV Q) (startS N.length ds)) : ts { nx := fun _ H' => R .non H', rt := R } (L2.start N vs) H := by
  obtain ⟨P, G0, ds, Q, x, pl, pg, g, c, k⟩ := h
  refine hs P G0 H G0 H _ _ _ _ (rel_start x pl pg g) (hw ds Q c) ⟨fun S' σ' H' G' q e r => ?_, fun S' σ' H' G' q => q.elim, fun S' σ' H' G' q => q.elim, fun d v H' G' q s pl' a => k d v H' G' q s pl' a, fun ds a xs H' G' q => q.elim⟩
  exact k _ _ H' G' q r.sx r.pl .non
theorem body_W {N : List Str} {ts : TS} {ws : WS} {vs : List V} {H : Hp} {R : VK} {E : XK} (h : spW K C vs H R E) (hs : SS K ts ws) (hw : ∀ ds Q, C ds Q → ws (endW Q) (startS N.length ds)) : ts { nx := fun _ H' => R .non H', rt := R } (L2.start N vs) H := by
  obtain ⟨P, G0, ds, Q, x, pl, pg, g, c, k⟩ := h
  exact hs P G0 H G0 H _ _ _ _ (rel_start x pl pg g) (hw ds Q c) ⟨fun S' σ' H' G' q => q.elim, fun S' σ' H' G' q => q.elim, fun S' σ' H' G' q => q.elim, fun d v H' G' q => q.elim, fun es a xs H' G' q s pl' n h1 g0 hx gx => k es a xs H' G' q s pl' n h1 g0 hx gx⟩
theorem spW_V {vs : List V} {H : Hp} {R : VK} {E : XK} (h : spV K C vs H R E) : spW K C vs H R E := by
  obtain ⟨P, G0, ds, Q, x, pl, pg, g, c, k⟩ := h
  refine ⟨P, G0, ds, Q, x, pl, pg, g, c, fun es a xs H2 G q s pl2 n h1 g0 hx gx => ?_⟩
  have e : Ex G (upd G a (.lst xs)) := Ex.new g0
  refine k _ _ H2 (upd G a (.lst xs)) q ⟨s.up, s.an.trans e, fun b o hb => ?_, fun b hb hb1 => ?_⟩ pl2 (.lst upd_same (daa_ex e gx))
  · by_cases z : b = a
    · subst z
      rw [upd_same] at hb
      rw [← hb]
      exact hx
    · rw [upd_ne z] at hb
      exact s.inn b o hb
  · have z : b ≠ a := fun z => hb1 (z ▸ h1)
    rw [upd_ne z]
    exact s.sep b hb hb1
end
end VL

set_option Elab.async false
set_option linter.all false
set_option maxRecDepth 100000
set_option maxHeartbeats 4000000
namespace VL
open PySem PySem.Spec PyProof.Rows L2 Evl Tw
section
variable {K : PySem.W.Frag} {te ta tb tc : TE} {wa wb wc : WE} {t : TA} {wt : WA}
/-! what the built-in functions tell of data -/
def intsO : List PyData → Option (List Int)
  | [] => some []
  | .int i :: r => (intsO r).map (i :: ·)
  | _ :: _ => none
def boolsO : List PyData → Option (List Bool)
  | [] => some []
  | .bool i :: r => (boolsO r).map (i :: ·)
  | _ :: _ => none
@[simp] theorem intsO_map : ∀ ns : List Int, intsO (ns.map .int) = some ns
  | [] => rfl
  | n :: r => by
    show (intsO (r.map .int)).map (n :: ·) = _
    rw [intsO_map r]
    rfl
@[simp] theorem boolsO_map : ∀ ns : List Bool, boolsO (ns.map .bool) = some ns
  | [] => rfl
  | n :: r => by
    show (boolsO (r.map .bool)).map (n :: ·) = _
    rw [boolsO_map r]
    rfl
theorem intsO_is : ∀ {ds : List PyData} {ns : List Int}, intsO ds = some ns → ds = ns.map .int
  | [], _, h => by cases h; rfl
  | .int i :: r, ns, h => by
    simp only [intsO, Option.map_eq_some_iff] at h
    obtain ⟨ms, h1, rfl⟩ := h
    rw [intsO_is h1]
    rfl
  | .none :: _, _, h => by cases h
  | .bool _ :: _, _, h => by cases h
  | .str _ :: _, _, h => by cases h
  | .list _ :: _, _, h => by cases h
  | .tuple _ :: _, _, h => by cases h
  | .dict _ :: _, _, h => by cases h
theorem boolsO_is : ∀ {ds : List PyData} {ns : List Bool}, boolsO ds = some ns → ds = ns.map .bool
  | [], _, h => by cases h; rfl
  | .bool i :: r, ns, h => by
    simp only [boolsO, Option.map_eq_some_iff] at h
    obtain ⟨ms, h1, rfl⟩ := h
    rw [boolsO_is h1]
    rfl
  | .none :: _, _, h => by cases h
  | .int _ :: _, _, h => by cases h
  | .str _ :: _, _, h => by cases h
  | .list _ :: _, _, h => by cases h
  | .tuple _ :: _, _, h => by cases h
  | .dict _ :: _, _, h => by cases h
def on1 (f : PyData → Option PyData) : List PyData → Option PyData
  | [d] => f d
  | _ => none
@[simp] theorem on1_one {f : PyData → Option PyData} {d : PyData} : on1 f [d] = f d := rfl
def Pr1 (K : PySem.W.Frag) (r : List V → Hp → VK → Prop) (f : PyData → Option PyData) : Prop := ∀ P G H v d e (R : VK), Ex G H → Dv K P G H v d → f d = some e → (∀ v H' G', Sep G H H' G' → Da K G' v e → R v H') → r [v] H R
theorem prn1 {r : List V → Hp → VK → Prop} {f : PyData → Option PyData} (h : Pr1 K r f) : PrN K r (on1 f) := fun P G H vs ds d R x a e k => by
  unfold on1 at e
  split at e
  · cases a with
    | cons a b =>
      cases b
      exact h P G H _ _ d R x a e k
  · cases e
def lenD : PyData → Option PyData
  | .list ds => some (.int (ds.length : Int))
  | .tuple ds => some (.int (ds.length : Int))
  | _ => none
@[simp] theorem lenD_l {ds : List PyData} : lenD (.list ds) = some (.int (ds.length : Int)) := rfl
@[simp] theorem lenD_t {ds : List PyData} : lenD (.tuple ds) = some (.int (ds.length : Int)) := rfl
theorem pr_len : PrN K (fun xs H Q => ∃ p ys, xs = [V.ref p] ∧ (SqL K H p ys ∨ SqT K H p ys) ∧ Q (.int ys.length) H) (on1 lenD) := prn1 fun P G H v d e R x a he k => by
  cases d <;> simp only [lenD, reduceCtorEq, Option.some.injEq] at he
  · subst he
    obtain ⟨b, xs, rfl, hx, g⟩ := a.list x
    exact ⟨b, xs, rfl, .inl (sq_of hx), by rw [daa_len g]; exact k _ H G (Sep.refl x) (.int _)⟩
  · subst he
    obtain ⟨b, xs, rfl, hx, g⟩ := dv_tup x a
    exact ⟨b, xs, rfl, .inr hx, by rw [daa_len g]; exact k _ H G (Sep.refl x) (.int _)⟩
def sumD : PyData → Option PyData
  | .list ds => (intsO ds).map fun ns => .int ns.sum
  | _ => none
@[simp] theorem sumD_ints {ns : List Int} : sumD (.list (ns.map .int)) = some (.int ns.sum) := by simp [sumD]
theorem dv_ints {P : Option Addr} {G H : Hp} {v : V} {ds : List PyData} {ns : List Int} (x : Ex G H) (a : Dv K P G H v (.list ds)) (h : intsO ds = some ns) : ∃ b, v = .ref b ∧ SqL K H b (ns.map V.int) := by
  obtain ⟨b, xs, rfl, hx, g⟩ := a.list x
  rw [intsO_is h] at g
  rw [daa_intsV g] at hx
  exact ⟨b, rfl, sq_of hx⟩
theorem pr_sum : PrN K (rSum K) (on1 sumD) := prn1 fun P G H v d e R x a he k => by
  cases d <;> simp only [sumD, reduceCtorEq, Option.map_eq_some_iff] at he
  obtain ⟨ns, h1, rfl⟩ := he
  obtain ⟨b, rfl, hb⟩ := dv_ints x a h1
  exact ⟨b, ns, rfl, hb, k _ H G (Sep.refl x) (.int _)⟩
def maxD : PyData → Option PyData
  | .list ds => (intsO ds).bind fun ns => if ns = [] then none else some (.int (mxI ns))
  | _ => none
theorem maxD_ints {ns : List Int} (h : ns ≠ []) : maxD (.list (ns.map .int)) = some (.int (mxI ns)) := by simp [maxD, h]
theorem pr_max : PrN K (rMax K) (on1 maxD) := prn1 fun P G H v d e R x a he k => by
  cases d <;> simp only [maxD, reduceCtorEq, Option.bind_eq_some_iff] at he
  obtain ⟨ns, h1, h2⟩ := he
  split at h2
  · cases h2
  · rename_i hne
    cases h2
    obtain ⟨b, rfl, hb⟩ := dv_ints x a h1
    refine ⟨b, ns, rfl, hb, List.length_pos_iff.mpr hne, fun m hm hl => ?_⟩
    rw [mx_is hm hl]
    exact k _ H G (Sep.refl x) (.int _)
def mnI (ns : List Int) : Int := -mxI (ns.map fun i => -i)
theorem mn_is {ns : List Int} {m : Int} (h : m ∈ ns) (hm : ∀ y ∈ ns, m ≤ y) : m = mnI ns := by
  have z : -m = mxI (ns.map fun i => -i) := mx_is (List.mem_map.mpr ⟨m, h, rfl⟩) fun y hy => by
    obtain ⟨u, hu, rfl⟩ := List.mem_map.mp hy
    have := hm u hu
    omega
  unfold mnI
  omega
theorem mn_mem {ns : List Int} (h : ns ≠ []) : mnI ns ∈ ns := by
  have z := mx_mem (ns := ns.map fun i => -i) (by simpa using h)
  obtain ⟨u, hu, e⟩ := List.mem_map.mp z
  unfold mnI
  rw [← e]
  simpa using hu
theorem mn_le {ns : List Int} {y : Int} (h : y ∈ ns) : mnI ns ≤ y := by
  have z := mx_le (ns := ns.map fun i => -i) (y := -y) (List.mem_map.mpr ⟨y, h, rfl⟩)
  unfold mnI
  omega
def minD : PyData → Option PyData
  | .list ds => (intsO ds).bind fun ns => if ns = [] then none else some (.int (mnI ns))
  | _ => none
theorem minD_ints {ns : List Int} (h : ns ≠ []) : minD (.list (ns.map .int)) = some (.int (mnI ns)) := by simp [minD, h]
theorem pr_min : PrN K (rMin K) (on1 minD) := prn1 fun P G H v d e R x a he k => by
  cases d <;> simp only [minD, reduceCtorEq, Option.bind_eq_some_iff] at he
  obtain ⟨ns, h1, h2⟩ := he
  split at h2
  · cases h2
  · rename_i hne
    cases h2
    obtain ⟨b, rfl, hb⟩ := dv_ints x a h1
    refine ⟨b, ns, rfl, hb, List.length_pos_iff.mpr hne, fun m hm hl => ?_⟩
    rw [mn_is hm hl]
    exact k _ H G (Sep.refl x) (.int _)
def anyD : PyData → Option PyData
  | .list ds => (boolsO ds).map fun ns => .bool (ns.any id)
  | _ => none
def allD : PyData → Option PyData
  | .list ds => (boolsO ds).map fun ns => .bool (ns.all id)
  | _ => none
@[simp] theorem anyD_bools {ns : List Bool} : anyD (.list (ns.map .bool)) = some (.bool (ns.any id)) := by simp [anyD]
@[simp] theorem allD_bools {ns : List Bool} : allD (.list (ns.map .bool)) = some (.bool (ns.all id)) := by simp [allD]
theorem dv_bools {P : Option Addr} {G H : Hp} {v : V} {ds : List PyData} {ns : List Bool} (x : Ex G H) (a : Dv K P G H v (.list ds)) (h : boolsO ds = some ns) : ∃ b, v = .ref b ∧ SqL K H b (ns.map V.bl) := by
  obtain ⟨b, xs, rfl, hx, g⟩ := a.list x
  rw [boolsO_is h] at g
  rw [daa_boolsV g] at hx
  exact ⟨b, rfl, sq_of hx⟩
theorem pr_any : PrN K (rAny K) (on1 anyD) := prn1 fun P G H v d e R x a he k => by
  cases d <;> simp only [anyD, reduceCtorEq, Option.map_eq_some_iff] at he
  obtain ⟨ns, h1, rfl⟩ := he
  obtain ⟨b, rfl, hb⟩ := dv_bools x a h1
  exact ⟨b, ns, rfl, hb, k _ H G (Sep.refl x) (.bl _)⟩
theorem pr_all : PrN K (rAll K) (on1 allD) := prn1 fun P G H v d e R x a he k => by
  cases d <;> simp only [allD, reduceCtorEq, Option.map_eq_some_iff] at he
  obtain ⟨ns, h1, rfl⟩ := he
  obtain ⟨b, rfl, hb⟩ := dv_bools x a h1
  exact ⟨b, ns, rfl, hb, k _ H G (Sep.refl x) (.bl _)⟩
def srtI (ns : List Int) : List Int := ns.mergeSort fun x y => decide (x ≤ y)
def srtD : PyData → Option PyData
  | .list ds => (intsO ds).bind fun ns => if ns.length < 64 then some (.list ((srtI ns).map .int)) else none
  | _ => none
theorem srtD_ints {ns : List Int} (h : ns.length < 64) : srtD (.list (ns.map .int)) = some (.list ((srtI ns).map .int)) := by simp [srtD, h]
theorem pr_sorted : PrNO K (rSorted K) (on1 srtD) := fun P G H vs ds d R x a he k => by
  unfold on1 at he
  split at he
  · rename_i d1
    cases a with
    | cons a b =>
      cases b
      cases d1 <;> simp only [srtD, reduceCtorEq, Option.bind_eq_some_iff] at he
      obtain ⟨ns, h1, h2⟩ := he
      split at h2
      · rename_i hl
        cases h2
        obtain ⟨b, rfl, hb⟩ := dv_ints x a h1
        refine ⟨b, ns, rfl, hb, hl, fun ns' p hp hs hn => ?_⟩
        have e : ns' = srtI ns := PySem.W.os_sorted_mergeSort hp hs
        rw [e]
        exact k p _ _ rfl hn (daa_ints _)
      · cases h2
  · cases he
def toIntD : PyData → Option PyData
  | .int i => some (.int i)
  | .bool b => some (.int (if b then 1 else 0))
  | _ => none
@[simp] theorem toIntD_i {i : Int} : toIntD (.int i) = some (.int i) := rfl
@[simp] theorem toIntD_b {b : Bool} : toIntD (.bool b) = some (.int (if b then 1 else 0)) := rfl
theorem pr_int : PrN K (fun xs H Q => (∃ i, xs = [V.int i] ∧ Q (.int i) H) ∨ ∃ k, xs = [.bl k] ∧ Q (.int (if k then 1 else 0)) H) (on1 toIntD) := prn1 fun P G H v d e R x a he k => by
  cases d <;> simp only [toIntD, reduceCtorEq, Option.some.injEq] at he
  · subst he
    rw [dv_bool a]
    exact .inr ⟨_, rfl, k _ H G (Sep.refl x) (.int _)⟩
  · subst he
    rw [dv_int a]
    exact .inl ⟨_, rfl, k _ H G (Sep.refl x) (.int _)⟩
def toTupD : PyData → Option PyData
  | .list ds => some (.tuple ds)
  | _ => none
@[simp] theorem toTupD_l {ds : List PyData} : toTupD (.list ds) = some (.tuple ds) := rfl
theorem pr_tuple : PrN K (fun xs H Q => ∃ p ys, xs = [V.ref p] ∧ ((SqL K H p ys ∧ ∀ l, H l = none → Q (.ref l) (upd H l (.tup ys))) ∨ (SqT K H p ys ∧ Q (.ref p) H))) (on1 toTupD) := prn1 fun P G H v d e R x a he k => by
  cases d <;> simp only [toTupD, reduceCtorEq, Option.some.injEq] at he
  subst he
  obtain ⟨b, xs, rfl, hx, g⟩ := a.list x
  refine ⟨b, xs, rfl, .inl ⟨sq_of hx, fun p hp => ?_⟩⟩
  have s : Sep G H (upd H p (.tup xs)) (upd G p (.tup xs)) := Sep.new x hp
  exact k _ _ _ s (.tup (st_of upd_same) (daa_ex s.an g))
def toLstD : PyData → Option PyData
  | .list ds => some (.list ds)
  | .tuple ds => some (.list ds)
  | _ => none
theorem pr_list : PrNO K (fun xs H Q => ∃ p ys, xs = [V.ref p] ∧ (SqL K H p ys ∨ SqT K H p ys) ∧ ∀ l, H l = none → Q (.ref l) (upd H l (.lst ys))) (on1 toLstD) := fun P G H vs ds d R x a he k => by
  unfold on1 at he
  split at he
  · rename_i d1
    cases a with
    | cons a b =>
      cases b
      cases d1 <;> simp only [toLstD, reduceCtorEq, Option.some.injEq] at he
      · subst he
        obtain ⟨b, xs, rfl, hx, g⟩ := a.list x
        exact ⟨b, xs, rfl, .inl (sq_of hx), fun l hl => k l _ _ rfl hl g⟩
      · subst he
        obtain ⟨b, xs, rfl, hx, g⟩ := dv_tup x a
        exact ⟨b, xs, rfl, .inr hx, fun l hl => k l _ _ rfl hl g⟩
  · cases he
def absD : PyData → Option PyData
  | .int i => some (.int (if i < 0 then -i else i))
  | _ => none
@[simp] theorem absD_i {i : Int} : absD (.int i) = some (.int (if i < 0 then -i else i)) := rfl
theorem pr_abs : PrN K (fun xs H Q => ∃ i, xs = [V.int i] ∧ Q (.int (if i < 0 then -i else i)) H) (on1 absD) := prn1 fun P G H v d e R x a he k => by
  cases d <;> simp only [absD, reduceCtorEq, Option.some.injEq] at he
  subst he
  rw [dv_int a]
  exact ⟨_, rfl, k _ H G (Sep.refl x) (.int _)⟩
def on2 (f : Int → Int → Int) : List PyData → Option PyData
  | [.int i, .int j] => some (.int (f i j))
  | _ => none
@[simp] theorem on2_two {f : Int → Int → Int} {i j : Int} : on2 f [.int i, .int j] = some (.int (f i j)) := rfl
theorem prn2 {f : Int → Int → Int} : PrN K (fun xs H Q => ∃ i j, xs = [V.int i, V.int j] ∧ Q (.int (f i j)) H) (on2 f) := fun P G H vs ds d R x a e k => by
  unfold on2 at e
  split at e
  · cases e
    cases a with
    | cons a b =>
      cases b with
      | cons b c =>
        cases c
        rw [dv_int a, dv_int b]
        exact ⟨_, _, rfl, k _ H G (Sep.refl x) (.int _)⟩
  · cases e
abbrev mx2 : Int → Int → Int := fun i j => if j > i then j else i
abbrev mn2 : Int → Int → Int := fun i j => if j < i then j else i
theorem pr_max2 : PrN K (fun xs H Q => ∃ i j, xs = [V.int i, V.int j] ∧ Q (.int (if j > i then j else i)) H) (on2 mx2) := prn2
theorem pr_min2 : PrN K (fun xs H Q => ∃ i j, xs = [V.int i, V.int j] ∧ Q (.int (if j < i then j else i)) H) (on2 mn2) := prn2
def reprO (d : PyData) : Option PyData := match d with
  | .list _ => if d.showable = true ∧ d.hasDict = false ∧ d.depth ≤ 60 ∧ d.shown.length ≤ sizeLine then some (.str d.shown) else none
  | .tuple _ => if d.showable = true ∧ d.hasDict = false ∧ d.depth ≤ 60 ∧ d.shown.length ≤ sizeLine then some (.str d.shown) else none
  | _ => none
theorem dv_ref {P : Option Addr} {G H : Hp} {v : V} {d : PyData} (h : Dv K P G H v d) (hs : (∃ es, d = .list es) ∨ ∃ es, d = .tuple es) : ∃ a, v = .ref a := by
  rcases h with h | ⟨a, xs, ds, rfl, _⟩
  · rcases hs with ⟨es, rfl⟩ | ⟨es, rfl⟩
    · cases h
      exact ⟨_, rfl⟩
    · cases h
      exact ⟨_, rfl⟩
  · exact ⟨a, rfl⟩
theorem pr_repr : PrN K (rRepr K) (on1 reprO) := prn1 fun P G H v d e R x a he k => by
  have go : ((∃ es, d = .list es) ∨ ∃ es, d = .tuple es) → d.showable = true ∧ d.hasDict = false ∧ d.depth ≤ 60 ∧ d.shown.length ≤ sizeLine → e = .str d.shown → rRepr K [v] H R := fun hs h he => by
    obtain ⟨b, rfl⟩ := dv_ref a hs
    subst he
    exact ⟨b, d, rfl, dv_dp x a, h.1, h.2.1, h.2.2.1, h.2.2.2, k _ H G (Sep.refl x) (.str _)⟩
  cases d <;> simp only [reprO, reduceCtorEq] at he
  · split at he
    · rename_i h
      exact go (.inl ⟨_, rfl⟩) h (Option.some.inj he).symm
    · cases he
  · split at he
    · rename_i h
      exact go (.inr ⟨_, rfl⟩) h (Option.some.inj he).symm
    · cases he
def wIsi (T : String) (wa : WE) : WE := fun S Q => wa S fun d S1 => wO (kitB (tyD d) T) fun b => Q (.bool b) S1
theorem dv_ty {P : Option Addr} {G H : Hp} {v : V} {d : PyData} (x : Ex G H) (h : Dv K P G H v d) : TyX K H v (.type (tyD d)) := by
  rcases h with h | ⟨a, xs, ds, rfl, rfl, n, gb, hx, gx⟩
  · exact da_ty (da_ex x h)
  · have e : Ex G (upd G a (.lst xs)) := Ex.new gb
    have e2 : Ex (upd G a (.lst xs)) H := fun c o hc => by
      by_cases q : c = a
      · subst q
        rw [upd_same] at hc
        rw [← hc]
        exact hx
      · rw [upd_ne q] at hc
        exact x c o hc
    exact da_ty (K := K) (H := H) (d := .list ds) (da_ex e2 (.lst upd_same (daa_ex e gx)))
theorem se_isi {T : String} (h : SV K ta wa) : SE K (tCB (rIsi K) (tCons ta (tCons (tC (.ty T)) tNil))) (wIsi T wa) := fun P X G0 H0 G H σ S Q R r w k => h P X G0 H0 G H σ S _ _ r w fun d S1 v H1 G1 q r1 g1 a => by
  obtain ⟨b, hb, q⟩ := q
  exact ⟨v, .ty T, _, .type T, b, rfl, .ty T, dv_ty r1.inn a, hb, k _ S1 _ H1 G1 q r1 g1 (.bl b)⟩
/-- - x -/
def w1 (f : PyData → Option PyData) (wa : WE) : WE := fun S Q => wa S fun d S1 => wO (f d) fun e => Q e S1
def negD : PyData → Option PyData
  | .int i => some (.int (-i))
  | _ => none
@[simp] theorem negD_i {i : Int} : negD (.int i) = some (.int (-i)) := rfl
theorem se_neg (h : SE K ta wa) : SE K (tUn (rU fun i => .int (-i)) ta) (w1 negD wa) := fun P X G0 H0 G H σ S Q R r w k => h P X G0 H0 G H σ S _ _ r w fun d S1 v H1 G1 q r1 g1 a => by
  obtain ⟨e, he, q⟩ := q
  cases d <;> simp only [negD, reduceCtorEq, Option.some.injEq] at he
  subst he
  cases a
  exact ⟨_, rfl, k _ S1 _ H1 G1 q r1 g1 (.int _)⟩
/-! + of numbers, lists, tuples, texts -/
def rAddG (K : PySem.W.Frag) : R2 := fun x y H Q => rI0 (fun i j => .int (i + j)) x y H Q ∨ rCat x y H Q ∨ rCatA K x y H Q ∨ ∃ i j, x = V.str i ∧ y = V.str j ∧ i.length + j.length ≤ sizeLine ∧ Q (.str (i ++ j)) H
theorem op_addG {X : Cx} : OpR X (binaryOp .Add) (rAddG X.K) := fun pins s σ H x y v u Q I rx ry h => by
  rcases h with h | h | h | h
  · exact op_add pins s σ H x y v u Q I rx ry h
  · exact op_cat pins s σ H x y v u Q I rx ry h
  · exact op_catA pins s σ H x y v u Q I rx ry h
  · exact op_add_str pins s σ H x y v u Q I rx ry h
theorem addGK (K : PySem.W.Frag) {X : Cx} (e : X.K = K := by rfl) : OpR X (binaryOp .Add) (rAddG K) := e ▸ op_addG
def addD : PyData → PyData → Option PyData
  | .int i, .int j => some (.int (i + j))
  | .list ds, .list es => if ds.length + es.length ≤ 100000 then some (.list (ds ++ es)) else none
  | .tuple ds, .tuple es => if ds.length + es.length ≤ 100000 then some (.tuple (ds ++ es)) else none
  | .str x, .str y => if x.length + y.length ≤ sizeLine then some (.str (x ++ y)) else none
  | _, _ => none
@[simp] theorem addD_i {i j : Int} : addD (.int i) (.int j) = some (.int (i + j)) := rfl
theorem addD_l {ds es : List PyData} (h : ds.length + es.length ≤ 100000) : addD (.list ds) (.list es) = some (.list (ds ++ es)) := if_pos h
theorem addD_t {ds es : List PyData} (h : ds.length + es.length ≤ 100000) : addD (.tuple ds) (.tuple es) = some (.tuple (ds ++ es)) := if_pos h
theorem pr_addG : Pr2 K (rAddG K) addD := fun P G H v1 v2 d1 d2 d R x h1 h2 e k => by
  cases d1 <;> cases d2 <;> simp only [addD, reduceCtorEq, Option.some.injEq] at e
  · subst e
    exact .inl ⟨_, _, dv_int h1, dv_int h2, k _ H G (Sep.refl x) (.int _)⟩
  · split at e
    · rename_i hl
      cases e
      exact .inr (.inr (.inr ⟨_, _, dv_str h1, dv_str h2, hl, k _ H G (Sep.refl x) (.str _)⟩))
    · cases e
  · split at e
    · rename_i hl
      cases e
      obtain ⟨a, xs, rfl, hx, g⟩ := h1.list x
      obtain ⟨b, ys, rfl, hy, g2⟩ := h2.list x
      refine .inr (.inl ⟨a, b, xs, ys, rfl, rfl, hx, hy, by rw [daa_len g, daa_len g2]; exact sz_of hl, fun p hp => ?_⟩)
      have s : Sep G H (upd H p (.lst (xs ++ ys))) (upd G p (.lst (xs ++ ys))) := Sep.new x hp
      exact k _ _ _ s (.lst upd_same (daa_ex s.an (daa_app g g2)))
    · cases e
  · split at e
    · rename_i hl
      cases e
      have a1 := dv_da h1 (fun _ e => by cases e)
      have a2 := dv_da h2 (fun _ e => by cases e)
      obtain ⟨a, xs, rfl, hx, g⟩ := dv_tup x h1
      obtain ⟨b, ys, rfl, hy, g2⟩ := dv_tup x h2
      refine .inr (.inr (.inl ⟨a, b, xs, ys, rfl, rfl, hx, hy, by rw [daa_len g, daa_len g2]; exact sz_of hl, fun e => ?_, fun _ e => ?_, fun _ _ p hp => ?_⟩))
      · subst e
        cases g
        exact k _ H G (Sep.refl x) a2
      · subst e
        cases g2
        rw [List.append_nil] at k
        exact k _ H G (Sep.refl x) a1
      · have s : Sep G H (upd H p (.tup (xs ++ ys))) (upd G p (.tup (xs ++ ys))) := Sep.new x hp
        exact k _ _ _ s (.tup (st_of upd_same) (daa_ex s.an (daa_app g g2)))
    · cases e
theorem pr_addGO : Pr2O K (rAddG K) catD := fun P G H v1 v2 d1 d2 d R x h1 h2 e k => .inr (.inl (pr_cat P G H v1 v2 d1 d2 d R x h1 h2 e k))
/-! * of numbers, list * number -/
end
end VL

set_option Elab.async false
set_option linter.all false
set_option maxRecDepth 100000
set_option maxHeartbeats 4000000
namespace VL
open PySem PySem.Spec PyProof.Rows L2 Evl Tw
theorem _root_.L2.Room.units5 {k : Nat} {A : Around} (r : Room k A) : A.units + 65 < cLine := by
  have := r.un
  omega
abbrev ltB := opB fun i j => decide (i < j)
abbrev leB := opB fun i j => decide (i ≤ j)
abbrev gtB := opB fun i j => decide (j < i)
abbrev geB := opB fun i j => decide (j ≤ i)
abbrev rng1A : List PyData → Option (List PyData) := fun xs => if xs.length = 1 then rngA xs else none
abbrev rng2A : List PyData → Option (List PyData) := fun xs => if xs.length = 2 then rngA xs else none
section
variable {X : Cx} (K : PySem.W.Frag)
theorem ixSK (e : X.K = K := by rfl) : IxR X (rIx K) := e ▸ ix_seq
theorem inDK (hu : X.A.units + 65 < cLine) (e : X.K = K := by rfl) : OpR X (compareOp .In) (rInD K) := e ▸ op_inD hu
theorem notInDK (hu : X.A.units + 65 < cLine) (e : X.K = K := by rfl) : OpR X (compareOp .NotIn) (rNotInD K) := e ▸ op_notInD hu
theorem lstK (e : X.K = K := by rfl) : CallR X (.type "list") (fun xs H Q => ∃ p ys, xs = [V.ref p] ∧ (SqL K H p ys ∨ SqT K H p ys) ∧ ∀ l, H l = none → Q (.ref l) (upd H l (.lst ys))) := e ▸ call_list_of
theorem minK (hc : X.calm = true) (e : X.K = K := by rfl) : CallR X (.builtin "min") (rMin K) := e ▸ cr_min hc
theorem sortedK {K : PySem.W.Frag} (e : X.K = K := by rfl) : CallR X (.builtin "sorted") (rSorted K) := e ▸ cr_sorted
theorem pi_enumK {e : Expr} {ta : TA} {p pos tpos : Pos} {elts : List Expr} {kk : Nat} (hg : Gl X "enumerate") (hm : X.mg "enumerate" = none) (ha : PA X [e] ta) (hK : X.K = K := by rfl) (hs : starEach [e] X.env = [(false, eval e X.env)] := by rfl) :
    PI X (.Tuple elts kk tpos) (.Call (.Name "enumerate" p) [e] [] pos) (iEnum K ta) := hK ▸ pi_enum hg hm ha hs
theorem pi_zipK {e e2 : Expr} {ta : TA} {p pos tpos : Pos} {elts : List Expr} {kk : Nat} (hg : Gl X "zip") (hm : X.mg "zip" = none) (ha : PA X [e, e2] ta) (hK : X.K = K := by rfl)
    (hs : starEach [e, e2] X.env = (false, eval e X.env) :: starEach [e2] X.env := by rfl) (hpl : (backTo pos (starEach [e2] X.env)).any (·.1) = false := by rfl) :
    PI X (.Tuple elts kk tpos) (.Call (.Name "zip" p) [e, e2] [] pos) (iZip K ta) := hK ▸ pi_zip hg hm ha hs hpl
end
section
variable {K : PySem.W.Frag} {te ta tb : TE} {wa wb : WE} {ts tz : TS} {ws wz : WS}
theorem pr_ipadd : Pr2 K (ipI fun i j => i + j) addI := pr_opI0
theorem pr_ipsub : Pr2 K (ipI fun i j => i - j) subI := pr_opI0
/-- xs[i] = e -/
def wSetI (i : Nat) (wa wb : WE) : WS := fun W S => wa S fun d S1 => ∃ ds, S1[i]? = some (.ow ds) ∧ wb S1 fun e S2 => ∃ es, S2[i]? = some (.ow es) ∧ wO (intD e) fun k => wO (ixN es.length k) fun j => W.nx (S2.set i (.ow (es.set j d)))
theorem ss_setI {i : Nat} (ha : SE K ta wa) (hb : SE K tb wb) : SS K (tAsg ta (gSub (tVar i) tb rSetL)) (wSetI i wa wb) := fun P G0 H0 G H σ S W D r w o =>
  ha P NoX G0 H0 G H σ S _ _ r w fun d S1 v H1 G1 w1 r1 g1 a1 => by
    obtain ⟨ds, h1, w1⟩ := w1
    obtain ⟨a0, xs0, hσ, _⟩ := r1.own h1
    refine ⟨_, hσ, hb P NoX G0 H0 G1 H1 σ S1 _ _ r1 w1 fun e S2 y H2 G2 w2 r2 g2 a2 => ?_⟩
    obtain ⟨es, h2, k, hk, j, hj, q⟩ := w2
    obtain ⟨a, xs, hv, n, h0, g0, hx, gx⟩ := r2.own h2
    rw [hσ] at hv
    cases hv
    exact ⟨a0, xs, k, j, rfl, da_intD a2 hk, hx, by rw [daa_len gx]; exact hj, o.nx _ _ _ G2 q (g1.an.trans g2.an) (r2.mut h2 hσ (daa_set j gx (da_ex g2.an a1)))⟩
/-! the pool's defs -/
def startP (n : Nat) (ds : List PyData) : Ss := .po :: startS (n - 1) ds
theorem rel_startP {p : Addr} {G0 H0 : Hp} {N : List Str} {vs : List V} {ds : List PyData} (hN : 0 < N.length) (x : Ex G0 H0) (pl : Pl (some p) H0) (pg : PG (some p) G0) (g : DaAll K G0 vs ds) : Rel K (some p) NoX G0 H0 G0 H0 (L2.start N (.ref p :: vs)) (startP N.length ds) := by
  have r := rel_start (N := N.tail) x pl pg g
  have e : L2.start N (.ref p :: vs) = some (.ref p) :: L2.start N.tail vs := by
    unfold L2.start
    rw [List.map_cons, List.cons_append, List.length_cons, List.length_tail]
    congr 3
    omega
  have e2 : N.tail.length = N.length - 1 := List.length_tail
  rw [e2] at r
  obtain ⟨A, hA, inj⟩ := r.sl
  refine ⟨r.sx, r.pl, r.pg, r.res, ?_, fun i => A (i - 1), fun i s hs => ?_, fun i j es fs hi hj => ?_⟩
  · rw [e]
    unfold startP
    rw [List.length_cons, List.length_cons, r.len]
  · rw [e]
    cases i with
    | zero =>
      cases hs
      exact ⟨_, rfl, p, rfl, rfl⟩
    | succ i => exact hA i s hs
  · cases i with
    | zero => cases hi
    | succ i =>
      cases j with
      | zero => cases hj
      | succ j =>
        intro z
        exact congrArg (· + 1) (inj i j es fs hi hj z)
theorem body_VP {C : Ct} {N : List Str} {ts : TS} {ws : WS} {vs : List V} {H : Hp} {R : VK} {E : XK} (h : spVP K C vs H R E) (hs : SS K ts ws) (hw : ∀ ds Q, C ds Q → ws (endV Q) (startP N.length ds)) (hN : 0 < N.length := by decide) : ts { nx := fun _ H' => R .non H', rt := R } (L2.start N vs) H := by
  obtain ⟨p, G0, ds, Q, vs', x, pl, pg, rfl, g, c, k⟩ := h
  refine hs (some p) G0 H G0 H _ _ _ _ (rel_startP hN x pl pg g) (hw ds Q c) ⟨fun S' σ' H' G' q e r => ?_, fun S' σ' H' G' q => q.elim, fun S' σ' H' G' q => q.elim, fun d v H' G' q s pl' a => k d v H' G' q s pl' a, fun ds a xs H' G' q => q.elim⟩
  exact k _ _ H' G' q r.sx r.pl .non
/-! the law -/
def unS (n : Nat) : Ss := List.replicate n .un
theorem law_V {N : List Str} {vs : List V} {H : Hp} {Q : VK} {E E' : XK} {m : Int} {n i : Nat} (h : spLaw K vs H Q E) (hm : m = (n : Int)) (hn : n ≤ 1000) (hN : 1 ≤ N.length) (hs : SS K tz wz)
    (hw : ∀ ds, Drawn n ds → wz (endV fun d => d = .bool true) ((unS N.length).set i (.da (.list (ds.map .int))))) :
    tSeq (tAsg (tCall (spDraws K) [] E' (tCons (tVar 0) (tCons (tC (.int m)) tNil))) (gName i)) tz { nx := fun _ H' => Q .non H', rt := Q } (L2.start N vs) H := by
  obtain ⟨a, ns, rfl, hS, hl, q⟩ := h
  subst hm
  have h0 : (L2.start N [.ref a])[0]? = some (some (.ref a)) := rfl
  have len : (L2.start N [V.ref a]).length = N.length := by
    unfold L2.start
    simp only [List.map_cons, List.map_nil, List.length_append, List.length_cons, List.length_nil, List.length_replicate]
    omega
  refine ⟨_, h0, a, ns, n, rfl, hS, hl, hn, fun ds p H2 dr hp e h2 => ?_⟩
  have r0 : Rel K none NoX Tw.Nil H (upd Tw.Nil p (.lst (ds.map V.int))) H2 (L2.start N [.ref a]) (unS N.length) := by
    refine ⟨⟨Up.of e, fun _ _ h => (nomatch h), fun b o hb => ?_, fun b _ hb => ?_⟩, fun p hp => (nomatch hp), fun p hp => (nomatch hp), fun b hb => hb.elim, ?_, fun _ => 0, fun j s hs => ?_, fun j k es fs hj => ?_⟩
    · by_cases z : b = p
      · subst z
        rw [upd_same] at hb
        rw [← hb]
        exact h2
      · rw [upd_ne z] at hb
        cases hb
    · have z : b ≠ p := fun z => hb (z ▸ hp)
      rw [upd_ne z]
      rfl
    · rw [len]
      exact List.length_replicate
    · unfold unS at hs
      rw [List.getElem?_replicate] at hs
      split at hs
      · cases hs
        rename_i hj
        exact ⟨_, List.getElem?_eq_getElem (by rw [len]; exact hj), trivial⟩
      · cases hs
    · unfold unS at hj
      rw [List.getElem?_replicate] at hj
      split at hj <;> cases hj
  have r1 := r0.setD (i := i) (v := .ref p) (d := .list (ds.map .int)) (.lst upd_same (daa_ints ds))
  refine hs none _ _ _ _ _ _ _ _ r1 (hw ds dr) ⟨fun S' σ' H' G' q => (by cases q), fun S' σ' H' G' q => q.elim, fun S' σ' H' G' q => q.elim, fun d v H' G' q' s pl a => ?_, fun ds a xs H' G' q => q.elim⟩
  cases q'
  cases a
  exact q H'
end
end VL

set_option Elab.async false
set_option linter.all false
set_option maxRecDepth 100000
set_option maxHeartbeats 4000000
namespace VL
open PySem PySem.Spec PyProof.Rows L2 Evl Tw
/-! in of lists of any data, of tuples of plain things, of ranges -/
def rInG (K : PySem.W.Frag) : R2 := fun x y H Q => rInD K x y H Q ∨ rIn K false x y H Q
def rNotInG (K : PySem.W.Frag) : R2 := fun x y H Q => rNotInD K x y H Q ∨ rIn K true x y H Q
section
variable {X : Cx}
theorem op_inG (hu : X.A.units + 65 < cLine) : OpR X (compareOp .In) (rInG X.K) := fun pins s σ H x y v u Q I rx ry h => h.elim (op_inD hu pins s σ H x y v u Q I rx ry) (op_in_seq pins s σ H x y v u Q I rx ry)
theorem op_notInG (hu : X.A.units + 65 < cLine) : OpR X (compareOp .NotIn) (rNotInG X.K) := fun pins s σ H x y v u Q I rx ry h => h.elim (op_notInD hu pins s σ H x y v u Q I rx ry) (op_notIn_seq pins s σ H x y v u Q I rx ry)
theorem inGK (K : PySem.W.Frag) (hu : X.A.units + 65 < cLine) (e : X.K = K := by rfl) : OpR X (compareOp .In) (rInG K) := e ▸ op_inG hu
theorem notInGK (K : PySem.W.Frag) (hu : X.A.units + 65 < cLine) (e : X.K = K := by rfl) : OpR X (compareOp .NotIn) (rNotInG K) := e ▸ op_notInG hu
def rRngIn : R2 := fun x y H Q => ∃ i a lo hi, x = V.int i ∧ y = V.ref a ∧ H a = some (.rng lo hi) ∧ Q (.bl (decide (lo ≤ i ∧ i < hi))) H
def rRngNotIn : R2 := fun x y H Q => ∃ i a lo hi, x = V.int i ∧ y = V.ref a ∧ H a = some (.rng lo hi) ∧ Q (.bl (!decide (lo ≤ i ∧ i < hi))) H
theorem op_inR : OpR X (compareOp .In) rRngIn := op_in_rng
theorem op_notInR : OpR X (compareOp .NotIn) rRngNotIn := by
  intro pins s σ H x y v u Q I rx ry h
  obtain ⟨i, a, lo, hi, rfl, rfl, ha, q⟩ := h
  obtain ⟨k, rfl⟩ := rx
  obtain rfl : u = Value.ref a := ry
  obtain ⟨t1, t2, t3, ho⟩ := I.hok a _ ha
  show wpAny _ _ (do return Value.bool (!(← contains (Value.ref a) (Value.int i k)))) _ _ s
  refine wpAny_bind (wpAny_contains_slot (T := "range") ⟨_, ho, rfl⟩ F.slot_range_contains (call_meets F.slot_range_contains ⟨_, ho, rfl⟩ F.entry_range_contains (F.args_range_contains_2 _ _) (q_contains a lo hi i t1 t2 t3 k)
    ⟨ho, wpAny_truthy_bool (wpAny_pure ⟨.bl _, H, I, rfl, ?_⟩)⟩))
  rw [place1]
  exact q
def rRng2 : List V → Hp → VK → Prop := fun vs H Q => ∃ i j, vs = [V.int i, V.int j] ∧ ∀ p, H p = none → Q (.ref p) (upd H p (.rng i j))
theorem cr_rng2 : CallR X (.type "range") rRng2 := cr_range2
def rRng1 : List V → Hp → VK → Prop := fun vs H Q => ∃ j, vs = [V.int j] ∧ ∀ p, H p = none → Q (.ref p) (upd H p (.rng 0 j))
theorem cr_rng1 : CallR X (.type "range") rRng1 := by
  intro pins s σ H vs us Q I r h
  obtain ⟨j, rfl, q⟩ := h
  obtain ⟨u1, rfl, ri⟩ := vals1 r
  obtain ⟨t, rfl⟩ := ri
  refine call_range_1 ⟨.ref s.heap.objs.size, upd H s.heap.objs.size (.rng 0 j), I.laid (t' := s.toks + 2) (fun b o e => Heap.get?_push_of_some _ e) (Nat.le_refl _) ?_, rfl, q _ (I.hok.fresh (Nat.le_refl _))⟩
  exact ⟨_, _, _, Heap.get?_push_size _ rfl⟩
end
section
variable {K : PySem.W.Frag} {te ta tb : TE} {wa wb : WE} {t : TA} {wt : WA}
def inGD (neg : Bool) : PyData → PyData → Option PyData := fun d e => match e with
  | .list ds => if SeqAt.shaped d = true ∧ SeqAt.shaped (.list ds) = true then some (.bool (if neg then !ds.any fun z => PyData.eqv z d else ds.any fun z => PyData.eqv z d)) else none
  | .tuple ds => if sc d = true ∧ ds.all sc = true then some (.bool (if neg then !inV (vOf d) (ds.map vOf) else inV (vOf d) (ds.map vOf))) else none
  | _ => none
theorem daa_scV {H : Hp} : ∀ {vs : List V} {ds : List PyData}, DaAll K H vs ds → ds.all sc = true → vs = ds.map vOf
  | _, _, .nil, _ => rfl
  | _, _, .cons h a, e => by
    rw [List.all_cons, Bool.and_eq_true] at e
    rw [da_sc h e.1, daa_scV a e.2]
    rfl
theorem flat_vOf {d : PyData} (h : sc d = true) : flatV (vOf d) = true := by
  cases d <;> first | rfl | cases h
theorem flat_all {ds : List PyData} (h : ds.all sc = true) : (ds.map vOf).all flatV = true := by
  rw [List.all_map, List.all_eq_true]
  intro d hd
  exact flat_vOf (List.all_eq_true.mp h d hd)
theorem dv_sc {P : Option Addr} {G H : Hp} {v : V} {d : PyData} (h : Dv K P G H v d) (hs : sc d = true) : v = vOf d := da_sc (dv_da h fun ds e => by rw [e] at hs; cases hs) hs
theorem pr_inG : Pr2 K (rInG K) (inGD false) := fun P G H v1 v2 d1 d2 d R x h1 h2 e k => by
  cases d2 <;> simp only [inGD, reduceCtorEq] at e
  · exact .inl (pr_inD P G H v1 v2 d1 _ d R x h1 h2 e k)
  · split at e
    · rename_i hs
      cases e
      obtain ⟨a, xs, rfl, hx, g⟩ := dv_tup x h2
      have ev := daa_scV g hs.2
      refine .inr ⟨a, xs, rfl, .inr hx, ?_, ?_, ?_⟩
      · rw [dv_sc h1 hs.1]
        exact flat_vOf hs.1
      · rw [ev]
        exact flat_all hs.2
      · rw [dv_sc h1 hs.1, ev]
        exact k _ H G (Sep.refl x) (.bl _)
    · cases e
theorem pr_notInG : Pr2 K (rNotInG K) (inGD true) := fun P G H v1 v2 d1 d2 d R x h1 h2 e k => by
  cases d2 <;> simp only [inGD, reduceCtorEq] at e
  · exact .inl (pr_notInD P G H v1 v2 d1 _ d R x h1 h2 e k)
  · split at e
    · rename_i hs
      cases e
      obtain ⟨a, xs, rfl, hx, g⟩ := dv_tup x h2
      have ev := daa_scV g hs.2
      refine .inr ⟨a, xs, rfl, .inr hx, ?_, ?_, ?_⟩
      · rw [dv_sc h1 hs.1]
        exact flat_vOf hs.1
      · rw [ev]
        exact flat_all hs.2
      · rw [dv_sc h1 hs.1, ev]
        exact k _ H G (Sep.refl x) (.bl _)
    · cases e
theorem Rel.newO {P : Option Addr} {X : Addr → Prop} {G0 H0 G H : Hp} {σ : L2.St} {S : Ss} {p : Addr} {o : HO} (r : Rel K P X G0 H0 G H σ S) (hp : H p = none) : Rel K P X G0 H0 G (upd H p o) σ S ∧ Go P G H G (upd H p o) := by
  have eH : Ex H (upd H p o) := Ex.new hp
  exact ⟨r.step ⟨Up.of eH, Ex.refl _, r.inn.trans eH, fun _ h _ => h⟩ (r.pl.ex eH), ⟨Up.of eH, Ex.refl _⟩⟩
/-- i in range(a, b) -/
def rngP : List PyData → Option (Int × Int)
  | [.int j] => some (0, j)
  | [.int lo, .int hi] => some (lo, hi)
  | _ => none
def wRIn (neg : Bool) (wa : WE) (wt : WA) : WE := fun S Q => wa S fun d S1 => wO (intD d) fun i => wt S1 fun xs S2 => wO (rngP xs) fun z => Q (.bool (if neg then !decide (z.1 ≤ i ∧ i < z.2) else decide (z.1 ≤ i ∧ i < z.2))) S2
theorem rng_of {G : Hp} {vs : List V} {xs : List PyData} {z : Int × Int} (a : DaAll K G vs xs) (h : rngP xs = some z) : (vs = [.int z.2] ∧ z.1 = 0) ∨ vs = [.int z.1, .int z.2] := by
  unfold rngP at h
  split at h
  · cases h
    obtain ⟨v, r, rfl, a1, a2⟩ := daa_inv a
    cases daa_inv0 a2
    cases a1
    exact .inl ⟨rfl, rfl⟩
  · cases h
    obtain ⟨v, r, rfl, a1, a2⟩ := daa_inv a
    obtain ⟨v2, r2, rfl, a3, a4⟩ := daa_inv a2
    cases daa_inv0 a4
    cases a1
    cases a3
    exact .inr rfl
  · cases h
theorem se_rin2 (ha : SE K ta wa) (ht : SA K t wt) : SE K (tOp rRngIn ta (tCB (fun vs H Q => rRng1 vs H Q ∨ rRng2 vs H Q) t)) (wRIn false wa wt) := fun P X G0 H0 G H σ S Q R rl w k =>
  ha P X G0 H0 G H σ S _ _ rl w fun d1 S1 v1 H1 G1 w1 r1 g1 a1 => by
    obtain ⟨i, hi, w1⟩ := w1
    have e1 := da_intD a1 hi
    subst e1
    refine ht P X G0 H0 G1 H1 σ S1 _ _ r1 w1 fun xs S2 vs H2 G2 w2 r2 g2 a2 => ?_
    obtain ⟨z, hz, q⟩ := w2
    rcases rng_of a2 hz with ⟨rfl, h0⟩ | rfl
    · refine .inl ⟨_, rfl, fun p hp => ⟨i, p, 0, z.2, rfl, rfl, upd_same, ?_⟩⟩
      obtain ⟨r3, g3⟩ := r2.newO (o := .rng 0 z.2) hp
      rw [h0] at q
      exact k _ S2 _ _ _ q r3 (g1.trans (g2.trans g3)) (.bl _)
    · refine .inr ⟨_, _, rfl, fun p hp => ⟨i, p, z.1, z.2, rfl, rfl, upd_same, ?_⟩⟩
      obtain ⟨r3, g3⟩ := r2.newO (o := .rng z.1 z.2) hp
      exact k _ S2 _ _ _ q r3 (g1.trans (g2.trans g3)) (.bl _)
theorem se_rnotin2 (ha : SE K ta wa) (ht : SA K t wt) : SE K (tOp rRngNotIn ta (tCB (fun vs H Q => rRng1 vs H Q ∨ rRng2 vs H Q) t)) (wRIn true wa wt) := fun P X G0 H0 G H σ S Q R rl w k =>
  ha P X G0 H0 G H σ S _ _ rl w fun d1 S1 v1 H1 G1 w1 r1 g1 a1 => by
    obtain ⟨i, hi, w1⟩ := w1
    have e1 := da_intD a1 hi
    subst e1
    refine ht P X G0 H0 G1 H1 σ S1 _ _ r1 w1 fun xs S2 vs H2 G2 w2 r2 g2 a2 => ?_
    obtain ⟨z, hz, q⟩ := w2
    rcases rng_of a2 hz with ⟨rfl, h0⟩ | rfl
    · refine .inl ⟨_, rfl, fun p hp => ⟨i, p, 0, z.2, rfl, rfl, upd_same, ?_⟩⟩
      obtain ⟨r3, g3⟩ := r2.newO (o := .rng 0 z.2) hp
      rw [h0] at q
      exact k _ S2 _ _ _ q r3 (g1.trans (g2.trans g3)) (.bl _)
    · refine .inr ⟨_, _, rfl, fun p hp => ⟨i, p, z.1, z.2, rfl, rfl, upd_same, ?_⟩⟩
      obtain ⟨r3, g3⟩ := r2.newO (o := .rng z.1 z.2) hp
      exact k _ S2 _ _ _ q r3 (g1.trans (g2.trans g3)) (.bl _)
theorem cr_rngA {X : Cx} : CallR X (.type "range") (fun vs H Q => rRng1 vs H Q ∨ rRng2 vs H Q) := fun pins s σ H xs us Q I r h => h.elim (cr_rng1 pins s σ H xs us Q I r) (cr_rng2 pins s σ H xs us Q I r)
/-! slices of lists and tuples -/
def rSlG (K : PySem.W.Frag) : V → Option Int → Option Int → Hp → VK → Prop := fun x lo hi H Q => rSlL K x lo hi H Q ∨ rSlA K x lo hi H Q
theorem sl_G {X : Cx} : SlR X (rSlG X.K) := fun pins s σ H x v vl vu lo hi sl Q I rx hs pl pu h => h.elim (sl_list pins s σ H x v vl vu lo hi sl Q I rx hs pl pu) (sl_tupA pins s σ H x v vl vu lo hi sl Q I rx hs pl pu)
theorem slGK (K : PySem.W.Frag) {X : Cx} (e : X.K = K := by rfl) : SlR X (rSlG K) := e ▸ sl_G
theorem sortedSetK {X : Cx} (w : World) (hc : X.calm = true) (e : X.w = w := by rfl) : CallR X (.builtin "sorted") (rSortedSet w) := e ▸ cr_sortedSet hc
def cutG (d : PyData) (lo hi : Option Int) : Option PyData := match d with
  | .list ds => some (.list (cutD ds lo hi))
  | .tuple ds => some (.tuple (cutD ds lo hi))
  | _ => none
def wSlG (wa : WE) (wl wh : WO) : WE := fun S Q => wa S fun d S1 => wl S1 fun lo S2 => wh S2 fun hi S3 => wO (cutG d lo hi) fun e => Q e S3
theorem cut_whole {ds : List PyData} {lo hi : Option Int} (h : HT.sIx ds.length 0 lo = 0 ∧ HT.sIx ds.length ds.length hi = ds.length) : cutD ds lo hi = ds := by
  unfold Tw.cutD
  rw [h.1, h.2, List.drop_zero, Nat.sub_zero, List.take_length]
theorem so_slG {to th : TO} {wl wh : WO} (ha : SV K ta wa) (h1 : SOp K to wl) (h2 : SOp K th wh) : SO K (tSl (rSlG K) ta to th) (wSl wa wl wh) := fun P X G0 H0 G H σ S Q R rl w k =>
  ha P X G0 H0 G H σ S _ _ rl w fun d1 S1 v1 H1 G1 w1 r1 g1 a1 => h1 P X G0 H0 G1 H1 σ S1 _ _ r1 w1 fun lo S2 H2 G2 w2 r2 g2 => h2 P X G0 H0 G2 H2 σ S2 _ _ r2 w2 fun hi S3 H3 G3 w3 r3 g3 => by
    obtain ⟨d, hd, q⟩ := w3
    cases d1 <;> simp only [cutO, reduceCtorEq, Option.some.injEq] at hd
    subst hd
    obtain ⟨a, xs, rfl, hx, g⟩ := (a1.go (g2.trans g3) r3.inn).list r3.inn
    refine .inl ⟨a, xs, rfl, sq_of hx, fun p hp => ?_⟩
    obtain ⟨r4, g4, o4, n4⟩ := r3.fresh hp (daa_cut g lo hi)
    exact k _ S3 _ _ _ q r4 (g1.trans (g2.trans (g3.trans g4))) o4 n4
theorem se_slG {to th : TO} {wl wh : WO} (ha : SV K ta wa) (h1 : SOp K to wl) (h2 : SOp K th wh) : SE K (tSl (rSlG K) ta to th) (wSlG wa wl wh) := fun P X G0 H0 G H σ S Q R rl w k =>
  ha P X G0 H0 G H σ S _ _ rl w fun d1 S1 v1 H1 G1 w1 r1 g1 a1 => h1 P X G0 H0 G1 H1 σ S1 _ _ r1 w1 fun lo S2 H2 G2 w2 r2 g2 => h2 P X G0 H0 G2 H2 σ S2 _ _ r2 w2 fun hi S3 H3 G3 w3 r3 g3 => by
    obtain ⟨d, hd, q⟩ := w3
    have a3 := a1.go (g2.trans g3) r3.inn
    cases d1 <;> simp only [cutG, reduceCtorEq, Option.some.injEq] at hd
    · subst hd
      obtain ⟨a, xs, rfl, hx, g⟩ := a3.list r3.inn
      refine .inl ⟨a, xs, rfl, sq_of hx, fun p hp => ?_⟩
      have s : Sep G3 H3 (upd H3 p (.lst (cutV xs lo hi))) (upd G3 p (.lst (cutV xs lo hi))) := Sep.new r3.inn hp
      exact k _ S3 _ _ _ q (r3.sep s) (g1.trans (g2.trans (g3.trans (Sx.of s).go))) (.lst upd_same (daa_ex s.an (daa_cut g lo hi)))
    · subst hd
      have aa := dv_da a3 (fun _ e => by cases e)
      obtain ⟨a, xs, rfl, hx, g⟩ := dv_tup r3.inn a3
      refine .inr ⟨a, xs, rfl, hx, fun hw => ?_, fun _ p hp => ?_⟩
      · rw [daa_len g] at hw
        rw [cut_whole hw] at q
        exact k _ S3 _ _ _ q r3 (g1.trans (g2.trans g3)) aa
      · have s : Sep G3 H3 (upd H3 p (.tup (cutV xs lo hi))) (upd G3 p (.tup (cutV xs lo hi))) := Sep.new r3.inn hp
        exact k _ S3 _ _ _ q (r3.sep s) (g1.trans (g2.trans (g3.trans (Sx.of s).go))) (.tup (st_of upd_same) (daa_ex s.an (daa_cut g lo hi)))
/-! sorted(set(xs)), ints -/
def ins (k : Int) : List Int → List Int
  | [] => [k]
  | x :: r => if k < x then k :: x :: r else if k = x then x :: r else x :: ins k r
def asc (ns : List Int) : List Int := ns.foldr ins []
theorem mem_ins {k j : Int} : ∀ {l : List Int}, j ∈ ins k l ↔ j = k ∨ j ∈ l
  | [] => by simp [ins]
  | x :: r => by
    unfold ins
    split
    · simp
    · split
      · rename_i h
        subst h
        simp
      · simp only [List.mem_cons, mem_ins (l := r)]
        constructor
        · rintro (h | h | h)
          · exact .inr (.inl h)
          · exact .inl h
          · exact .inr (.inr h)
        · rintro (h | h | h)
          · exact .inr (.inl h)
          · exact .inl h
          · exact .inr (.inr h)
theorem pw_ins {k : Int} : ∀ {l : List Int}, l.Pairwise (· < ·) → (ins k l).Pairwise (· < ·)
  | [], _ => by simp [ins]
  | x :: r, h => by
    obtain ⟨h1, h2⟩ := List.pairwise_cons.mp h
    unfold ins
    split
    · rename_i hk
      refine List.pairwise_cons.mpr ⟨fun y hy => ?_, h⟩
      rcases List.mem_cons.mp hy with rfl | hy
      · exact hk
      · exact Int.lt_trans hk (h1 y hy)
    · split
      · exact h
      · rename_i n1 n2
        refine List.pairwise_cons.mpr ⟨fun y hy => ?_, pw_ins h2⟩
        rcases mem_ins.mp hy with rfl | hy
        · omega
        · exact h1 y hy
theorem mem_asc {j : Int} : ∀ {ns : List Int}, j ∈ asc ns ↔ j ∈ ns
  | [] => by simp [asc]
  | x :: r => by
    show j ∈ ins x (asc r) ↔ _
    rw [mem_ins, mem_asc, List.mem_cons]
theorem pw_asc : ∀ ns : List Int, (asc ns).Pairwise (· < ·)
  | [] => .nil
  | x :: r => pw_ins (pw_asc r)
theorem asc_one : ∀ {a b : List Int}, a.Pairwise (· < ·) → b.Pairwise (· < ·) → (∀ k, k ∈ a ↔ k ∈ b) → a = b
  | [], [], _, _, _ => rfl
  | [], y :: t, _, _, h => absurd ((h y).mpr List.mem_cons_self) List.not_mem_nil
  | x :: r, [], _, _, h => absurd ((h x).mp List.mem_cons_self) List.not_mem_nil
  | x :: r, y :: t, ha, hb, h => by
    obtain ⟨a1, a2⟩ := List.pairwise_cons.mp ha
    obtain ⟨b1, b2⟩ := List.pairwise_cons.mp hb
    have e : x = y := by
      rcases List.mem_cons.mp ((h x).mp List.mem_cons_self) with z | z
      · exact z
      · rcases List.mem_cons.mp ((h y).mpr List.mem_cons_self) with u | u
        · exact u.symm
        · have := a1 y u
          have := b1 x z
          omega
    subst e
    congr 1
    refine asc_one a2 b2 fun k => ⟨fun hk => ?_, fun hk => ?_⟩
    · rcases List.mem_cons.mp ((h k).mp (List.mem_cons_of_mem _ hk)) with z | z
      · have := a1 k hk
        omega
      · exact z
    · rcases List.mem_cons.mp ((h k).mpr (List.mem_cons_of_mem _ hk)) with z | z
      · have := b1 k hk
        omega
      · exact z
def ascD : PyData → Option PyData
  | .list ds => (intsO ds).bind fun ns => if ns.length < 60 then some (.list ((asc ns).map .int)) else none
  | _ => none
theorem ascD_ints {ns : List Int} (h : ns.length < 60) : ascD (.list (ns.map .int)) = some (.list ((asc ns).map .int)) := by simp [ascD, h]
theorem so_sortedSet {w : World} (h : SV K ta wa) : SO K (tCB (rSortedSet w) (tCons (tCB (rSetL K w) (tCons ta tNil)) tNil)) (w1 ascD wa) := fun P X G0 H0 G H σ S Q R r w k => h P X G0 H0 G H σ S _ _ r w fun d S1 v H1 G1 q r1 g1 a => by
  obtain ⟨e, he, q⟩ := q
  cases d <;> simp only [ascD, reduceCtorEq, Option.bind_eq_some_iff] at he
  obtain ⟨ns, h1, h2⟩ := he
  split at h2
  · rename_i few
    cases h2
    obtain ⟨b0, rfl, hb⟩ := dv_ints r1.inn a h1
    refine ⟨b0, ns, rfl, hb, by omega, fun b c fb hc => ⟨b, _, c, rfl, upd_same, by omega, fun ms p pw mem len fp => ?_⟩⟩
    obtain ⟨r2, g2⟩ := r1.newO (o := SetO _ b (fun j => decide (j ∈ ns)) c) fb
    have e : ms = asc ns := asc_one pw (pw_asc ns) fun k => by
      rw [mem, mem_asc]
      exact decide_eq_true_iff
    subst e
    obtain ⟨r3, g3, o3, n3⟩ := r2.fresh fp (daa_ints (asc ns))
    obtain ⟨a, ys, es, e1, e2, bb⟩ := o3
    exact k _ S1 _ _ _ q r3 (g1.trans (g2.trans g3)) ⟨a, ys, es, e1, e2, bb⟩ n3
  · cases h2
end
end VL

set_option Elab.async false
set_option linter.all false
set_option maxRecDepth 100000
set_option maxHeartbeats 4000000
namespace VL
open PySem PySem.Spec PyProof.Rows L2 Evl Tw
section
variable {K : PySem.W.Frag}
/-- == and != of texts -/
def eqS : PyData → PyData → Option PyData
  | .str x, .str y => some (.bool (decide (x = y)))
  | _, _ => none
def neS : PyData → PyData → Option PyData
  | .str x, .str y => some (.bool (!decide (x = y)))
  | _, _ => none
@[simp] theorem eqS_s {x y : Str} : eqS (.str x) (.str y) = some (.bool (decide (x = y))) := rfl
@[simp] theorem neS_s {x y : Str} : neS (.str x) (.str y) = some (.bool (!decide (x = y))) := rfl
theorem strV {x y : Str} : decide (V.str x = V.str y) = decide (x = y) := decide_eq_decide.mpr ⟨fun h => by injection h, fun h => by rw [h]⟩
theorem pr_eqS : Pr2 K rEq eqS := fun P G H v1 v2 d1 d2 d R x h1 h2 e k => by
  cases d1 <;> cases d2 <;> simp only [eqS, reduceCtorEq, Option.some.injEq] at e
  subst e
  rw [dv_str h1, dv_str h2]
  refine ⟨rfl, ?_⟩
  rw [strV]
  exact k _ H G (Sep.refl x) (.bl _)
theorem pr_neS : Pr2 K rNe neS := fun P G H v1 v2 d1 d2 d R x h1 h2 e k => by
  cases d1 <;> cases d2 <;> simp only [neS, reduceCtorEq, Option.some.injEq] at e
  subst e
  rw [dv_str h1, dv_str h2]
  refine ⟨rfl, ?_⟩
  rw [strV]
  exact k _ H G (Sep.refl x) (.bl _)
end
theorem wSeq_step' {t r : WS} {W : WD} {S : Ss} (A : (Ss → Prop) → Prop) (h : ∀ R : Ss → Prop, A R → t { W with nx := R } S) (k : A (r W)) : wSeq2 t r W S := h _ k
end VL

set_option Elab.async false
set_option linter.all false
set_option maxRecDepth 100000
set_option maxHeartbeats 4000000
namespace VL
open PySem PySem.Spec PyProof.Rows L2 Evl Tw
/-! sorted of a list of any data that are alike, any length -/
def rSortedD (K : PySem.W.Frag) : List V → Hp → VK → Prop := fun vs H Q => ∃ (a : Addr) (bs : List (V × PyData)), vs = [V.ref a] ∧ SqL K H a (bs.map Prod.fst) ∧ (∀ b ∈ bs, Dp K H b.1 b.2) ∧
  PySem.W.AllAlike (bs.map Prod.snd) ∧ PySem.W.Sortable (bs.map Prod.snd) ∧ (∀ b ∈ bs, b.2.depth ≤ 60) ∧
  ∀ p, H p = none → Q (.ref p) (upd H p (.lst ((bs.mergeSort (PySem.W.dataLe false Prod.snd)).map Prod.fst)))
theorem vals_each {X : Cx} {pins : List (Addr × Obj)} {σ : L2.St} {H : Hp} {s : Shared} (I : Inv X pins σ H s) : ∀ {bs : List (V × PyData)} {us : List Value}, Vals (bs.map Prod.fst) us → (∀ b ∈ bs, Dp X.K H b.1 b.2) →
    PySem.W.EachIs (fun u (b : V × PyData) => RelV b.1 u) us bs ∧ PySem.W.EachIs (fun u (b : V × PyData) => ∃ as, Reads s.heap u b.2 as) us bs
  | [], _, r, _ => by
    cases r
    exact ⟨.nil, .nil⟩
  | b :: bs, _, r, h => by
    cases r with
    | cons r1 r2 =>
      obtain ⟨h1, h2⟩ := vals_each I r2 fun x hx => h x (List.mem_cons_of_mem _ hx)
      exact ⟨.cons r1 h1, .cons (Dp.reads I _ _ _ (h b List.mem_cons_self) r1) h2⟩
theorem each_vals : ∀ {us : List Value} {bs : List (V × PyData)}, PySem.W.EachIs (fun u (b : V × PyData) => RelV b.1 u) us bs → Vals (bs.map Prod.fst) us
  | _, _, .nil => .nil
  | _, _, .cons r h => .cons r (each_vals h)
section
variable {X : Cx}
theorem cr_sortedD (hu : X.A.units + 65 < cLine) : CallR X (.builtin "sorted") (rSortedD X.K) := by
  intro pins s σ H vs us Q I r h
  obtain ⟨a, bs, rfl, hs, hd, ha, hk, hp, q⟩ := h
  obtain ⟨its, rv, hl, hz⟩ := I.list hs
  rw [Vals.ref1 r]
  obtain ⟨e1, e2⟩ := vals_each I rv hd
  rw [List.length_map] at hz
  refine PySem.W.sorted_data hl.isList e1 e2 ha hk hz (fun b hb => by have := hp b hb; omega) fun out h1 h2 => ?_
  obtain ⟨ep, he'⟩ := PyProof.Rows.sortedAll_at s.heap its out.toArray
  have hlen : ((bs.mergeSort (PySem.W.dataLe false Prod.snd)).map Prod.fst).length ≤ sizeLine := by rw [List.length_map, List.length_mergeSort]; exact hz
  exact ⟨.ref _, upd H (s.heap.objs.size + 1) (.lst ((bs.mergeSort (PySem.W.dataLe false Prod.snd)).map Prod.fst)), I.laid (t' := s.toks) (fun _ _ => PyProof.Rows.sortedAll_old) (Nat.le_succ _) ⟨hlen, out, ep, each_vals h2, he'⟩, rfl, q _ (I.hok.fresh (Nat.le_succ _))⟩
end
theorem sortedDK (K : PySem.W.Frag) {X : Cx} (hu : X.A.units + 65 < cLine) (e : X.K = K := by rfl) : CallR X (.builtin "sorted") (rSortedD K) := e ▸ cr_sortedD hu
def srtL (ds : List PyData) : List PyData := ds.mergeSort (PySem.W.dataLe false id)
open Classical in
noncomputable def srtG : PyData → Option PyData
  | .list ds => if PySem.W.AllAlike ds ∧ PySem.W.Sortable ds ∧ ∀ d ∈ ds, d.depth ≤ 60 then some (.list (srtL ds)) else none
  | _ => none
theorem srtG_l {ds : List PyData} (h1 : PySem.W.AllAlike ds) (h2 : PySem.W.Sortable ds) (h3 : ∀ d ∈ ds, d.depth ≤ 60) : srtG (.list ds) = some (.list (srtL ds)) := if_pos ⟨h1, h2, h3⟩
theorem daa_zip {K : PySem.W.Frag} {G : Hp} : ∀ {xs : List V} {ds : List PyData}, DaAll K G xs ds → ∃ bs : List (V × PyData), bs.map Prod.fst = xs ∧ bs.map Prod.snd = ds ∧ ∀ b ∈ bs, Da K G b.1 b.2
  | _, _, .nil => ⟨[], rfl, rfl, fun b hb => absurd hb List.not_mem_nil⟩
  | _, _, .cons h g => by
    obtain ⟨bs, rfl, rfl, k⟩ := daa_zip g
    exact ⟨(_, _) :: bs, rfl, rfl, fun b hb => by
      rcases List.mem_cons.mp hb with rfl | hb
      · exact h
      · exact k b hb⟩
theorem zip_daa {K : PySem.W.Frag} {G : Hp} : ∀ {bs : List (V × PyData)}, (∀ b ∈ bs, Da K G b.1 b.2) → DaAll K G (bs.map Prod.fst) (bs.map Prod.snd)
  | [], _ => .nil
  | b :: bs, h => .cons (h b List.mem_cons_self) (zip_daa fun x hx => h x (List.mem_cons_of_mem _ hx))
theorem each_snd : ∀ bs : List (V × PyData), PySem.W.EachIs (fun (b : V × PyData) d => b.2 = d) bs (bs.map Prod.snd)
  | [] => .nil
  | _ :: bs => .cons rfl (each_snd bs)
theorem each_eq : ∀ {bs : List (V × PyData)} {ds : List PyData}, PySem.W.EachIs (fun (b : V × PyData) d => b.2 = d) bs ds → bs.map Prod.snd = ds
  | _, _, .nil => rfl
  | _, _, .cons e h => by rw [List.map_cons, e, each_eq h]
theorem pr_sortedD {K : PySem.W.Frag} : PrNO K (rSortedD K) (on1 srtG) := fun P G H vs ds d R x a he k => by
  unfold on1 at he
  split at he
  · rename_i d1
    cases a with
    | cons a b =>
      cases b
      unfold srtG at he
      split at he
      · rename_i ds
        split at he
        · rename_i hc
          cases he
          obtain ⟨b, xs, rfl, hx, g⟩ := a.list x
          obtain ⟨bs, rfl, rfl, hb⟩ := daa_zip g
          refine ⟨b, bs, rfl, sq_of hx, fun z hz => da_dp (da_ex x (hb z hz)), hc.1, hc.2.1, fun z hz => hc.2.2 _ (List.mem_map.mpr ⟨z, hz, rfl⟩), fun p hp => ?_⟩
          have hm := zip_daa (bs := bs.mergeSort (PySem.W.dataLe false Prod.snd)) fun z hz => hb z ((List.mergeSort_perm ..).mem_iff.mp hz)
          have e : (bs.mergeSort (PySem.W.dataLe false Prod.snd)).map Prod.snd = srtL (bs.map Prod.snd) := each_eq (PySem.W.sort_each (each_snd bs) fun p hp q hq => by
            have hz := PySem.W.EachIs.zip (each_snd bs)
            rw [PySem.W.dataLe_eq, PySem.W.dataLe_eq]
            show (!PySem.W.dataLt q.1.2 p.1.2) = (!PySem.W.dataLt q.2 p.2)
            rw [hz p hp, hz q hq])
          rw [e] at hm
          exact k p _ _ rfl hp hm
        · cases he
      · cases he
  · cases he
theorem srtL_perm {ds : List PyData} : (srtL ds).Perm ds := List.mergeSort_perm ..
/-- a row that is sorted is a row of the same things -/
theorem srtL_map {α : Type} {enc : α → PyData} {l : List α} : ∃ l' : List α, l'.Perm l ∧ srtL (l.map enc) = l'.map enc := by
  refine ⟨l.mergeSort (fun a b => PySem.W.dataLe false id (enc a) (enc b)), List.mergeSort_perm .., ?_⟩
  unfold srtL
  exact (List.map_mergeSort (f := enc) (r := fun a b => PySem.W.dataLe false id (enc a) (enc b)) (s := PySem.W.dataLe false id) (l := l) (fun a _ b _ => rfl)).symm
end VL

set_option Elab.async false
set_option linter.all false
set_option maxRecDepth 100000
set_option maxHeartbeats 4000000
namespace VL
open PySem PySem.Spec PyProof.Rows L2 Evl Tw
/-! < of data that are alike -/
def rLtD (K : PySem.W.Frag) : R2 := fun x y H Q => ∃ d e, Dp K H x d ∧ Dp K H y e ∧ PySem.W.alike d e = true ∧ d ≠ .none ∧ d.depth ≤ 60 ∧ Q (.bl (PySem.W.dataLt d e)) H
theorem op_ltD {X : Cx} (hu : X.A.units + 65 < cLine) : OpR X (compareOp .Lt) (rLtD X.K) := by
  intro pins s σ H x y v u Q I rx ry h
  obtain ⟨d, e, hd, he, ha, hn, hp, q⟩ := h
  obtain ⟨as, r1⟩ := Dp.reads I d x v hd rx
  obtain ⟨bs, r2⟩ := Dp.reads I e y u he ry
  show wpAny _ _ (richCompare .Lt v u) _ _ s
  exact PySem.W.rcLt_alike d e X.A s v u as bs r1 r2 ha hn (by omega) X.prog X.w X.xe _ ⟨.bl _, H, I, rfl, q⟩
theorem ltDK (K : PySem.W.Frag) {X : Cx} (hu : X.A.units + 65 < cLine) (e : X.K = K := by rfl) : OpR X (compareOp .Lt) (rLtD K) := e ▸ op_ltD hu
open Classical in
noncomputable def ltG : PyData → PyData → Option PyData := fun d e => if PySem.W.alike d e = true ∧ d ≠ .none ∧ d.depth ≤ 60 then some (.bool (PySem.W.dataLt d e)) else none
theorem pr_ltD {K : PySem.W.Frag} : Pr2 K (rLtD K) ltG := fun P G H v1 v2 d1 d2 d R x h1 h2 e k => by
  unfold ltG at e
  split at e
  · rename_i hc
    cases e
    exact ⟨d1, d2, dv_dp x h1, dv_dp x h2, hc.1, hc.2.1, hc.2.2, k _ H G (Sep.refl x) (.bl _)⟩
  · cases e
/-! min(xs, default=None) of a list of data that are alike -/
def rMinN (K : PySem.W.Frag) : List V → List V → Hp → VK → Prop := fun xs zs H Q => ∃ (a : Addr) (bs : List (V × PyData)), xs = [V.ref a] ∧ zs = [V.non] ∧ SqL K H a (bs.map Prod.fst) ∧ (∀ b ∈ bs, Dp K H b.1 b.2) ∧
  PySem.W.AlikeAll (bs.map Prod.snd) ∧ PyData.depthAll (bs.map Prod.snd) ≤ 60 ∧ (bs = [] → Q .non H) ∧ ∀ b ∈ bs, ∀ y ys, bs.map Prod.snd = y :: ys → b.2 = PySem.W.minD y ys → Q b.1 H
theorem min_mem (x : PyData) : ∀ xs : List PyData, PySem.W.minD x xs ∈ x :: xs := by
  have go : ∀ (xs : List PyData) (a : PyData) (L : List PyData), a ∈ L → (∀ y ∈ xs, y ∈ L) → xs.foldl (fun a y => if PySem.W.dataLt y a then y else a) a ∈ L := by
    intro xs
    induction xs with
    | nil => exact fun a L h _ => h
    | cons y r ih =>
      intro a L h hs
      refine ih _ L ?_ fun z hz => hs z (List.mem_cons_of_mem _ hz)
      show (if PySem.W.dataLt y a = true then y else a) ∈ L
      split
      · exact hs y List.mem_cons_self
      · exact h
  exact fun xs => go xs x _ List.mem_cons_self fun y hy => List.mem_cons_of_mem _ hy
section
variable {X : Cx}
theorem each_reads {pins : List (Addr × Obj)} {σ : L2.St} {H : Hp} {s : Shared} (I : Inv X pins σ H s) : ∀ {bs : List (V × PyData)} {us : List Value}, Vals (bs.map Prod.fst) us → (∀ b ∈ bs, Dp X.K H b.1 b.2) → ∃ as, ReadsAll s.heap us (bs.map Prod.snd) as
  | [], _, r, _ => by
    cases r
    exact ⟨_, ReadsAll.nil⟩
  | b :: bs, _, r, h => by
    cases r with
    | cons r1 r2 =>
      obtain ⟨as, q1⟩ := Dp.reads I _ _ _ (h b List.mem_cons_self) r1
      obtain ⟨as2, q2⟩ := each_reads I r2 fun x hx => h x (List.mem_cons_of_mem _ hx)
      exact ⟨_, ReadsAll.cons q1 q2⟩
theorem vals_get : ∀ {xs : List V} {us : List Value} {i : Nat} {u : Value}, Vals xs us → us[i]? = some u → ∃ x, xs[i]? = some x ∧ RelV x u
  | _, _, 0, _, .cons r _, h => by
    cases Option.some.inj h
    exact ⟨_, rfl, r⟩
  | _, _, i + 1, _, .cons _ rs, h => vals_get (i := i) rs h
theorem call_minN (hc : X.calm = true) (hu : X.A.units + 65 < cLine) : CallRK X (.builtin "min") [Str.ofString "default"] (rMinN X.K) := by
  intro pins s σ H xs zs us ws Q I r rz h
  obtain ⟨a, bs, rfl, rfl, hs, hd, ha, hp, h0, h1⟩ := h
  obtain ⟨its, rv, hl, hz⟩ := I.list hs
  rw [Vals.ref1 r]
  cases rz with
  | cons rz1 rz2 =>
    cases rz2
    cases rz1
    obtain ⟨as, ra⟩ := each_reads I rv hd
    refine PySem.W.min_list_default (vs := its.toArray) (I.ok.hd hc) hl.isList ra ha (by omega) (fun hn h' tk k => ?_) fun y ys i v h' tk cs hy hv rr k => ?_
    · exact ⟨.non, H, I.kept (t' := tk) k, rfl, h0 (List.map_eq_nil_iff.mp hn)⟩
    · have hv2 : its[i]? = some v := by simpa using hv
      obtain ⟨x, hx, rx⟩ := vals_get rv hv2
      rw [List.getElem?_map, Option.map_eq_some_iff] at hx
      obtain ⟨b, hb, rfl⟩ := hx
      have hbm := List.mem_of_getElem? hb
      obtain ⟨cs2, r2⟩ := Dp.reads I _ _ _ (hd b hbm) rx
      have r3 := PySem.W.reads_keeps k r2
      have e : b.2 = PySem.W.minD y ys := by
        refine PySem.W.alike_unique _ _ v _ _ (ha.1 _ (List.mem_map.mpr ⟨b, hbm, rfl⟩) _ ?_) r3 rr
        rw [hy]
        exact min_mem y ys
      exact ⟨b.1, H, I.kept (t' := tk) k, rx, h1 b hbm y ys hy e⟩
theorem minNK (K : PySem.W.Frag) {X : Cx} (hu : X.A.units + 65 < cLine) (hc : X.calm = true := by rfl) (e : X.K = K := by rfl) : CallRK X (.builtin "min") [Str.ofString "default"] (rMinN K) := e ▸ call_minN hc hu
end
open Classical in
noncomputable def minG : PyData → Option PyData
  | .list [] => some .none
  | .list (y :: ys) => if PySem.W.AlikeAll (y :: ys) ∧ PyData.depthAll (y :: ys) ≤ 60 then some (PySem.W.minD y ys) else none
  | _ => none
theorem se_minN {K : PySem.W.Frag} {t : TA} {wt : WA} (ha : SAV K t wt) : SE K (tCKw (rMinN K) t (tCons (tC .non) tNil)) (wN (on1 minG) wt) := fun P X G0 H0 G H σ S Q R rl w k =>
  ha P X G0 H0 G H σ S _ _ rl w fun ds S1 vs H1 G1 w1 r1 g1 a1 => by
    obtain ⟨d, hd, q⟩ := w1
    show rMinN K vs [V.non] H1 R
    unfold on1 at hd
    split at hd
    · rename_i d1
      cases a1 with
      | cons a b =>
        cases b
        have main : ∀ (v0 : V) (a : Dv K P G1 H1 v0 d1) (es : List PyData), d1 = .list es → (PySem.W.AlikeAll es ∧ PyData.depthAll es ≤ 60) → (es = [] → d = .none) → (∀ y ys, es = y :: ys → d = PySem.W.minD y ys) → rMinN K [v0] [V.non] H1 R := by
          intro v0 a es e1 hc h0 h1
          subst e1
          obtain ⟨b, xs, rfl, hx, g⟩ := a.list r1.inn
          obtain ⟨bs, rfl, rfl, hb⟩ := daa_zip g
          refine ⟨b, bs, rfl, rfl, sq_of hx, fun z hz => da_dp (da_ex r1.inn (hb z hz)), hc.1, hc.2, fun e => ?_, fun z hz y ys e1 e2 => ?_⟩
          · have := h0 (by rw [e]; rfl)
            subst this
            exact k .none S1 _ _ _ q r1 g1 .non
          · have := h1 y ys e1
            subst this
            rw [← e2] at q
            exact k _ S1 _ _ _ q r1 g1 (hb z hz)
        unfold minG at hd
        split at hd
        · cases hd
          exact main _ a [] rfl ⟨⟨fun x hx => absurd hx List.not_mem_nil, fun x hx => absurd hx List.not_mem_nil⟩, Nat.zero_le _⟩ (fun _ => rfl) fun y ys e => by cases e
        · split at hd
          · rename_i hc
            cases hd
            exact main _ a _ rfl hc (fun e => by cases e) fun y ys e => by cases e; rfl
          · cases hd
        · cases hd
    · cases hd
end VL

set_option Elab.async false
set_option linter.all false
set_option maxRecDepth 100000
set_option maxHeartbeats 4000000
namespace VL
open PySem PySem.Spec PyProof.Rows L2 Evl Tw
/-! a dict of the module whose keys are texts; such a display, looked up at once -/
def tabD (tab : List (Str × PyData)) : PyData → Option PyData
  | .str s => tab.lookup s
  | _ => none
def tabI (tab : List (Str × Int)) : PyData → Option PyData
  | .str s => (tab.lookup s).map .int
  | _ => none
section
variable {K : PySem.W.Frag} {tb : TE} {wb : WE}
theorem ixDK (K : PySem.W.Frag) (w : World) {X : Cx} (e : X.K = K := by rfl) (e2 : X.w = w := by rfl) : IxR X (rIxD K w) := by
  subst e e2
  exact ix_kdict
theorem se_kdict {w : World} {a : Addr} {tab : List (Str × PyData)} (hk : ∀ s d, tab.lookup s = some d → ∃ v, KDct K w a s v ∧ ∀ G, Da K G v d) (hb : SE K tb wb) :
    SE K (tOp (rIxD K w) (tC (.ref a)) tb) (w1 (tabD tab) wb) := fun P X G0 H0 G H σ S Q R r w k => hb P X G0 H0 G H σ S _ _ r w fun d S1 v H1 G1 q r1 g1 a1 => by
  obtain ⟨e, he, q⟩ := q
  unfold tabD at he
  split at he
  · rename_i s
    obtain ⟨u, hu, hg⟩ := hk s e he
    cases a1
    exact ⟨a, s, u, rfl, rfl, hu, k e S1 u H1 G1 q r1 g1 (hg G1)⟩
  · cases he
theorem valV_tab : ∀ (tab : List (Str × Int)) (s : Str), valV (tab.map fun p => ((.inr p.1 : Key), V.int p.2)) (.inr s) = (tab.lookup s).map V.int
  | [], _ => rfl
  | p :: r, s => by
    rw [List.map_cons, List.lookup_cons]
    by_cases e : s = p.1
    · rw [valV_pos (by rw [e])]
      rw [show (s == p.1) = true by simp [e]]
      rfl
    · rw [valV_neg (fun z => e (by injection z with z; exact z.symm))]
      rw [show (s == p.1) = false by simp [e]]
      exact valV_tab r s
theorem tPairs_tab (σ : L2.St) (H : Hp) : ∀ (tab : List (Str × Int)) (Q : List (V × V) → Hp → Prop), Q (tab.map fun p => (V.str p.1, V.int p.2)) H → tPairs (tab.map fun p => (tC (.str p.1), tC (.int p.2))) σ H Q
  | [], _, q => q
  | p :: r, Q, q => tPairs_tab σ H r _ q
theorem se_disp (tab : List (Str × Int)) {trs : List (TE × TE)} (e : trs = tab.map fun p => (tC (.str p.1), tC (.int p.2))) (hm : mergeK [] (tab.map fun p => ((.inr p.1 : Key), V.int p.2)) = (tab.map fun p => ((.inr p.1 : Key), V.int p.2)) ∧ tab.length ≤ 15) (hb : SE K tb wb) :
    SE K (tDGet (tDisp trs) tb) (w1 (tabI tab) wb) := fun P X G0 H0 G H σ S Q R r w k p hp => by
  subst e
  refine tPairs_tab σ _ tab _ ⟨upd_same, tab.map fun p => ((.inr p.1 : Key), V.int p.2), ?_, by rw [List.length_map]; exact hm.2, ?_⟩
  · rw [List.map_map]
    rfl
  rw [upd_upd, hm.1]
  obtain ⟨r3, g3⟩ := r.newO (o := .dK (tab.map fun p => ((.inr p.1 : Key), V.int p.2))) hp
  refine hb P X G0 H0 _ _ σ S _ _ r3 w fun d S1 v H1 G1 q r1 g1 a1 => ?_
  obtain ⟨e, he, q⟩ := q
  unfold tabI at he
  split at he
  · rename_i s
    obtain ⟨i, hi, rfl⟩ := Option.map_eq_some_iff.mp he
    cases a1
    have np : P ≠ some p := fun z => by
      obtain ⟨xs, e, _⟩ := r.pl p z
      rw [hp] at e
      cases e
    have e1 := g1.up p _ np upd_same
    refine ⟨p, V.int i, rfl, ?_, k _ S1 _ H1 G1 q r1 (g3.trans g1) (.int i)⟩
    have := DGet.k (k := .inr s) e1
    rw [valV_tab, hi] at this
    exact this
  · cases he
end
/-! a, b = x, y: stored at once, no pair is made -/
section
variable {K : PySem.W.Frag} {t : TA} {wt : WA}
def wPar (i j : Nat) (wt : WA) : WS := fun W S => wt S fun ds S1 => ∃ d e, ds = [d, e] ∧ W.nx ((S1.set i (.da d)).set j (.da e))
theorem ss_par {i j : Nat} (h : SA K t wt) : SS K (tPar i j t) (wPar i j wt) := fun P G0 H0 G H σ S W D r w o => h P NoX G0 H0 G H σ S _ _ r w fun ds S1 vs H1 G1 q r1 g1 a1 => by
  obtain ⟨d, e, rfl, q⟩ := q
  cases a1 with
  | cons a b =>
    cases b with
    | cons b c =>
      cases c
      exact ⟨_, _, rfl, o.nx _ _ H1 G1 q g1.an ((r1.setD a).setD b)⟩
def wPar3 (i j l : Nat) (wt : WA) : WS := fun W S => wt S fun ds S1 => ∃ d e f, ds = [d, e, f] ∧ W.nx (((S1.set i (.da d)).set j (.da e)).set l (.da f))
theorem ss_par3 {i j l : Nat} (h : SA K t wt) : SS K (tPar3 i j l t) (wPar3 i j l wt) := fun P G0 H0 G H σ S W D r w o => h P NoX G0 H0 G H σ S _ _ r w fun ds S1 vs H1 G1 q r1 g1 a1 => by
  obtain ⟨d, e, f, rfl, q⟩ := q
  cases a1 with
  | cons a b =>
    cases b with
    | cons b c =>
      cases c with
      | cons c z =>
        cases z
        exact ⟨_, _, _, rfl, o.nx _ _ H1 G1 q g1.an (((r1.setD a).setD b).setD c)⟩
end
end VL

set_option Elab.async false
set_option linter.all false
set_option maxRecDepth 100000
set_option maxHeartbeats 4000000
open PySem PySem.Spec PyProof.Rows L2 Evl Tw VL
/-! what a written piece does, spelled out over a state that is known -/
local macro_rules | `(tactic| walk_at "vl") => `(tactic| simp only [wSeq2, wAsg, wAsgO, wVarV, wVar, wMove, wC, wName, wRet, wRetO, wN, wCons, wNil, w2, w1, w3, wTup, wLst, wTst, wTru, wAnd, wOr, wNot, wYes, wIf, wIfS, wAndV, wOrV, wNotV, wSlG, wSl, wPart, wNoP, wLc, wSeq, wIt, wgTup, wgCons, wgNil, wDrop, wApp, wAug, wSetI, wFor, wNx, wBk, wCt, wCall, wCallL, wCallP, wIsi, wRIn, on1_one, on2_two, lenD_l, lenD_t, toIntD_i, toIntD_b, toTupD_l, negD_i, absD_i, boolD_bool, intD_int, seqD_l, seqD_t, lstD_l, tupD_t, opB_int, opI_int, addD_i, yes2_is, wO_some, if_true, if_false, reduceIte, reduceCtorEq,
  List.getElem?_cons_zero, List.getElem?_cons_succ, List.set_cons_zero, List.set_cons_succ, List.length_cons, List.length_nil, List.map_cons, List.map_nil, List.append_nil, List.nil_append, List.cons_append, Nat.reduceAdd, Nat.reduceSub, Nat.reduceLeDiff, Nat.reduceLT, true_and, and_true, Bool.not_true, Bool.not_false, Option.some.injEq, exists_eq_left', exists_eq_left, Bool.false_eq_true, decide_true, decide_false])
namespace PL
structure Hb where
  dp : List Int
  be : List Int
  tugs : Int
  pil : Int
  last : Int
structure Sh where
  r : Int
  le : Int
  dr : Int
  st : Int
  tu : Int
  se : Int
  li : Int
structure Mv where
  a : Int
  b : Int
  o : Int
def encH (h : Hb) : PyData := .tuple [.list (h.dp.map .int), .list (h.be.map .int), .int h.tugs, .int h.pil, .int h.last]
def encS (s : Sh) : PyData := .tuple [.int s.r, .int s.le, .int s.dr, .int s.st, .int s.tu, .int s.se, .int s.li]
def encM (m : Mv) : PyData := .tuple [.int m.a, .int m.b, .int m.o]
def encSs (ss : List Sh) : PyData := .list (ss.map encS)
def encP (p : List Mv) : PyData := .list (p.map encM)
theorem startS_1 {n : Nat} {a : PyData} : startS (n + 1) [a] = .da a :: unS n := rfl
theorem startS_2 {n : Nat} {a b : PyData} : startS (n + 2) [a, b] = .da a :: .da b :: unS n := rfl
theorem startS_3 {n : Nat} {a b c : PyData} : startS (n + 3) [a, b, c] = .da a :: .da b :: .da c :: unS n := rfl
theorem startS_4 {n : Nat} {a b c d : PyData} : startS (n + 4) [a, b, c, d] = .da a :: .da b :: .da c :: .da d :: unS n := rfl
theorem startS_5 {n : Nat} {a b c d e : PyData} : startS (n + 5) [a, b, c, d, e] = .da a :: .da b :: .da c :: .da d :: .da e :: unS n := rfl
theorem unS_s {n : Nat} : unS (n + 1) = .un :: unS n := rfl
theorem unS_0 : unS 0 = [] := rfl
theorem ixD_ln {ds : List PyData} {i : Nat} {d : PyData} (h : ds[i]? = some d) : ixD (.list ds) (.int (i : Int)) = some d := by
  show atI ds (i : Int) = _
  exact atI_nat h
theorem ixD_tn {ds : List PyData} {i : Nat} {d : PyData} (h : ds[i]? = some d) : ixD (.tuple ds) (.int (i : Int)) = some d := by
  show atI ds (i : Int) = _
  exact atI_nat h
section
variable {h : Hb} {s : Sh} {m : Mv}
@[simp] theorem ixH0 : ixD (encH h) (.int 0) = some (.list (h.dp.map .int)) := rfl
@[simp] theorem ixH1 : ixD (encH h) (.int 1) = some (.list (h.be.map .int)) := rfl
@[simp] theorem ixH2 : ixD (encH h) (.int 2) = some (.int h.tugs) := rfl
@[simp] theorem ixH3 : ixD (encH h) (.int 3) = some (.int h.pil) := rfl
@[simp] theorem ixH4 : ixD (encH h) (.int 4) = some (.int h.last) := rfl
@[simp] theorem ixS0 : ixD (encS s) (.int 0) = some (.int s.r) := rfl
@[simp] theorem ixS1 : ixD (encS s) (.int 1) = some (.int s.le) := rfl
@[simp] theorem ixS2 : ixD (encS s) (.int 2) = some (.int s.dr) := rfl
@[simp] theorem ixS3 : ixD (encS s) (.int 3) = some (.int s.st) := rfl
@[simp] theorem ixS4 : ixD (encS s) (.int 4) = some (.int s.tu) := rfl
@[simp] theorem ixS5 : ixD (encS s) (.int 5) = some (.int s.se) := rfl
@[simp] theorem ixS6 : ixD (encS s) (.int 6) = some (.int s.li) := rfl
@[simp] theorem ixM0 : ixD (encM m) (.int 0) = some (.int m.a) := rfl
@[simp] theorem ixM1 : ixD (encM m) (.int 1) = some (.int m.b) := rfl
@[simp] theorem ixM2 : ixD (encM m) (.int 2) = some (.int m.o) := rfl
@[simp] theorem tupH : tupD (encH h) = some [.list (h.dp.map .int), .list (h.be.map .int), .int h.tugs, .int h.pil, .int h.last] := rfl
@[simp] theorem tupS : tupD (encS s) = some [.int s.r, .int s.le, .int s.dr, .int s.st, .int s.tu, .int s.se, .int s.li] := rfl
@[simp] theorem tupM : tupD (encM m) = some [.int m.a, .int m.b, .int m.o] := rfl
end
theorem ixD_int {l : List Int} {n : Int} (h0 : 0 ≤ n) (h1 : n < l.length) : ixD (.list (l.map .int)) (.int n) = some (.int (l.getD n.toNat 0)) := by
  have e : n = (n.toNat : Nat) := by omega
  rw [e]
  refine ixD_ln ?_
  have hl : n.toNat < l.length := by omega
  rw [List.getElem?_map, List.getElem?_eq_getElem hl]
  show some (PyData.int l[n.toNat]) = _
  rw [List.getD_eq_getElem?_getD]
  have e2 : (n.toNat : Int).toNat = n.toNat := rfl
  rw [e2, List.getElem?_eq_getElem hl]
  rfl
theorem ixSs {ss : List Sh} {s : Sh} {i : Nat} (h : ss[i]? = some s) : ixD (encSs ss) (.int (i : Int)) = some (encS s) := ixD_ln (by rw [List.getElem?_map, h]; rfl)
theorem ixP {ss : List Mv} {s : Mv} {i : Nat} (h : ss[i]? = some s) : ixD (encP ss) (.int (i : Int)) = some (encM s) := ixD_ln (by rw [List.getElem?_map, h]; rfl)
@[simp] theorem eqD_int {i j : Int} : eqD (.int i) (.int j) = some (.bool (decide (i = j))) := by
  show (if SeqAt.shaped (.int i) = true ∧ SeqAt.shaped (.int j) = true then some (PyData.bool (i == j)) else none) = _
  rw [if_pos ⟨rfl, rfl⟩]
  congr 2
@[simp] theorem neD_int {i j : Int} : neD (.int i) (.int j) = some (.bool (!decide (i = j))) := by
  show (if SeqAt.shaped (.int i) = true ∧ SeqAt.shaped (.int j) = true then some (PyData.bool (!(i == j))) else none) = _
  rw [if_pos ⟨rfl, rfl⟩]
  congr 3
/-! depth_at -/
def depthAt (h : Hb) (n : Int) : Int := h.dp.getD (n % (h.dp.length : Int)).toNat 0
def w_depth_at : WS := (wSeq2 (wAsg (w2 ixD (wVarV 0) (wC (.int 0))) (wName 2))
    (wRet (w2 ixD (wVarV 2) (w2 modI (wVarV 1) (wN (on1 lenD) (wCons (wVarV 2) wNil))))))
def C_depth_at : Ct := fun ds Q => ∃ (h : Hb) (n : Int), ds = [encH h, .int n] ∧ 0 < h.dp.length ∧ Q (.int (depthAt h n))
theorem c_depth_at : ∀ ds Q, C_depth_at ds Q → ds.length = 2 := by
  rintro ds Q ⟨_, _, rfl, _⟩
  rfl
theorem p_depth_at : ∀ ds Q, C_depth_at ds Q → w_depth_at (endV Q) (startS 3 ds) := by
  rintro ds Q ⟨h, n, rfl, hp, q⟩
  have hm := Int.emod_nonneg n (b := (h.dp.length : Int)) (by omega)
  have hl := Int.emod_lt_of_pos n (b := (h.dp.length : Int)) (by omega)
  have e := ixD_int (l := h.dp) hm hl
  have e2 : modOk n (h.dp.length : Int) = true := decide_eq_true (by omega)
  simp only [w_depth_at, startS_2, unS_s, unS_0]
  walk_at "vl"
  simp only [ixH0, wO_some, List.length_map, lenD_l, opI_int, e2, if_true, e]
  exact q
/-! ways to go on -/
theorem wIfS_b {t : WT} {a b : WS} {W : WD} {S : Ss} (c : Bool) (hc : ∀ Q : Bool → Ss → Prop, Q c S → t S Q) (h1 : c = true → a W S) (h2 : c = false → b W S) : wIfS t a b W S := hc _ (by
  cases c with
  | true => exact h1 rfl
  | false => exact h2 rfl)
theorem wSeq_if {t : WT} {a b r : WS} {W : WD} {S : Ss} (c : Bool) (hc : ∀ Q : Bool → Ss → Prop, Q c S → t S Q) (h1 : c = true → a { W with nx := fun S' => r W S' } S) (h2 : c = false → b { W with nx := fun S' => r W S' } S) : wSeq2 (wIfS t a b) r W S := wIfS_b c hc h1 h2
theorem wSeq_step {t r : WS} {W : WD} {S : Ss} (S' : Ss) (h : ∀ R : Ss → Prop, R S' → t { W with nx := R } S) (k : r W S') : wSeq2 t r W S := h _ k
theorem or_q {Q : Bool → Ss → Prop} {a b : Bool} {S : Ss} (q : Q (a || b) S) : if a = true then Q true S else Q b S := by
  cases a <;> exact q
theorem and_q {Q : Bool → Ss → Prop} {a b : Bool} {S : Ss} (q : Q (a && b) S) : if a = true then Q b S else Q false S := by
  cases a <;> exact q
theorem wSeq_if1 {t : WT} {a r : WS} {W : WD} {S : Ss} (c : Bool) (hc : ∀ Q : Bool → Ss → Prop, Q c S → t S Q) (h1 : c = true → a { W with nx := fun S' => r W S' } S) (h2 : c = false → r W S) : wSeq2 (wIfS t a wNx) r W S := wIfS_b c hc h1 h2
theorem wMap_map {α : Type} {wg : WG} {wt : WT} {we : WE} {vs : List Nat} {Q : PyData → Ss → Prop} {S : Ss} (l : List α) (enc : α → PyData) (p : α → Bool) (g : α → PyData)
    (h : ∀ (i : Nat) a, l[i]? = some a → ∀ N1 N2, (p a = true → N1 (g a) S) → (p a = false → N2 S) → wTurn wg wt we vs (enc a) S N1 N2) (q : Q (.list ((l.filter p).map g)) S) : wMap wg wt we vs Q (l.map enc) [] S := by
  have go : ∀ (l : List α) (acc : List PyData), (∀ a ∈ l, ∀ N1 N2, (p a = true → N1 (g a) S) → (p a = false → N2 S) → wTurn wg wt we vs (enc a) S N1 N2) → Q (.list (acc ++ (l.filter p).map g)) S → wMap wg wt we vs Q (l.map enc) acc S := by
    intro l
    induction l with
    | nil =>
      intro acc _ q
      rw [List.filter_nil, List.map_nil, List.append_nil] at q
      exact q
    | cons d r ih =>
      intro acc h q
      refine h d List.mem_cons_self (fun e S' => wMap wg wt we vs Q (r.map enc) (acc ++ [e]) S') (fun S' => wMap wg wt we vs Q (r.map enc) acc S') (fun hp => ?_) fun hp => ?_
      · refine ih _ (fun x hx => h x (List.mem_cons_of_mem _ hx)) ?_
        rw [List.filter_cons, if_pos hp, List.map_cons] at q
        rw [List.append_assoc]
        exact q
      · refine ih _ (fun x hx => h x (List.mem_cons_of_mem _ hx)) ?_
        rw [List.filter_cons, if_neg (by rw [hp]; exact Bool.false_ne_true)] at q
        exact q
  refine go l [] (fun a ha => ?_) (by simpa using q)
  obtain ⟨i, hi, he⟩ := List.getElem_of_mem ha
  exact h i a (by rw [List.getElem?_eq_getElem hi, he])
theorem wMap_all {α : Type} {wg : WG} {wt : WT} {we : WE} {vs : List Nat} {Q : PyData → Ss → Prop} {S : Ss} (l : List α) (enc : α → PyData) (g : α → PyData)
    (h : ∀ (i : Nat) a, l[i]? = some a → ∀ N1 N2, N1 (g a) S → wTurn wg wt we vs (enc a) S N1 N2) (q : Q (.list (l.map g)) S) : wMap wg wt we vs Q (l.map enc) [] S :=
  wMap_map l enc (fun _ => true) g (fun i a ha N1 N2 h1 _ => h i a ha N1 N2 (h1 rfl)) (by rw [List.filter_eq_self.mpr fun _ _ => rfl]; exact q)
theorem wLoop_map {α : Type} {wg : WG} {wb : WS} {W : WD} {S : Ss} (l : List α) (enc : α → PyData) (I : Nat → Ss → Prop) (h0 : I 0 S)
    (hs : ∀ i a S' (N : Ss → Prop), l[i]? = some a → I i S' → (∀ S, I (i + 1) S → N S) → wg (enc a) S' fun S1 => wb { W with nx := N, ct := N, bk := W.nx } S1) (hd : ∀ S', I l.length S' → W.nx S') : wLoop wg wb W (l.map enc) S :=
  wLoop_inv I h0 (fun i d S' N hd hI hN => by
    rw [List.getElem?_map] at hd
    obtain ⟨a, ha, rfl⟩ := Option.map_eq_some_iff.mp hd
    exact hs i a S' N ha hI hN) fun S' hI => hd S' (by rw [List.length_map] at hI; exact hI)
theorem enumD_map {α : Type} {l : List α} {enc : α → PyData} : enumD (l.map enc) = (List.range l.length).map fun i => .tuple [.int (i : Nat), (l.map enc).getD i .none] := by
  unfold enumD
  rw [List.length_map]
theorem getD_map {α : Type} {l : List α} {enc : α → PyData} {i : Nat} {a : α} (h : l[i]? = some a) : (l.map enc).getD i .none = enc a := by
  rw [List.getD_eq_getElem?_getD, List.getElem?_map, h]
  rfl
theorem wipeS_nil {S : Ss} : wipeS S [] = S := rfl
theorem wipeS_cons {S : Ss} {v : Nat} {vs : List Nat} : wipeS S (v :: vs) = (wipeS S vs).set v .un := rfl
@[simp] theorem seqP {p : List Mv} : seqD (encP p) = some (p.map encM) := rfl
@[simp] theorem lstP {p : List Mv} : lstD (encP p) = some (p.map encM) := rfl
@[simp] theorem seqSs {p : List Sh} : seqD (encSs p) = some (p.map encS) := rfl
@[simp] theorem lenP {p : List Mv} : lenD (encP p) = some (.int (p.length : Int)) := by
  show some (PyData.int ((p.map encM).length : Int)) = _
  rw [List.length_map]
@[simp] theorem lenSs {p : List Sh} : lenD (encSs p) = some (.int (p.length : Int)) := by
  show some (PyData.int ((p.map encS).length : Int)) = _
  rw [List.length_map]
theorem cutP {p : List Mv} {n : Nat} : cutG (encP p) none (some (n : Int)) = some (encP (p.take n)) := by
  show some (PyData.list (Tw.cutD (p.map encM) none (some (n : Int)))) = _
  rw [Tw.cut_to, ← List.map_take]
  rfl
theorem cutP' {p : List Mv} {n : Nat} : cutO (encP p) none (some (n : Int)) = some (encP (p.take n)) := by
  show some (PyData.list (Tw.cutD (p.map encM) none (some (n : Int)))) = _
  rw [Tw.cut_to, ← List.map_take]
  rfl
@[simp] theorem in2 {n a b : Int} : inGD false (.int n) (.tuple [.int a, .int b]) = some (.bool (decide (n = a) || decide (n = b))) := by
  show some (PyData.bool (inV (.int n) [.int a, .int b])) = _
  congr 2
  show ((a == n) || ((b == n) || false)) = _
  rw [Bool.or_false]
  congr 1
  · exact decide_eq_decide.mpr ⟨fun h => h.symm, fun h => h.symm⟩
  · exact decide_eq_decide.mpr ⟨fun h => h.symm, fun h => h.symm⟩
theorem rng1 {n : Int} (h0 : 0 ≤ n) (h1 : n ≤ 1000000) : rng1A [.int n] = some (rngD 0 n.toNat) := by
  show (if 1 = 1 then rngA [.int n] else none) = _
  rw [if_pos rfl]
  show (if -(2 ^ 62) ≤ n ∧ n < 2 ^ 62 then some (rngD 0 n.toNat) else none) = _
  rw [if_pos (by omega)]
theorem rng2 {a n : Int} (h0 : -1000000 ≤ a) (h1 : a ≤ 1000000) (h2 : -1000000 ≤ n) (h3 : n ≤ 1000000) : rng2A [.int a, .int n] = some (rngD a (n - a).toNat) := by
  show (if 2 = 2 then rngA [.int a, .int n] else none) = _
  rw [if_pos rfl]
  show (if -(2 ^ 62) ≤ a ∧ a < 2 ^ 62 ∧ -(2 ^ 62) ≤ n ∧ n < 2 ^ 62 then some (rngD a (n - a).toNat) else none) = _
  rw [if_pos (by omega)]
theorem rngN {n : Nat} : rngD 0 n = (List.range n).map fun i => .int (i : Nat) := by
  unfold rngD
  congr 1
  funext i
  rw [Int.zero_add]
/-! _share_hour, _wrong_with, _movers -/
def share (x y : Mv) : Bool := decide (x.b = y.b) && (decide (x.a ≤ y.o) && decide (y.a ≤ x.o))
def wEarly (s : Sh) (m : Mv) : Bool := decide (m.a < s.r) || decide (m.o - m.a < s.st + 1)
def wLate (h : Hb) (m : Mv) : Bool := decide (h.last < m.o)
def wBerth (h : Hb) (s : Sh) (m : Mv) : Bool := !(decide (0 ≤ m.b) && decide (m.b < (h.be.length : Int))) || decide (h.be.getD m.b.toNat 0 < s.le)
def wDepth (h : Hb) (s : Sh) (m : Mv) : Bool := decide (depthAt h m.a < s.dr) || decide (depthAt h m.o < s.dr)
def wordOf (h : Hb) (s : Sh) (m : Mv) (before : List Mv) : PyData :=
  cond (wEarly s m) (.str "early") (cond (wLate h m) (.str "late") (cond (wBerth h s m) (.str "berth") (cond (wDepth h s m) (.str "depth") (cond (before.any (share m)) (.str "taken") .none))))
def mov (p : List Mv) (n : Int) (i : Nat) : Bool := match p[i]? with
  | some m => decide (n = m.a) || decide (n = m.o)
  | none => false
def movers (p : List Mv) (n : Int) : List Nat := (List.range p.length).filter (mov p n)
def C__share_hour : Ct := fun ds Q => ∃ x y : Mv, ds = [encM x, encM y] ∧ Q (.bool (share x y))
def C__wrong_with : Ct := fun ds Q => ∃ (h : Hb) (ss : List Sh) (p : List Mv) (i : Nat) (s : Sh) (m : Mv), ds = [encH h, encSs ss, encP p, .int (i : Nat)] ∧ 0 < h.dp.length ∧ ss[i]? = some s ∧ p[i]? = some m ∧ p.length ≤ 1000 ∧ Q (wordOf h s m (p.take i))
def C__movers : Ct := fun ds Q => ∃ (p : List Mv) (n : Int), ds = [encP p, .int n] ∧ p.length ≤ 1000 ∧ Q (.list ((movers p n).map fun i => .int (i : Nat)))
def w__share_hour : WS := (wRet (wAndV (w2 eqD (w2 ixD (wVarV 0) (wC (.int 1))) (w2 ixD (wVarV 1) (wC (.int 1)))) (wAndV (w2 leB (w2 ixD (wVarV 0) (wC (.int 0))) (w2 ixD (wVarV 1) (wC (.int 2)))) (w2 leB (w2 ixD (wVarV 1) (wC (.int 0))) (w2 ixD (wVarV 0) (wC (.int 2)))))))
theorem c__share_hour : ∀ ds Q, C__share_hour ds Q → ds.length = 2 := by
  rintro ds Q ⟨_, _, rfl, _⟩
  rfl
theorem p__share_hour : ∀ ds Q, C__share_hour ds Q → w__share_hour (endV Q) (startS 2 ds) := by
  rintro ds Q ⟨x, y, rfl, q⟩
  simp only [w__share_hour, startS_2, unS_s, unS_0]
  walk_at "vl"
  simp only [ixM0, ixM1, ixM2, wO_some, eqD_int, boolD_bool, opB_int]
  show if decide (x.b = y.b) = true then if decide (x.a ≤ y.o) = true then Q _ else Q _ else Q _
  unfold share at q
  cases h1 : decide (x.b = y.b) <;> rw [h1] at q
  · exact q
  · cases h2 : decide (x.a ≤ y.o) <;> rw [h2] at q
    · exact q
    · exact q
def w__wrong_with : WS := (wSeq2 (wAsg (wVar 0) (wgTup 5 (wgCons (wName 4) (wgCons (wName 5) (wgCons (wName 4) (wgCons (wName 4) (wgCons (wName 6) wgNil)))))))
    (wSeq2 (wAsg (w2 ixD (wVarV 1) (wVarV 3)) (wgTup 7 (wgCons (wName 7) (wgCons (wName 8) (wgCons (wName 9) (wgCons (wName 10) (wgCons (wName 4) (wgCons (wName 4) (wgCons (wName 4) wgNil)))))))))
    (wSeq2 (wAsg (w2 ixD (wVarV 2) (wVarV 3)) (wgTup 3 (wgCons (wName 11) (wgCons (wName 12) (wgCons (wName 13) wgNil)))))
    (wSeq2 (wIfS (wOr (wTst (w2 ltB (wVarV 11) (wVarV 7))) (wTst (w2 ltB (w2 subI (wVarV 13) (wVarV 11)) (w2 addD (wVarV 10) (wC (.int 1)))))) (wRet (wC (.str (Str.ofString "early")))) wNx)
    (wSeq2 (wIfS (wTst (w2 gtB (wVarV 13) (wVarV 6))) (wRet (wC (.str (Str.ofString "late")))) wNx)
    (wSeq2 (wIfS (wOr (wNot (wTst (w3 leB ltB (wC (.int 0)) (wVarV 12) (wN (on1 lenD) (wCons (wVarV 5) wNil))))) (wTst (w2 ltB (w2 ixD (wVarV 5) (wVarV 12)) (wVarV 8)))) (wRet (wC (.str (Str.ofString "berth")))) wNx)
    (wSeq2 (wIfS (wOr (wTst (w2 ltB (wCall C_depth_at (wCons (wVar 0) (wCons (wVar 11) wNil))) (wVarV 9))) (wTst (w2 ltB (wCall C_depth_at (wCons (wVar 0) (wCons (wVar 13) wNil))) (wVarV 9)))) (wRet (wC (.str (Str.ofString "depth")))) wNx)
    (wSeq2 (wIfS (wTst (wN (on1 anyD) (wCons (wLc (wSeq (wSl (wVarV 2) wNoP (wPart (wVar 3)))) (wName 14) wYes (wCall C__share_hour (wCons (w2 ixD (wVarV 2) (wVarV 3)) (wCons (wVar 14) wNil))) [14]) wNil))) (wRet (wC (.str (Str.ofString "taken")))) wNx)
    (wRet (wC .none))))))))))
theorem c__wrong_with : ∀ ds Q, C__wrong_with ds Q → ds.length = 4 := by
  rintro ds Q ⟨_, _, _, _, _, _, rfl, _⟩
  rfl
theorem p__wrong_with : ∀ ds Q, C__wrong_with ds Q → w__wrong_with (endV Q) (startS 15 ds) := by
  rintro ds Q ⟨h, ss, p, i, s, m, rfl, hp, hs, hm, hl, q⟩
  have dep : ∀ n S Q, Q (.int (depthAt h n)) S → wCall C_depth_at (fun S Q => Q [encH h, .int n] S) S Q := fun n S Q q => ⟨h, n, rfl, hp, q⟩
  simp only [w__wrong_with, startS_4, unS_s, unS_0]
  refine wSeq_step _ (fun R hR => by walk_at "vl"; simp only [tupH, wO_some]; walk_at "vl"; exact hR) ?_
  refine wSeq_step _ (fun R hR => by walk_at "vl"; simp only [ixSs hs, tupS, wO_some]; walk_at "vl"; exact hR) ?_
  refine wSeq_step _ (fun R hR => by walk_at "vl"; simp only [ixP hm, tupM, wO_some]; walk_at "vl"; exact hR) ?_
  refine wSeq_if1 (wEarly s m) (fun Q q => by walk_at "vl"; exact or_q q) (fun h1 => ?_) fun h1 => ?_
  · unfold wordOf at q
    rw [h1] at q
    exact q
  refine wSeq_if1 (wLate h m) (fun Q q => by walk_at "vl"; exact q) (fun h2 => ?_) fun h2 => ?_
  · unfold wordOf at q
    rw [h1, h2] at q
    exact q
  refine wSeq_if1 (wBerth h s m) (fun Q q => ?_) (fun h3 => ?_) fun h3 => ?_
  · walk_at "vl"
    have hlen : ((h.be.map PyData.int).length : Int) = h.be.length := by rw [List.length_map]
    rw [hlen]
    unfold wBerth at q
    by_cases c1 : 0 ≤ m.b
    · by_cases c2 : m.b < (h.be.length : Int)
      · simp only [decide_eq_true c1, decide_eq_true c2, Bool.not_true, Bool.false_eq_true, if_true, if_false, Bool.and_self, Bool.false_or] at q ⊢
        rw [ixD_int c1 c2]
        walk_at "vl"
        exact q
      · simp only [decide_eq_true c1, decide_eq_false c2, Bool.not_false, if_true, Bool.and_false, Bool.true_or] at q ⊢
        exact q
    · simp only [decide_eq_false c1, Bool.false_and, Bool.not_false, Bool.true_or, Bool.false_eq_true, if_false] at q ⊢
      exact q
  · unfold wordOf at q
    rw [h1, h2, h3] at q
    exact q
  refine wSeq_if1 (wDepth h s m) (fun Q q => ?_) (fun h4 => ?_) fun h4 => ?_
  · walk_at "vl"
    refine ⟨h, m.a, rfl, hp, ?_⟩
    walk_at "vl"
    unfold wDepth at q
    cases z : decide (depthAt h m.a < s.dr) <;> rw [z] at q
    · refine ⟨h, m.o, rfl, hp, ?_⟩
      walk_at "vl"
      exact q
    · exact q
  · unfold wordOf at q
    rw [h1, h2, h3, h4] at q
    exact q
  refine wSeq_if1 ((p.take i).any (share m)) (fun Q q => ?_) (fun h5 => ?_) fun h5 => ?_
  · walk_at "vl"
    refine ⟨_, cutP', ?_⟩
    walk_at "vl"
    simp only [seqP, wO_some, wipeS_nil, wipeS_cons]
    walk_at "vl"
    refine ⟨by rw [List.length_map, List.length_take]; omega, wMap_all (p.take i) encM (fun o => .bool (share m o)) (fun j o hj N1 N2 h1 => ?_) ?_⟩
    · unfold wTurn
      walk_at "vl"
      simp only [ixP hm, wO_some]
      refine ⟨m, o, rfl, ?_⟩
      simp only [wipeS_nil, wipeS_cons]
      walk_at "vl"
      exact h1
    · have e : ((p.take i).map fun o => PyData.bool (share m o)) = ((p.take i).map (share m)).map .bool := by rw [List.map_map]; rfl
      rw [e, anyD_bools, List.any_map]
      walk_at "vl"
      exact q
  · unfold wordOf at q
    rw [h1, h2, h3, h4, h5] at q
    exact q
  · unfold wordOf at q
    rw [h1, h2, h3, h4, h5] at q
    exact q
def w__movers : WS := (wRet (wLc (wIt enumA (wCons (wVarV 0) wNil)) (wgTup 2 (wgCons (wName 2) (wgCons (wgTup 3 (wgCons (wName 3) (wgCons (wName 4) (wgCons (wName 5) wgNil)))) wgNil))) (wTst (w2 (inGD false) (wVarV 1) (wTup (wCons (wVar 3) (wCons (wVar 5) wNil))))) (wVar 2) [2, 3, 4, 5]))
theorem c__movers : ∀ ds Q, C__movers ds Q → ds.length = 2 := by
  rintro ds Q ⟨_, _, rfl, _⟩
  rfl
theorem p__movers : ∀ ds Q, C__movers ds Q → w__movers (endV Q) (startS 6 ds) := by
  rintro ds Q ⟨p, n, rfl, hl, q⟩
  simp only [w__movers, startS_2, unS_s, unS_0]
  walk_at "vl"
  refine ⟨enumD (p.map encM), rfl, by rw [enumD_map, List.length_map, List.length_range]; omega, ?_⟩
  simp only [wipeS_nil, wipeS_cons]
  walk_at "vl"
  rw [enumD_map]
  refine wMap_map (List.range p.length) _ (mov p n) (fun i => .int (i : Nat)) (fun j i hj N1 N2 h1 h2 => ?_) q
  obtain ⟨hj1, hj2⟩ := List.getElem?_eq_some_iff.mp hj
  rw [List.getElem_range] at hj2
  subst hj2
  rw [List.length_range] at hj1
  have hm : p[j]? = some p[j] := List.getElem?_eq_getElem hj1
  unfold wTurn
  rw [getD_map hm]
  walk_at "vl"
  simp only [tupM, wO_some]
  walk_at "vl"
  simp only [in2, wO_some]
  walk_at "vl"
  simp only [wipeS_nil, wipeS_cons]
  walk_at "vl"
  unfold mov at h1 h2
  rw [hm] at h1 h2
  cases z : (decide (n = p[j].a) || decide (n = p[j].o)) with
  | true => exact h1 z
  | false => exact h2 z
end PL

set_option Elab.async false
set_option linter.all false
set_option maxRecDepth 100000
set_option maxHeartbeats 4000000
open PySem PySem.Spec PyProof.Rows L2 Evl Tw VL
/-! what a written piece does, spelled out over a state that is known -/
local macro_rules | `(tactic| walk_at "vl") => `(tactic| simp only [wSeq2, wAsg, wAsgO, wVarV, wVar, wMove, wC, wName, wRet, wRetO, wN, wCons, wNil, w2, w1, w3, wTup, wLst, wTst, wTru, wAnd, wOr, wNot, wYes, wIf, wIfS, wAndV, wOrV, wNotV, wSlG, wSl, wPart, wNoP, wLc, wSeq, wIt, wgTup, wgCons, wgNil, wDrop, wApp, wAug, wSetI, wFor, wNx, wBk, wCt, wCall, wCallL, wCallP, wIsi, wRIn, on1_one, on2_two, lenD_l, lenD_t, toIntD_i, toIntD_b, toTupD_l, negD_i, absD_i, boolD_bool, intD_int, seqD_l, seqD_t, lstD_l, tupD_t, opB_int, opI_int, addD_i, yes2_is, wO_some, if_true, if_false, reduceIte, reduceCtorEq,
  List.getElem?_cons_zero, List.getElem?_cons_succ, List.set_cons_zero, List.set_cons_succ, List.length_cons, List.length_nil, List.map_cons, List.map_nil, List.append_nil, List.nil_append, List.cons_append, Nat.reduceAdd, Nat.reduceSub, Nat.reduceLeDiff, Nat.reduceLT, true_and, and_true, Bool.not_true, Bool.not_false, Option.some.injEq, exists_eq_left', exists_eq_left, Bool.false_eq_true, decide_true, decide_false])
namespace PL
theorem find_at {α : Type} {c : α → Bool} {l : List α} {i : Nat} {x : α} (hi : l[i]? = some x) (h : ∀ y ∈ l.take i, c y = false) (hc : c x = true) : l.find? c = some x := by
  have e : l = l.take i ++ x :: l.drop (i + 1) := by
    have h1 : i < l.length := (List.getElem?_eq_some_iff.mp hi).1
    have h2 : l[i] = x := (List.getElem?_eq_some_iff.mp hi).2
    rw [← h2, ← List.drop_eq_getElem_cons h1, List.take_append_drop]
  rw [e, List.find?_append, List.find?_eq_none.mpr fun y hy => by rw [h y hy]; exact Bool.false_ne_true, List.find?_cons, hc]
  rfl
theorem take_false {α : Type} {c : α → Bool} {l : List α} {i : Nat} {x : α} (hi : l[i]? = some x) (h : ∀ y ∈ l.take i, c y = false) (hc : c x = false) : ∀ y ∈ l.take (i + 1), c y = false := by
  intro y hy
  rw [take_one hi] at hy
  rcases List.mem_append.mp hy with hy | hy
  · exact h y hy
  · cases List.mem_singleton.mp hy
    exact hc
/-- a loop that looks for something and returns -/
theorem wLoop_find {α β : Type} {wg : WG} {wb : WS} {W : WD} (l : List α) (enc : α → PyData) (f : β → Ss) (c : α → Bool) (r : α → PyData) {x0 : β}
    (hs : ∀ (i : Nat) a x (N : Ss → Prop), l[i]? = some a → (c a = true → W.rt (r a)) → (c a = false → ∀ x', N (f x')) → wg (enc a) (f x) fun S1 => wb { W with nx := N, ct := N, bk := W.nx } S1)
    (hf : ∀ a, l.find? c = some a → W.rt (r a)) (hn : l.find? c = none → ∀ x, W.nx (f x)) : wLoop wg wb W (l.map enc) (f x0) := by
  refine wLoop_map l enc (fun i S' => (∃ x, S' = f x) ∧ ∀ y ∈ l.take i, c y = false) ⟨⟨x0, rfl⟩, fun y hy => by rw [List.take_zero] at hy; cases hy⟩ ?_ ?_
  · rintro i a S' N ha ⟨⟨x, rfl⟩, ht⟩ hN
    exact hs i a x N ha (fun hc => hf a (find_at ha ht hc)) fun hc x' => hN _ ⟨⟨x', rfl⟩, take_false ha ht hc⟩
  · rintro S' ⟨⟨x, rfl⟩, ht⟩
    rw [List.take_length] at ht
    exact hn (List.find?_eq_none.mpr fun y hy => by rw [ht y hy]; exact Bool.false_ne_true) x
def tuAt (ss : List Sh) (i : Nat) : Int := match ss[i]? with
  | some s => s.tu
  | none => 0
def sumT (ss : List Sh) (p : List Mv) (n : Int) : Int := ((movers p n).map (tuAt ss)).sum
def tooT (h : Hb) (ss : List Sh) (p : List Mv) (n : Int) : Bool := decide (h.tugs < sumT ss p n)
def tooP (h : Hb) (p : List Mv) (n : Int) : Bool := decide (h.pil < ((movers p n).length : Int))
def hoursOf (p : List Mv) : List Int := asc (p.map (·.a) ++ p.map (·.o))
def together (h : Hb) (ss : List Sh) (p : List Mv) : PyData := match (hoursOf p).find? (tooT h ss p) with
  | some n => .tuple [.str "tugs", .int n]
  | none => match (hoursOf p).find? (tooP h p) with
    | some n => .tuple [.str "pilots", .int n]
    | none => .none
def wordAt (h : Hb) (ss : List Sh) (p : List Mv) (i : Nat) : PyData := match ss[i]?, p[i]? with
  | some s, some m => wordOf h s m (p.take i)
  | _, _ => .none
def bad (h : Hb) (ss : List Sh) (p : List Mv) (i : Nat) : Bool := !isN (wordAt h ss p i)
def wrongIn (h : Hb) (ss : List Sh) (p : List Mv) : PyData := match (List.range ss.length).find? (bad h ss p) with
  | some i => .tuple [wordAt h ss p i, .int (i : Nat)]
  | none => together h ss p
def C__wrong_together : Ct := fun ds Q => ∃ (h : Hb) (ss : List Sh) (p : List Mv), ds = [encH h, encSs ss, encP p] ∧ p.length = ss.length ∧ p.length ≤ 20 ∧ Q (together h ss p)
def C_wrong_in : Ct := fun ds Q => ∃ (h : Hb) (ss : List Sh) (p : List Mv), ds = [encH h, encSs ss, encP p] ∧ 0 < h.dp.length ∧ p.length = ss.length ∧ p.length ≤ 20 ∧ Q (wrongIn h ss p)
def C_is_plan : Ct := fun ds Q => ∃ (h : Hb) (ss : List Sh) (p : List Mv), ds = [encH h, encSs ss, encP p] ∧ 0 < h.dp.length ∧ p.length = ss.length ∧ p.length ≤ 20 ∧ Q (.bool (isN (wrongIn h ss p)))
def w__wrong_together : WS := (wSeq2 (wAsg (wVar 0) (wgTup 5 (wgCons (wName 3) (wgCons (wName 3) (wgCons (wName 4) (wgCons (wName 5) (wgCons (wName 3) wgNil)))))))
    (wSeq2 (wAsgO (w1 ascD (w2 addD (wLc (wSeq (wVarV 2)) (wgTup 3 (wgCons (wName 7) (wgCons (wName 3) (wgCons (wName 3) wgNil)))) wYes (wVar 7) [7, 3, 3]) (wLc (wSeq (wVarV 2)) (wgTup 3 (wgCons (wName 3) (wgCons (wName 3) (wgCons (wName 8) wgNil)))) wYes (wVar 8) [3, 3, 8]))) 6)
    (wSeq2 (wFor (wSeq (wVar 6)) (wName 9)
      (wIfS (wTst (w2 gtB (wN (on1 sumD) (wCons (wLc (wSeq (wCall C__movers (wCons (wVar 2) (wCons (wVar 9) wNil)))) (wName 10) wYes (w2 ixD (w2 ixD (wVarV 1) (wVarV 10)) (wC (.int 4))) [10]) wNil)) (wVarV 4))) (wRet (wTup (wCons (wC (.str (Str.ofString "tugs"))) (wCons (wVar 9) wNil)))) wNx))
    (wSeq2 (wFor (wSeq (wVar 6)) (wName 9)
      (wIfS (wTst (w2 gtB (wN (on1 lenD) (wCons (wCall C__movers (wCons (wVar 2) (wCons (wVar 9) wNil))) wNil)) (wVarV 5))) (wRet (wTup (wCons (wC (.str (Str.ofString "pilots"))) (wCons (wVar 9) wNil)))) wNx))
    (wRet (wC .none))))))
theorem c__wrong_together : ∀ ds Q, C__wrong_together ds Q → ds.length = 3 := by
  rintro ds Q ⟨_, _, _, rfl, _⟩
  rfl
theorem p__wrong_together : ∀ ds Q, C__wrong_together ds Q → w__wrong_together (endV Q) (startS 11 ds) := by
  rintro ds Q ⟨h, ss, p, rfl, hl, hz, q⟩
  simp only [w__wrong_together, startS_3, unS_s, unS_0]
  refine wSeq_step _ (fun R hR => by walk_at "vl"; simp only [tupH, wO_some]; walk_at "vl"; exact hR) ?_
  refine wSeq_step [.da (encH h), .da (encSs ss), .da (encP p), .un, .da (.int h.tugs), .da (.int h.pil), .ow ((hoursOf p).map .int), .un, .un, .un, .un] (fun R hR => ?_) ?_
  · walk_at "vl"
    simp only [seqP, wO_some, wipeS_nil, wipeS_cons]
    walk_at "vl"
    refine ⟨by rw [List.length_map]; omega, wMap_all p encM (fun m => .int m.a) (fun j m hj N1 N2 h1 => ?_) ?_⟩
    · unfold wTurn
      walk_at "vl"
      simp only [tupM, wO_some]
      walk_at "vl"
      simp only [wipeS_nil, wipeS_cons]
      walk_at "vl"
      exact h1
    refine ⟨_, rfl, by rw [List.length_map]; omega, wMap_all p encM (fun m => .int m.o) (fun j m hj N1 N2 h1 => ?_) ?_⟩
    · unfold wTurn
      walk_at "vl"
      simp only [tupM, wO_some]
      walk_at "vl"
      simp only [wipeS_nil, wipeS_cons]
      walk_at "vl"
      exact h1
    have e1 : (p.map fun m => PyData.int m.a) = (p.map (·.a)).map .int := by rw [List.map_map]; rfl
    have e2 : (p.map fun m => PyData.int m.o) = (p.map (·.o)).map .int := by rw [List.map_map]; rfl
    rw [e1, e2, addD_l (by simp only [List.length_map]; omega), ← List.map_append]
    walk_at "vl"
    rw [ascD_ints (by simp only [List.length_append, List.length_map]; omega)]
    walk_at "vl"
    exact hR
  have loop : ∀ (tt : WT) (word : Str) (c : Int → Bool) (r : WS) (W : WD) (s6 s9 : Sl), (s6 = .ow ((hoursOf p).map .int) ∨ s6 = .da (.list ((hoursOf p).map .int))) →
      (∀ (n : Int) Q, Q (c n) [.da (encH h), .da (encSs ss), .da (encP p), .un, .da (.int h.tugs), .da (.int h.pil), .da (.list ((hoursOf p).map .int)), .un, .un, .da (.int n), .un] → tt [.da (encH h), .da (encSs ss), .da (encP p), .un, .da (.int h.tugs), .da (.int h.pil), .da (.list ((hoursOf p).map .int)), .un, .un, .da (.int n), .un] Q) →
      (∀ n, (hoursOf p).find? c = some n → W.rt (.tuple [.str word, .int n])) →
      ((hoursOf p).find? c = none → ∀ x, r W [.da (encH h), .da (encSs ss), .da (encP p), .un, .da (.int h.tugs), .da (.int h.pil), .da (.list ((hoursOf p).map .int)), .un, .un, x, .un]) →
      wSeq2 (wFor (wSeq (wVar 6)) (wName 9) (wIfS tt (wRet (wTup (wCons (wC (.str word)) (wCons (wVar 9) wNil)))) wNx)) r W [.da (encH h), .da (encSs ss), .da (encP p), .un, .da (.int h.tugs), .da (.int h.pil), s6, .un, .un, s9, .un] := by
    intro tt word c r W s6 s9 h6 ht hf hn
    have e6 : wSeq2 (wFor (wSeq (wVar 6)) (wName 9) (wIfS tt (wRet (wTup (wCons (wC (.str word)) (wCons (wVar 9) wNil)))) wNx)) r W [.da (encH h), .da (encSs ss), .da (encP p), .un, .da (.int h.tugs), .da (.int h.pil), .da (.list ((hoursOf p).map .int)), .un, .un, s9, .un] := by
      refine ⟨_, rfl, ?_⟩
      refine wLoop_find (hoursOf p) .int (fun x => [.da (encH h), .da (encSs ss), .da (encP p), .un, .da (.int h.tugs), .da (.int h.pil), .da (.list ((hoursOf p).map .int)), .un, .un, x, .un]) c (fun n => .tuple [.str word, .int n]) (x0 := s9) (fun i n x N hi h1 h2 => ?_) hf hn
      refine wIfS_b (c n) (fun Q q => ht n Q q) (fun hc => ?_) fun hc => h2 hc _
      exact ⟨by show 2 ≤ 100000; decide, h1 hc⟩
    rcases h6 with rfl | rfl
    · exact e6
    · exact e6
  unfold together at q
  refine loop _ _ (tooT h ss p) _ _ _ _ (.inl rfl) (fun n Q q => ?_) (fun n hn => ?_) fun hn x => ?_
  · walk_at "vl"
    refine ⟨p, n, rfl, by omega, ?_⟩
    walk_at "vl"
    simp only [wipeS_nil, wipeS_cons]
    walk_at "vl"
    refine ⟨by rw [List.length_map]; unfold movers; exact Nat.le_trans (List.length_filter_le _ _) (by rw [List.length_range]; omega), wMap_all (movers p n) (fun i => .int (i : Nat)) (fun i => .int (tuAt ss i)) (fun j i hj N1 N2 h1 => ?_) ?_⟩
    · have hi : i < ss.length := by
        have := List.mem_of_getElem? hj
        unfold movers at this
        have := (List.mem_filter.mp this).1
        rw [List.mem_range] at this
        omega
      have hs : ss[i]? = some ss[i] := List.getElem?_eq_getElem hi
      unfold wTurn
      walk_at "vl"
      simp only [ixSs hs, wO_some, ixS4]
      simp only [wipeS_nil, wipeS_cons]
      walk_at "vl"
      have e : tuAt ss i = ss[i].tu := by
        unfold tuAt
        rw [hs]
      rw [← e]
      exact h1
    · have e1 : ((movers p n).map fun i => PyData.int (tuAt ss i)) = ((movers p n).map (tuAt ss)).map .int := by rw [List.map_map]; rfl
      rw [e1, sumD_ints]
      walk_at "vl"
      exact q
  · rw [hn] at q
    exact q
  rw [hn] at q
  refine loop _ _ (tooP h p) _ _ _ _ (.inr rfl) (fun n Q q => ?_) (fun n hn => ?_) fun hn x => ?_
  · walk_at "vl"
    refine ⟨p, n, rfl, by omega, ?_⟩
    walk_at "vl"
    rw [List.length_map]
    exact q
  · rw [hn] at q
    exact q
  · rw [hn] at q
    exact q
def w_wrong_in : WS := (wSeq2 (wFor (wIt rng1A (wCons (wN (on1 lenD) (wCons (wVarV 1) wNil)) wNil)) (wName 3)
      (wSeq2 (wAsg (wCall C__wrong_with (wCons (wVar 0) (wCons (wVar 1) (wCons (wVar 2) (wCons (wVar 3) wNil))))) (wName 4))
      (wIfS (wTst (w2 notND (wVarV 4) (wC .none))) (wRet (wTup (wCons (wVar 4) (wCons (wVar 3) wNil)))) wNx)))
    (wRet (wCall C__wrong_together (wCons (wVar 0) (wCons (wVar 1) (wCons (wVar 2) wNil))))))
theorem c_wrong_in : ∀ ds Q, C_wrong_in ds Q → ds.length = 3 := by
  rintro ds Q ⟨_, _, _, rfl, _⟩
  rfl
theorem p_wrong_in : ∀ ds Q, C_wrong_in ds Q → w_wrong_in (endV Q) (startS 5 ds) := by
  rintro ds Q ⟨h, ss, p, rfl, hp, hl, hz, q⟩
  simp only [w_wrong_in, startS_3, unS_s, unS_0]
  refine ⟨_, lenSs, _, rng1 (by omega) (by omega), ?_⟩
  rw [rngN]
  unfold wrongIn at q
  refine wLoop_find (List.range ss.length) (fun i => .int (i : Nat)) (fun x : Sl × Sl => [.da (encH h), .da (encSs ss), .da (encP p), x.1, x.2]) (bad h ss p) (fun i => .tuple [wordAt h ss p i, .int (i : Nat)]) (x0 := (.un, .un)) (fun j i x N hj h1 h2 => ?_) (fun i hi => by rw [hi] at q; exact q) fun hn x => ?_
  · obtain ⟨hj1, hj2⟩ := List.getElem?_eq_some_iff.mp hj
    rw [List.getElem_range] at hj2
    subst hj2
    rw [List.length_range] at hj1
    have hs : ss[j]? = some ss[j] := List.getElem?_eq_getElem hj1
    have hm : p[j]? = some (p[j]'(by omega)) := List.getElem?_eq_getElem (by omega)
    refine wSeq_step _ (fun R hR => by walk_at "vl"; exact ⟨h, ss, p, j, _, _, rfl, hp, hs, hm, by omega, hR⟩) ?_
    have e : wordOf h ss[j] (p[j]'(by omega)) (p.take j) = wordAt h ss p j := by
      unfold wordAt
      rw [hs, hm]
    rw [e]
    refine wIfS_b (bad h ss p j) (fun Q q => ?_) (fun hc => ?_) fun hc => h2 hc (_, _)
    · walk_at "vl"
      exact ⟨_, rfl, _, rfl, q⟩
    · walk_at "vl"
      exact h1 hc
  · rw [hn] at q
    walk_at "vl"
    exact ⟨h, ss, p, rfl, hl, hz, q⟩
def w_is_plan : WS := (wRet (w2 isND (wCall C_wrong_in (wCons (wVar 0) (wCons (wVar 1) (wCons (wVar 2) wNil)))) (wC .none)))
theorem c_is_plan : ∀ ds Q, C_is_plan ds Q → ds.length = 3 := by
  rintro ds Q ⟨_, _, _, rfl, _⟩
  rfl
theorem p_is_plan : ∀ ds Q, C_is_plan ds Q → w_is_plan (endV Q) (startS 3 ds) := by
  rintro ds Q ⟨h, ss, p, rfl, hp, hl, hz, q⟩
  simp only [w_is_plan, startS_3, unS_s, unS_0]
  walk_at "vl"
  exact ⟨h, ss, p, rfl, hp, hl, hz, _, rfl, q⟩
end PL

set_option Elab.async false
set_option linter.all false
set_option maxRecDepth 100000
set_option maxHeartbeats 4000000
open PySem PySem.Spec PyProof.Rows L2 Evl Tw VL
namespace PL
theorem subI_i {i j : Int} : subI (.int i) (.int j) = some (.int (i - j)) := rfl
theorem addI_i {i j : Int} : addI (.int i) (.int j) = some (.int (i + j)) := rfl
theorem modI_pos {i j : Int} (h : 0 < j) : modI (.int i) (.int j) = some (.int (i % j)) := if_pos (decide_eq_true h)
theorem divI_pos {i j : Int} (h : 0 < j) (h2 : j < 1073741824) : divI (.int i) (.int j) = some (.int (i / j)) := if_pos (by unfold divOk; rw [decide_eq_true h, decide_eq_true h2]; rfl)
theorem mulI_l {i j : Int} (h : -1000000000 < i) (h2 : i < 1000000000) : mulI (.int i) (.int j) = some (.int (i * j)) := if_pos (by
  unfold mulOk
  rw [decide_eq_true (show -(2 ^ 64) < i by omega), decide_eq_true (show i < 2 ^ 64 by omega)]
  rfl)
theorem mulI_r {i j : Int} (h : -1000000000 < j) (h2 : j < 1000000000) : mulI (.int i) (.int j) = some (.int (i * j)) := if_pos (by
  unfold mulOk
  rw [decide_eq_true (show -(2 ^ 64) < j by omega), decide_eq_true (show j < 2 ^ 64 by omega)]
  exact Bool.or_true _)
theorem lenI {α : Type} {l : List α} {f : α → PyData} : lenD (.list (l.map f)) = some (.int (l.length : Int)) := by
  show some (PyData.int ((l.map f).length : Int)) = _
  rw [List.length_map]
end PL
open PySem PySem.Spec PyProof.Rows L2 Evl Tw VL PL
/-! what a written piece does, spelled out over a state that is known -/
local macro_rules | `(tactic| walk_at "vl") => `(tactic| simp (disch := omega) only [wSeq2, wAsg, wAsgO, wVarV, wVar, wMove, wC, wName, wRet, wRetO, wN, wCons, wNil, w2, w1, w3, wTup, wLst, wTst, wTru, wAnd, wOr, wNot, wYes, wIf, wIfS, wAndV, wOrV, wNotV, wSlG, wSl, wPart, wNoP, wLc, wSeq, wIt, wgTup, wgCons, wgNil, wDrop, wApp, wAug, wSetI, wFor, wNx, wBk, wCt, wCall, wCallL, wCallP, wIsi, wRIn, on1_one, on2_two, lenD_l, lenD_t, toIntD_i, toIntD_b, toTupD_l, negD_i, absD_i, boolD_bool, intD_int, seqD_l, seqD_t, lstD_l, tupD_t, opB_int, addD_i, subI_i, addI_i, modI_pos, divI_pos, mulI_l, mulI_r, ixD_int, rng1, rng2, rngN, wipeS_nil, wipeS_cons, tupH, tupS, tupM, ixH0, ixH1, ixH2, ixH3, ixH4, ixS0, ixS1, ixS2, ixS3, ixS4, ixS5, ixS6, ixM0, ixM1, ixM2, seqP, lstP, seqSs, lenP, lenSs, eqD_int, neD_int, in2, lenI, wO_some, wO_some, if_true, if_false, reduceIte, reduceCtorEq,
  List.getElem?_cons_zero, List.getElem?_cons_succ, List.set_cons_zero, List.set_cons_succ, List.length_cons, List.length_nil, List.map_cons, List.map_nil, List.append_nil, List.nil_append, List.cons_append, Nat.reduceAdd, Nat.reduceSub, Nat.reduceLeDiff, Nat.reduceLT, true_and, and_true, Bool.not_true, Bool.not_false, Option.some.injEq, exists_eq_left', exists_eq_left, Bool.false_eq_true, decide_true, decide_false])
namespace PL
structure HOk (h : Hb) : Prop where
  d1 : 0 < h.dp.length
  d2 : h.dp.length ≤ 12
  db : ∀ x ∈ h.dp, 0 ≤ x ∧ x ≤ 100
  b1 : 0 < h.be.length
  b2 : h.be.length ≤ 2
  bb : ∀ x ∈ h.be, 1 ≤ x ∧ x ≤ 9
  t : 0 ≤ h.tugs ∧ h.tugs ≤ 6
  p : 1 ≤ h.pil ∧ h.pil ≤ 3
  l : 1 ≤ h.last ∧ h.last ≤ 40
structure SOk (s : Sh) : Prop where
  r : 0 ≤ s.r ∧ s.r ≤ 100
  le : 1 ≤ s.le ∧ s.le ≤ 9
  dr : 0 ≤ s.dr ∧ s.dr ≤ 100
  st : 1 ≤ s.st ∧ s.st ≤ 5
  tu : 0 ≤ s.tu ∧ s.tu ≤ 3
  se : 0 ≤ s.se ∧ s.se ≤ 9
  li : 0 ≤ s.li ∧ s.li ≤ 9
/-- as the first drawing gives it: the far one is made of such -/
def HNear (h : Hb) : Prop := HOk h ∧ h.last ≤ 12 ∧ ∀ x ∈ h.dp, x ≤ 40
def SNear (s : Sh) : Prop := SOk s ∧ s.r ≤ 4 ∧ s.dr ≤ 40 ∧ s.st ≤ 3
def C__law_harbour : Ct := fun ds Q => ∃ draws : List Int, ds = [.list (draws.map .int)] ∧ 13 ≤ draws.length ∧ ∀ h, HNear h → Q (encH h)
def C__law_ship : Ct := fun ds Q => ∃ draws : List Int, ds = [.list (draws.map .int)] ∧ 7 ≤ draws.length ∧ ∀ s, SNear s → Q (encS s)
def C__law_ships : Ct := fun ds Q => ∃ (draws : List Int) (most : Int), ds = [.list (draws.map .int), .int most] ∧ 1 + 7 * most ≤ (draws.length : Int) ∧ 1 ≤ most ∧ most ≤ 3 ∧ ∀ ss : List Sh, 0 < ss.length → (ss.length : Int) ≤ most → (∀ s ∈ ss, SNear s) → Q (encSs ss)
def w__law_harbour : WS := (wSeq2 (wAsgO (wLc (wIt rng1A (wCons (w2 addD (wC (.int 1)) (w2 modI (wN (on1 toIntD) (wCons (w2 ixD (wVarV 0) (wC (.int 0))) wNil)) (wC (.int 6)))) wNil)) (wName 2) wYes (w2 addD (wC (.int 2)) (w2 modI (wN (on1 toIntD) (wCons (w2 ixD (wVarV 0) (w2 addD (wC (.int 1)) (wVarV 2))) wNil)) (wC (.int 7)))) [2]) 1)
    (wSeq2 (wAsgO (wLc (wIt rng1A (wCons (w2 addD (wC (.int 1)) (w2 modI (wN (on1 toIntD) (wCons (w2 ixD (wVarV 0) (wC (.int 9))) wNil)) (wC (.int 2)))) wNil)) (wName 2) wYes (w2 addD (wC (.int 3)) (w2 modI (wN (on1 toIntD) (wCons (w2 ixD (wVarV 0) (w2 addD (wC (.int 7)) (wVarV 2))) wNil)) (wC (.int 5)))) [2]) 3)
    (wRet (wTup (wCons (wVar 1) (wCons (wVar 3) (wCons (w2 modI (wN (on1 toIntD) (wCons (w2 ixD (wVarV 0) (wC (.int 10))) wNil)) (wC (.int 5))) (wCons (w2 addD (wC (.int 1)) (w2 modI (wN (on1 toIntD) (wCons (w2 ixD (wVarV 0) (wC (.int 11))) wNil)) (wC (.int 3)))) (wCons (w2 addD (wC (.int 4)) (w2 modI (wN (on1 toIntD) (wCons (w2 ixD (wVarV 0) (wC (.int 12))) wNil)) (wC (.int 9)))) wNil)))))))))
theorem c__law_harbour : ∀ ds Q, C__law_harbour ds Q → ds.length = 1 := by
  rintro ds Q ⟨_, rfl, _⟩
  rfl
theorem p__law_harbour : ∀ ds Q, C__law_harbour ds Q → w__law_harbour (endV Q) (startS 4 ds) := by
  rintro ds Q ⟨draws, rfl, hl, q⟩
  simp only [w__law_harbour, startS_1, unS_s, unS_0]
  refine wSeq_step [.da (.list (draws.map .int)), .ow (((List.range (1 + draws.getD (Int.toNat 0) 0 % 6).toNat).map fun i => 2 + draws.getD ((1 : Int) + (i : Nat)).toNat 0 % 7).map .int), .un, .un] (fun R hR => ?_) ?_
  · walk_at "vl"
    refine ⟨by rw [List.length_map, List.length_range]; omega, wMap_all _ _ (fun i : Nat => .int (2 + draws.getD ((1 : Int) + (i : Nat)).toNat 0 % 7)) (fun j i hj N1 N2 h1 => ?_) ?_⟩
    · have hi : i < (1 + draws.getD (Int.toNat 0) 0 % 6).toNat := List.mem_range.mp (List.mem_of_getElem? hj)
      unfold wTurn
      walk_at "vl"
      exact h1
    · walk_at "vl"
      rw [List.map_map] at hR
      exact hR
  refine wSeq_step [.da (.list (draws.map .int)), .ow (((List.range (1 + draws.getD (Int.toNat 0) 0 % 6).toNat).map fun i => 2 + draws.getD ((1 : Int) + (i : Nat)).toNat 0 % 7).map .int), .un, .ow (((List.range (1 + draws.getD (Int.toNat 9) 0 % 2).toNat).map fun i => 3 + draws.getD ((7 : Int) + (i : Nat)).toNat 0 % 5).map .int)] (fun R hR => ?_) ?_
  · walk_at "vl"
    refine ⟨by rw [List.length_map, List.length_range]; omega, wMap_all _ _ (fun i : Nat => .int (3 + draws.getD ((7 : Int) + (i : Nat)).toNat 0 % 5)) (fun j i hj N1 N2 h1 => ?_) ?_⟩
    · have hi : i < (1 + draws.getD (Int.toNat 9) 0 % 2).toNat := List.mem_range.mp (List.mem_of_getElem? hj)
      unfold wTurn
      walk_at "vl"
      exact h1
    · walk_at "vl"
      rw [List.map_map (l := List.range (1 + draws.getD (Int.toNat 9) 0 % 2).toNat)] at hR
      exact hR
  walk_at "vl"
  refine q ⟨(List.range (1 + draws.getD (Int.toNat 0) 0 % 6).toNat).map fun i => 2 + draws.getD ((1 : Int) + (i : Nat)).toNat 0 % 7, (List.range (1 + draws.getD (Int.toNat 9) 0 % 2).toNat).map fun i => 3 + draws.getD ((7 : Int) + (i : Nat)).toNat 0 % 5, draws.getD (Int.toNat 10) 0 % 5, 1 + draws.getD (Int.toNat 11) 0 % 3, 4 + draws.getD (Int.toNat 12) 0 % 9⟩ ⟨⟨?_, ?_, ?_, ?_, ?_, ?_, ?_, ?_, ?_⟩, ?_, ?_⟩
  · simp only [List.length_map, List.length_range]; omega
  · simp only [List.length_map, List.length_range]; omega
  · intro x hx
    obtain ⟨i, _, rfl⟩ := List.mem_map.mp hx
    omega
  · simp only [List.length_map, List.length_range]; omega
  · simp only [List.length_map, List.length_range]; omega
  · intro x hx
    obtain ⟨i, _, rfl⟩ := List.mem_map.mp hx
    omega
  · show 0 ≤ _ % _ ∧ _ % _ ≤ 6; omega
  · show 1 ≤ 1 + _ % _ ∧ 1 + _ % _ ≤ 3; omega
  · show 1 ≤ 4 + _ % _ ∧ 4 + _ % _ ≤ 40; omega
  · show 4 + _ % _ ≤ 12; omega
  · intro x hx
    obtain ⟨i, _, rfl⟩ := List.mem_map.mp hx
    omega
def w__law_ship : WS := (wSeq2 (wAsgO (wLst (wCons (w2 modI (wN (on1 toIntD) (wCons (w2 ixD (wVarV 0) (wC (.int 0))) wNil)) (wC (.int 5))) (wCons (w2 addD (wC (.int 1)) (w2 modI (wN (on1 toIntD) (wCons (w2 ixD (wVarV 0) (wC (.int 1))) wNil)) (wC (.int 6)))) (wCons (w2 modI (wN (on1 toIntD) (wCons (w2 ixD (wVarV 0) (wC (.int 2))) wNil)) (wC (.int 8))) (wCons (w2 addD (wC (.int 1)) (w2 modI (wN (on1 toIntD) (wCons (w2 ixD (wVarV 0) (wC (.int 3))) wNil)) (wC (.int 3)))) wNil))))) 1)
    (wRet (wN (on1 toTupD) (wCons (w2 addD (wVarV 1) (wLst (wCons (w2 modI (wN (on1 toIntD) (wCons (w2 ixD (wVarV 0) (wC (.int 4))) wNil)) (wC (.int 3))) (wCons (w2 modI (wN (on1 toIntD) (wCons (w2 ixD (wVarV 0) (wC (.int 5))) wNil)) (wC (.int 10))) (wCons (w2 modI (wN (on1 toIntD) (wCons (w2 ixD (wVarV 0) (wC (.int 6))) wNil)) (wC (.int 10))) wNil))))) wNil))))
theorem c__law_ship : ∀ ds Q, C__law_ship ds Q → ds.length = 1 := by
  rintro ds Q ⟨_, rfl, _⟩
  rfl
theorem p__law_ship : ∀ ds Q, C__law_ship ds Q → w__law_ship (endV Q) (startS 2 ds) := by
  rintro ds Q ⟨draws, rfl, hl, q⟩
  simp only [w__law_ship, startS_1, unS_s, unS_0]
  walk_at "vl"
  rw [addD_l (by show 4 + 3 ≤ 100000; decide)]
  walk_at "vl"
  refine q ⟨_, _, _, _, _, _, _⟩ ⟨⟨?_, ?_, ?_, ?_, ?_, ?_, ?_⟩, ?_, ?_, ?_⟩ <;> (simp only []; omega)
def w__law_ships : WS := (wRet (wLc (wIt rng1A (wCons (w2 addD (wC (.int 1)) (w2 modI (wN (on1 toIntD) (wCons (w2 ixD (wVarV 0) (wC (.int 0))) wNil)) (wVarV 1))) wNil)) (wName 2) wYes (wCall C__law_ship (wCons (wSlG (wVarV 0) (wPart (w2 addD (wC (.int 1)) (w2 mulI (wC (.int 7)) (wVarV 2)))) (wPart (w2 addD (wC (.int 8)) (w2 mulI (wC (.int 7)) (wVarV 2))))) wNil)) [2]))
theorem c__law_ships : ∀ ds Q, C__law_ships ds Q → ds.length = 2 := by
  rintro ds Q ⟨_, _, rfl, _⟩
  rfl
theorem cut_ints {l : List Int} {a b : Int} (h0 : 0 ≤ a) (h1 : a ≤ b) (h2 : b ≤ l.length) : ∃ l' : List Int, cutG (.list (l.map .int)) (some a) (some b) = some (.list (l'.map .int)) ∧ (l'.length : Int) = b - a := by
  obtain ⟨x, rfl⟩ := Int.eq_ofNat_of_zero_le h0
  obtain ⟨y, rfl⟩ := Int.eq_ofNat_of_zero_le (Int.le_trans h0 h1)
  refine ⟨(l.drop x).take (y - x), ?_, ?_⟩
  · show some (PyData.list (Tw.cutD (l.map .int) (some (x : Int)) (some (y : Int)))) = _
    unfold Tw.cutD
    rw [sIx_nat', sIx_nat', List.length_map, ← List.map_drop, ← List.map_take]
    have e1 : min x l.length = x := by omega
    have e2 : min y l.length = y := by omega
    rw [e1, e2]
  · rw [List.length_take, List.length_drop]
    omega
theorem p__law_ships : ∀ ds Q, C__law_ships ds Q → w__law_ships (endV Q) (startS 3 ds) := by
  rintro ds Q ⟨draws, most, rfl, hl, h1, h3, q⟩
  simp only [w__law_ships, startS_2, unS_s, unS_0]
  have hm := Int.emod_nonneg (draws.getD (Int.toNat 0) 0) (b := most) (by omega)
  have hm2 := Int.emod_lt_of_pos (draws.getD (Int.toNat 0) 0) (b := most) (by omega)
  walk_at "vl"
  have hlen : (List.range (1 + draws.getD (Int.toNat 0) 0 % most).toNat).length = (1 + draws.getD (Int.toNat 0) 0 % most).toNat := List.length_range
  refine ⟨by rw [List.length_map, hlen]; omega, ?_⟩
  refine wMap_rel (fun _ e => ∃ s, SNear s ∧ e = encS s) (fun d hd N1 N2 hN => ?_) fun es hes => ?_
  · obtain ⟨i, hi, rfl⟩ := List.mem_map.mp hd
    have hi2 := List.mem_range.mp hi
    unfold wTurn
    walk_at "vl"
    obtain ⟨l', e1, e2⟩ := cut_ints (l := draws) (a := 1 + 7 * (i : Nat)) (b := 8 + 7 * (i : Nat)) (by omega) (by omega) (by omega)
    rw [e1]
    walk_at "vl"
    refine ⟨l', rfl, by omega, fun s hs => ?_⟩
    walk_at "vl"
    exact hN _ ⟨s, hs, rfl⟩
  · have key : ∀ es : List PyData, (∀ e ∈ es, ∃ s, SNear s ∧ e = encS s) → ∃ ss : List Sh, es = ss.map encS ∧ ∀ s ∈ ss, SNear s := by
      intro es
      induction es with
      | nil => exact fun _ => ⟨[], rfl, fun s hs => absurd hs List.not_mem_nil⟩
      | cons e r ih =>
        intro h
        obtain ⟨s, hs, rfl⟩ := h e List.mem_cons_self
        obtain ⟨ss, rfl, h2⟩ := ih fun x hx => h x (List.mem_cons_of_mem _ hx)
        exact ⟨s :: ss, rfl, fun x hx => by
          rcases List.mem_cons.mp hx with rfl | hx
          · exact hs
          · exact h2 x hx⟩
    obtain ⟨ss, rfl, h2⟩ := key es fun e he => by
      obtain ⟨d, hd, z⟩ := hes.mem e he
      exact z
    have hl2 := hes.len
    rw [List.length_map, List.length_map, hlen] at hl2
    exact q ss (by omega) (by omega) h2
end PL

set_option Elab.async false
set_option linter.all false
set_option maxRecDepth 100000
set_option maxHeartbeats 4000000
open PySem PySem.Spec PyProof.Rows L2 Evl Tw VL PL
/-! what a written piece does, spelled out over a state that is known -/
local macro_rules | `(tactic| walk_at "vl") => `(tactic| simp (disch := omega) only [wSeq2, wAsg, wAsgO, wVarV, wVar, wMove, wC, wName, wRet, wRetO, wN, wCons, wNil, w2, w1, w3, wTup, wLst, wTst, wTru, wAnd, wOr, wNot, wYes, wIf, wIfS, wAndV, wOrV, wNotV, wSlG, wSl, wPart, wNoP, wLc, wSeq, wIt, wgTup, wgCons, wgNil, wDrop, wApp, wAug, wSetI, wFor, wNx, wBk, wCt, wCall, wCallL, wCallP, wIsi, wRIn, on1_one, on2_two, lenD_l, lenD_t, toIntD_i, toIntD_b, toTupD_l, negD_i, absD_i, boolD_bool, intD_int, seqD_l, seqD_t, lstD_l, tupD_t, opB_int, addD_i, subI_i, addI_i, modI_pos, divI_pos, mulI_l, mulI_r, ixD_int, rng1, rng2, rngN, wipeS_nil, wipeS_cons, tupH, tupS, tupM, ixH0, ixH1, ixH2, ixH3, ixH4, ixS0, ixS1, ixS2, ixS3, ixS4, ixS5, ixS6, ixM0, ixM1, ixM2, seqP, lstP, seqSs, lenP, lenSs, eqD_int, neD_int, in2, lenI, wO_some, wO_some, if_true, if_false, reduceIte, reduceCtorEq,
  List.length_map, List.length_range, List.getElem?_cons_zero, List.getElem?_cons_succ, List.set_cons_zero, List.set_cons_succ, List.length_cons, List.length_nil, List.map_cons, List.map_nil, List.append_nil, List.nil_append, List.cons_append, Nat.reduceAdd, Nat.reduceSub, Nat.reduceLeDiff, Nat.reduceLT, true_and, and_true, Bool.not_true, Bool.not_false, Option.some.injEq, exists_eq_left', exists_eq_left, Bool.false_eq_true, decide_true, decide_false])
namespace PL
theorem flatMap_take {α γ : Type} {l : List α} {g : α → List γ} {i : Nat} {a : α} (h : l[i]? = some a) : (l.take (i + 1)).flatMap g = (l.take i).flatMap g ++ g a := by
  rw [take_one h, List.flatMap_append, List.flatMap_cons, List.flatMap_nil, List.append_nil]
theorem flatMap_le {α γ : Type} {g : α → List γ} : ∀ {l : List α} {i : Nat} {a : α}, l[i]? = some a → ((l.take i).flatMap g).length + (g a).length ≤ (l.flatMap g).length
  | x :: r, 0, a, h => by
    cases h
    rw [List.take_zero, List.flatMap_nil, List.flatMap_cons, List.length_append, List.length_nil]
    omega
  | x :: r, i + 1, a, h => by
    have ih := flatMap_le (g := g) (l := r) (i := i) (a := a) h
    rw [List.take_succ_cons, List.flatMap_cons, List.flatMap_cons, List.length_append, List.length_append]
    omega
/-- a loop that adds to a list of its own -/
theorem wLoop_acc {α β γ : Type} {wg : WG} {wb : WS} {W : WD} (l : List α) (enc : α → PyData) (f : List γ → β → Ss) (g : α → List γ) (acc0 : List γ) (x0 : β)
    (hs : ∀ (i : Nat) a acc x (N : Ss → Prop), l[i]? = some a → acc.length + (g a).length ≤ (acc0 ++ l.flatMap g).length → (∀ x', N (f (acc ++ g a) x')) → wg (enc a) (f acc x) fun S1 => wb { W with nx := N, ct := N, bk := W.nx } S1)
    (hd : ∀ x, W.nx (f (acc0 ++ l.flatMap g) x)) : wLoop wg wb W (l.map enc) (f acc0 x0) := by
  refine wLoop_map l enc (fun i S' => ∃ x, S' = f (acc0 ++ (l.take i).flatMap g) x) ⟨x0, by rw [List.take_zero, List.flatMap_nil, List.append_nil]⟩ ?_ ?_
  · rintro i a S' N ha ⟨x, rfl⟩ hN
    refine hs i a _ x N ha ?_ fun x' => hN _ ⟨x', ?_⟩
    · rw [List.length_append, List.length_append]
      have := flatMap_le (g := g) ha
      omega
    · rw [flatMap_take ha, List.append_assoc]
  · rintro S' ⟨x, rfl⟩
    rw [List.take_length]
    exact hd x
/-! the moves of one ship -/
def deep (h : Hb) (s : Sh) : List Int := ((List.range (h.last + 1).toNat).filter fun n => decide (s.dr ≤ depthAt h (n : Nat))).map fun n => ((n : Nat) : Int)
def okM (h : Hb) (s : Sh) (a o : Int) (b : Nat) : Bool := decide (s.r ≤ a) && (decide (a + s.st < o) && (decide (s.le ≤ h.be.getD b 0) && decide (s.tu ≤ h.tugs)))
def mvs1 (h : Hb) (s : Sh) (a o : Int) : List Mv := (List.range h.be.length).flatMap fun b => if okM h s a o b = true then [⟨a, (b : Nat), o⟩] else []
def mvs2 (h : Hb) (s : Sh) (a : Int) : List Mv := (deep h s).flatMap fun o => mvs1 h s a o
def movesOf (h : Hb) (s : Sh) : List Mv := (deep h s).flatMap fun a => mvs2 h s a
theorem flat_len {α β : Type} {l : List α} {f : α → List β} {c : Nat} (h : ∀ x ∈ l, (f x).length ≤ c) : (l.flatMap f).length ≤ l.length * c := by
  induction l with
  | nil => simp
  | cons a r ih =>
    rw [List.flatMap_cons, List.length_append, List.length_cons, Nat.succ_mul]
    have h1 := h a List.mem_cons_self
    have h2 := ih fun x hx => h x (List.mem_cons_of_mem _ hx)
    omega
theorem deep_len {h : Hb} {s : Sh} (hl : h.last ≤ 60) : (deep h s).length ≤ 61 := by
  unfold deep
  rw [List.length_map]
  refine Nat.le_trans (List.length_filter_le _ _) ?_
  rw [List.length_range]
  omega
theorem mvs1_len {h : Hb} {s : Sh} {a o : Int} (hb : h.be.length ≤ 2) : (mvs1 h s a o).length ≤ 2 := by
  unfold mvs1
  refine Nat.le_trans (flat_len (c := 1) fun b _ => ?_) (by rw [List.length_range]; omega)
  split
  · exact Nat.le_refl 1
  · exact Nat.zero_le 1
theorem moves_len {h : Hb} {s : Sh} (hb : h.be.length ≤ 2) (hl : h.last ≤ 60) : (movesOf h s).length ≤ 8000 := by
  unfold movesOf
  have d := deep_len (s := s) hl
  refine Nat.le_trans (flat_len (c := 122) fun a _ => ?_) (by omega)
  unfold mvs2
  refine Nat.le_trans (flat_len (c := 2) fun o _ => mvs1_len hb) (by omega)
def C__law_moves : Ct := fun ds Q => ∃ (h : Hb) (s : Sh), ds = [encH h, encS s] ∧ 0 < h.dp.length ∧ h.be.length ≤ 2 ∧ 0 ≤ h.last ∧ h.last ≤ 60 ∧ Q (encP (movesOf h s))
theorem c__law_moves : ∀ ds Q, C__law_moves ds Q → ds.length = 2 := by
  rintro ds Q ⟨_, _, rfl, _⟩
  rfl
def w__law_moves : WS := (wSeq2 (wAsg (wVar 0) (wgTup 5 (wgCons (wName 2) (wgCons (wName 3) (wgCons (wName 4) (wgCons (wName 5) (wgCons (wName 6) wgNil)))))))
    (wSeq2 (wAsg (wVar 1) (wgTup 7 (wgCons (wName 7) (wgCons (wName 8) (wgCons (wName 9) (wgCons (wName 10) (wgCons (wName 11) (wgCons (wName 12) (wgCons (wName 13) wgNil)))))))))
    (wSeq2 (wAsgO (wLc (wIt rng1A (wCons (w2 addD (wVarV 6) (wC (.int 1))) wNil)) (wName 15) (wTst (w2 geB (w2 ixD (wVarV 2) (w2 modI (wN (on1 toIntD) (wCons (wVarV 15) wNil)) (wN (on1 lenD) (wCons (wVarV 2) wNil)))) (wVarV 9))) (wVar 15) [15]) 14)
    (wSeq2 (wAsgO (wLst wNil) 16)
    (wSeq2 (wFor (wSeq (wVar 14)) (wName 17)
      (wFor (wSeq (wVar 14)) (wName 18)
        (wFor (wIt rng1A (wCons (wN (on1 lenD) (wCons (wVarV 3) wNil)) wNil)) (wName 19)
          (wIfS (wAnd (wTst (w2 geB (wVarV 17) (wVarV 7))) (wAnd (wTst (w2 gtB (wVarV 18) (w2 addD (wVarV 17) (wVarV 10)))) (wAnd (wTst (w2 geB (w2 ixD (wVarV 3) (wVarV 19)) (wVarV 8))) (wTst (w2 leB (wVarV 11) (wVarV 4)))))) (wApp 16 (wTup (wCons (wVar 17) (wCons (wVar 19) (wCons (wVar 18) wNil))))) wNx))))
    (wRet (wVar 16)))))))
theorem p__law_moves : ∀ ds Q, C__law_moves ds Q → w__law_moves (endV Q) (startS 20 ds) := by
  rintro ds Q ⟨h, s, rfl, hp, hb, h0, h1, q⟩
  simp only [w__law_moves, startS_2, unS_s, unS_0]
  refine wSeq_step _ (fun R hR => by walk_at "vl"; exact hR) ?_
  refine wSeq_step _ (fun R hR => by walk_at "vl"; exact hR) ?_
  refine wSeq_step [.da (encH h), .da (encS s), .da (.list (h.dp.map .int)), .da (.list (h.be.map .int)), .da (.int h.tugs), .da (.int h.pil), .da (.int h.last), .da (.int s.r), .da (.int s.le), .da (.int s.dr), .da (.int s.st), .da (.int s.tu), .da (.int s.se), .da (.int s.li), .ow ((deep h s).map .int), .un, .un, .un, .un, .un] (fun R hR => ?_) ?_
  · walk_at "vl"
    refine ⟨by omega, wMap_map _ _ (fun n => decide (s.dr ≤ depthAt h (n : Nat))) (fun n => .int (n : Nat)) (fun j n hj N1 N2 g1 g2 => ?_) ?_⟩
    · unfold wTurn
      have hm := Int.emod_nonneg (n : Int) (b := (h.dp.length : Int)) (by omega)
      have hl := Int.emod_lt_of_pos (n : Int) (b := (h.dp.length : Int)) (by omega)
      walk_at "vl"
      cases z : decide (s.dr ≤ depthAt h (n : Nat)) with
      | true =>
        have z2 : decide (s.dr ≤ h.dp.getD ((n : Int) % (h.dp.length : Int)).toNat 0) = true := z
        rw [z2]
        exact g1 z
      | false =>
        have z2 : decide (s.dr ≤ h.dp.getD ((n : Int) % (h.dp.length : Int)).toNat 0) = false := z
        rw [z2]
        exact g2 z
    · walk_at "vl"
      unfold deep at hR
      rw [List.map_map] at hR
      exact hR
  refine wSeq_step _ (fun R hR => by walk_at "vl"; exact hR) ?_
  have total := moves_len (s := s) hb h1
  refine ⟨_, rfl, ?_⟩
  · refine wLoop_acc (deep h s) .int (fun acc (x : Sl × Sl × Sl) => [.da (encH h), .da (encS s), .da (.list (h.dp.map .int)), .da (.list (h.be.map .int)), .da (.int h.tugs), .da (.int h.pil), .da (.int h.last), .da (.int s.r), .da (.int s.le), .da (.int s.dr), .da (.int s.st), .da (.int s.tu), .da (.int s.se), .da (.int s.li), .da (.list ((deep h s).map .int)), .un, .ow (acc.map encM), x.1, x.2.1, x.2.2]) (mvs2 h s) [] (.un, .un, .un) (fun i a acc x N ha hle hN => ?_) ?_
    · have hle1 : acc.length + (mvs2 h s a).length ≤ 8000 := Nat.le_trans hle total
      refine ⟨_, rfl, ?_⟩
      refine wLoop_acc (deep h s) .int (fun acc (x : Sl × Sl) => [.da (encH h), .da (encS s), .da (.list (h.dp.map .int)), .da (.list (h.be.map .int)), .da (.int h.tugs), .da (.int h.pil), .da (.int h.last), .da (.int s.r), .da (.int s.le), .da (.int s.dr), .da (.int s.st), .da (.int s.tu), .da (.int s.se), .da (.int s.li), .da (.list ((deep h s).map .int)), .un, .ow (acc.map encM), .da (.int a), x.1, x.2]) (mvs1 h s a) acc (x.2.1, x.2.2) (fun i o acc2 x2 N2 ho hle2 hN2 => ?_) ?_
      · have hle3 : acc2.length + (mvs1 h s a o).length ≤ 8000 := by
          rw [List.length_append] at hle2
          exact Nat.le_trans hle2 hle1
        refine ⟨_, rfl, _, rng1 (by rw [List.length_map]; omega) (by rw [List.length_map]; omega), ?_⟩
        rw [rngN, List.length_map]
        refine wLoop_acc (List.range h.be.length) (fun b => .int (b : Nat)) (fun acc (x : Sl) => [.da (encH h), .da (encS s), .da (.list (h.dp.map .int)), .da (.list (h.be.map .int)), .da (.int h.tugs), .da (.int h.pil), .da (.int h.last), .da (.int s.r), .da (.int s.le), .da (.int s.dr), .da (.int s.st), .da (.int s.tu), .da (.int s.se), .da (.int s.li), .da (.list ((deep h s).map .int)), .un, .ow (acc.map encM), .da (.int a), .da (.int o), x]) (fun b => if okM h s a o b = true then [Mv.mk a (b : Nat) o] else []) acc2 x2.2 (fun i b acc3 x3 N3 hb3 hle4 hN3 => ?_) ?_
        · have hle5 : acc3.length + (if okM h s a o b = true then [Mv.mk a (b : Nat) o] else []).length ≤ 8000 := by
            rw [List.length_append] at hle4
            exact Nat.le_trans hle4 hle3
          have hbl : b < h.be.length := List.mem_range.mp (List.mem_of_getElem? hb3)
          refine wIfS_b (okM h s a o b) (fun Q q => ?_) (fun hc => ?_) fun hc => ?_
          · walk_at "vl"
            unfold okM at q
            have e : ((b : Nat) : Int).toNat = b := rfl
            rw [e]
            cases z1 : decide (s.r ≤ a) <;> rw [z1] at q
            · exact q
            cases z2 : decide (a + s.st < o) <;> rw [z2] at q
            · exact q
            cases z3 : decide (s.le ≤ h.be.getD b 0) <;> rw [z3] at q
            · exact q
            · exact q
          · have hN4 := hN3 (.da (.int (b : Nat)))
            rw [hc] at hN4 hle5
            walk_at "vl"
            refine ⟨_, rfl, _, rfl, ?_, ?_⟩
            · rw [List.length_map]
              have : acc3.length + 1 ≤ 8000 := hle5
              omega
            · rw [if_pos rfl, List.map_append] at hN4
              exact hN4
          · have hN4 := hN3 (.da (.int (b : Nat)))
            rw [hc, if_neg Bool.false_ne_true, List.append_nil] at hN4
            exact hN4
        · intro x3
          exact hN2 (_, _)
      · intro x2
        exact hN (_, _, _)
    · intro x
      have q2 : Q (.list (([] ++ (deep h s).flatMap (mvs2 h s)).map encM)) := q
      walk_at "vl"
      exact q2
end PL

set_option Elab.async false
set_option linter.all false
set_option maxRecDepth 100000
set_option maxHeartbeats 4000000
open PySem PySem.Spec PyProof.Rows L2 Evl Tw VL PL
/-! what a written piece does, spelled out over a state that is known -/
local macro_rules | `(tactic| walk_at "vl") => `(tactic| simp (disch := omega) only [wSeq2, wAsg, wAsgO, wVarV, wVar, wMove, wC, wName, wRet, wRetO, wN, wCons, wNil, w2, w1, w3, wTup, wLst, wTst, wTru, wAnd, wOr, wNot, wYes, wIf, wIfS, wAndV, wOrV, wNotV, wSlG, wSl, wPart, wNoP, wLc, wSeq, wIt, wgTup, wgCons, wgNil, wDrop, wApp, wAug, wSetI, wFor, wNx, wBk, wCt, wCall, wCallL, wCallP, wIsi, wRIn, on1_one, on2_two, lenD_l, lenD_t, toIntD_i, toIntD_b, toTupD_l, negD_i, absD_i, boolD_bool, intD_int, seqD_l, seqD_t, lstD_l, tupD_t, opB_int, addD_i, subI_i, addI_i, modI_pos, divI_pos, mulI_l, mulI_r, ixD_int, rng1, rng2, rngN, wipeS_nil, wipeS_cons, tupH, tupS, tupM, ixH0, ixH1, ixH2, ixH3, ixH4, ixS0, ixS1, ixS2, ixS3, ixS4, ixS5, ixS6, ixM0, ixM1, ixM2, seqP, lstP, seqSs, lenP, lenSs, eqD_int, neD_int, in2, lenI, wO_some, wO_some, if_true, if_false, reduceIte, reduceCtorEq,
  List.length_map, List.length_range, List.getElem?_cons_zero, List.getElem?_cons_succ, List.set_cons_zero, List.set_cons_succ, List.length_cons, List.length_nil, List.map_cons, List.map_nil, List.append_nil, List.nil_append, List.cons_append, Nat.reduceAdd, Nat.reduceSub, Nat.reduceLeDiff, Nat.reduceLT, true_and, and_true, Bool.not_true, Bool.not_false, Option.some.injEq, exists_eq_left', exists_eq_left, Bool.false_eq_true, decide_true, decide_false])
namespace PL
/-! _law_depth, _law_alone -/
def C__law_depth : Ct := C_depth_at
theorem c__law_depth : ∀ ds Q, C__law_depth ds Q → ds.length = 2 := c_depth_at
def w__law_depth : WS := (wRet (w2 ixD (w2 ixD (wVarV 0) (wC (.int 0))) (w2 modI (wN (on1 toIntD) (wCons (wVarV 1) wNil)) (wN (on1 lenD) (wCons (w2 ixD (wVarV 0) (wC (.int 0))) wNil)))))
theorem p__law_depth : ∀ ds Q, C__law_depth ds Q → w__law_depth (endV Q) (startS 2 ds) := by
  rintro ds Q ⟨h, n, rfl, hp, q⟩
  have hm := Int.emod_nonneg n (b := (h.dp.length : Int)) (by omega)
  have hl := Int.emod_lt_of_pos n (b := (h.dp.length : Int)) (by omega)
  simp only [w__law_depth, startS_2, unS_s, unS_0]
  walk_at "vl"
  exact q
def aloneW (h : Hb) (s : Sh) (m : Mv) : PyData := cond (wEarly s m) (.str "early") (cond (wLate h m) (.str "late") (cond (wBerth h s m) (.str "berth") (cond (wDepth h s m) (.str "depth") .none)))
def C__law_alone : Ct := fun ds Q => ∃ (h : Hb) (s : Sh) (m : Mv), ds = [encH h, encS s, encM m] ∧ 0 < h.dp.length ∧ Q (aloneW h s m)
theorem c__law_alone : ∀ ds Q, C__law_alone ds Q → ds.length = 3 := by
  rintro ds Q ⟨_, _, _, rfl, _⟩
  rfl
def w__law_alone : WS := (wSeq2 (wAsg (wVar 1) (wgTup 7 (wgCons (wName 3) (wgCons (wName 4) (wgCons (wName 5) (wgCons (wName 6) (wgCons (wName 7) (wgCons (wName 8) (wgCons (wName 9) wgNil)))))))))
    (wSeq2 (wAsg (wVar 2) (wgTup 3 (wgCons (wName 10) (wgCons (wName 11) (wgCons (wName 12) wgNil)))))
    (wSeq2 (wIfS (wOr (wTst (w2 ltB (wVarV 10) (wVarV 3))) (wTst (w2 ltB (w2 subI (wVarV 12) (wVarV 10)) (w2 addD (wVarV 6) (wC (.int 1)))))) (wRet (wC (.str (Str.ofString "early")))) wNx)
    (wSeq2 (wIfS (wTst (w2 gtB (wVarV 12) (w2 ixD (wVarV 0) (wC (.int 4))))) (wRet (wC (.str (Str.ofString "late")))) wNx)
    (wSeq2 (wIfS (wOr (wTst (wRIn true (wVar 11) (wCons (wN (on1 lenD) (wCons (w2 ixD (wVarV 0) (wC (.int 1))) wNil)) wNil))) (wTst (w2 ltB (w2 ixD (w2 ixD (wVarV 0) (wC (.int 1))) (wVarV 11)) (wVarV 4)))) (wRet (wC (.str (Str.ofString "berth")))) wNx)
    (wSeq2 (wIfS (wTst (w2 ltB (wN (on2 mn2) (wCons (wCall C__law_depth (wCons (wVar 0) (wCons (wVar 10) wNil))) (wCons (wCall C__law_depth (wCons (wVar 0) (wCons (wVar 12) wNil))) wNil))) (wVarV 5))) (wRet (wC (.str (Str.ofString "depth")))) wNx)
    (wRet (wC .none))))))))
theorem p__law_alone : ∀ ds Q, C__law_alone ds Q → w__law_alone (endV Q) (startS 13 ds) := by
  rintro ds Q ⟨h, s, m, rfl, hp, q⟩
  simp only [w__law_alone, startS_3, unS_s, unS_0]
  refine wSeq_step _ (fun R hR => by walk_at "vl"; exact hR) ?_
  refine wSeq_step _ (fun R hR => by walk_at "vl"; exact hR) ?_
  unfold aloneW at q
  refine wSeq_if1 (wEarly s m) (fun Q q => by walk_at "vl"; exact or_q q) (fun h1 => ?_) fun h1 => ?_
  · rw [h1] at q
    exact q
  refine wSeq_if1 (wLate h m) (fun Q q => by walk_at "vl"; exact q) (fun h2 => ?_) fun h2 => ?_
  · rw [h1, h2] at q
    exact q
  refine wSeq_if1 (wBerth h s m) (fun Q q => ?_) (fun h3 => ?_) fun h3 => ?_
  · walk_at "vl"
    refine ⟨_, rfl, ?_⟩
    unfold wBerth at q
    by_cases c1 : 0 ≤ m.b
    · by_cases c2 : m.b < (h.be.length : Int)
      · simp only [decide_eq_true c1, decide_eq_true c2, c1, c2, and_self, decide_true, Bool.not_true, Bool.false_eq_true, if_true, if_false, Bool.and_self, Bool.false_or] at q ⊢
        walk_at "vl"
        exact q
      · simp only [decide_eq_true c1, decide_eq_false c2, c1, c2, and_false, decide_false, Bool.not_false, if_true, Bool.and_false, Bool.true_or] at q ⊢
        exact q
    · simp only [decide_eq_false c1, c1, false_and, decide_false, Bool.false_and, Bool.not_false, Bool.true_or, if_true] at q ⊢
      exact q
  · rw [h1, h2, h3] at q
    exact q
  refine wSeq_if1 (wDepth h s m) (fun Q q => ?_) (fun h4 => ?_) fun h4 => ?_
  · walk_at "vl"
    refine ⟨h, m.a, rfl, hp, ?_⟩
    walk_at "vl"
    refine ⟨h, m.o, rfl, hp, ?_⟩
    walk_at "vl"
    have e : decide (mn2 (depthAt h m.a) (depthAt h m.o) < s.dr) = wDepth h s m := by
      unfold wDepth
      rw [← Bool.decide_or]
      refine decide_eq_decide.mpr ?_
      show (if depthAt h m.o < depthAt h m.a then depthAt h m.o else depthAt h m.a) < s.dr ↔ _
      split <;> omega
    rw [e]
    exact q
  · rw [h1, h2, h3, h4] at q
    exact q
  · rw [h1, h2, h3, h4] at q
    exact q
/-! _law_move -/
def MvB (m : Mv) : Prop := -2 ≤ m.a ∧ m.a ≤ 61 ∧ -2 ≤ m.b ∧ m.b ≤ 3 ∧ -2 ≤ m.o ∧ m.o ≤ 61
theorem deep_mem {h : Hb} {s : Sh} {n : Int} (hn : n ∈ deep h s) : 0 ≤ n ∧ n ≤ h.last ∧ s.dr ≤ depthAt h n := by
  unfold deep at hn
  obtain ⟨i, hi, rfl⟩ := List.mem_map.mp hn
  obtain ⟨h1, h2⟩ := List.mem_filter.mp hi
  rw [List.mem_range] at h1
  exact ⟨by omega, by omega, of_decide_eq_true h2⟩
theorem moves_mem {h : Hb} {s : Sh} {m : Mv} (hm : m ∈ movesOf h s) : m.a ∈ deep h s ∧ m.o ∈ deep h s ∧ 0 ≤ m.b ∧ m.b < (h.be.length : Int) ∧ okM h s m.a m.o m.b.toNat = true := by
  obtain ⟨a, ha, h1⟩ := List.mem_flatMap.mp hm
  obtain ⟨o, ho, h2⟩ := List.mem_flatMap.mp h1
  obtain ⟨b, hb, h3⟩ := List.mem_flatMap.mp h2
  rw [List.mem_range] at hb
  split at h3
  · rename_i hk
    cases List.mem_singleton.mp h3
    exact ⟨ha, ho, by show (0 : Int) ≤ (b : Nat); omega, by show ((b : Nat) : Int) < _; omega, hk⟩
  · cases h3
def C__law_move : Ct := fun ds Q => ∃ (h : Hb) (s : Sh) (draws : List Int), ds = [encH h, encS s, .list (draws.map .int)] ∧ HOk h ∧ 5 ≤ draws.length ∧ ∀ m, MvB m → Q (encM m)
theorem c__law_move : ∀ ds Q, C__law_move ds Q → ds.length = 3 := by
  rintro ds Q ⟨_, _, _, rfl, _⟩
  rfl
def w__law_move : WS := (wSeq2 (wAsg (w2 modI (wN (on1 toIntD) (wCons (w2 ixD (wVarV 2) (wC (.int 0))) wNil)) (wC (.int 4))) (wName 3))
    (wSeq2 (wAsg (wCall C__law_moves (wCons (wVar 0) (wCons (wVar 1) wNil))) (wName 4))
    (wSeq2 (wIfS (wAnd (wTst (w2 ltB (wVarV 3) (wC (.int 3)))) (wTst (w2 gtB (wN (on1 lenD) (wCons (wVarV 4) wNil)) (wC (.int 0))))) (wRet (w2 ixD (wVarV 4) (w2 modI (wN (on1 toIntD) (wCons (w2 ixD (wVarV 2) (wC (.int 1))) wNil)) (wN (on1 lenD) (wCons (wVarV 4) wNil))))) wNx)
    (wSeq2 (wAsg (w2 modI (wN (on1 toIntD) (wCons (w2 ixD (wVarV 2) (wC (.int 2))) wNil)) (wC (.int 14))) (wName 5))
    (wRet (wTup (wCons (w2 subI (wVarV 5) (wN (on1 toIntD) (wCons (w2 eqD (wVarV 3) (wC (.int 3))) wNil))) (wCons (w2 subI (w2 modI (wN (on1 toIntD) (wCons (w2 ixD (wVarV 2) (wC (.int 3))) wNil)) (wC (.int 4))) (wC (.int 1))) (wCons (w2 subI (w2 addD (wVarV 5) (w2 modI (wN (on1 toIntD) (wCons (w2 ixD (wVarV 2) (wC (.int 4))) wNil)) (wC (.int 8)))) (wC (.int 1))) wNil)))))))))
theorem p__law_move : ∀ ds Q, C__law_move ds Q → w__law_move (endV Q) (startS 6 ds) := by
  rintro ds Q ⟨h, s, draws, rfl, ho, hl, q⟩
  have hlast := ho.l
  have hb2 := ho.b2
  simp only [w__law_move, startS_3, unS_s, unS_0]
  refine wSeq_step _ (fun R hR => by walk_at "vl"; exact hR) ?_
  refine wSeq_step _ (fun R hR => by walk_at "vl"; exact ⟨h, s, rfl, ho.d1, ho.b2, by omega, by omega, hR⟩) ?_
  refine wSeq_if1 (decide (draws.getD (Int.toNat 0) 0 % 4 < 3) && decide (0 < ((movesOf h s).length : Int))) (fun Q q => by walk_at "vl"; exact and_q q) (fun h1 => ?_) fun h1 => ?_
  · rw [Bool.and_eq_true, decide_eq_true_eq, decide_eq_true_eq] at h1
    have hm := Int.emod_nonneg (draws.getD (Int.toNat 1) 0) (b := ((movesOf h s).length : Int)) (by omega)
    have hm2 := Int.emod_lt_of_pos (draws.getD (Int.toNat 1) 0) (b := ((movesOf h s).length : Int)) (by omega)
    walk_at "vl"
    have hi : (draws.getD (Int.toNat 1) 0 % ((movesOf h s).length : Int)).toNat < (movesOf h s).length := by omega
    have e : draws.getD (Int.toNat 1) 0 % ((movesOf h s).length : Int) = ((draws.getD (Int.toNat 1) 0 % ((movesOf h s).length : Int)).toNat : Nat) := by omega
    rw [e, ixP (List.getElem?_eq_getElem hi)]
    walk_at "vl"
    refine q _ ?_
    obtain ⟨g1, g2, g3, g4, _⟩ := moves_mem (List.getElem_mem hi)
    have k1 := deep_mem g1
    have k2 := deep_mem g2
    unfold MvB
    omega
  · refine wSeq_step _ (fun R hR => by walk_at "vl"; exact hR) ?_
    walk_at "vl"
    refine q ⟨_, _, _⟩ ⟨?_, ?_, ?_, ?_, ?_, ?_⟩ <;> simp only [] <;> first | omega | (split <;> omega)
/-! _law_far -/
def C__law_far : Ct := fun ds Q => ∃ (h : Hb) (ss : List Sh) (draw : Int), ds = [encH h, encSs ss, .int draw] ∧ HNear h ∧ (∀ s ∈ ss, SNear s) ∧ ss.length ≤ 3 ∧ 0 ≤ draw ∧ draw < 1000 ∧
  ∀ h' ss', HOk h' → (∀ s ∈ ss', SOk s) → ss'.length = ss.length → Q (.tuple [encH h', encSs ss'])
theorem c__law_far : ∀ ds Q, C__law_far ds Q → ds.length = 3 := by
  rintro ds Q ⟨_, _, _, rfl, _⟩
  rfl
theorem flat_one {α β : Type} {f : α → β} : ∀ l : List α, (l.flatMap fun s => [f s]) = l.map f
  | [] => rfl
  | a :: r => by
    rw [List.flatMap_cons, flat_one r]
    rfl
def farS (x : Int) (s : Sh) : Sh := ⟨5 * s.r, s.le, s.dr + 32, s.st + x, s.tu, s.se, s.li⟩
def w__law_far : WS := (wSeq2 (wIfS (wTst (w2 gtB (w2 modI (wN (on1 toIntD) (wCons (wVarV 2) wNil)) (wC (.int 3))) (wC (.int 0)))) (wRet (wTup (wCons (wVar 0) (wCons (wVar 1) wNil)))) wNx)
    (wSeq2 (wAsg (wVar 0) (wgTup 5 (wgCons (wName 3) (wgCons (wName 4) (wgCons (wName 5) (wgCons (wName 6) (wgCons (wName 7) wgNil)))))))
    (wSeq2 (wAsgO (wLst wNil) 8)
    (wSeq2 (wFor (wSeq (wVar 1)) (wgTup 7 (wgCons (wName 9) (wgCons (wName 10) (wgCons (wName 11) (wgCons (wName 12) (wgCons (wName 13) (wgCons (wName 14) (wgCons (wName 15) wgNil))))))))
      (wApp 8 (wTup (wCons (w2 mulI (wC (.int 5)) (wVarV 9)) (wCons (wVar 10) (wCons (w2 addD (wVarV 11) (wC (.int 32))) (wCons (w2 addD (wVarV 12) (w2 modI (wN (on1 toIntD) (wCons (w2 divI (wVarV 2) (wC (.int 3))) wNil)) (wC (.int 2)))) (wCons (wVar 13) (wCons (wVar 14) (wCons (wVar 15) wNil))))))))))
    (wRet (wTup (wCons (wTup (wCons (wLc (wSeq (wVarV 3)) (wName 16) wYes (w2 addD (wVarV 16) (wC (.int 32))) [16]) (wCons (wVar 4) (wCons (wVar 5) (wCons (wVar 6) (wCons (w2 subI (wC (.int 40)) (w2 modI (wN (on1 toIntD) (wCons (w2 divI (wVarV 2) (wC (.int 6))) wNil)) (wC (.int 9)))) wNil)))))) (wCons (wVar 8) wNil))))))))
theorem p__law_far : ∀ ds Q, C__law_far ds Q → w__law_far (endV Q) (startS 17 ds) := by
  rintro ds Q ⟨h, ss, draw, rfl, hh, hs, hl, d0, d1, q⟩
  simp only [w__law_far, startS_3, unS_s, unS_0]
  refine wSeq_if1 (decide (0 < draw % 3)) (fun Q q => by walk_at "vl"; exact q) (fun h1 => ?_) fun h1 => ?_
  · walk_at "vl"
    exact q h ss hh.1 (fun s h => (hs s h).1) rfl
  refine wSeq_step _ (fun R hR => by walk_at "vl"; exact hR) ?_
  refine wSeq_step _ (fun R hR => by walk_at "vl"; exact hR) ?_
  refine ⟨_, rfl, ?_⟩
  have tot : (ss.flatMap fun s => [farS (draw / 3 % 2) s]).length ≤ 100 := by
    refine Nat.le_trans (flat_len (c := 1) fun _ _ => Nat.le_refl 1) (by omega)
  refine wLoop_acc ss encS (fun acc (x : Sl × Sl × Sl × Sl × Sl × Sl × Sl) => [.da (encH h), .da (encSs ss), .da (.int draw), .da (.list (h.dp.map .int)), .da (.list (h.be.map .int)), .da (.int h.tugs), .da (.int h.pil), .da (.int h.last), .ow (acc.map encS), x.1, x.2.1, x.2.2.1, x.2.2.2.1, x.2.2.2.2.1, x.2.2.2.2.2.1, x.2.2.2.2.2.2, .un]) (fun s => [farS (draw / 3 % 2) s]) [] (.un, .un, .un, .un, .un, .un, .un) (fun i s acc x N hi hle hN => ?_) fun x => ?_
  · have hle2 : acc.length + 1 ≤ 100 := Nat.le_trans hle tot
    have b := (hs s (List.mem_of_getElem? hi)).1
    have b1 := b.r
    walk_at "vl"
    refine ⟨_, rfl, _, rfl, ?_, ?_⟩
    · rw [List.length_map]
      omega
    · have z := hN (.da (.int s.r), .da (.int s.le), .da (.int s.dr), .da (.int s.st), .da (.int s.tu), .da (.int s.se), .da (.int s.li))
      rw [List.map_append] at z
      exact z
  · walk_at "vl"
    have hd2 := hh.1.d2
    refine ⟨by omega, wMap_all _ _ (fun d : Int => .int (d + 32)) (fun j d hj N1 N2 g1 => ?_) ?_⟩
    · unfold wTurn
      walk_at "vl"
      exact g1
    walk_at "vl"
    have e1 : (h.dp.map fun d => PyData.int (d + 32)) = (h.dp.map (· + 32)).map .int := by rw [List.map_map]; rfl
    rw [e1]
    have o := hh.1
    have ol := o.l
    refine q ⟨h.dp.map (· + 32), h.be, h.tugs, h.pil, 40 - draw / 6 % 9⟩ ([] ++ ss.flatMap fun s => [farS (draw / 3 % 2) s]) ⟨?_, ?_, ?_, o.b1, o.b2, o.bb, o.t, o.p, ?_⟩ (fun s hs2 => ?_) ?_
    · show 0 < (h.dp.map (· + 32)).length
      rw [List.length_map]; exact o.d1
    · show (h.dp.map (· + 32)).length ≤ 12
      rw [List.length_map]; exact o.d2
    · intro x hx
      obtain ⟨y, hy, rfl⟩ := List.mem_map.mp hx
      have := o.db y hy
      have := hh.2.2 y hy
      omega
    · show 1 ≤ 40 - draw / 6 % 9 ∧ 40 - draw / 6 % 9 ≤ 40
      omega
    · obtain ⟨t, ht, z⟩ := List.mem_flatMap.mp hs2
      cases List.mem_singleton.mp z
      obtain ⟨b, b1, b2, b3⟩ := hs t ht
      have := b.r
      have := b.dr
      have := b.st
      refine ⟨?_, b.le, ?_, ?_, b.tu, b.se, b.li⟩
      · show 0 ≤ 5 * t.r ∧ 5 * t.r ≤ 100; omega
      · show 0 ≤ t.dr + 32 ∧ t.dr + 32 ≤ 100; omega
      · show 1 ≤ t.st + draw / 3 % 2 ∧ t.st + draw / 3 % 2 ≤ 5; omega
    · show (ss.flatMap fun s => [farS (draw / 3 % 2) s]).length = ss.length
      rw [flat_one, List.length_map]
end PL

set_option Elab.async false
set_option linter.all false
set_option maxRecDepth 100000
set_option maxHeartbeats 4000000
open PySem PySem.Spec PyProof.Rows L2 Evl Tw VL PL
/-! what a written piece does, spelled out over a state that is known -/
local macro_rules | `(tactic| walk_at "vl") => `(tactic| simp (disch := omega) only [wSeq2, wAsg, wAsgO, wVarV, wVar, wMove, wC, wName, wRet, wRetO, wN, wCons, wNil, w2, w1, w3, wTup, wLst, wTst, wTru, wAnd, wOr, wNot, wYes, wIf, wIfS, wAndV, wOrV, wNotV, wSlG, wSl, wPart, wNoP, wLc, wSeq, wIt, wgTup, wgCons, wgNil, wDrop, wApp, wAug, wSetI, wFor, wNx, wBk, wCt, wCall, wCallL, wCallP, wIsi, wRIn, on1_one, on2_two, lenD_l, lenD_t, toIntD_i, toIntD_b, toTupD_l, negD_i, absD_i, boolD_bool, intD_int, seqD_l, seqD_t, lstD_l, tupD_t, opB_int, addD_i, subI_i, addI_i, modI_pos, divI_pos, mulI_l, mulI_r, ixD_int, rng1, rng2, rngN, wipeS_nil, wipeS_cons, tupH, tupS, tupM, ixH0, ixH1, ixH2, ixH3, ixH4, ixS0, ixS1, ixS2, ixS3, ixS4, ixS5, ixS6, ixM0, ixM1, ixM2, seqP, lstP, seqSs, lenP, lenSs, eqD_int, neD_int, in2, lenI, wO_some, wO_some, if_true, if_false, reduceIte, reduceCtorEq,
  List.length_map, List.length_range, List.getElem?_cons_zero, List.getElem?_cons_succ, List.set_cons_zero, List.set_cons_succ, List.length_cons, List.length_nil, List.map_cons, List.map_nil, List.append_nil, List.nil_append, List.cons_append, Nat.reduceAdd, Nat.reduceSub, Nat.reduceLeDiff, Nat.reduceLT, true_and, and_true, Bool.not_true, Bool.not_false, Option.some.injEq, exists_eq_left', exists_eq_left, Bool.false_eq_true, decide_true, decide_false])
namespace PL
/-! what is wrong, counted hour by hour -/
def encC (x : Int × Int) : PyData := .tuple [.int x.1, .int x.2]
def cells (m : Mv) : List (Int × Int) := (List.range (m.o + 1 - m.a).toNat).map fun i => (m.b, m.a + (i : Nat))
theorem mem_cells {m : Mv} {x : Int × Int} : x ∈ cells m ↔ x.1 = m.b ∧ m.a ≤ x.2 ∧ x.2 ≤ m.o := by
  unfold cells
  constructor
  · intro h
    obtain ⟨i, hi, rfl⟩ := List.mem_map.mp h
    rw [List.mem_range] at hi
    exact ⟨rfl, by show m.a ≤ m.a + (i : Nat); omega, by show m.a + ((i : Nat) : Int) ≤ m.o; omega⟩
  · rintro ⟨h1, h2, h3⟩
    refine List.mem_map.mpr ⟨(x.2 - m.a).toNat, List.mem_range.mpr (by omega), ?_⟩
    obtain ⟨a, b⟩ := x
    simp only at h1 h2 h3 ⊢
    subst h1
    congr 1
    omega
theorem eqv_C {x y : Int × Int} : PyData.eqv (encC x) (encC y) = decide (x = y) := by
  show ((x.1 == y.1) && ((x.2 == y.2) && true)) = _
  rw [Bool.and_true]
  by_cases h : x = y
  · subst h
    rw [decide_eq_true rfl]
    simp
  · rw [decide_eq_false h]
    by_cases h1 : x.1 = y.1
    · have h2 : x.2 ≠ y.2 := fun e => h (Prod.ext h1 e)
      simp [h1, h2]
    · simp [h1]
theorem lay_C : ∀ l : List (Int × Int), PyData.canLayAll0 (l.map encC) = true ∧ PyData.depthAll (l.map encC) ≤ 1
  | [] => ⟨rfl, Nat.zero_le _⟩
  | x :: r => by
    obtain ⟨h1, h2⟩ := lay_C r
    refine ⟨?_, ?_⟩
    · show ((encC x).canLay0 && PyData.canLayAll0 (r.map encC)) = true
      rw [h1]
      rfl
    · show max (encC x).depth (PyData.depthAll (r.map encC)) ≤ 1
      have : (encC x).depth = 1 := rfl
      omega
theorem shaped_C (l : List (Int × Int)) : SeqAt.shaped (.list (l.map encC)) = true := by
  obtain ⟨h1, h2⟩ := lay_C l
  show ((PyData.list (l.map encC)).canLay0 && decide ((PyData.list (l.map encC)).depth ≤ 64)) = true
  have e1 : (PyData.list (l.map encC)).canLay0 = true := h1
  have e2 : (PyData.list (l.map encC)).depth = PyData.depthAll (l.map encC) + 1 := rfl
  rw [e1, e2, decide_eq_true (by omega)]
  rfl
theorem inC {x : Int × Int} {l : List (Int × Int)} : inGD false (encC x) (.list (l.map encC)) = some (.bool (l.any fun z => decide (z = x))) := by
  show (if SeqAt.shaped (encC x) = true ∧ SeqAt.shaped (.list (l.map encC)) = true then some (PyData.bool ((l.map encC).any fun z => PyData.eqv z (encC x))) else none) = _
  rw [if_pos ⟨rfl, shaped_C l⟩, List.any_map]
  congr 3
  funext z
  exact eqv_C
theorem share_cells {m : Mv} {p : List Mv} (hm : m.a ≤ m.o) (hp : ∀ x ∈ p, x.a ≤ x.o) : ((cells m).any fun c => (p.flatMap cells).any fun z => decide (z = c)) = p.any (share m) := by
  apply Bool.eq_iff_iff.mpr
  rw [List.any_eq_true, List.any_eq_true]
  constructor
  · rintro ⟨c, hc, h⟩
    obtain ⟨z, hz, e⟩ := List.any_eq_true.mp h
    have e := of_decide_eq_true e
    subst e
    obtain ⟨x, hx, hz2⟩ := List.mem_flatMap.mp hz
    refine ⟨x, hx, ?_⟩
    have h1 := mem_cells.mp hc
    have h2 := mem_cells.mp hz2
    unfold share
    rw [decide_eq_true (by omega), decide_eq_true (by omega), decide_eq_true (by omega)]
    rfl
  · rintro ⟨x, hx, h⟩
    unfold share at h
    simp only [Bool.and_eq_true, decide_eq_true_eq] at h
    obtain ⟨h1, h2, h3⟩ := h
    have hx2 := hp x hx
    refine ⟨(m.b, max m.a x.a), mem_cells.mpr ⟨rfl, by show m.a ≤ max m.a x.a; omega, by show max m.a x.a ≤ m.o; omega⟩, ?_⟩
    refine List.any_eq_true.mpr ⟨(m.b, max m.a x.a), List.mem_flatMap.mpr ⟨x, hx, mem_cells.mpr ⟨h1, by show x.a ≤ max m.a x.a; omega, by show max m.a x.a ≤ x.o; omega⟩⟩, decide_eq_true rfl⟩
theorem cells_len {m : Mv} (h : MvB m) : (cells m).length ≤ 64 := by
  unfold cells
  rw [List.length_map, List.length_range]
  unfold MvB at h
  omega
/-- the word of one ship, alone and beside the others -/
theorem word_alone {h : Hb} {s : Sh} {m : Mv} {before : List Mv} (hn : isN (aloneW h s m) = false) : wordOf h s m before = aloneW h s m := by
  unfold wordOf aloneW at *
  cases h1 : wEarly s m <;> rw [h1] at hn
  · cases h2 : wLate h m <;> rw [h2] at hn
    · cases h3 : wBerth h s m <;> rw [h3] at hn
      · cases h4 : wDepth h s m <;> rw [h4] at hn
        · cases hn
        · rfl
      · rfl
    · rfl
  · rfl
theorem word_free {h : Hb} {s : Sh} {m : Mv} {before : List Mv} (hn : isN (aloneW h s m) = true) : wEarly s m = false ∧ wLate h m = false ∧ wordOf h s m before = cond (before.any (share m)) (.str "taken") .none := by
  unfold wordOf aloneW at *
  cases h1 : wEarly s m <;> rw [h1] at hn
  · cases h2 : wLate h m <;> rw [h2] at hn
    · cases h3 : wBerth h s m <;> rw [h3] at hn
      · cases h4 : wDepth h s m <;> rw [h4] at hn
        · exact ⟨rfl, rfl, rfl⟩
        · cases hn
      · cases hn
    · cases hn
  · cases hn
theorem in2L {n a b : Int} : inGD false (.int n) (.list [.int a, .int b]) = some (.bool (decide (n = a) || decide (n = b))) := by
  show some (PyData.bool ((a == n) || ((b == n) || false))) = _
  congr 2
  rw [Bool.or_false]
  congr 1
  · exact decide_eq_decide.mpr ⟨fun h => h.symm, fun h => h.symm⟩
  · exact decide_eq_decide.mpr ⟨fun h => h.symm, fun h => h.symm⟩
theorem eqD_str {x y : Str} (hx : SeqAt.shaped (.str x) = true) (hy : SeqAt.shaped (.str y) = true) : eqD (.str x) (.str y) = some (.bool (x == y)) := if_pos ⟨hx, hy⟩
/-- found in an ascending list, found among all numbers -/
theorem find_least {c : Int → Bool} : ∀ {l : List Int} {x : Int}, l.Pairwise (· < ·) → x ∈ l → c x = true → (∀ y ∈ l, c y = true → x ≤ y) → l.find? c = some x
  | z :: r, x, hp, hx, hc, hl => by
    obtain ⟨h1, h2⟩ := List.pairwise_cons.mp hp
    rw [List.find?_cons]
    cases hz : c z with
    | true =>
      rcases List.mem_cons.mp hx with rfl | hx
      · rfl
      · have := hl z List.mem_cons_self hz
        have := h1 x hx
        omega
    | false =>
      rcases List.mem_cons.mp hx with rfl | hx
      · rw [hc] at hz
        cases hz
      · exact find_least h2 hx hc fun y hy => hl y (List.mem_cons_of_mem _ hy)
theorem find_spec {c : Int → Bool} : ∀ {l : List Int} {x : Int}, l.Pairwise (· < ·) → l.find? c = some x → x ∈ l ∧ c x = true ∧ ∀ y ∈ l, c y = true → x ≤ y
  | z :: r, x, hp, h => by
    obtain ⟨h1, h2⟩ := List.pairwise_cons.mp hp
    rw [List.find?_cons] at h
    cases hz : c z with
    | true =>
      rw [hz] at h
      cases h
      exact ⟨List.mem_cons_self, hz, fun y hy _ => by
        rcases List.mem_cons.mp hy with rfl | hy
        · exact Int.le_refl _
        · exact Int.le_of_lt (h1 y hy)⟩
    | false =>
      rw [hz] at h
      obtain ⟨a, b, d⟩ := find_spec h2 h
      exact ⟨List.mem_cons_of_mem _ a, b, fun y hy hc => by
        rcases List.mem_cons.mp hy with rfl | hy
        · rw [hz] at hc
          cases hc
        · exact d y hy hc⟩
theorem pw_range (n : Nat) : ((List.range n).map fun i => ((i : Nat) : Int)).Pairwise (· < ·) := by
  rw [List.pairwise_map]
  refine List.Pairwise.imp (fun h => ?_) List.pairwise_lt_range
  omega
theorem find_two {c : Int → Bool} {l m : List Int} (hl : l.Pairwise (· < ·)) (hm : m.Pairwise (· < ·)) (h1 : ∀ x ∈ l, c x = true → x ∈ m) (h2 : ∀ x ∈ m, c x = true → x ∈ l) : l.find? c = m.find? c := by
  cases z : l.find? c with
  | some x =>
    obtain ⟨a, b, d⟩ := find_spec hl z
    exact (find_least hm (h1 x a b) b fun y hy hc => d y (h2 y hy hc) hc).symm
  | none =>
    have n := List.find?_eq_none.mp z
    exact (List.find?_eq_none.mpr fun x hx hc => n x (h2 x hx hc) hc).symm
theorem movers_none {p : List Mv} {n : Int} (h : n ∉ hoursOf p) : movers p n = [] := by
  unfold movers
  refine List.filter_eq_nil_iff.mpr fun i hi hm => ?_
  rw [List.mem_range] at hi
  unfold mov at hm
  rw [List.getElem?_eq_getElem hi] at hm
  simp only [Bool.or_eq_true, decide_eq_true_eq] at hm
  refine h (mem_asc.mpr (List.mem_append.mpr ?_))
  rcases hm with e | e
  · exact .inl (List.mem_map.mpr ⟨p[i], List.getElem_mem hi, e.symm⟩)
  · exact .inr (List.mem_map.mpr ⟨p[i], List.getElem_mem hi, e.symm⟩)
theorem hours_find {h : Hb} {p : List Mv} {c : Int → Bool} (hin : ∀ m ∈ p, 0 ≤ m.a ∧ m.a ≤ h.last ∧ 0 ≤ m.o ∧ m.o ≤ h.last) (hc : ∀ n, movers p n = [] → c n = false) :
    (hoursOf p).find? c = ((List.range (h.last + 1).toNat).map fun i => ((i : Nat) : Int)).find? c := by
  refine find_two (pw_asc _) (pw_range _) (fun x hx _ => ?_) fun x _ hx => ?_
  · have hx2 := mem_asc.mp hx
    have b : 0 ≤ x ∧ x ≤ h.last := by
      rcases List.mem_append.mp hx2 with hx | hx
      · obtain ⟨m, hm, rfl⟩ := List.mem_map.mp hx
        have := hin m hm
        omega
      · obtain ⟨m, hm, rfl⟩ := List.mem_map.mp hx
        have := hin m hm
        omega
    exact List.mem_map.mpr ⟨x.toNat, List.mem_range.mpr (by omega), by omega⟩
  · refine Classical.byContradiction fun n => ?_
    rw [hc x (movers_none n)] at hx
    cases hx
def C__law_wrong : Ct := fun ds Q => ∃ (h : Hb) (ss : List Sh) (p : List Mv), ds = [encH h, encSs ss, encP p] ∧ HOk h ∧ (∀ s ∈ ss, SOk s) ∧ (∀ m ∈ p, MvB m) ∧ p.length = ss.length ∧ p.length ≤ 3 ∧ Q (wrongIn h ss p)
theorem c__law_wrong : ∀ ds Q, C__law_wrong ds Q → ds.length = 3 := by
  rintro ds Q ⟨_, _, _, rfl, _⟩
  rfl
def w__law_wrong : WS := (wSeq2 (wAsgO (wLst wNil) 3)
    (wSeq2 (wFor (wIt rng1A (wCons (wN (on1 lenD) (wCons (wVarV 2) wNil)) wNil)) (wName 4)
      (wSeq2 (wAsg (wCall C__law_alone (wCons (wVar 0) (wCons (w2 ixD (wVarV 1) (wVarV 4)) (wCons (w2 ixD (wVarV 2) (wVarV 4)) wNil)))) (wName 5))
      (wSeq2 (wIfS (wTst (w2 notND (wVarV 5) (wC .none))) (wRet (wTup (wCons (wVar 5) (wCons (wVar 4) wNil)))) wNx)
      (wSeq2 (wAsgO (wLc (wIt rng2A (wCons (w2 ixD (w2 ixD (wVarV 2) (wVarV 4)) (wC (.int 0))) (wCons (w2 addD (w2 ixD (w2 ixD (wVarV 2) (wVarV 4)) (wC (.int 2))) (wC (.int 1))) wNil))) (wName 7) wYes (wTup (wCons (w2 ixD (w2 ixD (wVarV 2) (wVarV 4)) (wC (.int 1))) (wCons (wVar 7) wNil))) [7]) 6)
      (wSeq2 (wIfS (wTst (wN (on1 anyD) (wCons (wLc (wSeq (wVarV 6)) (wName 8) wYes (w2 (inGD false) (wVarV 8) (wVarV 3)) [8]) wNil))) (wRet (wTup (wCons (wC (.str (Str.ofString "taken"))) (wCons (wVar 4) wNil)))) wNx)
      (wAsgO (w2 catD (wVarV 3) (wVarV 6)) 3))))))
    (wSeq2 (wFor (wSeq (wLst (wCons (wC (.str (Str.ofString "tugs"))) (wCons (wC (.str (Str.ofString "pilots"))) wNil)))) (wName 5)
      (wFor (wIt rng1A (wCons (w2 addD (w2 ixD (wVarV 0) (wC (.int 4))) (wC (.int 1))) wNil)) (wName 7)
        (wSeq2 (wAsgO (wLc (wIt rng1A (wCons (wN (on1 lenD) (wCons (wVarV 2) wNil)) wNil)) (wName 4) (wTst (w2 (inGD false) (wVarV 7) (wLst (wCons (w2 ixD (w2 ixD (wVarV 2) (wVarV 4)) (wC (.int 0))) (wCons (w2 ixD (w2 ixD (wVarV 2) (wVarV 4)) (wC (.int 2))) wNil))))) (wVar 4) [4]) 9)
        (wSeq2 (wIfS (wAnd (wTst (w2 eqD (wVarV 5) (wC (.str (Str.ofString "tugs"))))) (wTst (w2 gtB (wN (on1 sumD) (wCons (wLc (wSeq (wVarV 9)) (wName 4) wYes (w2 ixD (w2 ixD (wVarV 1) (wVarV 4)) (wC (.int 4))) [4]) wNil)) (w2 ixD (wVarV 0) (wC (.int 2)))))) (wRet (wTup (wCons (wVar 5) (wCons (wVar 7) wNil)))) wNx)
        (wIfS (wAnd (wTst (w2 eqD (wVarV 5) (wC (.str (Str.ofString "pilots"))))) (wTst (w2 gtB (wN (on1 lenD) (wCons (wVarV 9) wNil)) (w2 ixD (wVarV 0) (wC (.int 3)))))) (wRet (wTup (wCons (wVar 5) (wCons (wVar 7) wNil)))) wNx)))))
    (wRet (wC .none)))))
theorem p__law_wrong : ∀ ds Q, C__law_wrong ds Q → w__law_wrong (endV Q) (startS 10 ds) := by
  rintro ds Q ⟨h, ss, p, rfl, ho, hs, hm, hl, hz, q⟩
  have olast := ho.l
  simp only [w__law_wrong, startS_3, unS_s, unS_0]
  refine wSeq_step _ (fun R hR => by walk_at "vl"; exact hR) ?_
  refine ⟨_, lenP, _, rng1 (by omega) (by omega), ?_⟩
  rw [rngN]
  have hp1 := ho.d1
  refine wLoop_map (List.range p.length) (fun i => .int (i : Nat)) (fun i S' => (∃ x : Sl × Sl × Sl, S' = [.da (encH h), .da (encSs ss), .da (encP p), .ow (((p.take i).flatMap cells).map encC), x.1, x.2.1, x.2.2, .un, .un, .un]) ∧ ∀ j < i, bad h ss p j = false) ⟨⟨(.un, .un, .un), rfl⟩, fun j hj => absurd hj (Nat.not_lt_zero j)⟩ ?_ ?_
  · rintro j i S' N hj ⟨⟨x, rfl⟩, hb⟩ hN
    obtain ⟨hj1, hj2⟩ := List.getElem?_eq_some_iff.mp hj
    rw [List.getElem_range] at hj2
    subst hj2
    rw [List.length_range] at hj1
    have hsj : ss[j]? = some (ss[j]'(by omega)) := List.getElem?_eq_getElem (by omega)
    have hmj : p[j]? = some p[j] := List.getElem?_eq_getElem hj1
    have sok := hs _ (List.mem_of_getElem? hsj)
    have mok := hm _ (List.mem_of_getElem? hmj)
    have wat : wordAt h ss p j = wordOf h (ss[j]'(by omega)) p[j] (p.take j) := by
      unfold wordAt
      rw [hsj, hmj]
    have fin : bad h ss p j = true → wrongIn h ss p = .tuple [wordAt h ss p j, .int (j : Nat)] := fun hbj => by
      have e : (List.range ss.length).find? (bad h ss p) = some j := by
        refine find_at (i := j) (by rw [List.getElem?_range (by omega)]) (fun y hy => ?_) hbj
        have hy2 : y < j := by
          obtain ⟨i, hi, e⟩ := List.getElem_of_mem hy
          rw [List.getElem_take, List.getElem_range] at e
          rw [List.length_take] at hi
          omega
        exact hb y hy2
      unfold wrongIn
      rw [e]
    refine wSeq_step _ (fun R hR => by
      walk_at "vl"
      rw [ixSs hsj]
      walk_at "vl"
      rw [ixP hmj]
      walk_at "vl"
      exact ⟨h, _, _, rfl, hp1, hR⟩) ?_
    refine wSeq_if1 (!isN (aloneW h (ss[j]'(by omega)) p[j])) (fun Q q => ?_) (fun h1 => ?_) fun h1 => ?_
    · walk_at "vl"
      exact ⟨_, rfl, _, rfl, q⟩
    · rw [Bool.not_eq_true'] at h1
      have e := word_alone (before := p.take j) h1
      walk_at "vl"
      have e2 := fin (by unfold bad; rw [wat, e, h1]; rfl)
      rw [e2, wat, e] at q
      exact q
    rw [Bool.not_eq_false'] at h1
    obtain ⟨f1, f2, f3⟩ := word_free (before := p.take j) h1
    unfold MvB at mok
    refine wSeq_step [.da (encH h), .da (encSs ss), .da (encP p), .ow (((p.take j).flatMap cells).map encC), .da (.int (j : Nat)), .da (aloneW h (ss[j]'(by omega)) p[j]), .ow ((cells p[j]).map encC), .un, .un, .un] (fun R hR => ?_) ?_
    · walk_at "vl"
      rw [ixP hmj]
      walk_at "vl"
      unfold rngD
      refine ⟨by rw [List.length_map, List.length_range]; omega, wMap_all _ _ (fun i : Nat => encC ((p[j]).b, (p[j]).a + (i : Nat))) (fun i0 i hi N1 N2 g1 => ?_) ?_⟩
      · unfold wTurn
        walk_at "vl"
        rw [ixP hmj]
        walk_at "vl"
        exact g1
      · walk_at "vl"
        unfold cells at hR
        rw [List.map_map] at hR
        exact hR
    have ao : ∀ x : Mv, ∀ s : Sh, SOk s → wEarly s x = false → x.a ≤ x.o := fun x s so he => by
      unfold wEarly at he
      simp only [Bool.or_eq_false_iff, decide_eq_false_iff_not] at he
      have := so.st
      omega
    have aop : ∀ x ∈ p.take j, x.a ≤ x.o := fun x hx => by
      obtain ⟨i, hi, e⟩ := List.getElem_of_mem hx
      rw [List.length_take] at hi
      rw [List.getElem_take] at e
      have hij : i < j := by omega
      have b := hb i hij
      unfold bad wordAt at b
      rw [List.getElem?_eq_getElem (show i < ss.length by omega), List.getElem?_eq_getElem (show i < p.length by omega)] at b
      simp only [Bool.not_eq_false'] at b
      subst e
      refine ao _ (ss[i]'(by omega)) (hs _ (List.getElem_mem _)) ?_
      cases z : wEarly (ss[i]'(by omega)) p[i] with
      | false => rfl
      | true =>
        unfold wordOf at b
        rw [z] at b
        cases b
    refine wSeq_if1 ((p.take j).any (share p[j])) (fun Q q => ?_) (fun h2 => ?_) fun h2 => ?_
    · walk_at "vl"
      have cl := cells_len (m := p[j]) mok
      refine ⟨by omega, wMap_all (cells p[j]) encC (fun c => .bool (((p.take j).flatMap cells).any fun z => decide (z = c))) (fun i0 c hc N1 N2 g1 => ?_) ?_⟩
      · unfold wTurn
        walk_at "vl"
        rw [inC]
        walk_at "vl"
        exact g1
      · have e : ((cells p[j]).map fun c => PyData.bool (((p.take j).flatMap cells).any fun z => decide (z = c))) = ((cells p[j]).map fun c => ((p.take j).flatMap cells).any fun z => decide (z = c)).map .bool := by rw [List.map_map]; rfl
        rw [e, anyD_bools, List.any_map]
        walk_at "vl"
        have e3 := share_cells (m := p[j]) (p := p.take j) (ao _ _ sok f1) aop
        rw [← e3] at q
        exact q
    · rw [h2] at f3
      have e2 := fin (by unfold bad; rw [wat, f3]; rfl)
      rw [e2, wat, f3] at q
      walk_at "vl"
      exact q
    · walk_at "vl"
      have lt : ((p.take j).flatMap cells).length ≤ j * 64 := by
        refine Nat.le_trans (flat_len (c := 64) fun x hx => cells_len (hm x (List.mem_of_mem_take hx))) ?_
        rw [List.length_take]
        exact Nat.mul_le_mul_right _ (Nat.min_le_left _ _)
      have cl := cells_len (m := p[j]) mok
      refine ⟨_, by unfold catD; exact if_pos (by rw [List.length_map, List.length_map]; omega), ?_⟩
      walk_at "vl"
      rw [← List.map_append]
      refine hN _ ⟨⟨(.da (.int (j : Nat)), .da (aloneW h (ss[j]'(by omega)) p[j]), .ow ((cells p[j]).map encC)), ?_⟩, fun i hi => ?_⟩
      · rw [flatMap_take hmj]
      · by_cases z : i = j
        · subst z
          unfold bad
          rw [wat, f3, h2]
          rfl
        · exact hb i (by omega)
  · rintro S' ⟨⟨x, rfl⟩, hb⟩
    rw [List.length_range] at hb ⊢
    have efin : wrongIn h ss p = together h ss p := by
      unfold wrongIn
      rw [List.find?_eq_none.mpr fun i hi hbi => by
        rw [List.mem_range] at hi
        rw [hb i (by omega)] at hbi
        cases hbi]
    rw [efin] at q
    have hin : ∀ m ∈ p, 0 ≤ m.a ∧ m.a ≤ h.last ∧ 0 ≤ m.o ∧ m.o ≤ h.last := fun m hm2 => by
      obtain ⟨i, hi, e⟩ := List.getElem_of_mem hm2
      subst e
      have b := hb i hi
      unfold bad wordAt at b
      rw [List.getElem?_eq_getElem (show i < ss.length by omega), List.getElem?_eq_getElem hi] at b
      simp only [Bool.not_eq_false'] at b
      have so := hs _ (List.getElem_mem (show i < ss.length by omega))
      have r0 := so.r
      have s0 := so.st
      unfold wordOf at b
      cases z : wEarly (ss[i]'(by omega)) p[i] <;> rw [z] at b
      · cases z2 : wLate h p[i] <;> rw [z2] at b
        · unfold wEarly at z
          unfold wLate at z2
          simp only [Bool.or_eq_false_iff, decide_eq_false_iff_not] at z z2
          omega
        · cases b
      · cases b
    have t1 := hours_find (c := tooT h ss p) hin fun n e => by
      unfold tooT sumT
      rw [e]
      have := ho.t
      exact decide_eq_false (by simp only [List.map_nil, List.sum_nil]; omega)
    have t2 := hours_find (c := tooP h p) hin fun n e => by
      unfold tooP
      rw [e]
      have := ho.p
      exact decide_eq_false (by simp only [List.length_nil]; omega)
    unfold together at q
    rw [t1, t2] at q
    have inner : ∀ (wd : Str) (c : Int → Bool) (W : WD) (s3 x4 x6 x7 x9 : Sl), SeqAt.shaped (.str wd) = true → (∀ n, c n = (((wd == Str.ofString "tugs") && tooT h ss p n) || ((wd == Str.ofString "pilots") && tooP h p n))) →
        (∀ n, ((List.range (h.last + 1).toNat).map fun i => ((i : Nat) : Int)).find? c = some n → W.rt (.tuple [.str wd, .int n])) →
        (((List.range (h.last + 1).toNat).map fun i => ((i : Nat) : Int)).find? c = none → ∀ x4 x7 x9, W.nx [.da (encH h), .da (encSs ss), .da (encP p), s3, x4, .da (.str wd), x6, x7, .un, x9]) →
        wFor (wIt rng1A (wCons (w2 addD (w2 ixD (wVarV 0) (wC (.int 4))) (wC (.int 1))) wNil)) (wName 7)
        (wSeq2 (wAsgO (wLc (wIt rng1A (wCons (wN (on1 lenD) (wCons (wVarV 2) wNil)) wNil)) (wName 4) (wTst (w2 (inGD false) (wVarV 7) (wLst (wCons (w2 ixD (w2 ixD (wVarV 2) (wVarV 4)) (wC (.int 0))) (wCons (w2 ixD (w2 ixD (wVarV 2) (wVarV 4)) (wC (.int 2))) wNil))))) (wVar 4) [4]) 9)
        (wSeq2 (wIfS (wAnd (wTst (w2 eqD (wVarV 5) (wC (.str (Str.ofString "tugs"))))) (wTst (w2 gtB (wN (on1 sumD) (wCons (wLc (wSeq (wVarV 9)) (wName 4) wYes (w2 ixD (w2 ixD (wVarV 1) (wVarV 4)) (wC (.int 4))) [4]) wNil)) (w2 ixD (wVarV 0) (wC (.int 2)))))) (wRet (wTup (wCons (wVar 5) (wCons (wVar 7) wNil)))) wNx)
        (wIfS (wAnd (wTst (w2 eqD (wVarV 5) (wC (.str (Str.ofString "pilots"))))) (wTst (w2 gtB (wN (on1 lenD) (wCons (wVarV 9) wNil)) (w2 ixD (wVarV 0) (wC (.int 3)))))) (wRet (wTup (wCons (wVar 5) (wCons (wVar 7) wNil)))) wNx))) W [.da (encH h), .da (encSs ss), .da (encP p), s3, x4, .da (.str wd), x6, x7, .un, x9] := by
      intro wd c W s3 x4 x6 x7 x9 hwd hc hf hn
      refine ⟨_, rfl, _, rfl, _, rng1 (by omega) (by omega), ?_⟩
      have er : rngD 0 (h.last + 1).toNat = ((List.range (h.last + 1).toNat).map fun i => ((i : Nat) : Int)).map .int := by
        rw [rngN, List.map_map]
        rfl
      rw [er]
      refine wLoop_find _ .int (fun x : Sl × Sl × Sl => [.da (encH h), .da (encSs ss), .da (encP p), s3, x.1, .da (.str wd), x6, x.2.1, .un, x.2.2]) c (fun n => .tuple [.str wd, .int n]) (x0 := (x4, x7, x9)) (fun i n x N hi g1 g2 => ?_) hf fun e x => hn e _ _ _
      refine wSeq_step [.da (encH h), .da (encSs ss), .da (encP p), s3, .un, .da (.str wd), x6, .da (.int n), .un, .ow ((movers p n).map fun i => .int (i : Nat))] (fun R hR => ?_) ?_
      · walk_at "vl"
        refine ⟨by omega, wMap_map _ _ (mov p n) (fun i => .int (i : Nat)) (fun j i hj N1 N2 k1 k2 => ?_) ?_⟩
        · have hi2 : i < p.length := List.mem_range.mp (List.mem_of_getElem? hj)
          have hmi : p[i]? = some p[i] := List.getElem?_eq_getElem hi2
          unfold wTurn
          walk_at "vl"
          rw [ixP hmi]
          walk_at "vl"
          rw [in2L]
          walk_at "vl"
          unfold mov at k1 k2
          rw [hmi] at k1 k2
          cases z : (decide (n = p[i].a) || decide (n = p[i].o)) with
          | true => exact k1 z
          | false => exact k2 z
        · walk_at "vl"
          exact hR
      have ml : (movers p n).length ≤ 3 := by
        unfold movers
        exact Nat.le_trans (List.length_filter_le _ _) (by rw [List.length_range]; exact hz)
      refine wSeq_if1 ((wd == Str.ofString "tugs") && tooT h ss p n) (fun Q q => ?_) (fun h1 => ?_) fun h1 => ?_
      · walk_at "vl"
        rw [eqD_str hwd (by decide +kernel)]
        walk_at "vl"
        cases z : (wd == Str.ofString "tugs") <;> rw [z] at q
        · exact q
        · rw [if_pos rfl]
          refine ⟨by omega, wMap_all (movers p n) (fun i => .int (i : Nat)) (fun i => .int (tuAt ss i)) (fun j i hj N1 N2 k1 => ?_) ?_⟩
          · have hi2 : i < ss.length := by
              have := List.mem_of_getElem? hj
              unfold movers at this
              have := (List.mem_filter.mp this).1
              rw [List.mem_range] at this
              omega
            have hsi : ss[i]? = some ss[i] := List.getElem?_eq_getElem hi2
            unfold wTurn
            walk_at "vl"
            rw [ixSs hsi]
            walk_at "vl"
            have e : tuAt ss i = ss[i].tu := by
              unfold tuAt
              rw [hsi]
            rw [← e]
            exact k1
          · have e1 : ((movers p n).map fun i => PyData.int (tuAt ss i)) = ((movers p n).map (tuAt ss)).map .int := by rw [List.map_map]; rfl
            rw [e1, sumD_ints]
            walk_at "vl"
            exact q
      · walk_at "vl"
        exact g1 (by rw [hc, h1]; rfl)
      refine wIfS_b ((wd == Str.ofString "pilots") && tooP h p n) (fun Q q => ?_) (fun h2 => ?_) fun h2 => ?_
      · walk_at "vl"
        rw [eqD_str hwd (by decide +kernel)]
        walk_at "vl"
        exact and_q q
      · walk_at "vl"
        exact g1 (by rw [hc, h2, Bool.or_true])
      · exact g2 (by rw [hc, h1, h2]; rfl) (_, _, _)
    refine ⟨by show 2 ≤ 100000; decide, _, rfl, ?_⟩
    refine inner (Str.ofString "tugs") (tooT h ss p) _ _ _ _ _ _ (by decide +kernel) (fun n => ?_) (fun n hn => ?_) fun hn y4 y7 y9 => ?_
    · have e1 : (Str.ofString "tugs" == Str.ofString "tugs") = true := by decide
      have e2 : (Str.ofString "tugs" == Str.ofString "pilots") = false := by decide
      rw [e1, e2, Bool.true_and, Bool.false_and, Bool.or_false]
    · rw [hn] at q
      exact q
    rw [hn] at q
    refine inner (Str.ofString "pilots") (tooP h p) _ _ _ _ _ _ (by decide +kernel) (fun n => ?_) (fun n hn => ?_) fun hn z4 z7 z9 => ?_
    · have e1 : (Str.ofString "pilots" == Str.ofString "tugs") = false := by decide
      have e2 : (Str.ofString "pilots" == Str.ofString "pilots") = true := by decide
      rw [e1, e2, Bool.true_and, Bool.false_and, Bool.false_or]
    · rw [hn] at q
      exact q
    rw [hn] at q
    exact q
end PL

set_option Elab.async false
set_option linter.all false
set_option maxRecDepth 100000
set_option maxHeartbeats 4000000
open PySem PySem.Spec PyProof.Rows L2 Evl Tw VL PL
/-! what a written piece does, spelled out over a state that is known -/
local macro_rules | `(tactic| walk_at "vl") => `(tactic| simp (disch := omega) only [wSeq2, wAsg, wAsgO, wVarV, wVar, wMove, wC, wName, wRet, wRetO, wN, wCons, wNil, w2, w1, w3, wTup, wLst, wTst, wTru, wAnd, wOr, wNot, wYes, wIf, wIfS, wAndV, wOrV, wNotV, wSlG, wSl, wPart, wNoP, wLc, wSeq, wIt, wgTup, wgCons, wgNil, wDrop, wApp, wAug, wSetI, wFor, wNx, wBk, wCt, wCall, wCallL, wCallP, wIsi, wRIn, on1_one, on2_two, lenD_l, lenD_t, toIntD_i, toIntD_b, toTupD_l, negD_i, absD_i, boolD_bool, intD_int, seqD_l, seqD_t, lstD_l, tupD_t, opB_int, addD_i, subI_i, addI_i, modI_pos, divI_pos, mulI_l, mulI_r, ixD_int, rng1, rng2, rngN, wipeS_nil, wipeS_cons, tupH, tupS, tupM, ixH0, ixH1, ixH2, ixH3, ixH4, ixS0, ixS1, ixS2, ixS3, ixS4, ixS5, ixS6, ixM0, ixM1, ixM2, seqP, lstP, seqSs, lenP, lenSs, eqD_int, neD_int, in2, lenI, wO_some, wO_some, if_true, if_false, reduceIte, reduceCtorEq,
  List.length_map, List.length_range, List.getElem?_cons_zero, List.getElem?_cons_succ, List.set_cons_zero, List.set_cons_succ, List.length_cons, List.length_nil, List.map_cons, List.map_nil, List.append_nil, List.nil_append, List.cons_append, Nat.reduceAdd, Nat.reduceSub, Nat.reduceLeDiff, Nat.reduceLT, true_and, and_true, Bool.not_true, Bool.not_false, Option.some.injEq, exists_eq_left', exists_eq_left, Bool.false_eq_true, decide_true, decide_false])
namespace PL
/-! sizes -/
theorem okI {i : Int} (h0 : -100000 < i) (h1 : i < 100000) : Ok 0 17 (.int i) := ok_int h0 h1
theorem okInts {l : List Int} {m : Nat} (h : ∀ i ∈ l, -100000 < i ∧ i < 100000) (hm : l.length * 18 ≤ m) : Ok 1 m (.list (l.map .int)) := ok_list (fun d hd => by
  obtain ⟨i, hi, rfl⟩ := List.mem_map.mp hd
  exact ok_int (h i hi).1 (h i hi).2) (by rw [List.length_map]; exact hm)
theorem okH {h : Hb} (o : HOk h) : Ok 2 2000 (encH h) := by
  have b1 := o.d2
  have b2 := o.b2
  have b3 := o.t
  have b4 := o.p
  have b5 := o.l
  refine ok_tup (n := 1) (w := 300) (fun d hd => ?_) (by show 5 * 301 ≤ 2000; decide)
  simp only [List.mem_cons, List.not_mem_nil, or_false] at hd
  rcases hd with rfl | rfl | rfl | rfl | rfl
  · exact okInts (fun i hi => by have := o.db i hi; omega) (by omega)
  · exact okInts (fun i hi => by have := o.bb i hi; omega) (by omega)
  · exact (okI (by omega) (by omega)).mono (by decide) (by decide)
  · exact (okI (by omega) (by omega)).mono (by decide) (by decide)
  · exact (okI (by omega) (by omega)).mono (by decide) (by decide)
theorem okS {s : Sh} (o : SOk s) : Ok 1 200 (encS s) := by
  have b1 := o.r
  have b2 := o.le
  have b3 := o.dr
  have b4 := o.st
  have b5 := o.tu
  have b6 := o.se
  have b7 := o.li
  refine ok_tup (n := 0) (w := 17) (fun d hd => ?_) (by show 7 * 18 ≤ 200; decide)
  simp only [List.mem_cons, List.not_mem_nil, or_false] at hd
  rcases hd with rfl | rfl | rfl | rfl | rfl | rfl | rfl <;> exact okI (by omega) (by omega)
theorem okSs {ss : List Sh} (h : ∀ s ∈ ss, SOk s) (hl : ss.length ≤ 3) : Ok 2 1000 (encSs ss) := ok_list (n := 1) (w := 200) (fun d hd => by
  obtain ⟨s, hs, rfl⟩ := List.mem_map.mp hd
  exact okS (h s hs)) (by rw [List.length_map]; omega)
theorem okMv {m : Mv} (o : MvB m) : Ok 1 100 (encM m) := by
  unfold MvB at o
  refine ok_tup (n := 0) (w := 17) (fun d hd => ?_) (by show 3 * 18 ≤ 100; decide)
  simp only [List.mem_cons, List.not_mem_nil, or_false] at hd
  rcases hd with rfl | rfl | rfl <;> exact okI (by omega) (by omega)
theorem okP {p : List Mv} (h : ∀ m ∈ p, MvB m) (hl : p.length ≤ 3) : Ok 2 500 (encP p) := ok_list (n := 1) (w := 100) (fun d hd => by
  obtain ⟨s, hs, rfl⟩ := List.mem_map.mp hd
  exact okMv (h s hs)) (by rw [List.length_map]; omega)
theorem repr_l {n w : Nat} {es : List PyData} (h : Ok n w (.list es)) (hn : n ≤ 60) (hw : w ≤ 700000) : reprO (.list es) = some (.str (PyData.list es).shown) := if_pos ⟨h.sh, h.nd, Nat.le_trans h.dp hn, h.fits hw⟩
theorem repr_t {n w : Nat} {es : List PyData} (h : Ok n w (.tuple es)) (hn : n ≤ 60) (hw : w ≤ 700000) : reprO (.tuple es) = some (.str (PyData.tuple es).shown) := if_pos ⟨h.sh, h.nd, Nat.le_trans h.dp hn, h.fits hw⟩
theorem neD_same {d : PyData} (h : SeqAt.shaped d = true) : neD d d = some (.bool false) := by
  have hc : d.canLay0 = true := by
    unfold SeqAt.shaped at h
    rw [Bool.and_eq_true] at h
    exact h.1
  unfold neD
  rw [if_pos ⟨h, h⟩, SeqAt.eqv_refl d hc]
  rfl
theorem eqD_same {d : PyData} (h : SeqAt.shaped d = true) : eqD d d = some (.bool true) := by
  have hc : d.canLay0 = true := by
    unfold SeqAt.shaped at h
    rw [Bool.and_eq_true] at h
    exact h.1
  unfold eqD
  rw [if_pos ⟨h, h⟩, SeqAt.eqv_refl d hc]
theorem shaped_lay {d : PyData} (h : SeqAt.shaped d = true) : d.canLay0 = true := by
  unfold SeqAt.shaped at h
  rw [Bool.and_eq_true] at h
  exact h.1
theorem shaped_wi {x : Str} {i : Int} (h : SeqAt.shaped (.str x) = true) : SeqAt.shaped (.tuple [.str x, .int i]) = true := by
  show (((PyData.str x).canLay0 && (true && true)) && decide (1 ≤ 64)) = true
  rw [shaped_lay h]
  rfl
theorem wrong_shaped {h : Hb} {ss : List Sh} {p : List Mv} : SeqAt.shaped (wrongIn h ss p) = true := by
  have tg : SeqAt.shaped (together h ss p) = true := by
    unfold together
    split
    · exact shaped_wi (by decide +kernel)
    · split
      · exact shaped_wi (by decide +kernel)
      · rfl
  unfold wrongIn
  split
  · rename_i i _
    unfold wordAt
    split
    · rename_i s m _ _
      unfold wordOf
      cases wEarly s m
      · cases wLate h m
        · cases wBerth h s m
          · cases wDepth h s m
            · cases (p.take i).any (share m)
              · rfl
              · exact shaped_wi (by decide +kernel)
            · exact shaped_wi (by decide +kernel)
          · exact shaped_wi (by decide +kernel)
        · exact shaped_wi (by decide +kernel)
      · exact shaped_wi (by decide +kernel)
    · rfl
  · exact tg
end PL

set_option Elab.async false
set_option linter.all false
set_option maxRecDepth 100000
set_option maxHeartbeats 4000000
namespace PL
open PySem PySem.Spec PyProof.Rows L2 Evl Tw VL
/-! ranks: a row sorted by a strict order stands by how many are ahead -/
theorem filter_one {α : Type} {p : α → Bool} {a : α} : ∀ {l : List α}, l.Nodup → a ∈ l → (∀ x ∈ l, p x = true ↔ x = a) → l.filter p = [a]
  | [], _, h, _ => absurd h List.not_mem_nil
  | b :: r, hn, h, hp => by
    rw [List.nodup_cons] at hn
    by_cases e : b = a
    · subst e
      rw [List.filter_cons_of_pos ((hp b List.mem_cons_self).mpr rfl)]
      congr 1
      rw [List.filter_eq_nil_iff]
      intro x hx hpx
      have := (hp x (List.mem_cons_of_mem _ hx)).mp hpx
      subst this
      exact hn.1 hx
    · rw [List.filter_cons_of_neg (fun z => e ((hp b List.mem_cons_self).mp z))]
      rcases List.mem_cons.mp h with z | z
      · exact absurd z.symm e
      · exact filter_one hn.2 z fun x hx => hp x (List.mem_cons_of_mem _ hx)
theorem rank_at {α : Type} (R : α → α → Bool) (asym : ∀ a b, R a b = true → R b a = false) (irr : ∀ a, R a a = false) {L : List α} (h : L.Pairwise fun a b => R a b = true) {p : Nat} {a : α} (ha : L[p]? = some a) : (L.filter fun o => R o a).length = p := by
  obtain ⟨hp, e⟩ := List.getElem?_eq_some_iff.mp ha
  have e0 : L = L.take p ++ L[p] :: L.drop (p + 1) := by
    rw [List.getElem_cons_drop, List.take_append_drop]
  rw [e] at e0
  rw [e0] at h ⊢
  rw [List.pairwise_append] at h
  obtain ⟨_, h2, h3⟩ := h
  rw [List.pairwise_cons] at h2
  rw [List.filter_append, List.length_append, List.filter_cons_of_neg (by rw [irr]; exact Bool.false_ne_true)]
  rw [List.filter_eq_self.mpr fun x hx => h3 x hx a List.mem_cons_self]
  rw [List.filter_eq_nil_iff.mpr fun x hx z => by
    rw [asym a x (h2.1 x hx)] at z
    cases z]
  rw [List.length_take, List.length_nil]
  omega
theorem ranks {n : Nat} (R : Nat → Nat → Bool) (asym : ∀ a b, R a b = true → R b a = false) (irr : ∀ a, R a a = false) {L : List Nat} (hp : L.Perm (List.range n)) (h : L.Pairwise fun a b => R a b = true) :
    ((List.range n).flatMap fun p => (List.range n).filter fun a => ((List.range n).filter fun o => R o a).length == p) = L := by
  have hl : L.length = n := by rw [hp.length_eq, List.length_range]
  have hr : ∀ a, ((List.range n).filter fun o => R o a).length = (L.filter fun o => R o a).length := fun a => (hp.filter _).symm.length_eq
  have key : ∀ p ∈ List.range n, ((List.range n).filter fun a => ((List.range n).filter fun o => R o a).length == p) = [L.getD p 0] := by
    intro p hpn
    have hpn2 : p < L.length := by rw [hl]; exact List.mem_range.mp hpn
    have e1 : L.getD p 0 = L[p] := by rw [List.getD_eq_getElem?_getD, List.getElem?_eq_getElem hpn2]; rfl
    rw [e1]
    refine filter_one List.nodup_range (hp.mem_iff.mp (List.getElem_mem _)) fun x hx => ?_
    obtain ⟨i, hi, rfl⟩ := List.getElem_of_mem (hp.mem_iff.mpr hx)
    rw [hr, rank_at R asym irr h (List.getElem?_eq_getElem hi), beq_iff_eq]
    constructor
    · rintro rfl
      rfl
    · intro e
      exact (List.getElem_inj (hp.nodup_iff.mpr List.nodup_range)).mp e
  have e2 : ((List.range n).flatMap fun p => (List.range n).filter fun a => ((List.range n).filter fun o => R o a).length == p) = (List.range n).flatMap fun p => [L.getD p 0] := by
    rw [List.flatMap_eq_foldl, List.flatMap_eq_foldl]
    have go : ∀ (ps : List Nat) (acc : List Nat), (∀ p ∈ ps, p ∈ List.range n) → ps.foldl (fun acc p => acc ++ (List.range n).filter fun a => ((List.range n).filter fun o => R o a).length == p) acc = ps.foldl (fun acc p => acc ++ [L.getD p 0]) acc := by
      intro ps
      induction ps with
      | nil => exact fun _ _ => rfl
      | cons p r ih =>
        intro acc h
        rw [List.foldl_cons, List.foldl_cons, key p (h p List.mem_cons_self)]
        exact ih _ fun q hq => h q (List.mem_cons_of_mem _ hq)
    exact go _ _ fun _ h => h
  rw [e2]
  refine List.ext_getElem? fun i => ?_
  rw [show ((List.range n).flatMap fun p => [L.getD p 0]) = (List.range n).map fun p => L.getD p 0 by induction List.range n with | nil => rfl | cons a r ih => rw [List.flatMap_cons, ih]; rfl]
  rw [List.getElem?_map]
  by_cases hi : i < n
  · rw [List.getElem?_eq_getElem (by rw [List.length_range]; exact hi), List.getElem_range, List.getElem?_eq_getElem (by omega)]
    show some (L.getD i 0) = _
    rw [List.getD_eq_getElem?_getD, List.getElem?_eq_getElem (by omega)]
    rfl
  · rw [List.getElem?_eq_none (by rw [List.length_range]; omega), List.getElem?_eq_none (by omega)]
    rfl
/-! the words of rules -/
def tab_RULES : List (Str × PyData) := [(Str.ofString "first", .tuple [.int 0, .int 1]), (Str.ofString "short", .tuple [.int 3, .int 1]), (Str.ofString "dear", .tuple [.int 5, .int (-1)]), (Str.ofString "shallow", .tuple [.int 2, .int 1])]
def tab_law : List (Str × Int) := [(Str.ofString "first", (0 : Int)), (Str.ofString "short", (3 : Int)), (Str.ofString "dear", (5 : Int)), (Str.ofString "shallow", (2 : Int))]
structure WordK (word : Str) (at_ sg : Int) (key : Sh → Int) : Prop where
  t1 : tab_RULES.lookup word = some (.tuple [.int at_, .int sg])
  t2 : tab_law.lookup word = some at_
  ix : ∀ s, ixD (encS s) (.int at_) = some (.int (key s))
  sh : SeqAt.shaped (.str word) = true
  sg : (sg = 1 ∧ word ≠ Str.ofString "dear") ∨ (sg = -1 ∧ word = Str.ofString "dear")
theorem word1 : WordK (Str.ofString "first") 0 1 (·.r) := ⟨rfl, rfl, fun _ => rfl, by decide +kernel, .inl ⟨rfl, by decide⟩⟩
theorem word2 : WordK (Str.ofString "short") 3 1 (·.st) := ⟨rfl, rfl, fun _ => rfl, by decide +kernel, .inl ⟨rfl, by decide⟩⟩
theorem word3 : WordK (Str.ofString "dear") 5 (-1) (·.se) := ⟨rfl, rfl, fun _ => rfl, by decide +kernel, .inr ⟨rfl, rfl⟩⟩
theorem word4 : WordK (Str.ofString "shallow") 2 1 (·.dr) := ⟨rfl, rfl, fun _ => rfl, by decide +kernel, .inl ⟨rfl, by decide⟩⟩
def kI (f : Sh → Int) (ss : List Sh) (i : Nat) : Int := match ss[i]? with
  | some s => f s
  | none => 0
def befN (f : Sh → Int) (ss : List Sh) (i j : Nat) : Bool := decide (kI f ss i < kI f ss j ∨ (kI f ss i = kI f ss j ∧ (i : Int) < (j : Int)))
def leN (f : Sh → Int) (ss : List Sh) (i j : Nat) : Bool := decide (kI f ss i < kI f ss j ∨ (kI f ss i = kI f ss j ∧ (i : Int) ≤ (j : Int)))
def orderL (f : Sh → Int) (ss : List Sh) : List Nat := (List.range ss.length).mergeSort (leN f ss)
def rankN (f : Sh → Int) (ss : List Sh) (a : Nat) : Nat := ((List.range ss.length).filter fun o => befN f ss o a).length
theorem order_ranks {f : Sh → Int} {ss : List Sh} : ((List.range ss.length).flatMap fun p => (List.range ss.length).filter fun a => rankN f ss a == p) = orderL f ss := by
  refine ranks (befN f ss) (fun a b h => ?_) (fun a => ?_) (List.mergeSort_perm ..) ?_
  · unfold befN at h ⊢
    rw [decide_eq_true_eq] at h
    rw [decide_eq_false_iff_not]
    omega
  · unfold befN
    rw [decide_eq_false_iff_not]
    omega
  · have h1 : (orderL f ss).Pairwise fun a b => leN f ss a b = true := List.pairwise_mergeSort (fun a b c h1 h2 => by
      unfold leN at h1 h2 ⊢
      rw [decide_eq_true_eq] at h1 h2 ⊢
      omega) (fun a b => by
      unfold leN
      rw [Bool.or_eq_true, decide_eq_true_eq, decide_eq_true_eq]
      omega) _
    have h2 : (orderL f ss).Nodup := (List.mergeSort_perm ..).nodup_iff.mpr List.nodup_range
    refine (h1.and h2).imp fun {a b} h => ?_
    unfold leN at h
    unfold befN
    rw [decide_eq_true_eq] at h ⊢
    omega
end PL

set_option Elab.async false
set_option linter.all false
set_option maxRecDepth 100000
set_option maxHeartbeats 4000000
open PySem PySem.Spec PyProof.Rows L2 Evl Tw VL PL
/-! what a written piece does, spelled out over a state that is known -/
local macro_rules | `(tactic| walk_at "vl") => `(tactic| simp (disch := omega) only [wSeq2, wAsg, wAsgO, wVarV, wVar, wMove, wC, wName, wRet, wRetO, wN, wCons, wNil, w2, w1, w3, wTup, wLst, wTst, wTru, wAnd, wOr, wNot, wYes, wIf, wIfS, wAndV, wOrV, wNotV, wSlG, wSl, wPart, wNoP, wLc, wSeq, wIt, wgTup, wgCons, wgNil, wDrop, wApp, wAug, wSetI, wFor, wNx, wBk, wCt, wCall, wCallL, wCallP, wIsi, wRIn, on1_one, on2_two, lenD_l, lenD_t, toIntD_i, toIntD_b, toTupD_l, negD_i, absD_i, boolD_bool, intD_int, seqD_l, seqD_t, lstD_l, tupD_t, opB_int, addD_i, subI_i, addI_i, modI_pos, divI_pos, mulI_l, mulI_r, ixD_int, rng1, rng2, rngN, wipeS_nil, wipeS_cons, tupH, tupS, tupM, ixH0, ixH1, ixH2, ixH3, ixH4, ixS0, ixS1, ixS2, ixS3, ixS4, ixS5, ixS6, ixM0, ixM1, ixM2, seqP, lstP, seqSs, lenP, lenSs, eqD_int, neD_int, in2, lenI, wO_some, wO_some, if_true, if_false, reduceIte, reduceCtorEq,
  List.length_map, List.length_range, List.getElem?_cons_zero, List.getElem?_cons_succ, List.set_cons_zero, List.set_cons_succ, List.length_cons, List.length_nil, List.map_cons, List.map_nil, List.append_nil, List.nil_append, List.cons_append, Nat.reduceAdd, Nat.reduceSub, Nat.reduceLeDiff, Nat.reduceLT, true_and, and_true, Bool.not_true, Bool.not_false, Option.some.injEq, exists_eq_left', exists_eq_left, Bool.false_eq_true, decide_true, decide_false])
namespace PL
/-! all plans of one or two ships, as the law makes them -/
def apart (x y : Mv) : Bool := !decide (x.b = y.b) || (decide (x.o < y.a) || decide (y.o < x.a))
def overC (h : Hb) (ss : List Sh) (p : List Mv) (n : Int) : Bool := tooP h p n || tooT h ss p n
def endsOf (p : List Mv) : List Int := p.map (·.a) ++ p.map (·.o)
def fits (h : Hb) (ss : List Sh) (p : List Mv) : Bool := (endsOf p).all fun n => !overC h ss p n
def addM (m : Mv) (ps : List (List Mv)) : List (List Mv) := ps.flatMap fun p => if (p.map (apart m)).all id = true then [p ++ [m]] else []
def longer (h : Hb) (s : Sh) (ps : List (List Mv)) : List (List Mv) := (movesOf h s).flatMap fun m => addM m ps
def stepP (h : Hb) (ss : List Sh) (ps : List (List Mv)) (s : Sh) : List (List Mv) := (longer h s ps).filter (fits h ss)
def plansTo (h : Hb) (ss : List Sh) (i : Nat) : List (List Mv) := (ss.take i).foldl (stepP h ss) [[]]
def plansOf (h : Hb) (ss : List Sh) : List (List Mv) := ss.foldl (stepP h ss) [[]]
theorem plansTo_succ {h : Hb} {ss : List Sh} {i : Nat} {s : Sh} (hs : ss[i]? = some s) : plansTo h ss (i + 1) = stepP h ss (plansTo h ss i) s := by
  unfold plansTo
  rw [List.take_succ, hs, List.foldl_append]
  rfl
def C__law_apart : Ct := fun ds Q => ∃ x y : Mv, ds = [encM x, encM y] ∧ Q (.bool (apart x y))
theorem c__law_apart : ∀ ds Q, C__law_apart ds Q → ds.length = 2 := by
  rintro ds Q ⟨_, _, rfl, _⟩
  rfl
def w__law_apart : WS := (wSeq2 (wIfS (wTst (w2 neD (w2 ixD (wVarV 0) (wC (.int 1))) (w2 ixD (wVarV 1) (wC (.int 1))))) (wRet (wC (.bool true))) wNx)
    (wRet (wOrV (w2 ltB (w2 ixD (wVarV 0) (wC (.int 2))) (w2 ixD (wVarV 1) (wC (.int 0)))) (w2 ltB (w2 ixD (wVarV 1) (wC (.int 2))) (w2 ixD (wVarV 0) (wC (.int 0)))))))
theorem p__law_apart : ∀ ds Q, C__law_apart ds Q → w__law_apart (endV Q) (startS 2 ds) := by
  rintro ds Q ⟨x, y, rfl, q⟩
  simp only [w__law_apart, startS_2, unS_s, unS_0]
  refine wSeq_if1 (!decide (x.b = y.b)) (fun Q q => by walk_at "vl"; exact q) (fun h1 => ?_) fun h1 => ?_
  · walk_at "vl"
    unfold apart at q
    rw [h1, Bool.true_or] at q
    exact q
  · unfold apart at q
    rw [h1, Bool.false_or] at q
    walk_at "vl"
    cases z : decide (x.o < y.a) <;> rw [z] at q
    · exact q
    · exact q
def C__law_fits : Ct := fun ds Q => ∃ (h : Hb) (ss : List Sh) (p : List Mv), ds = [encH h, encSs ss, encP p] ∧ p.length ≤ ss.length ∧ p.length ≤ 20 ∧ Q (.bool (fits h ss p))
theorem c__law_fits : ∀ ds Q, C__law_fits ds Q → ds.length = 3 := by
  rintro ds Q ⟨_, _, _, rfl, _⟩
  rfl
def w__law_fits : WS := (wSeq2 (wFor (wSeq (wN (on1 srtD) (wCons (w2 addD (wLc (wSeq (wVarV 2)) (wName 4) wYes (w2 ixD (wVarV 4) (wC (.int 0))) [4]) (wLc (wSeq (wVarV 2)) (wName 4) wYes (w2 ixD (wVarV 4) (wC (.int 2))) [4])) wNil))) (wName 3)
      (wSeq2 (wAsgO (wLc (wIt rng1A (wCons (wN (on1 lenD) (wCons (wVarV 2) wNil)) wNil)) (wName 6) (wTst (w2 (inGD false) (wVarV 3) (wLst (wCons (w2 ixD (w2 ixD (wVarV 2) (wVarV 6)) (wC (.int 0))) (wCons (w2 ixD (w2 ixD (wVarV 2) (wVarV 6)) (wC (.int 2))) wNil))))) (wVar 6) [6]) 5)
      (wIfS (wOr (wTst (w2 gtB (wN (on1 lenD) (wCons (wVarV 5) wNil)) (w2 ixD (wVarV 0) (wC (.int 3))))) (wTst (w2 gtB (wN (on1 sumD) (wCons (wLc (wSeq (wVarV 5)) (wName 6) wYes (w2 ixD (w2 ixD (wVarV 1) (wVarV 6)) (wC (.int 4))) [6]) wNil)) (w2 ixD (wVarV 0) (wC (.int 2)))))) (wRet (wC (.bool false))) wNx)))
    (wRet (wC (.bool true))))
theorem p__law_fits : ∀ ds Q, C__law_fits ds Q → w__law_fits (endV Q) (startS 7 ds) := by
  rintro ds Q ⟨h, ss, p, rfl, hl, hz, q⟩
  simp only [w__law_fits, startS_3, unS_s, unS_0]
  refine wSeq_step' (fun R => ((srtI (endsOf p)).find? (overC h ss p) = none → ∀ x : Sl × Sl, R [.da (encH h), .da (encSs ss), .da (encP p), x.1, .un, x.2, .un]) ∧ (∀ n, (srtI (endsOf p)).find? (overC h ss p) = some n → Q (.bool false))) (fun R hR => ?_) ⟨fun hn x => ?_, fun n hn => ?_⟩
  · walk_at "vl"
    refine ⟨by omega, wMap_all p encM (fun m => .int m.a) (fun j m hj N1 N2 h1 => ?_) ?_⟩
    · unfold wTurn
      walk_at "vl"
      exact h1
    refine ⟨_, rfl, by rw [List.length_map]; omega, wMap_all p encM (fun m => .int m.o) (fun j m hj N1 N2 h1 => ?_) ?_⟩
    · unfold wTurn
      walk_at "vl"
      exact h1
    have e1 : (p.map fun m => PyData.int m.a) = (p.map (·.a)).map .int := by rw [List.map_map]; rfl
    have e2 : (p.map fun m => PyData.int m.o) = (p.map (·.o)).map .int := by rw [List.map_map]; rfl
    rw [e1, e2, addD_l (by simp only [List.length_map]; omega), ← List.map_append]
    walk_at "vl"
    rw [srtD_ints (by simp only [List.length_append, List.length_map]; omega)]
    walk_at "vl"
    refine wLoop_find (srtI (endsOf p)) .int (fun x : Sl × Sl => [.da (encH h), .da (encSs ss), .da (encP p), x.1, .un, x.2, .un]) (overC h ss p) (fun n => .bool false) (x0 := (.un, .un)) (fun i n x N hi h1 h2 => ?_) hR.2 hR.1
    refine wSeq_step [.da (encH h), .da (encSs ss), .da (encP p), .da (.int n), .un, .ow ((movers p n).map fun i => .int (i : Nat)), .un] (fun R2 hR2 => ?_) ?_
    · walk_at "vl"
      refine ⟨by omega, wMap_map (List.range p.length) _ (mov p n) (fun i => .int (i : Nat)) (fun j i hj N1 N2 h1 h2 => ?_) ?_⟩
      · obtain ⟨hj1, hj2⟩ := List.getElem?_eq_some_iff.mp hj
        rw [List.getElem_range] at hj2
        subst hj2
        rw [List.length_range] at hj1
        have hm : p[j]? = some p[j] := List.getElem?_eq_getElem hj1
        unfold wTurn
        walk_at "vl"
        simp only [ixP hm, wO_some]
        walk_at "vl"
        simp only [in2L, wO_some]
        walk_at "vl"
        unfold mov at h1 h2
        rw [hm] at h1 h2
        cases z : (decide (n = p[j].a) || decide (n = p[j].o)) with
        | true => exact h1 z
        | false => exact h2 z
      · walk_at "vl"
        exact hR2
    refine wIfS_b (overC h ss p n) (fun Q q => ?_) (fun hc => h1 hc) fun hc => h2 hc (_, _)
    have ml : (movers p n).length ≤ 20 := by unfold movers; exact Nat.le_trans (List.length_filter_le _ _) (by rw [List.length_range]; omega)
    have e3 : ((movers p n).map fun i => PyData.int (tuAt ss i)) = ((movers p n).map (tuAt ss)).map .int := by rw [List.map_map]; rfl
    walk_at "vl"
    unfold overC at q
    cases z : tooP h p n <;> unfold tooP at z <;> rw [z]
    · rw [show tooP h p n = false from z] at q
      walk_at "vl"
      refine ⟨by omega, wMap_all (movers p n) (fun i => .int (i : Nat)) (fun i => .int (tuAt ss i)) (fun j i hj N1 N2 h1 => ?_) ?_⟩
      · have hi : i < ss.length := by
          have := List.mem_of_getElem? hj
          unfold movers at this
          have := (List.mem_filter.mp this).1
          rw [List.mem_range] at this
          omega
        have hs : ss[i]? = some ss[i] := List.getElem?_eq_getElem hi
        unfold wTurn
        walk_at "vl"
        simp only [ixSs hs, wO_some, ixS4]
        unfold tuAt at h1
        rw [hs] at h1
        exact h1
      · rw [e3, sumD_ints]
        walk_at "vl"
        exact q
    · rw [show tooP h p n = true from z] at q
      walk_at "vl"
      exact q
  · have e : fits h ss p = true := List.all_eq_true.mpr fun n hm => by
      have := List.find?_eq_none.mp hn n ((List.mergeSort_perm ..).mem_iff.mpr hm)
      rw [Bool.not_eq_true] at this
      rw [this]
      rfl
    rw [e] at q
    walk_at "vl"
    exact q
  · have h1 := List.find?_some hn
    have h2 := List.mem_of_find?_eq_some hn
    have e : fits h ss p = false := by
      rw [Bool.eq_false_iff]
      intro hf
      have := List.all_eq_true.mp hf n ((List.mergeSort_perm ..).mem_iff.mp h2)
      rw [h1] at this
      cases this
    rw [e] at q
    exact q
end PL

set_option Elab.async false
set_option linter.all false
set_option maxRecDepth 100000
set_option maxHeartbeats 4000000
open PySem PySem.Spec PyProof.Rows L2 Evl Tw VL PL
/-! what a written piece does, spelled out over a state that is known -/
local macro_rules | `(tactic| walk_at "vl") => `(tactic| simp (disch := omega) only [wSeq2, wAsg, wAsgO, wVarV, wVar, wMove, wC, wName, wRet, wRetO, wN, wCons, wNil, w2, w1, w3, wTup, wLst, wTst, wTru, wAnd, wOr, wNot, wYes, wIf, wIfS, wAndV, wOrV, wNotV, wSlG, wSl, wPart, wNoP, wLc, wSeq, wIt, wgTup, wgCons, wgNil, wDrop, wApp, wAug, wSetI, wFor, wNx, wBk, wCt, wCall, wCallL, wCallP, wIsi, wRIn, on1_one, on2_two, lenD_l, lenD_t, toIntD_i, toIntD_b, toTupD_l, negD_i, absD_i, boolD_bool, intD_int, seqD_l, seqD_t, lstD_l, tupD_t, opB_int, addD_i, subI_i, addI_i, modI_pos, divI_pos, mulI_l, mulI_r, ixD_int, rng1, rng2, rngN, wipeS_nil, wipeS_cons, tupH, tupS, tupM, ixH0, ixH1, ixH2, ixH3, ixH4, ixS0, ixS1, ixS2, ixS3, ixS4, ixS5, ixS6, ixM0, ixM1, ixM2, seqP, lstP, seqSs, lenP, lenSs, eqD_int, neD_int, in2, lenI, wO_some, wO_some, if_true, if_false, reduceIte, reduceCtorEq,
  List.length_map, List.length_range, List.getElem?_cons_zero, List.getElem?_cons_succ, List.set_cons_zero, List.set_cons_succ, List.length_cons, List.length_nil, List.map_cons, List.map_nil, List.append_nil, List.nil_append, List.cons_append, Nat.reduceAdd, Nat.reduceSub, Nat.reduceLeDiff, Nat.reduceLT, true_and, and_true, Bool.not_true, Bool.not_false, Option.some.injEq, exists_eq_left', exists_eq_left, Bool.false_eq_true, decide_true, decide_false])
namespace PL
theorem sum_sub {α : Type} {f : α → Nat} : ∀ {l L : List α}, l.Sublist L → (l.map f).sum ≤ (L.map f).sum
  | _, _, .slnil => Nat.le_refl _
  | _, _, .cons a h => by
    rw [List.map_cons, List.sum_cons]
    exact Nat.le_trans (sum_sub h) (Nat.le_add_left _ _)
  | _, _, .cons₂ a h => by
    rw [List.map_cons, List.sum_cons, List.map_cons, List.sum_cons]
    exact Nat.add_le_add_left (sum_sub h) _
theorem sum_le {α : Type} {f g : α → Nat} : ∀ {l : List α}, (∀ x ∈ l, f x ≤ g x) → (l.map f).sum ≤ (l.map g).sum
  | [], _ => Nat.le_refl _
  | a :: r, h => by
    rw [List.map_cons, List.sum_cons, List.map_cons, List.sum_cons]
    exact Nat.add_le_add (h a List.mem_cons_self) (sum_le fun x hx => h x (List.mem_cons_of_mem _ hx))
def hours13 : List Int := (List.range 13).map fun n => ((n : Nat) : Int)
theorem deep_sub {h : Hb} {s : Sh} (hl : h.last ≤ 12) : (deep h s).Sublist hours13 := by
  unfold deep hours13
  refine List.Sublist.map _ (List.Sublist.trans List.filter_sublist ?_)
  exact List.range_sublist.mpr (by omega)
theorem moves132 {h : Hb} {s : Sh} (hh : HNear h) (hs : SNear s) : (movesOf h s).length ≤ 132 := by
  have d := deep_sub (s := s) hh.2.1
  have hb := hh.1.b2
  have ht := hs.1.st
  have h1 : ∀ a o : Int, (mvs1 h s a o).length ≤ if a + 1 < o then 2 else 0 := by
    intro a o
    split
    · exact mvs1_len hb
    · rename_i hn
      unfold mvs1
      refine Nat.le_trans (flat_len (c := 0) fun b _ => ?_) (by omega)
      have : okM h s a o b = false := by
        unfold okM
        rw [decide_eq_false (show ¬(a + s.st < o) by omega)]
        simp
      rw [this]
      exact Nat.le_refl 0
  have h2 : ∀ a, (mvs2 h s a).length ≤ (hours13.map fun o => if a + 1 < o then 2 else 0).sum := by
    intro a
    unfold mvs2
    rw [List.length_flatMap]
    exact Nat.le_trans (sum_sub d) (sum_le fun o _ => h1 a o)
  unfold movesOf
  rw [List.length_flatMap]
  refine Nat.le_trans (Nat.le_trans (sum_sub d) (sum_le fun a _ => h2 a)) ?_
  decide +kernel
theorem addM_len {m : Mv} {ps : List (List Mv)} : (addM m ps).length ≤ ps.length := by
  unfold addM
  refine Nat.le_trans (flat_len (c := 1) fun p _ => ?_) (by omega)
  split
  · exact Nat.le_refl 1
  · exact Nat.zero_le 1
theorem longer_len {h : Hb} {s : Sh} {ps : List (List Mv)} (hh : HNear h) (hs : SNear s) : (longer h s ps).length ≤ 132 * ps.length := by
  unfold longer
  refine Nat.le_trans (flat_len (c := ps.length) fun m _ => addM_len) ?_
  exact Nat.mul_le_mul_right _ (moves132 hh hs)
theorem step_len {h : Hb} {ss : List Sh} {s : Sh} {ps : List (List Mv)} (hh : HNear h) (hs : SNear s) : (stepP h ss ps s).length ≤ 132 * ps.length := Nat.le_trans (List.length_filter_le _ _) (longer_len hh hs)
theorem plansTo_len {h : Hb} {ss : List Sh} (hh : HNear h) (hs : ∀ s ∈ ss, SNear s) (hl : ss.length ≤ 2) : ∀ i, i < ss.length → (plansTo h ss i).length ≤ 132
  | 0, _ => by
    unfold plansTo
    rw [List.take_zero]
    exact (by decide : 1 ≤ 132)
  | 1, h1 => by
    have e : ss[0]? = some ss[0] := List.getElem?_eq_getElem (by omega)
    rw [plansTo_succ e]
    refine Nat.le_trans (step_len hh (hs _ (List.getElem_mem _))) ?_
    unfold plansTo
    rw [List.take_zero]
    exact (by decide : 132 * 1 ≤ 132)
  | i + 2, h1 => by omega
theorem plans_each {h : Hb} {ss : List Sh} : ∀ i, i ≤ ss.length → ∀ p ∈ plansTo h ss i, p.length = i
  | 0, _, p, hp => by
    unfold plansTo at hp
    rw [List.take_zero] at hp
    cases List.mem_singleton.mp hp
    rfl
  | i + 1, h1, p, hp => by
    have e : ss[i]? = some ss[i] := List.getElem?_eq_getElem (by omega)
    rw [plansTo_succ e] at hp
    have hp := (List.mem_filter.mp hp).1
    obtain ⟨m, _, hp⟩ := List.mem_flatMap.mp hp
    obtain ⟨q, hq, hp⟩ := List.mem_flatMap.mp hp
    split at hp
    · cases List.mem_singleton.mp hp
      rw [List.length_append, plans_each i (by omega) q hq]
      rfl
    · cases hp
/-- as wLoop_acc, where what else there is keeps C -/
theorem wLoop_accC {α β γ : Type} {wg : WG} {wb : WS} {W : WD} (C : β → Prop) (l : List α) (enc : α → PyData) (f : List γ → β → Ss) (g : α → List γ) (acc0 : List γ) (x0 : β) (h0 : C x0)
    (hs : ∀ (i : Nat) a acc x (N : Ss → Prop), C x → l[i]? = some a → acc.length + (g a).length ≤ (acc0 ++ l.flatMap g).length → (∀ x', C x' → N (f (acc ++ g a) x')) → wg (enc a) (f acc x) fun S1 => wb { W with nx := N, ct := N, bk := W.nx } S1)
    (hd : ∀ x, C x → W.nx (f (acc0 ++ l.flatMap g) x)) : wLoop wg wb W (l.map enc) (f acc0 x0) := by
  refine wLoop_map l enc (fun i S' => ∃ x, C x ∧ S' = f (acc0 ++ (l.take i).flatMap g) x) ⟨x0, h0, by rw [List.take_zero, List.flatMap_nil, List.append_nil]⟩ ?_ ?_
  · rintro i a S' N ha ⟨x, hx, rfl⟩ hN
    refine hs i a _ x N hx ha ?_ fun x' hx' => hN _ ⟨x', hx', ?_⟩
    · rw [List.length_append, List.length_append]
      have := flatMap_le (g := g) ha
      omega
    · rw [flatMap_take ha, List.append_assoc]
  · rintro S' ⟨x, hx, rfl⟩
    rw [List.take_length]
    exact hd x hx
theorem wIfS_bS {t : WT} {a b : WS} {W : WD} {S : Ss} (S' : Ss) (c : Bool) (hc : ∀ Q : Bool → Ss → Prop, Q c S' → t S Q) (h1 : c = true → a W S') (h2 : c = false → b W S') : wIfS t a b W S := hc _ (by
  cases c with
  | true => exact h1 rfl
  | false => exact h2 rfl)
theorem alike_Ms : ∀ p q : List Mv, PySem.W.alikeAll (p.map encM) (q.map encM) = true
  | [], _ => by simp [PySem.W.alikeAll]
  | _ :: _, [] => by simp [PySem.W.alikeAll]
  | x :: p, y :: q => by
    rw [List.map_cons, List.map_cons, PySem.W.alikeAll, alike_Ms p q]
    rfl
theorem depth_Ms : ∀ p : List Mv, PyData.depthAll (p.map encM) ≤ 1
  | [] => Nat.zero_le _
  | m :: r => by
    show max (encM m).depth (PyData.depthAll (r.map encM)) ≤ 1
    have : (encM m).depth = 1 := rfl
    have := depth_Ms r
    omega
theorem srt_plans {l : List (List Mv)} : srtG (.list (l.map encP)) = some (.list (srtL (l.map encP))) := srtG_l (PySem.W.AllAlike.of fun p q => alike_Ms p q) (PySem.W.Sortable.others fun p => ⟨(fun e => by cases e), fun xs e => by cases e⟩) (fun d hd => by
  obtain ⟨p, _, rfl⟩ := List.mem_map.mp hd
  have e : (encP p).depth = PyData.depthAll (p.map encM) + 1 := rfl
  have := depth_Ms p
  omega)
def C__law_plans : Ct := fun ds Q => ∃ (h : Hb) (ss : List Sh), ds = [encH h, encSs ss] ∧ HNear h ∧ (∀ s ∈ ss, SNear s) ∧ 0 < ss.length ∧ ss.length ≤ 2 ∧ ∀ L : List (List Mv), L.Perm (plansTo h ss ss.length) → Q (.list (L.map encP))
theorem c__law_plans : ∀ ds Q, C__law_plans ds Q → ds.length = 2 := by
  rintro ds Q ⟨_, _, rfl, _⟩
  rfl
def w__law_plans : WS := (wSeq2 (wAsgO (wLst (wCons (wLst wNil) wNil)) 2)
    (wSeq2 (wFor (wSeq (wVar 1)) (wName 3)
      (wSeq2 (wAsgO (wLst wNil) 4)
      (wSeq2 (wFor (wSeq (wCall C__law_moves (wCons (wVar 0) (wCons (wVar 3) wNil)))) (wName 5)
        (wFor (wSeq (wVar 2)) (wName 6)
          (wIfS (wTst (wN (on1 allD) (wCons (wLc (wSeq (wVarV 6)) (wName 7) wYes (wCall C__law_apart (wCons (wVar 5) (wCons (wVar 7) wNil))) [7]) wNil))) (wApp 4 (w2 addD (wVarV 6) (wLst (wCons (wVar 5) wNil)))) wNx)))
      (wAsgO (wLc (wSeq (wVarV 4)) (wName 6) (wTst (wCall C__law_fits (wCons (wVar 0) (wCons (wVar 1) (wCons (wVar 6) wNil))))) (wVar 6) [6]) 2))))
    (wRet (wN (on1 srtG) (wCons (wVarV 2) wNil)))))
theorem p__law_plans : ∀ ds Q, C__law_plans ds Q → w__law_plans (endV Q) (startS 8 ds) := by
  rintro ds Q ⟨h, ss, rfl, hh, hs, hl0, hl, q⟩
  simp only [w__law_plans, startS_2, unS_s, unS_0]
  refine wSeq_step [.da (encH h), .da (encSs ss), .ow ((plansTo h ss 0).map encP), .un, .un, .un, .un, .un] (fun R hR => by walk_at "vl"; exact hR) ?_
  refine wSeq_step' (fun R => ∀ x3 x4 x5 x6 x7 : Sl, R [.da (encH h), .da (encSs ss), .ow ((plansTo h ss ss.length).map encP), x3, x4, x5, x6, x7]) (fun R hR => ?_) fun x3 x4 x5 x6 x7 => ?_
  · refine ⟨_, rfl, ?_⟩
    refine wLoop_map ss encS (fun i S' => ∃ x3 x4 x5 x6 x7 : Sl, S' = [.da (encH h), .da (encSs ss), .ow ((plansTo h ss i).map encP), x3, x4, x5, x6, x7]) ⟨_, _, _, _, _, rfl⟩ ?_ ?_
    · rintro i s S' N hk ⟨x3, x4, x5, x6, x7, rfl⟩ hN
      obtain ⟨hi, hk2⟩ := List.getElem?_eq_some_iff.mp hk
      have sn : SNear s := hs s (List.mem_of_getElem? hk)
      have pl := plansTo_len hh hs hl i hi
      have ml := longer_len (ps := plansTo h ss i) hh sn
      refine wSeq_step [.da (encH h), .da (encSs ss), .ow ((plansTo h ss i).map encP), .da (encS s), .ow (([] : List (List Mv)).map encP), x5, x6, x7] (fun R hR => by walk_at "vl"; exact hR) ?_
      refine wSeq_step' (fun R => ∀ x : Sl × Sl × Sl × Sl, R [.da (encH h), .da (encSs ss), x.1, .da (encS s), .ow ((longer h s (plansTo h ss i)).map encP), x.2.1, x.2.2.1, x.2.2.2]) (fun R hR => ?_) fun x => ?_
      · walk_at "vl"
        refine ⟨h, s, rfl, hh.1.d1, hh.1.b2, by have := hh.1.l; omega, by have := hh.2.1; omega, ?_⟩
        walk_at "vl"
        refine wLoop_accC (fun x : Sl × Sl × Sl × Sl => x.1 = .ow ((plansTo h ss i).map encP) ∨ x.1 = .da (.list ((plansTo h ss i).map encP))) (movesOf h s) encM (fun acc (x : Sl × Sl × Sl × Sl) => [.da (encH h), .da (encSs ss), x.1, .da (encS s), .ow (acc.map encP), x.2.1, x.2.2.1, x.2.2.2]) (fun m => addM m (plansTo h ss i)) [] (_, _, _, _) (.inl rfl) (fun j m acc x N2 hx hm hle hN2 => ?_) fun x _ => hR x
        have hle1 : acc.length + (addM m (plansTo h ss i)).length ≤ 17424 := Nat.le_trans hle (Nat.le_trans ml (by omega))
        have inner : ∀ W : WD, (∀ x6 x7 : Sl, W.nx [.da (encH h), .da (encSs ss), .da (.list ((plansTo h ss i).map encP)), .da (encS s), .ow ((acc ++ addM m (plansTo h ss i)).map encP), .da (encM m), x6, x7]) →
            wLoop (wName 6) (wIfS (wTst (wN (on1 allD) (wCons (wLc (wSeq (wVarV 6)) (wName 7) wYes (wCall C__law_apart (wCons (wVar 5) (wCons (wVar 7) wNil))) [7]) wNil))) (wApp 4 (w2 addD (wVarV 6) (wLst (wCons (wVar 5) wNil)))) wNx) W ((plansTo h ss i).map encP)
              [.da (encH h), .da (encSs ss), .da (.list ((plansTo h ss i).map encP)), .da (encS s), .ow (acc.map encP), .da (encM m), x.2.2.1, x.2.2.2] := by
          intro W hW
          refine wLoop_acc (plansTo h ss i) encP (fun acc (y : Sl × Sl) => [.da (encH h), .da (encSs ss), .da (.list ((plansTo h ss i).map encP)), .da (encS s), .ow (acc.map encP), .da (encM m), y.1, y.2]) (fun p => if (p.map (apart m)).all id = true then [p ++ [m]] else []) acc (x.2.2.1, x.2.2.2) (fun k p acc2 y N3 hp hle2 hN3 => ?_) fun y => hW _ _
          have hle3 : acc2.length + (if (p.map (apart m)).all id = true then [p ++ [m]] else []).length ≤ 17424 := by
            rw [List.length_append] at hle2
            exact Nat.le_trans hle2 hle1
          have plen : p.length ≤ 2 := by rw [plans_each i (by omega) p (List.mem_of_getElem? hp)]; omega
          refine wIfS_bS [.da (encH h), .da (encSs ss), .da (.list ((plansTo h ss i).map encP)), .da (encS s), .ow (acc2.map encP), .da (encM m), .da (encP p), .un] ((p.map (apart m)).all id) (fun Q q => ?_) (fun hc => ?_) fun hc => ?_
          · walk_at "vl"
            refine ⟨by omega, wMap_all p encM (fun z => .bool (apart m z)) (fun j z hj N4 N5 h1 => ?_) ?_⟩
            · unfold wTurn
              walk_at "vl"
              exact ⟨m, z, rfl, by walk_at "vl"; exact h1⟩
            · have e1 : (p.map fun z => PyData.bool (apart m z)) = (p.map (apart m)).map .bool := by rw [List.map_map]; rfl
              rw [e1, allD_bools]
              walk_at "vl"
              exact q
          · have hN4 := hN3 (.da (encP p), .un)
            rw [hc] at hN4 hle3
            walk_at "vl"
            have e1 : addD (encP p) (.list [encM m]) = some (encP (p ++ [m])) := by
              unfold encP
              rw [addD_l (by rw [List.length_map]; show p.length + 1 ≤ 100000; omega), List.map_append]
              rfl
            rw [e1]
            walk_at "vl"
            refine ⟨_, rfl, _, rfl, ?_, ?_⟩
            · rw [List.length_map]
              have : acc2.length + 1 ≤ 17424 := hle3
              omega
            · rw [if_pos rfl, List.map_append] at hN4
              exact hN4
          · have hN4 := hN3 (.da (encP p), .un)
            rw [hc, if_neg Bool.false_ne_true, List.append_nil] at hN4
            exact hN4
        obtain ⟨x2, x5, x6, x7⟩ := x
        dsimp only at hx hN2 inner
        rcases hx with rfl | rfl
        · refine ⟨_, rfl, ?_⟩
          exact inner _ fun x6 x7 => hN2 (_, _, _, _) (.inr rfl)
        · refine ⟨_, rfl, ?_⟩
          exact inner _ fun x6 x7 => hN2 (_, _, _, _) (.inr rfl)
      · obtain ⟨x2, x5, x6, x7⟩ := x
        dsimp only
        walk_at "vl"
        refine ⟨by omega, wMap_map (longer h s (plansTo h ss i)) encP (fits h ss) encP (fun j p hj N4 N5 h1 h2 => ?_) ?_⟩
        · obtain ⟨m, _, hp⟩ := List.mem_flatMap.mp (List.mem_of_getElem? hj)
          obtain ⟨q0, hq, hp⟩ := List.mem_flatMap.mp hp
          have pl2 : p.length = i + 1 := by
            split at hp
            · cases List.mem_singleton.mp hp
              rw [List.length_append, plans_each i (by omega) q0 hq]
              rfl
            · cases hp
          unfold wTurn
          walk_at "vl"
          refine ⟨h, ss, p, rfl, by omega, by omega, ?_⟩
          walk_at "vl"
          cases z : fits h ss p with
          | true =>
            walk_at "vl"
            exact h1 z
          | false =>
            walk_at "vl"
            exact h2 z
        · walk_at "vl"
          refine hN _ ⟨.da (encS s), .ow ((longer h s (plansTo h ss i)).map encP), x5, .un, x7, ?_⟩
          rw [plansTo_succ hk]
          rfl
    · rintro S' ⟨x3, x4, x5, x6, x7, rfl⟩
      exact hR _ _ _ _ _
  · obtain ⟨L, hL1, hL2⟩ := srtL_map (enc := encP) (l := plansTo h ss ss.length)
    walk_at "vl"
    rw [srt_plans, hL2]
    walk_at "vl"
    exact q L hL1
end PL

set_option Elab.async false
set_option linter.all false
set_option maxRecDepth 100000
set_option maxHeartbeats 4000000
open PySem PySem.Spec PyProof.Rows L2 Evl Tw VL PL
/-! what a written piece does, spelled out over a state that is known -/
local macro_rules | `(tactic| walk_at "vl") => `(tactic| simp (disch := omega) only [wSeq2, wAsg, wAsgO, wVarV, wVar, wMove, wC, wName, wRet, wRetO, wN, wCons, wNil, w2, w1, w3, wTup, wLst, wTst, wTru, wAnd, wOr, wNot, wYes, wIf, wIfS, wAndV, wOrV, wNotV, wSlG, wSl, wPart, wNoP, wLc, wSeq, wIt, wgTup, wgCons, wgNil, wDrop, wApp, wAug, wSetI, wFor, wPar, wPar3, wNx, wBk, wCt, wCall, wCallL, wCallP, wIsi, wRIn, on1_one, on2_two, lenD_l, lenD_t, toIntD_i, toIntD_b, toTupD_l, negD_i, absD_i, boolD_bool, intD_int, seqD_l, seqD_t, lstD_l, tupD_t, opB_int, addD_i, subI_i, addI_i, modI_pos, divI_pos, mulI_l, mulI_r, ixD_int, rng1, rng2, rngN, wipeS_nil, wipeS_cons, tupH, tupS, tupM, ixH0, ixH1, ixH2, ixH3, ixH4, ixS0, ixS1, ixS2, ixS3, ixS4, ixS5, ixS6, ixM0, ixM1, ixM2, seqP, lstP, seqSs, lenP, lenSs, eqD_int, neD_int, in2, lenI, wO_some, wO_some, if_true, if_false, reduceIte, reduceCtorEq,
  List.length_map, List.length_range, List.getElem?_cons_zero, List.getElem?_cons_succ, List.set_cons_zero, List.set_cons_succ, List.length_cons, List.length_nil, List.map_cons, List.map_nil, List.append_nil, List.nil_append, List.cons_append, Nat.reduceAdd, Nat.reduceSub, Nat.reduceLeDiff, Nat.reduceLT, true_and, and_true, Bool.not_true, Bool.not_false, Option.some.injEq, exists_eq_left', exists_eq_left, Bool.false_eq_true, decide_true, decide_false])
namespace PL
theorem tabD_str {tab : List (Str × PyData)} {s : Str} : tabD tab (.str s) = tab.lookup s := rfl
theorem tabI_str {tab : List (Str × Int)} {s : Str} : tabI tab (.str s) = (tab.lookup s).map .int := rfl
def natD (i : Nat) : PyData := .int (i : Nat)
def C_order_of : Ct := fun ds Q => ∃ (ss : List Sh) (word : Str) (at_ sg : Int) (key : Sh → Int), ds = [encSs ss, .str word] ∧ WordK word at_ sg key ∧ ss.length ≤ 3 ∧ Q (.list ((orderL (fun s => sg * key s) ss).map natD))
def C__law_before : Ct := fun ds Q => ∃ (ss : List Sh) (word : Str) (at_ sg : Int) (key : Sh → Int) (i j : Nat), ds = [encSs ss, .str word, .int (i : Nat), .int (j : Nat)] ∧ WordK word at_ sg key ∧ i < ss.length ∧ j < ss.length ∧ Q (.bool (befN (fun s => sg * key s) ss i j))
theorem c_order_of : ∀ ds Q, C_order_of ds Q → ds.length = 2 := by
  rintro ds Q ⟨_, _, _, _, _, rfl, _⟩
  rfl
theorem c__law_before : ∀ ds Q, C__law_before ds Q → ds.length = 4 := by
  rintro ds Q ⟨_, _, _, _, _, _, _, rfl, _⟩
  rfl
def w_order_of : WS := (wSeq2 (wAsg (w1 (tabD tab_RULES) (wVar 1)) (wgTup 2 (wgCons (wName 2) (wgCons (wName 3) wgNil))))
    (wRetO (wLc (wSeq (wN (on1 srtG) (wCons (wLc (wIt enumA (wCons (wVarV 0) wNil)) (wgTup 2 (wgCons (wName 5) (wgCons (wName 6) wgNil))) wYes (wTup (wCons (w2 mulI (wVarV 3) (w2 ixD (wVarV 6) (wVarV 2))) (wCons (wVar 5) wNil))) [5, 6]) wNil))) (wgTup 2 (wgCons (wName 4) (wgCons (wName 5) wgNil))) wYes (wVar 5) [4, 5])))
def w__law_before : WS := (wSeq2 (wAsg (w1 (tabI [(Str.ofString "first", (0 : Int)), (Str.ofString "short", (3 : Int)), (Str.ofString "dear", (5 : Int)), (Str.ofString "shallow", (2 : Int))]) (wVar 1)) (wName 4))
    (wSeq2 (wPar 5 6 (wCons (w2 ixD (w2 ixD (wVarV 0) (wVarV 2)) (wVarV 4)) (wCons (w2 ixD (w2 ixD (wVarV 0) (wVarV 3)) (wVarV 4)) wNil)))
    (wSeq2 (wIfS (wTst (w2 eqD (wVarV 1) (wC (.str (Str.ofString "dear"))))) (wPar 5 6 (wCons (wVar 6) (wCons (wVar 5) wNil))) wNx)
    (wRet (wOrV (w2 ltB (wVarV 5) (wVarV 6)) (wAndV (w2 eqD (wVarV 5) (wVarV 6)) (w2 ltB (wVarV 2) (wVarV 3))))))))

def encN (f : Sh → Int) (ss : List Sh) (i : Nat) : PyData := .tuple [.int (kI f ss i), .int (i : Nat)]
theorem srt_enc {f : Sh → Int} {ss : List Sh} (l : List Nat) (hl : l = List.range ss.length) : srtG (.list (l.map (encN f ss))) = some (.list ((orderL f ss).map (encN f ss))) := by
  refine (srtG_l (PySem.W.AllAlike.of (enc := encN f ss) fun _ _ => rfl) (PySem.W.Sortable.tuples (enc := encN f ss) fun i => ⟨_, _, rfl⟩) (fun d hd => by
    obtain ⟨i, _, rfl⟩ := List.mem_map.mp hd
    show 1 ≤ 60
    decide)).trans ?_
  congr 2
  unfold srtL orderL
  rw [hl]
  rw [List.map_mergeSort (f := encN f ss) (r := leN f ss) (s := PySem.W.dataLe false id) (fun a _ b _ => ?_)]
  have := congrFun (congrFun (PySem.W.dataLe_ii (fun i : Nat => kI f ss i) (fun i : Nat => (i : Int))) a) b
  exact this.symm
theorem p_order_of : ∀ ds Q, C_order_of ds Q → w_order_of (endW Q) (startS 7 ds) := by
  rintro ds Q ⟨ss, word, at_, sg, key, rfl, K, hl, q⟩
  simp only [w_order_of, startS_2, unS_s, unS_0]
  refine wSeq_step [.da (encSs ss), .da (.str word), .da (.int at_), .da (.int sg), .un, .un, .un] (fun R hR => ?_) ?_
  · walk_at "vl"
    rw [tabD_str, K.t1, wO_some]
    walk_at "vl"
    exact hR
  have hsg : ∀ x : Int, mulI (.int sg) (.int x) = some (.int (sg * x)) := fun x => mulI_l (by rcases K.sg with ⟨h, _⟩ | ⟨h, _⟩ <;> omega) (by rcases K.sg with ⟨h, _⟩ | ⟨h, _⟩ <;> omega)
  walk_at "vl"
  refine ⟨enumD (ss.map encS), rfl, by rw [enumD_map, List.length_map, List.length_range]; omega, ?_⟩
  rw [enumD_map]
  refine wMap_all (List.range ss.length) _ (encN (fun s => sg * key s) ss) (fun j i hj N1 N2 h1 => ?_) ?_
  · obtain ⟨hj1, hj2⟩ := List.getElem?_eq_some_iff.mp hj
    rw [List.getElem_range] at hj2
    subst hj2
    rw [List.length_range] at hj1
    have hs : ss[j]? = some ss[j] := List.getElem?_eq_getElem hj1
    unfold wTurn
    rw [getD_map hs]
    walk_at "vl"
    rw [K.ix, wO_some, hsg, wO_some]
    unfold encN kI at h1
    rw [hs] at h1
    exact h1
  rw [srt_enc _ rfl]
  walk_at "vl"
  refine ⟨by unfold orderL; rw [List.length_mergeSort, List.length_range]; omega, wMap_all _ (encN (fun s => sg * key s) ss) natD (fun j i hj N1 N2 h1 => ?_) ?_⟩
  · unfold wTurn encN
    walk_at "vl"
    exact h1
  · walk_at "vl"
    exact q
theorem wAsg_fin {ss : List Sh} {word : Str} {i j : Nat} {at_ a b : Int} {W : WD} {r : WS} (h : r W [.da (encSs ss), .da (.str word), .da (.int (i : Nat)), .da (.int (j : Nat)), .da (.int at_), .da (.int b), .da (.int a)]) :
    wPar 5 6 (wCons (wVar 6) (wCons (wVar 5) wNil)) { W with nx := fun S' => r W S' } [.da (encSs ss), .da (.str word), .da (.int (i : Nat)), .da (.int (j : Nat)), .da (.int at_), .da (.int a), .da (.int b)] := by
  walk_at "vl"
  exact ⟨_, _, rfl, h⟩
theorem p__law_before : ∀ ds Q, C__law_before ds Q → w__law_before (endV Q) (startS 7 ds) := by
  rintro ds Q ⟨ss, word, at_, sg, key, i, j, rfl, K, hi, hj, q⟩
  simp only [w__law_before, startS_4, unS_s, unS_0]
  have hs : ss[i]? = some ss[i] := List.getElem?_eq_getElem hi
  have ht : ss[j]? = some ss[j] := List.getElem?_eq_getElem hj
  refine wSeq_step [.da (encSs ss), .da (.str word), .da (.int (i : Nat)), .da (.int (j : Nat)), .da (.int at_), .un, .un] (fun R hR => ?_) ?_
  · walk_at "vl"
    rw [tabI_str]
    have := K.t2
    unfold tab_law at this
    rw [this]
    exact ⟨_, rfl, hR⟩
  refine wSeq_step [.da (encSs ss), .da (.str word), .da (.int (i : Nat)), .da (.int (j : Nat)), .da (.int at_), .da (.int (key ss[i])), .da (.int (key ss[j]))] (fun R hR => ?_) ?_
  · walk_at "vl"
    rw [ixSs hs, wO_some, K.ix, wO_some, ixSs ht, wO_some, K.ix, wO_some]
    exact ⟨_, _, rfl, hR⟩
  have e1 : kI (fun s => sg * key s) ss i = sg * key ss[i] := by unfold kI; rw [hs]
  have e2 : kI (fun s => sg * key s) ss j = sg * key ss[j] := by unfold kI; rw [ht]
  have fin : ∀ a b : Int, befN (fun s => sg * key s) ss i j = (decide (a < b) || (decide (a = b) && decide ((i : Int) < (j : Int)))) → wRet (wOrV (w2 ltB (wVarV 5) (wVarV 6)) (wAndV (w2 eqD (wVarV 5) (wVarV 6)) (w2 ltB (wVarV 2) (wVarV 3)))) (endV Q) [.da (encSs ss), .da (.str word), .da (.int (i : Nat)), .da (.int (j : Nat)), .da (.int at_), .da (.int a), .da (.int b)] := by
    intro a b e
    rw [e] at q
    walk_at "vl"
    cases z1 : decide (a < b) <;> rw [z1] at q
    · cases z2 : decide (a = b) <;> rw [z2] at q
      · exact q
      · exact q
    · exact q
  have tst : ∀ Q : Bool → Ss → Prop, Q (decide (word = Str.ofString "dear")) [.da (encSs ss), .da (.str word), .da (.int (i : Nat)), .da (.int (j : Nat)), .da (.int at_), .da (.int (key ss[i])), .da (.int (key ss[j]))] → (wTst (w2 eqD (wVarV 1) (wC (.str (Str.ofString "dear"))))) [.da (encSs ss), .da (.str word), .da (.int (i : Nat)), .da (.int (j : Nat)), .da (.int at_), .da (.int (key ss[i])), .da (.int (key ss[j]))] Q := fun Q q => by
    walk_at "vl"
    refine ⟨_, if_pos ⟨K.sh, by decide +kernel⟩, _, rfl, ?_⟩
    rw [show PyData.eqv (.str word) (.str (Str.ofString "dear")) = decide (word = Str.ofString "dear") from ?_]
    · exact q
    · show (word == Str.ofString "dear") = _
      by_cases h : word = Str.ofString "dear" <;> simp [h]
  refine wSeq_if1 (decide (word = Str.ofString "dear")) tst (fun h1 => ?_) fun h1 => ?_
  · rcases K.sg with ⟨hs1, hw⟩ | ⟨hs1, hw⟩
    · exact absurd (of_decide_eq_true h1) hw
    refine wAsg_fin (fin _ _ ?_)
    unfold befN
    rw [e1, e2, hs1, ← Bool.decide_and, ← Bool.decide_or]
    exact decide_eq_decide.mpr (by omega)
  · rcases K.sg with ⟨hs1, hw⟩ | ⟨hs1, hw⟩
    · refine fin _ _ ?_
      unfold befN
      rw [e1, e2, hs1, ← Bool.decide_and, ← Bool.decide_or]
      exact decide_eq_decide.mpr (by omega)
    · exact absurd hw (of_decide_eq_false h1)
end PL

set_option Elab.async false
set_option linter.all false
set_option maxRecDepth 100000
set_option maxHeartbeats 4000000
open PySem PySem.Spec PyProof.Rows L2 Evl Tw VL PL
/-! what a written piece does, spelled out over a state that is known -/
local macro_rules | `(tactic| walk_at "vl") => `(tactic| simp (disch := omega) only [wSeq2, wAsg, wAsgO, wVarV, wVar, wMove, wC, wName, wRet, wRetO, wN, wCons, wNil, w2, w1, w3, wTup, wLst, wTst, wTru, wAnd, wOr, wNot, wYes, wIf, wIfS, wAndV, wOrV, wNotV, wSlG, wSl, wPart, wNoP, wLc, wSeq, wIt, wgTup, wgCons, wgNil, wDrop, wApp, wAug, wSetI, wFor, wNx, wBk, wCt, wCall, wCallL, wCallP, wIsi, wRIn, on1_one, on2_two, lenD_l, lenD_t, toIntD_i, toIntD_b, toTupD_l, negD_i, absD_i, boolD_bool, intD_int, seqD_l, seqD_t, lstD_l, tupD_t, opB_int, addD_i, subI_i, addI_i, modI_pos, divI_pos, mulI_l, mulI_r, ixD_int, rng1, rng2, rngN, wipeS_nil, wipeS_cons, tupH, tupS, tupM, ixH0, ixH1, ixH2, ixH3, ixH4, ixS0, ixS1, ixS2, ixS3, ixS4, ixS5, ixS6, ixM0, ixM1, ixM2, seqP, lstP, seqSs, lenP, lenSs, eqD_int, neD_int, in2, lenI, wO_some, wO_some, if_true, if_false, reduceIte, reduceCtorEq,
  List.length_map, List.length_range, List.getElem?_cons_zero, List.getElem?_cons_succ, List.set_cons_zero, List.set_cons_succ, List.length_cons, List.length_nil, List.map_cons, List.map_nil, List.append_nil, List.nil_append, List.cons_append, Nat.reduceAdd, Nat.reduceSub, Nat.reduceLeDiff, Nat.reduceLT, true_and, and_true, Bool.not_true, Bool.not_false, Option.some.injEq, exists_eq_left', exists_eq_left, Bool.false_eq_true, decide_true, decide_false])
namespace PL
def w_law : WS := (wSeq2 (wAsgO (wLst wNil) 2)
    (wSeq2 (wFor (wIt rng1A (wCons (w2 addD (wC (.int 1)) (w2 modI (wN (on1 toIntD) (wCons (w2 ixD (wVarV 1) (wC (.int 0))) wNil)) (wC (.int 3)))) wNil)) (wName 3)
      (wSeq2 (wAsgO (wSl (wVarV 1) (wPart (w2 addD (wC (.int 1)) (w2 mulI (wC (.int 7)) (wVarV 3)))) (wPart (w2 addD (wC (.int 8)) (w2 mulI (wC (.int 7)) (wVarV 3))))) 4)
      (wSeq2 (wAsgO (wLst (wCons (w2 modI (wN (on1 toIntD) (wCons (w2 ixD (wVarV 4) (wC (.int 0))) wNil)) (wC (.int 21))) (wCons (w2 addD (wC (.int 1)) (w2 modI (wN (on1 toIntD) (wCons (w2 ixD (wVarV 4) (wC (.int 1))) wNil)) (wC (.int 9)))) (wCons (w2 modI (wN (on1 toIntD) (wCons (w2 ixD (wVarV 4) (wC (.int 2))) wNil)) (wC (.int 41))) (wCons (w2 addD (wC (.int 1)) (w2 modI (wN (on1 toIntD) (wCons (w2 ixD (wVarV 4) (wC (.int 3))) wNil)) (wC (.int 4)))) wNil))))) 5)
      (wApp 2 (wN (on1 toTupD) (wCons (w2 addD (wVarV 5) (wLst (wCons (w2 modI (wN (on1 toIntD) (wCons (w2 ixD (wVarV 4) (wC (.int 4))) wNil)) (wC (.int 4))) (wCons (w2 modI (wN (on1 toIntD) (wCons (w2 ixD (wVarV 4) (wC (.int 5))) wNil)) (wC (.int 10))) (wCons (w2 modI (wN (on1 toIntD) (wCons (w2 ixD (wVarV 4) (wC (.int 6))) wNil)) (wC (.int 10))) wNil))))) wNil))))))
    (wSeq2 (wIfS (wTst (w2 eqD (w2 modI (wN (on1 toIntD) (wCons (w2 ixD (wVarV 1) (wC (.int 22))) wNil)) (wC (.int 3))) (wC (.int 0)))) (wAsgO (wLc (wSeq (wVar 2)) (wName 6) wYes (w2 addD (w2 addD (w2 addD (w2 addD (w2 addD (wTup (wCons (w2 ixD (w2 ixD (wVar 2) (wC (.int 0))) (wC (.int 0))) wNil)) (wSlG (wVarV 6) (wPart (wC (.int 1))) (wPart (wC (.int 3))))) (wTup (wCons (w2 ixD (w2 ixD (wVar 2) (wC (.int 0))) (wC (.int 3))) wNil))) (wSlG (wVarV 6) (wPart (wC (.int 4))) (wPart (wC (.int 5))))) (wTup (wCons (w2 ixD (w2 ixD (wVar 2) (wC (.int 0))) (wC (.int 5))) wNil))) (wSlG (wVarV 6) (wPart (wC (.int 6))) wNoP)) [6]) 2) wNx)
    (wSeq2 (wAsg (wN (on1 reprO) (wCons (wVar 2) wNil)) (wName 7))
    (wSeq2 (wFor (wSeq (wLst (wCons (wC (.str (Str.ofString "first"))) (wCons (wC (.str (Str.ofString "short"))) (wCons (wC (.str (Str.ofString "dear"))) (wCons (wC (.str (Str.ofString "shallow"))) wNil)))))) (wName 8)
      (wSeq2 (wAsgO (wLst wNil) 9)
      (wSeq2 (wFor (wIt rng1A (wCons (wN (on1 lenD) (wCons (wVar 2) wNil)) wNil)) (wName 10)
        (wFor (wIt rng1A (wCons (wN (on1 lenD) (wCons (wVar 2) wNil)) wNil)) (wName 11)
          (wSeq2 (wAsgO (wLc (wIt rng1A (wCons (wN (on1 lenD) (wCons (wVar 2) wNil)) wNil)) (wName 13) (wTst (wCall C__law_before (wCons (wVar 2) (wCons (wVar 8) (wCons (wVar 13) (wCons (wVar 11) wNil)))))) (wVar 13) [13]) 12)
          (wIfS (wTst (w2 eqD (wN (on1 lenD) (wCons (wVarV 12) wNil)) (wVarV 10))) (wApp 9 (wVar 11)) wNx))))
      (wFor (wIt rng1A (wCons (wC (.int 2)) wNil)) (wName 14)
        (wSeq2 (wAsgO (wCall C_order_of (wCons (wVar 2) (wCons (wVar 8) wNil))) 15)
        (wSeq2 (wIfS (wOr (wNot (wTst (wIsi "list" (wVarV 15)))) (wOr (wTst (w2 neD (wVarV 15) (wVarV 9))) (wTst (wN (on1 anyD) (wCons (wLc (wSeq (wVarV 15)) (wName 11) wYes (wIsi "bool" (wVarV 11)) [11]) wNil))))) (wRet (wC (.bool false))) wNx)
        (wApp 15 (wC (.int 0)))))))))
    (wRet (w2 eqS (wN (on1 reprO) (wCons (wVar 2) wNil)) (wVarV 7))))))))

theorem cut_intsO {l : List Int} {a b : Int} (h0 : 0 ≤ a) (h1 : a ≤ b) (h2 : b ≤ l.length) : ∃ l' : List Int, cutO (.list (l.map .int)) (some a) (some b) = some (.list (l'.map .int)) ∧ (l'.length : Int) = b - a := by
  obtain ⟨l', e1, e2⟩ := cut_ints h0 h1 h2
  exact ⟨l', e1, e2⟩
def alikeS (a s : Sh) : Sh := ⟨a.r, s.le, s.dr, a.st, s.tu, a.se, s.li⟩
theorem shaped_nats (l : List Nat) : SeqAt.shaped (.list (l.map natD)) = true := by
  have h : ∀ l : List Nat, PyData.canLayAll0 (l.map natD) = true ∧ PyData.depthAll (l.map natD) = 0 := by
    intro l
    induction l with
    | nil => exact ⟨rfl, rfl⟩
    | cons a r ih =>
      refine ⟨?_, ?_⟩
      · show ((natD a).canLay0 && PyData.canLayAll0 (r.map natD)) = true
        rw [ih.1]
        rfl
      · show max (natD a).depth (PyData.depthAll (r.map natD)) = 0
        rw [ih.2]
        rfl
  obtain ⟨h1, h2⟩ := h l
  show ((PyData.list (l.map natD)).canLay0 && decide ((PyData.list (l.map natD)).depth ≤ 64)) = true
  have e1 : (PyData.list (l.map natD)).canLay0 = true := h1
  have e2 : (PyData.list (l.map natD)).depth = PyData.depthAll (l.map natD) + 1 := rfl
  rw [e1, e2, h2]
  rfl
/-- one word -/
theorem p_word {ds : List Int} {ss : List Sh} {kept : PyData} {word : Str} {at_ sg : Int} {key : Sh → Int} (K : WordK word at_ sg key) (hl : ss.length ≤ 3) {W : WD} (x : Nat → Sl) (N : Ss → Prop)
    (hN : ∀ x : Nat → Sl, N [.un, .da (.list (ds.map .int)), .da (encSs ss), x 3, x 4, x 5, x 6, .da kept, x 8, x 9, x 10, x 11, x 12, x 13, x 14, x 15]) :
    (wSeq2 (wAsgO (wLst wNil) 9)
      (wSeq2 (wFor (wIt rng1A (wCons (wN (on1 lenD) (wCons (wVar 2) wNil)) wNil)) (wName 10)
        (wFor (wIt rng1A (wCons (wN (on1 lenD) (wCons (wVar 2) wNil)) wNil)) (wName 11)
          (wSeq2 (wAsgO (wLc (wIt rng1A (wCons (wN (on1 lenD) (wCons (wVar 2) wNil)) wNil)) (wName 13) (wTst (wCall C__law_before (wCons (wVar 2) (wCons (wVar 8) (wCons (wVar 13) (wCons (wVar 11) wNil)))))) (wVar 13) [13]) 12)
          (wIfS (wTst (w2 eqD (wN (on1 lenD) (wCons (wVarV 12) wNil)) (wVarV 10))) (wApp 9 (wVar 11)) wNx))))
      (wFor (wIt rng1A (wCons (wC (.int 2)) wNil)) (wName 14)
        (wSeq2 (wAsgO (wCall C_order_of (wCons (wVar 2) (wCons (wVar 8) wNil))) 15)
        (wSeq2 (wIfS (wOr (wNot (wTst (wIsi "list" (wVarV 15)))) (wOr (wTst (w2 neD (wVarV 15) (wVarV 9))) (wTst (wN (on1 anyD) (wCons (wLc (wSeq (wVarV 15)) (wName 11) wYes (wIsi "bool" (wVarV 11)) [11]) wNil))))) (wRet (wC (.bool false))) wNx)
        (wApp 15 (wC (.int 0)))))))) { W with nx := N, ct := N, bk := W.nx } [.un, .da (.list (ds.map .int)), .da (encSs ss), x 3, x 4, x 5, x 6, .da kept, .da (.str word), x 9, x 10, x 11, x 12, x 13, x 14, x 15] := by
  have ol : (orderL (fun s => sg * key s) ss).length = ss.length := by unfold orderL; rw [List.length_mergeSort, List.length_range]
  refine wSeq_step [.un, .da (.list (ds.map .int)), .da (encSs ss), x 3, x 4, x 5, x 6, .da kept, .da (.str word), .ow [], x 10, x 11, x 12, x 13, x 14, x 15] (fun R hR => by walk_at "vl"; exact hR) ?_
  refine wSeq_step' (fun R => ∀ x : Nat → Sl, R [.un, .da (.list (ds.map .int)), .da (encSs ss), x 3, x 4, x 5, x 6, .da kept, .da (.str word), .ow ((orderL (fun s => sg * key s) ss).map natD), x 10, x 11, x 12, x 13, x 14, x 15]) (fun R hR => ?_) fun x => ?_
  · walk_at "vl"
    refine wLoop_acc (List.range ss.length) natD (fun (acc : List Nat) (x : Nat → Sl) => [.un, .da (.list (ds.map .int)), .da (encSs ss), x 3, x 4, x 5, x 6, .da kept, .da (.str word), .ow (acc.map natD), x 10, x 11, x 12, x 13, x 14, x 15]) (fun p => (List.range ss.length).filter fun a => rankN (fun s => sg * key s) ss a == p) [] x ?_ ?_
    · intro i place acc x N hp hacc hN
      rw [List.nil_append, order_ranks] at hacc
      walk_at "vl"
      have hfl : ∀ l : List Nat, (l.flatMap fun a => if (rankN (fun s => sg * key s) ss a == place) = true then [a] else []) = l.filter fun a => rankN (fun s => sg * key s) ss a == place := by
        intro l
        induction l with
        | nil => rfl
        | cons a r ih =>
          rw [List.flatMap_cons, ih]
          by_cases z : (rankN (fun s => sg * key s) ss a == place) = true <;> simp [List.filter_cons, z]
      refine wLoop_acc (List.range ss.length) natD (fun (acc : List Nat) (x : Nat → Sl) => [.un, .da (.list (ds.map .int)), .da (encSs ss), x 3, x 4, x 5, x 6, .da kept, .da (.str word), .ow (acc.map natD), .da (natD place), x 11, x 12, x 13, x 14, x 15]) (fun a => if (rankN (fun s => sg * key s) ss a == place) = true then [a] else []) acc (fun i => if i = 10 then .da (natD place) else x i) ?_ ?_
      · intro j name acc2 x N2 hn hacc2 hN2
        rw [hfl, List.length_append] at hacc2
        have hname : name < ss.length := List.mem_range.mp (List.mem_of_getElem? hn)
        refine wSeq_step [.un, .da (.list (ds.map .int)), .da (encSs ss), x 3, x 4, x 5, x 6, .da kept, .da (.str word), .ow (acc2.map natD), .da (natD place), .da (natD name), .ow (((List.range ss.length).filter fun o => befN (fun s => sg * key s) ss o name).map natD), .un, x 14, x 15] (fun R hR => ?_) ?_
        · walk_at "vl"
          refine ⟨by omega, wMap_map (List.range ss.length) natD (fun o => befN (fun s => sg * key s) ss o name) natD (fun k o ho N1 N2 h1 h2 => ?_) ?_⟩
          · have ho2 : o < ss.length := List.mem_range.mp (List.mem_of_getElem? ho)
            unfold wTurn
            walk_at "vl"
            refine ⟨ss, word, at_, sg, key, o, name, rfl, K, ho2, hname, ?_⟩
            refine ⟨_, rfl, ?_⟩
            cases z : befN (fun s => sg * key s) ss o name with
            | true => exact h1 z
            | false => exact h2 z
          · walk_at "vl"
            exact hR
        refine wIfS_b (rankN (fun s => sg * key s) ss name == place) (fun Q q => ?_) (fun hc => ?_) fun hc => ?_
        · walk_at "vl"
          unfold natD
          rw [eqD_int, wO_some]
          refine ⟨_, rfl, ?_⟩
          rw [show decide (((((List.range ss.length).filter fun o => befN (fun s => sg * key s) ss o name).length : Nat) : Int) = ((place : Nat) : Int)) = (rankN (fun s => sg * key s) ss name == place) by
            unfold rankN
            rw [Bool.eq_iff_iff, decide_eq_true_eq, beq_iff_eq]
            omega]
          exact q
        · rw [if_pos hc] at hN2
          walk_at "vl"
          refine ⟨_, rfl, _, rfl, by rw [List.length_map]; omega, ?_⟩
          have := hN2 (fun i => if i = 11 then .da (natD name) else if i = 12 then .ow (((List.range ss.length).filter fun o => befN (fun s => sg * key s) ss o name).map natD) else if i = 13 then .un else x i)
          rw [List.map_append] at this
          exact this
        · rw [if_neg (by rw [hc]; exact Bool.false_ne_true)] at hN2
          walk_at "vl"
          have := hN2 (fun i => if i = 11 then .da (natD name) else if i = 12 then .ow (((List.range ss.length).filter fun o => befN (fun s => sg * key s) ss o name).map natD) else if i = 13 then .un else x i)
          rw [List.append_nil] at this
          exact this
      · intro x
        rw [hfl]
        exact hN fun i => if i = 10 then .da (natD place) else x i
    · intro x
      rw [List.nil_append, order_ranks]
      exact hR x
  walk_at "vl"
  refine wLoop_map (List.range (Int.toNat 2)) natD (fun i S' => ∃ x : Nat → Sl, S' = [.un, .da (.list (ds.map .int)), .da (encSs ss), x 3, x 4, x 5, x 6, .da kept, .da (.str word), .ow ((orderL (fun s => sg * key s) ss).map natD), x 10, x 11, x 12, x 13, x 14, x 15]) ⟨x, rfl⟩ ?_ ?_
  · rintro i k S' N2 hk ⟨x, rfl⟩ hN2
    refine wSeq_step [.un, .da (.list (ds.map .int)), .da (encSs ss), x 3, x 4, x 5, x 6, .da kept, .da (.str word), .ow ((orderL (fun s => sg * key s) ss).map natD), x 10, x 11, x 12, x 13, .da (natD k), .ow ((orderL (fun s => sg * key s) ss).map natD)] (fun R hR => ?_) ?_
    · walk_at "vl"
      exact ⟨ss, word, at_, sg, key, rfl, K, hl, by walk_at "vl"; exact hR⟩
    refine wSeq_step' (fun R => R [.un, .da (.list (ds.map .int)), .da (encSs ss), x 3, x 4, x 5, x 6, .da kept, .da (.str word), .ow ((orderL (fun s => sg * key s) ss).map natD), x 10, .un, x 12, x 13, .da (natD k), .ow ((orderL (fun s => sg * key s) ss).map natD)]) (fun R hR => ?_) ?_
    · refine wIfS_bS [.un, .da (.list (ds.map .int)), .da (encSs ss), x 3, x 4, x 5, x 6, .da kept, .da (.str word), .ow ((orderL (fun s => sg * key s) ss).map natD), x 10, .un, x 12, x 13, .da (natD k), .ow ((orderL (fun s => sg * key s) ss).map natD)] false (fun Q q => ?_) (fun h1 => by cases h1) fun _ => hR
      walk_at "vl"
      refine ⟨_, rfl, ?_⟩
      walk_at "vl"
      rw [neD_same (shaped_nats _)]
      walk_at "vl"
      refine ⟨by omega, wMap_all _ natD (fun _ => .bool false) (fun j i hj N1 N2 h1 => ?_) ?_⟩
      · unfold wTurn
        walk_at "vl"
        exact ⟨_, rfl, h1⟩
      · rw [show ((orderL (fun s => sg * key s) ss).map fun _ => PyData.bool false) = ((orderL (fun s => sg * key s) ss).map fun _ => false).map .bool by rw [List.map_map]; rfl, anyD_bools]
        walk_at "vl"
        rw [show ((orderL (fun s => sg * key s) ss).map fun _ => false).any id = false by rw [List.any_map]; exact List.any_eq_false.mpr fun _ _ h => Bool.false_ne_true h]
        exact q
    · walk_at "vl"
      refine ⟨_, rfl, _, rfl, by rw [List.length_map]; omega, ?_⟩
      exact hN2 _ ⟨fun i => if i = 11 then .un else if i = 14 then .da (natD k) else if i = 15 then .ow ((orderL (fun s => sg * key s) ss).map natD ++ [PyData.int 0]) else x i, rfl⟩
  · rintro S' ⟨x, rfl⟩
    exact hN fun i => if i = 8 then .da (.str word) else if i = 9 then .ow ((orderL (fun s => sg * key s) ss).map natD) else x i
end PL

set_option Elab.async false
set_option linter.all false
set_option maxRecDepth 100000
set_option maxHeartbeats 4000000
open PySem PySem.Spec PyProof.Rows L2 Evl Tw VL PL
/-! what a written piece does, spelled out over a state that is known -/
local macro_rules | `(tactic| walk_at "vl") => `(tactic| simp (disch := omega) only [wSeq2, wAsg, wAsgO, wVarV, wVar, wMove, wC, wName, wRet, wRetO, wN, wCons, wNil, w2, w1, w3, wTup, wLst, wTst, wTru, wAnd, wOr, wNot, wYes, wIf, wIfS, wAndV, wOrV, wNotV, wSlG, wSl, wPart, wNoP, wLc, wSeq, wIt, wgTup, wgCons, wgNil, wDrop, wApp, wAug, wSetI, wFor, wNx, wBk, wCt, wCall, wCallL, wCallP, wIsi, wRIn, on1_one, on2_two, lenD_l, lenD_t, toIntD_i, toIntD_b, toTupD_l, negD_i, absD_i, boolD_bool, intD_int, seqD_l, seqD_t, lstD_l, tupD_t, opB_int, addD_i, subI_i, addI_i, modI_pos, divI_pos, mulI_l, mulI_r, ixD_int, rng1, rng2, rngN, wipeS_nil, wipeS_cons, tupH, tupS, tupM, ixH0, ixH1, ixH2, ixH3, ixH4, ixS0, ixS1, ixS2, ixS3, ixS4, ixS5, ixS6, ixM0, ixM1, ixM2, seqP, lstP, seqSs, lenP, lenSs, eqD_int, neD_int, in2, lenI, wO_some, wO_some, if_true, if_false, reduceIte, reduceCtorEq,
  List.length_map, List.length_range, List.getElem?_cons_zero, List.getElem?_cons_succ, List.set_cons_zero, List.set_cons_succ, List.length_cons, List.length_nil, List.map_cons, List.map_nil, List.append_nil, List.nil_append, List.cons_append, Nat.reduceAdd, Nat.reduceSub, Nat.reduceLeDiff, Nat.reduceLT, true_and, and_true, Bool.not_true, Bool.not_false, Option.some.injEq, exists_eq_left', exists_eq_left, Bool.false_eq_true, decide_true, decide_false])
namespace PL
theorem cutS {s : Sh} : cutG (encS s) (some 1) (some 3) = some (.tuple [.int s.le, .int s.dr]) ∧ cutG (encS s) (some 4) (some 5) = some (.tuple [.int s.tu]) ∧ cutG (encS s) (some 6) none = some (.tuple [.int s.li]) := ⟨rfl, rfl, rfl⟩
theorem p_law : ∀ ds, Drawn 30 ds → w_law (endV fun d => d = .bool true) ((unS 16).set 1 (.da (.list (ds.map .int)))) := by
  intro ds dr
  have dl := dr.1
  simp only [w_law, unS_s, unS_0, List.set_cons_succ, List.set_cons_zero]
  refine wSeq_step [.un, .da (.list (ds.map .int)), .ow [], .un, .un, .un, .un, .un, .un, .un, .un, .un, .un, .un, .un, .un] (fun R hR => by walk_at "vl"; exact hR) ?_
  refine wSeq_step' (fun R => ∀ (ss : List Sh) (x : Nat → Sl), 0 < ss.length → ss.length ≤ 3 → (∀ s ∈ ss, SOk s) → R [.un, .da (.list (ds.map .int)), .ow (ss.map encS), x 3, x 4, x 5, .un, .un, .un, .un, .un, .un, .un, .un, .un, .un]) (fun R hR => ?_) fun ss x h0 h3 hok => ?_
  · walk_at "vl"
    have hlen : (List.range (1 + ds.getD (Int.toNat 0) 0 % 3).toNat).length = (1 + ds.getD (Int.toNat 0) 0 % 3).toNat := List.length_range
    refine wLoop_map (List.range (1 + ds.getD (Int.toNat 0) 0 % 3).toNat) (fun i => .int (i : Nat)) (fun i S' => ∃ (ss : List Sh) (x : Nat → Sl), ss.length = i ∧ (∀ s ∈ ss, SOk s) ∧ S' = [.un, .da (.list (ds.map .int)), .ow (ss.map encS), x 3, x 4, x 5, .un, .un, .un, .un, .un, .un, .un, .un, .un, .un]) ⟨[], fun _ => .un, rfl, fun s hs => absurd hs List.not_mem_nil, rfl⟩ ?_ ?_
    · rintro i k S' N hk ⟨ss, x, hsl, hss, rfl⟩ hN
      obtain ⟨hk1, hk2⟩ := List.getElem?_eq_some_iff.mp hk
      rw [List.getElem_range] at hk2
      subst hk2
      rw [hlen] at hk1
      obtain ⟨l', e1, e2⟩ := cut_intsO (l := ds) (a := 1 + 7 * (i : Nat)) (b := 8 + 7 * (i : Nat)) (by omega) (by omega) (by omega)
      refine wSeq_step [.un, .da (.list (ds.map .int)), .ow (ss.map encS), .da (.int (i : Nat)), .ow (l'.map .int), x 5, .un, .un, .un, .un, .un, .un, .un, .un, .un, .un] (fun R hR => ?_) ?_
      · walk_at "vl"
        rw [e1]
        walk_at "vl"
        exact hR
      refine wSeq_step [.un, .da (.list (ds.map .int)), .ow (ss.map encS), .da (.int (i : Nat)), .ow (l'.map .int), .ow [.int (l'.getD (Int.toNat 0) 0 % 21), .int (1 + l'.getD (Int.toNat 1) 0 % 9), .int (l'.getD (Int.toNat 2) 0 % 41), .int (1 + l'.getD (Int.toNat 3) 0 % 4)], .un, .un, .un, .un, .un, .un, .un, .un, .un, .un] (fun R hR => ?_) ?_
      · walk_at "vl"
        exact hR
      walk_at "vl"
      rw [addD_l (by show 4 + 3 ≤ 100000; decide)]
      walk_at "vl"
      refine ⟨_, rfl, _, rfl, by rw [List.length_map]; omega, hN _ ⟨ss ++ [⟨l'.getD (Int.toNat 0) 0 % 21, 1 + l'.getD (Int.toNat 1) 0 % 9, l'.getD (Int.toNat 2) 0 % 41, 1 + l'.getD (Int.toNat 3) 0 % 4, l'.getD (Int.toNat 4) 0 % 4, l'.getD (Int.toNat 5) 0 % 10, l'.getD (Int.toNat 6) 0 % 10⟩], fun j => if j = 3 then .da (.int (i : Nat)) else if j = 4 then .ow (l'.map .int) else .ow [.int (l'.getD (Int.toNat 0) 0 % 21), .int (1 + l'.getD (Int.toNat 1) 0 % 9), .int (l'.getD (Int.toNat 2) 0 % 41), .int (1 + l'.getD (Int.toNat 3) 0 % 4)], ?_, fun s hs => ?_, ?_⟩⟩
      · rw [List.length_append, hsl]
        rfl
      · rcases List.mem_append.mp hs with hs | hs
        · exact hss s hs
        · rw [List.mem_singleton] at hs
          subst hs
          refine ⟨?_, ?_, ?_, ?_, ?_, ?_, ?_⟩ <;> (simp only []; omega)
      · rw [List.map_append]
        rfl
    · rintro S' ⟨ss, x, hsl, hss, rfl⟩
      rw [hlen] at hsl
      exact hR ss x (by omega) (by omega) hss
  refine wSeq_step' (fun R => ∀ (ss : List Sh) (x2 : Sl), (x2 = .ow (ss.map encS)) → 0 < ss.length → ss.length ≤ 3 → (∀ s ∈ ss, SOk s) → R [.un, .da (.list (ds.map .int)), x2, x 3, x 4, x 5, .un, .un, .un, .un, .un, .un, .un, .un, .un, .un]) (fun R hR => ?_) ?_
  · refine wIfS_b (decide (ds.getD (Int.toNat 22) 0 % 3 = 0)) (fun Q q => by walk_at "vl"; exact q) (fun h1 => ?_) fun h1 => ?_
    · obtain ⟨a, r, rfl⟩ : ∃ a r, ss = a :: r := by
        cases ss with
        | nil => exact absurd h0 (by simp)
        | cons a r => exact ⟨a, r, rfl⟩
      walk_at "vl"
      refine ⟨by simp only [List.length_cons] at h3; omega, wMap_all (a :: r) encS (fun s => encS (alikeS a s)) (fun j s hj N1 N2 hN => ?_) ?_⟩
      · unfold wTurn
        obtain ⟨c1, c2, c3⟩ := cutS (s := s)
        walk_at "vl"
        rw [show ixD (.list (encS a :: r.map encS)) (.int 0) = some (encS a) from ixD_ln (i := 0) rfl]
        walk_at "vl"
        rw [c1, c2, c3]
        walk_at "vl"
        exact ⟨_, rfl, _, rfl, _, rfl, _, rfl, _, rfl, hN⟩
      · walk_at "vl"
        refine hR ((a :: r).map (alikeS a)) _ (by rw [List.map_map]; rfl) (by simp) (by rw [List.length_map]; exact h3) fun s hs => ?_
        obtain ⟨t, ht, rfl⟩ := List.mem_map.mp hs
        have ha := hok a List.mem_cons_self
        have hb := hok t ht
        exact ⟨ha.r, hb.le, hb.dr, ha.st, hb.tu, ha.se, hb.li⟩
    · walk_at "vl"
      exact hR ss _ rfl h0 h3 hok
  clear h0 h3 hok
  rintro ss _ rfl h0 h3 hok
  have okK : Ok 2 1000 (.list (ss.map encS)) := okSs hok h3
  refine wSeq_step [.un, .da (.list (ds.map .int)), .da (encSs ss), x 3, x 4, x 5, .un, .da (.str (PyData.list (ss.map encS)).shown), .un, .un, .un, .un, .un, .un, .un, .un] (fun R hR => ?_) ?_
  · walk_at "vl"
    rw [repr_l okK (by decide) (by decide)]
    walk_at "vl"
    exact hR
  refine wSeq_step' (fun R => ∀ x : Nat → Sl, R [.un, .da (.list (ds.map .int)), .da (encSs ss), x 3, x 4, x 5, x 6, .da (.str (PyData.list (ss.map encS)).shown), x 8, x 9, x 10, x 11, x 12, x 13, x 14, x 15]) (fun R hR => ?_) fun x => ?_
  · walk_at "vl"
    refine wLoop_map [(Str.ofString "first"), (Str.ofString "short"), (Str.ofString "dear"), (Str.ofString "shallow")] .str (fun i S' => ∃ x : Nat → Sl, S' = [.un, .da (.list (ds.map .int)), .da (encSs ss), x 3, x 4, x 5, x 6, .da (.str (PyData.list (ss.map encS)).shown), x 8, x 9, x 10, x 11, x 12, x 13, x 14, x 15]) ⟨fun i => if i = 3 then x 3 else if i = 4 then x 4 else if i = 5 then x 5 else .un, rfl⟩ ?_ ?_
    · rintro i word S' N hk ⟨x, rfl⟩ hN
      have hw : ∃ at_ sg key, WordK word at_ sg key := by
        have := List.mem_of_getElem? hk
        simp only [List.mem_cons, List.not_mem_nil, or_false] at this
        rcases this with rfl | rfl | rfl | rfl
        · exact ⟨_, _, _, word1⟩
        · exact ⟨_, _, _, word2⟩
        · exact ⟨_, _, _, word3⟩
        · exact ⟨_, _, _, word4⟩
      obtain ⟨at_, sg, key, K⟩ := hw
      exact p_word (ds := ds) (kept := .str (PyData.list (ss.map encS)).shown) K h3 x N fun x => hN _ ⟨x, rfl⟩
    · rintro S' ⟨x, rfl⟩
      exact hR x
  walk_at "vl"
  unfold encSs
  rw [repr_l okK (by decide) (by decide)]
  refine ⟨_, rfl, _, rfl, ?_⟩
  show PyData.bool _ = _
  rw [decide_eq_true rfl]
end PL

set_option Elab.async false
set_option linter.all false
set_option maxRecDepth 100000
set_option maxHeartbeats 4000000
namespace K26
open PySem PySem.Spec PyProof.Rows L2 Evl Tw VL PL
def topS (i : Nat) : Stmt := PySem.Challenge.pw_tidewaits_k26_orders_of_rules.main.body.getD i (.Pass ⟨0, 0, 0, 0⟩)
abbrev s_order_of : Stmt := topS 2
abbrev N_order_of : List Str := ["ships", "rule", "at", "sign", "_", "name", "ship"]
theorem scorder_of : FnScope N_order_of ["ships", "rule"] (defScope s_order_of) := ⟨rfl, rfl, rfl, by decide +kernel, rfl, by decide +kernel, by decide +kernel⟩
abbrev s__law_draws : Stmt := topS 4
abbrev N__law_draws : List Str := ["script", "count", "rests", "cell", "draws", "k", "value", "at", "mixed"]
theorem sc_law_draws : FnScope N__law_draws ["script", "count"] (defScope s__law_draws) := ⟨rfl, rfl, rfl, by decide +kernel, rfl, by decide +kernel, by decide +kernel⟩
abbrev s__law_before : Stmt := topS 5
abbrev N__law_before : List Str := ["ships", "word", "one", "other", "place", "here", "there"]
theorem sc_law_before : FnScope N__law_before ["ships", "word", "one", "other"] (defScope s__law_before) := ⟨rfl, rfl, rfl, by decide +kernel, rfl, by decide +kernel, by decide +kernel⟩
abbrev s_law : Stmt := topS 6
abbrev N_law : List Str := ["script", "draws", "ships", "k", "part", "own", "ship", "kept", "word", "due", "place", "name", "ahead", "other", "turn", "told"]
theorem sclaw : FnScope N_law ["script"] (defScope s_law) := ⟨rfl, rfl, rfl, by decide +kernel, rfl, by decide +kernel, by decide +kernel⟩
structure Tx (K : PySem.W.Frag) (mg : Str → Option Value) (w : World) where
  f_order_of : Addr
  d_order_of : FuncData
  F_order_of : Fun K "order_of" "order_of" s_order_of f_order_of d_order_of
  g_order_of : mg "order_of" = some (.ref f_order_of)
  b_order_of : Binds K d_order_of ["ships", "rule"] []
  f__law_draws : Addr
  d__law_draws : FuncData
  F__law_draws : Fun K "_law_draws" "_law_draws" s__law_draws f__law_draws d__law_draws
  g__law_draws : mg "_law_draws" = some (.ref f__law_draws)
  b__law_draws : Binds K d__law_draws ["script", "count"] []
  f__law_before : Addr
  d__law_before : FuncData
  F__law_before : Fun K "_law_before" "_law_before" s__law_before f__law_before d__law_before
  g__law_before : mg "_law_before" = some (.ref f__law_before)
  b__law_before : Binds K d__law_before ["ships", "word", "one", "other"] []
  f_law : Addr
  d_law : FuncData
  F_law : Fun K "law" "law" s_law f_law d_law
  g_law : mg "law" = some (.ref f_law)
  b_law : Binds K d_law ["script"] []
  m_any : mg "any" = none
  m_bool : mg "bool" = none
  m_enumerate : mg "enumerate" = none
  m_int : mg "int" = none
  m_isinstance : mg "isinstance" = none
  m_len : mg "len" = none
  m_list : mg "list" = none
  m_range : mg "range" = none
  m_repr : mg "repr" = none
  m_sorted : mg "sorted" = none
  m_tuple : mg "tuple" = none
  a_RULES : Addr
  g_RULES : mg "RULES" = some (.ref a_RULES)
  k_RULES : ∀ s d, tab_RULES.lookup s = some d → ∃ v, L2.KDct K w a_RULES s v ∧ ∀ G, Da K G v d
section
variable {P : Program} {w : World} {K : PySem.W.Frag} {mg : Str → Option Value} {base : Heap} {k : Nat}
theorem ok_draws (T : Tx K mg w) : FnOk P w K mg base CX0 (k + 1) T.f__law_draws T.d__law_draws ["script", "count"] (spDraws K) := by
  refine T.F__law_draws.ok sc_law_draws (fun vs H Q E h => ?_) (fun cdv A outer s H vs Q E hr h => ?_)
  · obtain ⟨a, ns, n, rfl, _⟩ := h
    rfl
  obtain ⟨a, ns, n, rfl, hS, hlen, hn, q⟩ := h
  refine ⟨_, (pss_cons (ps_setLc (i := 2) (own := [("cell", 3)]) (g := gName 3) (tt := tYes) rfl sc_law_draws.nd rfl rfl (sw_true rfl rfl rfl (by decide +kernel)) (pi_list (pv 0)) (blkOk_by (N := N__law_draws) (sc := defScope s__law_draws) (by decide +kernel)) (fun _ _ _ _ _ => (pg_name (i := 3) sc_law_draws.nd rfl (.inl rfl))) (fun _ _ _ _ _ => pts_nil) (fun _ _ _ _ _ => (pv 3)))
    (pss_cons (ps_set (i := 4) sc_law_draws.nd rfl (.inl rfl) (pe_lst pa_nil))
    (pss_cons (ps_for PassesOwn.never rfl (pi_range1 (by rfl) T.m_range (pa_cons (pv 1) pa_nil)) (pg_name (i := 5) sc_law_draws.nd rfl (.inl rfl))
      (pss_cons (ps_set (i := 6) sc_law_draws.nd rfl (.inl rfl) pe_int)
      (pss_cons (ps_if (pt_cmpR op_gt (pe_callB call_len_seq (by rfl) T.m_len (by decide +kernel) (pa_cons (pv 2) pa_nil)) pe_int (nomark _)) (pss_cons (ps_set (i := 7) sc_law_draws.nd rfl (.inl rfl) (pe_op op_modN (pe_callTy call_int1 (by rfl) T.m_int (by decide +kernel) (pa_cons (pv 5) pa_nil)) (pe_callB call_len_seq (by rfl) T.m_len (by decide +kernel) (pa_cons (pv 2) pa_nil))))
        (pss_one (ps_if (pt_cmpR op_ge (pe_ix ix_list (pv 2) (pv 7) (fun _ _ => rfl)) (pe_op op_pow pe_int pe_int) (nomark _)) (pss_cons (ps_set (i := 6) sc_law_draws.nd rfl (.inl rfl) (pe_op op_mod (pe_callTy call_int1 (by rfl) T.m_int (by decide +kernel) (pa_cons (pe_ix ix_list (pv 2) (pv 7) (fun _ _ => rfl)) pa_nil)) pe_int))
          (pss_one (ps_asg (pe_op op_fdiv (pe_ix ix_list (pv 2) (pv 7) (fun _ _ => rfl)) pe_int) (pg_sub (pv 2) (pv 7) set_list)))) (pss_cons (ps_set (i := 8) sc_law_draws.nd rfl (.inl rfl) (pe_op op_mod (pe_callTy call_int1 (by rfl) T.m_int (by decide +kernel) (pa_cons (pe_op op_add (pe_op op_add (pe_op op_mul (pe_ix ix_list (pv 2) (pv 7) (fun _ _ => rfl)) pe_int) (pe_op op_mul (pv 5) pe_int)) pe_int) pa_nil)) pe_int))
          (pss_cons (ps_set (i := 8) sc_law_draws.nd rfl (.inl rfl) (pe_op op_mod (pe_callTy call_int1 (by rfl) T.m_int (by decide +kernel) (pa_cons (pe_op op_add (pe_op op_mul (pv 8) pe_int) (pv 7)) pa_nil)) pe_int))
          (pss_one (ps_set (i := 6) sc_law_draws.nd rfl (.inl rfl) (pe_op op_mod (pe_callTy call_int1 (by rfl) T.m_int (by decide +kernel) (pa_cons (pe_op op_fdiv (pv 8) pe_int) pa_nil)) pe_int)))))))) pss_nil)
      (pss_one (ps_expr (pe_bm PySem.F.plainAttrs_list PySem.F.slot_list_append PySem.F.type_list_append mt_append (pv 4) (pa_cons (pv 6) pa_nil)))))))
    (pss_one (ps_ret (pv 4)))))), ?_⟩
  have hz : (ns.map V.int).length = ns.length := List.length_map ..
  -- rests
  refine q_asgL (xs := ns.map V.int) (fun H1 e Q2 q2 => ?_) fun R H1 nR e1 hR => ?_
  · have h1 := el_lcL (K := K) (a := a) (xs := ns.map V.int) (tl := tVar 0) (j := 3) (vs := [3]) (t := tYes) (te := tVar 3) (σ := start N__law_draws [.ref a, .int (n : Int)]) (H := H) (fun _ => true) (fun i => ((ns.map V.int).getD i .non)) (ev_var rfl) hS (by omega) (fun _ => rfl) (fun _ _ _ _ _ => et_yes)
      (fun i x H1 _ hi _ => by
        have hx : (ns.map V.int).getD i .non = x := by rw [List.getD_eq_getElem?_getD, hi]; rfl
        rw [hx]
        exact ev_var rfl)
    have hg : ∀ l : List V, given l.length (fun _ => true) (fun i => l.getD i .non) = l := by
      intro l
      unfold given
      rw [List.filter_eq_self.mpr fun _ _ => rfl]
      apply List.ext_getElem?
      intro i
      rw [List.getElem?_map]
      by_cases hi : i < l.length
      · rw [List.getElem?_range hi, List.getElem?_eq_getElem hi]
        show some (l.getD i .non) = _
        rw [List.getD_eq_getElem?_getD, List.getElem?_eq_getElem hi]
        rfl
      · rw [List.getElem?_eq_none (by rw [List.length_range]; omega), List.getElem?_eq_none (by omega)]
        rfl
    rw [hg] at h1
    exact h1 H1 e Q2 q2
  -- draws
  refine q_asgL (xs := []) (el_lst ea_nil (by decide)) fun L H2 nL e2 hL => ?_
  have nRL : R ≠ L := ne_of_none hR nL
  have nLH : H L = none := fresh_back e1 nL
  -- the loop
  refine q_forR1 (ea_cons (ev_var (v := .int (n : Int)) rfl) ea_nil) (by omega) (WD H a n ns.length R L) ?_ ?_ ?_
  · intro H3 e3
    exact ⟨none, none, none, none, none, ns, [], rfl, (e1.trans e2).trans e3, e3 _ _ (e2 _ _ hR), e3 _ _ hL, rfl, rfl, fun d hd => absurd hd List.not_mem_nil⟩
  · rintro i σ' H' hi ⟨x3, x5, x6, x7, x8, rs, ds, rfl, ex, hR', hL', lr, ld, bd⟩
    have hi' : i < n := by omega
    -- the turn's end
    have fin : ∀ (v : Int) (rs' : List Int) (y7 y8 : Option V) (H3 : Hp) (D : Ends), D.nx = WD H a n ns.length R L (i + 1) → 0 ≤ v → v < 1000 → rs'.length = ns.length → Ex H H3 → H3 R = some (.lst (rs'.map V.int)) → H3 L = some (.lst (ds.map V.int)) →
        tDrop (tBM K "list" rAppend (tVar 4) (tCons (tVar 6) tNil)) D [some (.ref a), some (.int (n : Int)), some (.ref R), x3, some (.ref L), some (.int (i : Int)), some (.int v), y7, y8] H3 := fun v rs' y7 y8 H3 D hD h0 h1 hl' hx hR3 hL3 => by
      refine s_app (xs := ds.map V.int) hL3 (ev_var rfl) (ev_var (v := .int v) rfl) (by rw [List.length_map]; omega) fun H4 e4 => ?_
      rw [hD]
      refine ⟨x3, _, _, y7, y8, rs', ds ++ [v], rfl, Ex.mut (hx.trans e4) nLH, ?_, ?_, hl', ?_, ?_⟩
      · rw [upd_ne nRL]
        exact e4 _ _ hR3
      · rw [upd_same, List.map_append]
        rfl
      · rw [List.length_append, ld]
        rfl
      · intro d hd
        rcases List.mem_append.mp hd with h | h
        · exact bd d h
        · cases List.mem_singleton.mp h
          exact ⟨h0, h1⟩
    refine q_asg ev_c fun H3 e3 => ?_
    refine q_when (et_test (ev_op (ev_len (K := K) (ev_var (v := .ref R) rfl) (sq_of (e3 _ _ hR'))) ev_c rv_I0)) (fun hb H4 e4 => ?_) (fun hb H4 e4 => ?_)
    · have hpos : 0 < rs.length := by
        have := of_decide_eq_true hb
        rw [List.length_map] at this
        omega
      have hR4 : H4 R = some (.lst (rs.map V.int)) := e4 _ _ (e3 _ _ hR')
      have hL4 : H4 L = some (.lst (ds.map V.int)) := e4 _ _ (e3 _ _ hL')
      have x4 : Ex H H4 := (ex.trans e3).trans e4
      have hj : i % rs.length < rs.length := Nat.mod_lt _ hpos
      have em : ((i : Int)).fmod (((rs.map V.int).length : Nat) : Int) = ((i % rs.length : Nat) : Int) := by
        rw [List.length_map, Int.fmod_eq_emod_of_nonneg _ (by omega)]
        rfl
      refine q_asg (v := .int ((i % rs.length : Nat) : Int)) (ev_is (ev_op (ev_toInt (ev_var (v := .int (i : Int)) rfl)) (ev_len (K := K) (ev_var (v := .ref R) rfl) (sq_of hR4)) (rv_I (show (((rs.map V.int).length : Nat) : Int) ≠ 0 by rw [List.length_map]; omega))) (by rw [em])) fun H5 e5 => ?_
      have hR5 := e5 _ _ hR4
      have hL5 := e5 _ _ hL4
      have x5' := x4.trans e5
      have ix : ∀ {σ : L2.St} {G : Hp}, σ[2]? = some (some (.ref R)) → σ[7]? = some (some (.int ((i % rs.length : Nat) : Int))) → G R = some (.lst (rs.map V.int)) → Ev (tOp (rIxL K) (tVar 2) (tVar 7)) σ G (.int rs[i % rs.length]) := fun s1 s2 hg =>
        ev_op (ev_var s1) (ev_var s2) (rv_ixL (sq_of hg) (at_int hj))
      refine s_if (et_test (ev_op (ix rfl rfl hR5) (ev_op ev_c ev_c (rv_I ⟨by decide, by decide, by decide⟩)) rv_I0)) (fun hc H6 e6 => ?_) (fun hc H6 e6 => ?_)
      · have hR6 := e6 _ _ hR5
        refine q_asg (ev_op (ev_toInt (ix rfl rfl hR6)) ev_c (rv_I (show (0 : Int) < 1000 by decide))) fun H7 e7 => ?_
        have hR7 := e7 _ _ hR6
        refine s_setL hR7 (ev_op (ix rfl rfl hR7) ev_c (rv_I (show CDiv _ 1000 from ⟨by decide, by decide⟩))) (ev_var rfl) (ev_var rfl) (by rw [List.length_map]; exact hj) fun H8 e8 => ?_
        have hL8 := e8 _ _ (e7 _ _ (e6 _ _ hL5))
        have nRH : H R = none := nR
        refine fin _ (rs.set (i % rs.length) (rs[i % rs.length] / 1000)) _ _ _ _ rfl (mod1000 _).1 (mod1000 _).2 (by rw [List.length_set]; exact lr) (Ex.mut (((x5'.trans e6).trans e7).trans e8) nRH) ?_ ?_
        · rw [upd_same, List.map_set]
        · rw [upd_ne nRL.symm]
          exact hL8
      · have hR6 := e6 _ _ hR5
        refine q_asg (ev_op (ev_toInt (ev_op (ev_op (ev_op (ix rfl rfl hR6) ev_c (rv_I (.inr ⟨by decide, by decide⟩))) (ev_op (ev_var (v := .int (i : Int)) rfl) ev_c (rv_I (.inr ⟨by decide, by decide⟩))) rv_I0) ev_c rv_I0)) ev_c (rv_I (show (0 : Int) < 2147483647 by decide))) fun H7 e7 => ?_
        refine q_asg (ev_op (ev_toInt (ev_op (ev_op (ev_var rfl) ev_c (rv_I (.inr ⟨by decide, by decide⟩))) (ev_var (v := .int ((i % rs.length : Nat) : Int)) rfl) rv_I0)) ev_c (rv_I (show (0 : Int) < 2147483629 by decide))) fun H8 e8 => ?_
        refine s_asg (ev_op (ev_toInt (ev_op (ev_var rfl) ev_c (rv_I (show CDiv _ 7 from ⟨by decide, by decide⟩)))) ev_c (rv_I (show (0 : Int) < 1000 by decide))) fun H9 e9 => ?_
        have x9 := ((e6.trans e7).trans e8).trans e9
        exact fin _ rs _ _ _ _ rfl (mod1000 _).1 (mod1000 _).2 lr (x5'.trans x9) (x9 _ _ hR5) (x9 _ _ hL5)
    · have x4 := e3.trans e4
      exact fin 0 rs _ _ _ _ rfl (by decide) (by decide) lr (ex.trans x4) (x4 _ _ hR') (x4 _ _ hL')
  · rintro σ' H' ⟨x3, x5, x6, x7, x8, rs, ds, rfl, ex, hR', hL', lr, dr⟩
    refine s_ret (ev_var rfl) fun H3 e3 => ?_
    have dr' : Drawn n ds := by
      have : ((n : Int)).toNat = n := by omega
      rw [this] at dr
      exact dr
    exact q ds L H3 dr' nLH (ex.trans e3) (e3 _ _ hL')


/-! a harbour, ships, moves -/
theorem ok_order_of (T : Tx K mg w) : FnOk P w K mg base CX0 (k + 1) T.f_order_of T.d_order_of ["ships", "rule"] (spW K C_order_of) := by
  refine T.F_order_of.ok scorder_of (spW_len c_order_of) (fun cdv A outer s H vs Q E hr h => ?_)
  have hu := hr.units
  have hu5 : _ + 65 < cLine := hr.units5
  refine ⟨_, (pss_cons (ps_asg (pe_ix (ixDK K w) (pe_glob (v := .ref T.a_RULES) (by rfl) T.g_RULES rfl) (pv 1) (fun _ _ => rfl)) (pg_tup (by rfl) (pgs_cons (pg_name (i := 2) scorder_of.nd rfl (.inr rfl)) (pgs_cons (pg_name (i := 3) scorder_of.nd rfl (.inr rfl)) pgs_nil))))
    (pss_one (ps_ret (pe_lc (own := [("_", 4), ("name", 5)]) (g := gTup K 2 (gCons (gName 4) (gCons (gName 5) gNil))) (tt := tYes) rfl scorder_of.nd (pi_seqK K (pe_callB (sortedDK K hu5) (by rfl) T.m_sorted (by decide +kernel) (pa_cons (pe_lc (own := [("name", 5), ("ship", 6)]) (g := gTup K 2 (gCons (gName 5) (gCons (gName 6) gNil))) (tt := tYes) rfl scorder_of.nd (pi_enumK K (by rfl) T.m_enumerate (pa_cons (pv 0) pa_nil)) (blkOk_by (N := N_order_of) (sc := defScope s_order_of) (by decide +kernel)) (fun _ _ _ _ _ => (pg_tup (by rfl) (pgs_cons (pg_name (i := 5) scorder_of.nd rfl (.inl rfl)) (pgs_cons (pg_name (i := 6) scorder_of.nd rfl (.inl rfl)) pgs_nil)))) (fun _ _ _ _ _ => pts_nil) (fun _ _ _ _ _ => (pe_tup (pa_cons (pe_op op_mul (pv 3) (pe_ix (ixSK K) (pv 6) (pv 2) (fun _ _ => rfl))) (pa_cons (pv 5) pa_nil))))) pa_nil))) (blkOk_by (N := N_order_of) (sc := defScope s_order_of) (by decide +kernel)) (fun _ _ _ _ _ => (pg_tup (by rfl) (pgs_cons (pg_name (i := 4) scorder_of.nd rfl (.inl rfl)) (pgs_cons (pg_name (i := 5) scorder_of.nd rfl (.inl rfl)) pgs_nil)))) (fun _ _ _ _ _ => pts_nil) (fun _ _ _ _ _ => (pv 5)))))), ?_⟩
  exact body_W h ((ss_seq (ss_asg (se_kdict T.k_RULES se_var) (sg_tup (sgs_cons sg_name (sgs_cons sg_name sgs_nil))))
    (ss_retO (so_lc (vs := [4, 5]) (siv_seq (SO.v (so_callB pr_sortedD (sv_cons (SO.v (so_lc (vs := [5, 6]) (siv_enum (sv_cons sv_var sv_nil)) (sg_tup (sgs_cons sg_name (sgs_cons sg_name sgs_nil))) st_yes (se_tup (sa_cons (se_op pr_mul sv_var (SE.v (se_op pr_ix sv_var sv_var))) (sa_cons se_var sa_nil))) (by decide))) sv_nil)))) (sg_tup (sgs_cons sg_name (sgs_cons sg_name sgs_nil))) st_yes se_var (by decide))))) p_order_of
theorem ok__law_before (T : Tx K mg w) : FnOk P w K mg base CX0 (k + 1) T.f__law_before T.d__law_before ["ships", "word", "one", "other"] (spV K C__law_before) := by
  refine T.F__law_before.ok sc_law_before (spV_len c__law_before) (fun cdv A outer s H vs Q E hr h => ?_)
  have hu := hr.units
  have hu5 : _ + 65 < cLine := hr.units5
  have hu1 := Nat.lt_of_le_of_lt (Nat.add_le_add_left (show 1 ≤ 65 by decide) _) hu5
  refine ⟨_, (pss_cons (ps_set (i := 4) sc_law_before.nd rfl (.inl rfl) (pe_dget hu1 (pe_disp (pps_cons pe_str pe_int (pps_cons pe_str pe_int (pps_cons pe_str pe_int (pps_cons pe_str pe_int pps_nil)))) rfl rfl (by intro z; cases z) (by decide)) (pv 1) (fun _ _ => rfl)))
    (pss_cons (ps_par (i := 5) (j := 6) (by rfl) sc_law_before.nd rfl rfl (by decide) rfl rfl (pa_cons (pe_ix (ixSK K) (pe_ix (ixSK K) (pv 0) (pv 2) (fun _ _ => rfl)) (pv 4) (fun _ _ => rfl)) (pa_cons (pe_ix (ixSK K) (pe_ix (ixSK K) (pv 0) (pv 3) (fun _ _ => rfl)) (pv 4) (fun _ _ => rfl)) pa_nil)) (by rfl))
    (pss_cons (ps_if (pt_cmpR (eqDK K hu) (pv 1) pe_str (nomark _)) (pss_one (ps_par (i := 5) (j := 6) (by rfl) sc_law_before.nd rfl rfl (by decide) rfl rfl (pa_cons (pv 6) (pa_cons (pv 5) pa_nil)) (by rfl))) pss_nil)
    (pss_one (ps_ret (pe_or (pe_cmpR op_lt (pv 5) (pv 6) (nomark _)) (pe_one (pe_and (pe_cmpR (eqDK K hu) (pv 5) (pv 6) (nomark _)) (pe_one (pe_cmpR op_lt (pv 2) (pv 3) (nomark _))))))))))), ?_⟩
  exact body_V h ((ss_seq (ss_asg (se_disp [(Str.ofString "first", (0 : Int)), (Str.ofString "short", (3 : Int)), (Str.ofString "dear", (5 : Int)), (Str.ofString "shallow", (2 : Int))] (by rfl) (by decide) se_var) sg_name)
    (ss_seq (ss_par (sa_cons (se_op pr_ix (SE.v (se_op pr_ix sv_var sv_var)) sv_var) (sa_cons (se_op pr_ix (SE.v (se_op pr_ix sv_var sv_var)) sv_var) sa_nil)))
    (ss_seq (ss_if (st_test (se_op pr_eqD sv_var (SE.v se_str))) (ss_par (sa_cons se_var (sa_cons se_var sa_nil))) ss_next)
    (ss_ret (se_orV (se_op pr_opB sv_var sv_var) (se_andV (se_op pr_eqD sv_var sv_var) (se_op pr_opB sv_var sv_var)))))))) p__law_before
def lawLevel : Nat := 2
theorem ok_law (T : Tx K mg w) : FnG P w K mg base lawLevel T.f_law T.d_law ["script"] (spLaw K) := by
  refine fnG_of T.F_law sclaw spLaw_len (fun cdv A outer s H vs Q E gg hr h => ?_)
  have hu := hr.units
  have hu5 : _ + 65 < cLine := hr.units5
  refine ⟨_, (pss_cons (ps_set (i := 1) sclaw.nd rfl (.inl rfl) (pe_call (ok_draws T) hr (by rfl) T.g__law_draws T.F__law_draws.kp T.b__law_draws .nil pass0 (pa_cons (pv 0) (pa_cons pe_int pa_nil))))
    (pss_cons (ps_set (i := 2) sclaw.nd rfl (.inr rfl) (pe_lst pa_nil))
    (pss_cons (ps_for PassesOwn.never rfl (pi_range1 (by rfl) T.m_range (pa_cons (pe_op (addGK K) pe_int (pe_op op_mod (pe_callTy call_int1 (by rfl) T.m_int (by decide +kernel) (pa_cons (pe_ix (ixSK K) (pv 1) pe_int (fun _ _ => rfl)) pa_nil)) pe_int)) pa_nil)) (pg_name (i := 3) sclaw.nd rfl (.inl rfl))
      (pss_cons (ps_set (i := 4) sclaw.nd rfl (.inl rfl) (pe_slice (slGK K) (pv 1) (po_some (pe_op (addGK K) pe_int (pe_op op_mul pe_int (pv 3)))) (po_some (pe_op (addGK K) pe_int (pe_op op_mul pe_int (pv 3))))))
      (pss_cons (ps_set (i := 5) sclaw.nd rfl (.inl rfl) (pe_lst (pa_cons (pe_op op_mod (pe_callTy call_int1 (by rfl) T.m_int (by decide +kernel) (pa_cons (pe_ix (ixSK K) (pv 4) pe_int (fun _ _ => rfl)) pa_nil)) pe_int) (pa_cons (pe_op (addGK K) pe_int (pe_op op_mod (pe_callTy call_int1 (by rfl) T.m_int (by decide +kernel) (pa_cons (pe_ix (ixSK K) (pv 4) pe_int (fun _ _ => rfl)) pa_nil)) pe_int)) (pa_cons (pe_op op_mod (pe_callTy call_int1 (by rfl) T.m_int (by decide +kernel) (pa_cons (pe_ix (ixSK K) (pv 4) pe_int (fun _ _ => rfl)) pa_nil)) pe_int) (pa_cons (pe_op (addGK K) pe_int (pe_op op_mod (pe_callTy call_int1 (by rfl) T.m_int (by decide +kernel) (pa_cons (pe_ix (ixSK K) (pv 4) pe_int (fun _ _ => rfl)) pa_nil)) pe_int)) pa_nil))))))
      (pss_one (ps_expr (pe_bm PySem.F.plainAttrs_list PySem.F.slot_list_append PySem.F.type_list_append mt_append (pv 2) (pa_cons (pe_callTy (tupK K) (by rfl) T.m_tuple (by decide +kernel) (pa_cons (pe_op (addGK K) (pv 5) (pe_lst (pa_cons (pe_op op_mod (pe_callTy call_int1 (by rfl) T.m_int (by decide +kernel) (pa_cons (pe_ix (ixSK K) (pv 4) pe_int (fun _ _ => rfl)) pa_nil)) pe_int) (pa_cons (pe_op op_mod (pe_callTy call_int1 (by rfl) T.m_int (by decide +kernel) (pa_cons (pe_ix (ixSK K) (pv 4) pe_int (fun _ _ => rfl)) pa_nil)) pe_int) (pa_cons (pe_op op_mod (pe_callTy call_int1 (by rfl) T.m_int (by decide +kernel) (pa_cons (pe_ix (ixSK K) (pv 4) pe_int (fun _ _ => rfl)) pa_nil)) pe_int) pa_nil))))) pa_nil)) pa_nil)))))))
    (pss_cons (ps_if (pt_cmpR (eqDK K hu) (pe_op op_mod (pe_callTy call_int1 (by rfl) T.m_int (by decide +kernel) (pa_cons (pe_ix (ixSK K) (pv 1) pe_int (fun _ _ => rfl)) pa_nil)) pe_int) pe_int (nomark _)) (pss_one (ps_set (i := 2) sclaw.nd rfl (.inr rfl) (pe_lc (own := [("ship", 6)]) (g := gName 6) (tt := tYes) rfl sclaw.nd (pi_seqK K (pv 2)) (blkOk_by (N := N_law) (sc := defScope s_law) (by decide +kernel)) (fun _ _ _ _ _ => (pg_name (i := 6) sclaw.nd rfl (.inl rfl))) (fun _ _ _ _ _ => pts_nil) (fun _ _ _ _ _ => (pe_op (addGK K) (pe_op (addGK K) (pe_op (addGK K) (pe_op (addGK K) (pe_op (addGK K) (pe_tup (pa_cons (pe_ix (ixSK K) (pe_ix (ixSK K) (pv 2) pe_int (fun _ _ => rfl)) pe_int (fun _ _ => rfl)) pa_nil)) (pe_slice (slGK K) (pv 6) (po_some pe_int) (po_some pe_int))) (pe_tup (pa_cons (pe_ix (ixSK K) (pe_ix (ixSK K) (pv 2) pe_int (fun _ _ => rfl)) pe_int (fun _ _ => rfl)) pa_nil))) (pe_slice (slGK K) (pv 6) (po_some pe_int) (po_some pe_int))) (pe_tup (pa_cons (pe_ix (ixSK K) (pe_ix (ixSK K) (pv 2) pe_int (fun _ _ => rfl)) pe_int (fun _ _ => rfl)) pa_nil))) (pe_slice (slGK K) (pv 6) (po_some pe_int) po_none)))))) pss_nil)
    (pss_cons (ps_set (i := 7) sclaw.nd rfl (.inl rfl) (pe_callB (reprK K gg hu) (by rfl) T.m_repr (by decide +kernel) (pa_cons (pv 2) pa_nil)))
    (pss_cons (ps_for PassesOwn.never rfl (pi_seqK K (pe_lst (pa_cons pe_str (pa_cons pe_str (pa_cons pe_str (pa_cons pe_str pa_nil)))))) (pg_name (i := 8) sclaw.nd rfl (.inr rfl))
      (pss_cons (ps_set (i := 9) sclaw.nd rfl (.inl rfl) (pe_lst pa_nil))
      (pss_cons (ps_for PassesOwn.never rfl (pi_range1 (by rfl) T.m_range (pa_cons (pe_callB (lenK K) (by rfl) T.m_len (by decide +kernel) (pa_cons (pv 2) pa_nil)) pa_nil)) (pg_name (i := 10) sclaw.nd rfl (.inl rfl))
        (pss_one (ps_for PassesOwn.never rfl (pi_range1 (by rfl) T.m_range (pa_cons (pe_callB (lenK K) (by rfl) T.m_len (by decide +kernel) (pa_cons (pv 2) pa_nil)) pa_nil)) (pg_name (i := 11) sclaw.nd rfl (.inr rfl))
          (pss_cons (ps_setLc (i := 12) (own := [("other", 13)]) (g := gName 13) rfl sclaw.nd rfl rfl (sw_true rfl rfl rfl (by decide +kernel)) (pi_range1 (by rfl) T.m_range (pa_cons (pe_callB (lenK K) (by rfl) T.m_len (by decide +kernel) (pa_cons (pv 2) pa_nil)) pa_nil)) (blkOk_by (N := N_law) (sc := defScope s_law) (by decide +kernel)) (fun _ _ _ _ _ => (pg_name (i := 13) sclaw.nd rfl (.inl rfl))) (fun _ _ _ _ _ => pts_one (pt_val (pe_call (ok__law_before T) hr (by rfl) T.g__law_before T.F__law_before.kp T.b__law_before .nil pass0 (pa_cons (pv 2) (pa_cons (pv 8) (pa_cons (pv 13) (pa_cons (pv 11) pa_nil))))))) (fun _ _ _ _ _ => (pv 13)))
          (pss_one (ps_if (pt_cmpR (eqDK K hu) (pe_callB (lenK K) (by rfl) T.m_len (by decide +kernel) (pa_cons (pv 12) pa_nil)) (pv 10) (nomark _)) (pss_one (ps_expr (pe_bm PySem.F.plainAttrs_list PySem.F.slot_list_append PySem.F.type_list_append mt_append (pv 9) (pa_cons (pv 11) pa_nil)))) pss_nil))))))
      (pss_one (ps_for PassesOwn.never rfl (pi_range1 (by rfl) T.m_range (pa_cons pe_int pa_nil)) (pg_name (i := 14) sclaw.nd rfl (.inl rfl))
        (pss_cons (ps_set (i := 15) sclaw.nd rfl (.inl rfl) (pe_call (ok_order_of T) hr (by rfl) T.g_order_of T.F_order_of.kp T.b_order_of .nil pass0 (pa_cons (pv 2) (pa_cons (pv 8) pa_nil))))
        (pss_cons (ps_if (PW.pt (pw_or (pt_not (pt_val (pe_callB (isiK K) (by rfl) T.m_isinstance (by decide +kernel) (pa_cons (pv 15) (pa_cons (pe_bltn (v := .ty "list") (by rfl) T.m_list (by decide +kernel) rfl) pa_nil))))) (pw_or (pt_cmpR (neDK K hu) (pv 15) (pv 9) (nomark _)) (pw_or1 (pt_val (pe_callB (anyK K (by rfl)) (by rfl) T.m_any (by decide +kernel) (pa_cons (pe_lc (own := [("name", 11)]) (g := gName 11) (tt := tYes) rfl sclaw.nd (pi_seqK K (pv 15)) (blkOk_by (N := N_law) (sc := defScope s_law) (by decide +kernel)) (fun _ _ _ _ _ => (pg_name (i := 11) sclaw.nd rfl (.inl rfl))) (fun _ _ _ _ _ => pts_nil) (fun _ _ _ _ _ => (pe_callB (isiK K) (by rfl) T.m_isinstance (by decide +kernel) (pa_cons (pv 11) (pa_cons (pe_bltn (v := .ty "bool") (by rfl) T.m_bool (by decide +kernel) rfl) pa_nil))))) pa_nil))))))) (pss_one (ps_ret pe_bl)) pss_nil)
        (pss_one (ps_expr (pe_bm PySem.F.plainAttrs_list PySem.F.slot_list_append PySem.F.type_list_append mt_append (pv 15) (pa_cons pe_int pa_nil)))))))))))
    (pss_one (ps_ret (pe_cmpR op_eq (pe_callB (reprK K gg hu) (by rfl) T.m_repr (by decide +kernel) (pa_cons (pv 2) pa_nil)) (pv 7) (nomark _)))))))))), ?_⟩
  exact law_V (n := 30) h rfl (by decide) (by decide) ((ss_seq (ss_asgO (so_lst sa_nil))
    (ss_seq (ss_for (si_rng1 (sa_cons (se_op pr_addG (SE.v se_int) (SE.v (se_op pr_mod (SE.v (se_callB pr_int (sv_cons (SE.v (se_op pr_ix sv_var (SE.v se_int))) sv_nil))) (SE.v se_int)))) sa_nil)) sg_name
      (ss_seq (ss_asgO (so_slG sv_var (so_part (se_op pr_addG (SE.v se_int) (SE.v (se_op pr_mul (SE.v se_int) sv_var)))) (so_part (se_op pr_addG (SE.v se_int) (SE.v (se_op pr_mul (SE.v se_int) sv_var))))))
      (ss_seq (ss_asgO (so_lst (sa_cons (se_op pr_mod (SE.v (se_callB pr_int (sv_cons (SE.v (se_op pr_ix sv_var (SE.v se_int))) sv_nil))) (SE.v se_int)) (sa_cons (se_op pr_addG (SE.v se_int) (SE.v (se_op pr_mod (SE.v (se_callB pr_int (sv_cons (SE.v (se_op pr_ix sv_var (SE.v se_int))) sv_nil))) (SE.v se_int)))) (sa_cons (se_op pr_mod (SE.v (se_callB pr_int (sv_cons (SE.v (se_op pr_ix sv_var (SE.v se_int))) sv_nil))) (SE.v se_int)) (sa_cons (se_op pr_addG (SE.v se_int) (SE.v (se_op pr_mod (SE.v (se_callB pr_int (sv_cons (SE.v (se_op pr_ix sv_var (SE.v se_int))) sv_nil))) (SE.v se_int)))) sa_nil))))))
      (ss_app (se_callB pr_tuple (sv_cons (SE.v (se_op pr_addG sv_var (SO.v (so_lst (sa_cons (se_op pr_mod (SE.v (se_callB pr_int (sv_cons (SE.v (se_op pr_ix sv_var (SE.v se_int))) sv_nil))) (SE.v se_int)) (sa_cons (se_op pr_mod (SE.v (se_callB pr_int (sv_cons (SE.v (se_op pr_ix sv_var (SE.v se_int))) sv_nil))) (SE.v se_int)) (sa_cons (se_op pr_mod (SE.v (se_callB pr_int (sv_cons (SE.v (se_op pr_ix sv_var (SE.v se_int))) sv_nil))) (SE.v se_int)) sa_nil))))))) sv_nil))))))
    (ss_seq (ss_if (st_test (se_op pr_eqD (SE.v (se_op pr_mod (SE.v (se_callB pr_int (sv_cons (SE.v (se_op pr_ix sv_var (SE.v se_int))) sv_nil))) (SE.v se_int))) (SE.v se_int))) (ss_asgO (so_lc (vs := [6]) (siv_seq (SE.v se_var)) sg_name st_yes (se_op pr_addG (SE.v (se_op pr_addG (SE.v (se_op pr_addG (SE.v (se_op pr_addG (SE.v (se_op pr_addG (SE.v (se_tup (sa_cons (se_op pr_ix (SE.v (se_op pr_ix (SE.v se_var) (SE.v se_int))) (SE.v se_int)) sa_nil))) (SE.v (se_slG sv_var (so_part se_int) (so_part se_int))))) (SE.v (se_tup (sa_cons (se_op pr_ix (SE.v (se_op pr_ix (SE.v se_var) (SE.v se_int))) (SE.v se_int)) sa_nil))))) (SE.v (se_slG sv_var (so_part se_int) (so_part se_int))))) (SE.v (se_tup (sa_cons (se_op pr_ix (SE.v (se_op pr_ix (SE.v se_var) (SE.v se_int))) (SE.v se_int)) sa_nil))))) (SE.v (se_slG sv_var (so_part se_int) so_noP))) (by decide))) ss_next)
    (ss_seq (ss_asg (se_callB pr_repr (sv_cons (SE.v se_var) sv_nil)) sg_name)
    (ss_seq (ss_for (si_seq (SO.e (so_lst (sa_cons se_str (sa_cons se_str (sa_cons se_str (sa_cons se_str sa_nil))))))) sg_name
      (ss_seq (ss_asgO (so_lst sa_nil))
      (ss_seq (ss_for (si_rng1 (sa_cons (se_callB pr_len (sv_cons (SE.v se_var) sv_nil)) sa_nil)) sg_name
        (ss_for (si_rng1 (sa_cons (se_callB pr_len (sv_cons (SE.v se_var) sv_nil)) sa_nil)) sg_name
          (ss_seq (ss_asgO (so_lc (vs := [13]) (siv_rng1 (sv_cons (SE.v (se_callB pr_len (sv_cons (SE.v se_var) sv_nil))) sv_nil)) sg_name (st_B (se_call (sa_cons se_var (sa_cons se_var (sa_cons se_var (sa_cons se_var sa_nil)))))) se_var (by decide)))
          (ss_if (st_test (se_op pr_eqD (SE.v (se_callB pr_len (sv_cons sv_var sv_nil))) sv_var)) (ss_app se_var) ss_next))))
      (ss_for (si_rng1 (sa_cons se_int sa_nil)) sg_name
        (ss_seq (ss_asgO (so_call (sa_cons se_var (sa_cons se_var sa_nil))))
        (ss_seq (ss_if (st_or (st_not (st_B (se_isi sv_var))) (st_or (st_test (se_op pr_neD sv_var sv_var)) (st_B (se_callB pr_any (sv_cons (SO.v (so_lc (vs := [11]) (siv_seq sv_var) sg_name st_yes (se_isi sv_var) (by decide))) sv_nil))))) (ss_ret se_bl) ss_next)
        (ss_app se_int)))))))
    (ss_ret (se_op pr_eqS (SE.v (se_callB pr_repr (sv_cons (SE.v se_var) sv_nil))) sv_var)))))))) p_law
theorem all_ok {fa : Addr} (T : Tx K mg w) (hfa : mg "law" = some (.ref fa)) : ∃ fd : FuncData, (∀ (s : Shared) (v : Value), BindsTo s fd ⟨[v], []⟩ [("script", v)]) ∧ ∀ base : Heap, K.In base → base.Ns mainGlobals mg → FnG P w K mg base lawLevel fa fd ["script"] (spLaw K) := by
  have e := hfa.symm.trans T.g_law
  cases e
  refine ⟨T.d_law, fun s v => ?_, fun base _ _ => ok_law T⟩
  obtain ⟨_, _, _, _, _, _, _, _, _, h, _⟩ := T.F_law.ex
  rw [h]
  exact .of_eq rfl
end
def tx_mk {w : World} {K : PySem.W.Frag} {h : Heap} {mg : Str → Option Value} (X : K.In h) (G : h.Ns mainGlobals mg)
    {f0 : Addr} {od0 an0 : Option Addr} {sl0 : Array (Option Value)} {oc0 kV0 dc0 pm0 cd0 ct0 : Value}
    (a0 : PySem.W.nsIn K mainGlobals "order_of" = some (some (.ref f0))) (l0 : K.lookup f0 = some ⟨oc0, od0, .func (PySem.W.fnOf "order_of" "order_of" (defArgs s_order_of) (defBody s_order_of) (defScope s_order_of) .none kV0 dc0 pm0 an0 cd0 ct0), sl0⟩) (c0 : PySem.W.codeIn K cd0 "order_of" = true) (k0 : PySem.W.keepIn K (.ref f0) = true)
    {f1 : Addr} {od1 an1 : Option Addr} {sl1 : Array (Option Value)} {oc1 kV1 dc1 pm1 cd1 ct1 : Value}
    (a1 : PySem.W.nsIn K mainGlobals "_law_draws" = some (some (.ref f1))) (l1 : K.lookup f1 = some ⟨oc1, od1, .func (PySem.W.fnOf "_law_draws" "_law_draws" (defArgs s__law_draws) (defBody s__law_draws) (defScope s__law_draws) .none kV1 dc1 pm1 an1 cd1 ct1), sl1⟩) (c1 : PySem.W.codeIn K cd1 "_law_draws" = true) (k1 : PySem.W.keepIn K (.ref f1) = true)
    {f2 : Addr} {od2 an2 : Option Addr} {sl2 : Array (Option Value)} {oc2 kV2 dc2 pm2 cd2 ct2 : Value}
    (a2 : PySem.W.nsIn K mainGlobals "_law_before" = some (some (.ref f2))) (l2 : K.lookup f2 = some ⟨oc2, od2, .func (PySem.W.fnOf "_law_before" "_law_before" (defArgs s__law_before) (defBody s__law_before) (defScope s__law_before) .none kV2 dc2 pm2 an2 cd2 ct2), sl2⟩) (c2 : PySem.W.codeIn K cd2 "_law_before" = true) (k2 : PySem.W.keepIn K (.ref f2) = true)
    {f3 : Addr} {od3 an3 : Option Addr} {sl3 : Array (Option Value)} {oc3 kV3 dc3 pm3 cd3 ct3 : Value}
    (a3 : PySem.W.nsIn K mainGlobals "law" = some (some (.ref f3))) (l3 : K.lookup f3 = some ⟨oc3, od3, .func (PySem.W.fnOf "law" "law" (defArgs s_law) (defBody s_law) (defScope s_law) .none kV3 dc3 pm3 an3 cd3 ct3), sl3⟩) (c3 : PySem.W.codeIn K cd3 "law" = true) (k3 : PySem.W.keepIn K (.ref f3) = true)
    (z0 : PySem.W.nsIn K mainGlobals "any" = some none)
    (z1 : PySem.W.nsIn K mainGlobals "bool" = some none)
    (z2 : PySem.W.nsIn K mainGlobals "enumerate" = some none)
    (z3 : PySem.W.nsIn K mainGlobals "int" = some none)
    (z4 : PySem.W.nsIn K mainGlobals "isinstance" = some none)
    (z5 : PySem.W.nsIn K mainGlobals "len" = some none)
    (z6 : PySem.W.nsIn K mainGlobals "list" = some none)
    (z7 : PySem.W.nsIn K mainGlobals "range" = some none)
    (z8 : PySem.W.nsIn K mainGlobals "repr" = some none)
    (z9 : PySem.W.nsIn K mainGlobals "sorted" = some none)
    (z10 : PySem.W.nsIn K mainGlobals "tuple" = some none)
    {p0 p0x0 p0x1 p0x2 p0x3 : Addr} {es0 : Array DictEntry} {n0p : Nat} (s0 : PySem.W.nsIn K mainGlobals "RULES" = some (some (.ref p0))) (r0 : K.lookup p0 = some ⟨.type "dict", none, .dict es0 n0p, #[]⟩) (u0 : PySem.W.KeysLit w.params es0.toList)
    (v0x0 : PySem.W.nsIn K p0 "first" = some (some (.ref p0x0))) {od0p0 : Option Addr} {n0p0 : Nat} {sl0p0 : Array (Option Value)} {q0x0y0 q0x0y1 : Tok} (r0x0 : K.lookup p0x0 = some ⟨.type "tuple", od0p0, .seq #[.int (0) q0x0y0, .int (1) q0x0y1] n0p0, sl0p0⟩)
    (v0x1 : PySem.W.nsIn K p0 "short" = some (some (.ref p0x1))) {od0p1 : Option Addr} {n0p1 : Nat} {sl0p1 : Array (Option Value)} {q0x1y0 q0x1y1 : Tok} (r0x1 : K.lookup p0x1 = some ⟨.type "tuple", od0p1, .seq #[.int (3) q0x1y0, .int (1) q0x1y1] n0p1, sl0p1⟩)
    (v0x2 : PySem.W.nsIn K p0 "dear" = some (some (.ref p0x2))) {od0p2 : Option Addr} {n0p2 : Nat} {sl0p2 : Array (Option Value)} {q0x2y0 q0x2y1 : Tok} (r0x2 : K.lookup p0x2 = some ⟨.type "tuple", od0p2, .seq #[.int (5) q0x2y0, .int (-1) q0x2y1] n0p2, sl0p2⟩)
    (v0x3 : PySem.W.nsIn K p0 "shallow" = some (some (.ref p0x3))) {od0p3 : Option Addr} {n0p3 : Nat} {sl0p3 : Array (Option Value)} {q0x3y0 q0x3y1 : Tok} (r0x3 : K.lookup p0x3 = some ⟨.type "tuple", od0p3, .seq #[.int (2) q0x3y0, .int (1) q0x3y1] n0p3, sl0p3⟩) : Tx K mg w where
  f_order_of := _
  d_order_of := _
  F_order_of := fun_mk (st := s_order_of) l0 c0 k0
  g_order_of := PySem.W.mg_of X G a0
  b_order_of := (fun_mk (st := s_order_of) l0 c0 k0).binds fun _ _ _ _ _ _ us hl => match us, hl with | [_, _], _ => rfl
  f__law_draws := _
  d__law_draws := _
  F__law_draws := fun_mk (st := s__law_draws) l1 c1 k1
  g__law_draws := PySem.W.mg_of X G a1
  b__law_draws := (fun_mk (st := s__law_draws) l1 c1 k1).binds fun _ _ _ _ _ _ us hl => match us, hl with | [_, _], _ => rfl
  f__law_before := _
  d__law_before := _
  F__law_before := fun_mk (st := s__law_before) l2 c2 k2
  g__law_before := PySem.W.mg_of X G a2
  b__law_before := (fun_mk (st := s__law_before) l2 c2 k2).binds fun _ _ _ _ _ _ us hl => match us, hl with | [_, _, _, _], _ => rfl
  f_law := _
  d_law := _
  F_law := fun_mk (st := s_law) l3 c3 k3
  g_law := PySem.W.mg_of X G a3
  b_law := (fun_mk (st := s_law) l3 c3 k3).binds fun _ _ _ _ _ _ us hl => match us, hl with | [_], _ => rfl
  m_any := PySem.W.mg_none_of X G z0
  m_bool := PySem.W.mg_none_of X G z1
  m_enumerate := PySem.W.mg_none_of X G z2
  m_int := PySem.W.mg_none_of X G z3
  m_isinstance := PySem.W.mg_none_of X G z4
  m_len := PySem.W.mg_none_of X G z5
  m_list := PySem.W.mg_none_of X G z6
  m_range := PySem.W.mg_none_of X G z7
  m_repr := PySem.W.mg_none_of X G z8
  m_sorted := PySem.W.mg_none_of X G z9
  m_tuple := PySem.W.mg_none_of X G z10
  a_RULES := _
  g_RULES := PySem.W.mg_of X G s0
  k_RULES := by
    intro s d h
    unfold tab_RULES at h
    simp only [List.lookup] at h
    repeat' split at h
    · cases h; rename_i hh; cases eq_of_beq hh; exact ⟨.ref p0x0, ⟨es0, n0p, _, r0, u0, v0x0, rfl⟩, fun H => (show Tw.TupK K p0x0 [.int (0), .int (1)] from Tw.tupK_of r0x0 (show 2 ≤ sizeLine by decide) (.cons ⟨_, rfl⟩ (.cons ⟨_, rfl⟩ .nil))).ints (ns := [0, 1])⟩
    · cases h; rename_i hh; cases eq_of_beq hh; exact ⟨.ref p0x1, ⟨es0, n0p, _, r0, u0, v0x1, rfl⟩, fun H => (show Tw.TupK K p0x1 [.int (3), .int (1)] from Tw.tupK_of r0x1 (show 2 ≤ sizeLine by decide) (.cons ⟨_, rfl⟩ (.cons ⟨_, rfl⟩ .nil))).ints (ns := [3, 1])⟩
    · cases h; rename_i hh; cases eq_of_beq hh; exact ⟨.ref p0x2, ⟨es0, n0p, _, r0, u0, v0x2, rfl⟩, fun H => (show Tw.TupK K p0x2 [.int (5), .int (-1)] from Tw.tupK_of r0x2 (show 2 ≤ sizeLine by decide) (.cons ⟨_, rfl⟩ (.cons ⟨_, rfl⟩ .nil))).ints (ns := [5, -1])⟩
    · cases h; rename_i hh; cases eq_of_beq hh; exact ⟨.ref p0x3, ⟨es0, n0p, _, r0, u0, v0x3, rfl⟩, fun H => (show Tw.TupK K p0x3 [.int (2), .int (1)] from Tw.tupK_of r0x3 (show 2 ≤ sizeLine by decide) (.cons ⟨_, rfl⟩ (.cons ⟨_, rfl⟩ .nil))).ints (ns := [2, 1])⟩
    · cases h
end K26
open PySem PySem.W PyProof.Rows
set_option maxHeartbeats 0 in
theorem PySem.Challenge.cw_tidewaits_k26_orders_of_rules_holds : PySem.Challenge.rw_tidewaits_k26_orders_of_rules.Holds := by
  w_on; o_law; k_head; (case hw => w_witness2)
  k_fill
  refine Tw.walk_G (l := PySem.Challenge.rw_tidewaits_k26_orders_of_rules) (n := 63) (k := K26.lawLevel) (x := "script") (sp := Tw.spLaw) rfl (by decide) rfl ⟨rfl, by decide, by decide⟩ (fun w h Y => PySem.W.kIn_of Y) ?F (fun _ _ _ _ hl hS => ⟨_, _, rfl, hS, hl, fun _ => rfl⟩)
  case F =>
    intro w mg fa h KX G hmg
    refine' K26.all_ok (K26.tx_mk KX G ?a0 ?l0 ?c0 ?k0 ?a1 ?l1 ?c1 ?k1 ?a2 ?l2 ?c2 ?k2 ?a3 ?l3 ?c3 ?k3 ?z0 ?z1 ?z2 ?z3 ?z4 ?z5 ?z6 ?z7 ?z8 ?z9 ?z10 ?s0 ?r0 ?u0 ?v0x0 ?r0x0 ?v0x1 ?r0x1 ?v0x2 ?r0x2 ?v0x3 ?r0x3) hmg
    (case a0 => k_is); (case l0 => k_is); (case c0 => k_is); (case k0 => k_is); (case a1 => k_is); (case l1 => k_is); (case c1 => k_is); (case k1 => k_is); (case a2 => k_is); (case l2 => k_is); (case c2 => k_is); (case k2 => k_is); (case a3 => k_is); (case l3 => k_is); (case c3 => k_is); (case k3 => k_is); (case z0 => k_is); (case z1 => k_is); (case z2 => k_is); (case z3 => k_is); (case z4 => k_is); (case z5 => k_is); (case z6 => k_is); (case z7 => k_is); (case z8 => k_is); (case z9 => k_is); (case z10 => k_is); (case s0 => k_is); (case r0 => k_is); (case u0 => exact ⟨⟨_, _, rfl, rfl⟩, ⟨_, _, rfl, rfl⟩, ⟨_, _, rfl, rfl⟩, ⟨_, _, rfl, rfl⟩, trivial⟩); (case v0x0 => k_is); (case r0x0 => k_is); (case v0x1 => k_is); (case r0x1 => k_is); (case v0x2 => k_is); (case r0x2 => k_is); (case v0x3 => k_is); (case r0x3 => k_is)

