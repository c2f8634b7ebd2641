import PyProof.Rows.All
import Wide.All
import OpenK.AllK
import Wide.FinOn
import HandS.ForMost
import HandS.Evl
import HandS.Zip
import HandS.RaiseMore
import PyProof.ReprRoads
import HandS.IsInst
import HandS.Defaults
import HandS.Walk
import HandS.TryOnly
import HandS.StrMore
import PySem.Challenge.RW_tidewaits_k10_harbours_read_back
set_option Elab.async false
set_option linter.all false
set_option maxRecDepth 100000
set_option maxHeartbeats 4000000
namespace Tw
open PySem PySem.Spec PyProof.Rows L2 Evl
/-! data that stays -/
mutual
theorem dp_ex {K : PySem.W.Frag} {H H' : Hp} (e : Ex H H') : ∀ {v : V} {d : PyData}, Dp K H v d → Dp K H' v d
  | _, _, .non => .non
  | _, _, .bl b => .bl b
  | _, _, .int i => .int i
  | _, _, .str x => .str x
  | _, _, .lst h a => .lst (ex_l e h) (dpa_ex e a)
  | _, _, .tup h a => .tup (ex_t e h) (dpa_ex e a)
theorem dpa_ex {K : PySem.W.Frag} {H H' : Hp} (e : Ex H H') : ∀ {vs : List V} {ds : List PyData}, DpAll K H vs ds → DpAll K H' vs ds
  | _, _, .nil => .nil
  | _, _, .cons h a => .cons (dp_ex e h) (dpa_ex e a)
end
/-! repr of data -/
section
variable {X : Cx}
def rRepr (K : PySem.W.Frag) : List V → Hp → VK → Prop := fun xs H Q => ∃ (a : Addr) (d : PyData), xs = [.ref a] ∧ Dp K H (.ref a) d ∧ d.showable = true ∧ d.hasDict = false ∧ d.depth ≤ 60 ∧ d.shown.length ≤ sizeLine ∧ Q (.str d.shown) H
theorem call_repr (hg : X.A.guards = some []) (hu : X.A.units + 64 < cLine) : CallR X (.builtin "repr") (rRepr X.K) := by
  intro pins s σ H xs us Q I r h
  obtain ⟨a, d, rfl, hd, hs, hn, hz, hl, q⟩ := h
  cases r with
  | cons r1 r2 =>
    cases r2
    cases r1
    obtain ⟨as, rd⟩ := Dp.reads I d _ _ hd rfl
    exact repr_of_reads' rd hs (PyData.noDict_hsm hn) hg (by omega) (fun _ _ e => e) (fun h' u tk hk => ⟨.str d.shown, H, I.kept hk, ⟨u, rfl⟩, q⟩) hl
end
end Tw

set_option Elab.async false
set_option linter.all false
set_option maxRecDepth 100000
set_option maxHeartbeats 4000000
namespace Tw
open PySem PySem.Spec PyProof.Rows L2 Evl
/-! a def's promise where no repr is under way -/
structure FnG (P : Program) (w : World) (K : PySem.W.Frag) (mg : Str → Option Value) (base : Heap) (k : Nat) (f : Addr) (fd : FuncData) (ps : List Str) (sp : Sp) : Prop where
  len : ∀ vs H Q E, sp vs H Q E → vs.length = ps.length
  run : ∀ (A : Around) (outer : List Env) (s : Shared) (H : Hp) (args : Args) (us : List Value) (vs : List V) (Q : VK) (E : XK), A.guards = some [] → Room k A →
    Env0 P w K mg base A outer s H → BindsTo s fd args (ps.zip us) → Vals vs us → sp vs H Q E →
    codeAny (model P w) A (.call (.ref f) args) (CR CX0 outer P w H s Q E) s
theorem fnG_of {P : Program} {w : World} {K : PySem.W.Frag} {mg : Str → Option Value} {base : Heap} {x qual : Str} {st : Stmt} {f : Addr} {fd : FuncData} {N ps : List Str} {k : Nat} {sp : Sp}
    (F : Fun K x qual st f fd) (S : FnScope N ps (defScope st)) (len : ∀ vs H Q E, sp vs H Q E → vs.length = ps.length)
    (body : ∀ (cdv : Value) (A : Around) (outer : List Env) (s : Shared) (H : Hp) (vs : List V) (Q : VK) (E : XK), A.guards = some [] → Room k (A.deeper (envOfC qual (defScope st) s.heap.objs.size f cdv)) → sp vs H Q E →
      ∃ t, PSs (cxOf CX0 P w K mg base N qual (defScope st) f cdv A outer s H E).nox (defBody st) t ∧ t { nx := fun _ H' => Q .non H', rt := Q } (start N vs) H) :
    FnG P w K mg base (k + 1) f fd ps sp := by
  obtain ⟨_, _, _, _, _, _, cdv, _, _, rfl, lk, hcd⟩ := F.ex
  constructor
  · exact len
  intro A outer s H args us vs Q E gd room e0 bt rv hq
  have lenV := len _ _ _ _ hq
  have kin : K.In s.heap := by
    have h := e0.mod.kin
    exact h.keeps fun c u z => (e0.bs c u z).1
  have nol : s.heap.NoLimit := by
    have h := e0.mod.nolimit
    exact h.keeps fun c u z => (e0.bs c u z).1
  have kinds : ∀ y ∈ ps.zip us, (defScope st).names.lookup y.1 = some .local ∨
      ((defScope st).names.lookup y.1 = some .cell ∧ ((cellsFrom (s.heap.objs.size + 1) (defScope st).names []).lookup y.1).isSome = true) := by
    rintro ⟨n, u⟩ hy
    have hn := (List.of_mem_zip hy).1
    cases S.par n hn with
    | inl h => exact .inl h
    | inr h => exact .inr ⟨h, PySem.W.cellsFrom_some _ _ _ (.inl h)⟩
  refine codeAny_call_function room.depth (kin _ _ lk) rfl S.co S.gen rfl
    (PySem.W.codeRec_of kin hcd) (bt _ _ _ _ ?_)
  refine wpAny_newFunctionEnv_cells S.kind kinds ?_
  intro env he s1 inc
  cases he
  refine ⟨nol.keeps inc.toInCall.keep, codeAny_func ?_⟩
  obtain ⟨t, ht', hb⟩ := body cdv A outer s H vs Q E gd (room.deeper _) hq
  have ht := ht'.nox
  have J := inv_start (CX := CX0) (E := E) S room.hd e0 lenV rv inc
  have goal := ht.run [] s1 (start N vs) H _ J hb
  refine wpAny_mono goal ?_ ?_
  · intro fl s' hs
    cases fl with
    | ret u =>
      obtain ⟨v, σ', H', I, r, q⟩ := hs
      exact ⟨v, H', I.os, I.bare, I.base, I.hok, r, q⟩
    | next =>
      obtain ⟨σ', H', I, q⟩ := hs
      exact ⟨.non, H', I.os, I.bare, I.base, I.hok, rfl, q⟩
    | brk =>
      obtain ⟨_, _, _, q⟩ := hs
      exact q.elim
    | cont =>
      obtain ⟨_, _, _, q⟩ := hs
      exact q.elim
  · intro e s' hs
    exact hs
theorem law_callG {P : Program} {w : World} {K : PySem.W.Frag} {mg mb : Str → Option Value} {k : Nat} {fa a : Addr} {fd : FuncData} {x : Str} {sp : Sp} {s₁ : Shared} {vs : List Value} {ns : List Int}
    (KX : K.In s₁.heap) (gl : s₁.heap.Ns mainGlobals mg) (bl : s₁.heap.Ns builtinsNs mb) (bb : ∀ x : Str, x ≠ "__name__" → mb x = bootBuiltins x) (nl : s₁.heap.NoLimit) (ng : s₁.gens = #[])
    (ha : s₁.heap.get? a = some { cls := .type "list", data := .seq vs.toArray }) (hi : IntsAre vs ns) (hl : ns.length ≤ sizeLine) (room : Room k callerA)
    (F : ∀ base : Heap, K.In base → base.Ns mainGlobals mg → FnG P w K mg base k fa fd [x] sp) (bt : ∀ (s : Shared) (u : Value), BindsTo s fd ⟨[u], []⟩ [(x, u)])
    (hsp : ∀ H : Hp, SqL K H a (ns.map V.int) → sp [.ref a] H (fun v _ => v = .bl true) fun _ _ _ => False) :
    codeAny (model P w) callerA (.call (.ref fa) ⟨[.ref a], []⟩) (fun r s' => r = .ok (.ret (.bool true)) ∧ OldK s₁.heap s'.heap ∧ s'.os = s₁.os ∧ AllBare s'.gens) s₁ := by
  have rv := vals_ints hi
  have lenV := hi.length
  have main : ∀ H : Hp, Only H → SqL K H a (ns.map V.int) → HOk P w H s₁.heap → (∀ b, H b ≠ none → b = a) → (H a ≠ none → K.lookup a = none) →
      codeAny (model P w) callerA (.call (.ref fa) ⟨[.ref a], []⟩) (fun r s' => r = .ok (.ret (.bool true)) ∧ OldK s₁.heap s'.heap ∧ s'.os = s₁.os ∧ AllBare s'.gens) s₁ := by
    intro H only sq hok onlyA notK
    have hide : ∀ {b : Addr} {m : Str → Option Value}, s₁.heap.Ns b m → (hidT s₁.heap H).Ns b m := by
      rintro b m ⟨o, es, ep, e1, e2, r⟩
      refine ⟨o, es, ep, hidT_get e1 ?_, e2, r⟩
      cases q : H b with
      | none => rfl
      | some u =>
        have eb : b = a := onlyA b (by rw [q]; exact Option.some_ne_none u)
        subst eb
        rw [ha] at e1
        cases e1
        cases e2
    have kinB : K.In (hidT s₁.heap H) := by
      intro b o e
      refine hidT_get (KX b o e) ?_
      cases q : H b with
      | none => rfl
      | some u =>
        have eb : b = a := onlyA b (by rw [q]; exact Option.some_ne_none u)
        subst eb
        have := notK (by rw [q]; exact Option.some_ne_none u)
        rw [this] at e
        cases e
    obtain ⟨mc, c1, c2⟩ := nl
    have md : Mod K mg (hidT s₁.heap H) := ⟨kinB, hide gl, ⟨mb, hide bl, bb⟩, ⟨mc, hide c1, c2⟩⟩
    have env : Env0 P w K mg (hidT s₁.heap H) callerA [] s₁ H := by
      refine ⟨rfl, md, fun b o e => of_hidT e, Nat.le_of_eq (hidT_size _ _), trivial, ?_, hok, .of_eq ng⟩
      intro b hb
      exact absurd (show b ∈ ([] : List Addr) from hb) List.not_mem_nil
    have FF := F _ kinB (hide gl)
    have go := FF.run callerA [] s₁ H ⟨[.ref a], []⟩ [.ref a] [.ref a] _ _ rfl room env (bt s₁ (.ref a)) (.cons rfl .nil) (hsp H sq)
    refine codeAny_mono go ?_
    intro r s' hr
    match r, hr with
    | .error e, hr => exact False.elim hr
    | .ok .next, hr => exact False.elim hr
    | .ok .brk, hr => exact False.elim hr
    | .ok .cont, hr => exact False.elim hr
    | .ok (.ret u), hr =>
      obtain ⟨v, H', os, bare, un, hok', r', q⟩ := hr
      cases (show v = .bl true from q)
      cases (show u = Value.bool true from r')
      refine ⟨rfl, OldK.of_keep ?_, os, bare⟩
      intro b o e
      cases q : H b with
      | none => exact un.keep b o e q (fun z => absurd (show b ∈ ([] : List Addr) from z) List.not_mem_nil) (fun z => absurd z List.not_mem_nil)
      | some u =>
        rcases only b with z | ⟨ob, xs, z⟩
        · rw [q] at z
          cases z
        · obtain ⟨e1, _⟩ := hok b _ z
          obtain ⟨e2, _⟩ := hok' b _ (un.frzs b ob _ z)
          rw [e] at e1
          cases e1
          exact e2
  cases hk : K.lookup a with
  | some o =>
    have e := KX a o hk
    rw [ha] at e
    cases e
    refine main (fun _ => none) (fun _ => .inl rfl) (.inr ⟨_, vs.toArray, _, hk, rfl, rfl, rfl, ?_, by simpa using rv⟩) (fun b u z => by cases z) (fun b z => absurd rfl z) fun z => absurd rfl z
    rw [List.size_toArray, lenV]
    exact hl
  | none =>
    let Ha : Hp := fun b => if b = a then some (.frz { cls := .type "list", data := .seq vs.toArray } (.lst (ns.map V.int))) else none
    have at_a : Ha a = some (.frz { cls := .type "list", data := .seq vs.toArray } (.lst (ns.map V.int))) := if_pos rfl
    have off : ∀ b, b ≠ a → Ha b = none := fun b hb => if_neg hb
    refine main Ha ?_ (.inl (.inr ⟨_, at_a⟩)) ?_ ?_ fun _ => hk
    · intro b
      by_cases hb : b = a
      · subst hb
        exact .inr ⟨_, _, at_a⟩
      · exact .inl (off b hb)
    · intro b u z
      by_cases hb : b = a
      · subst hb
        rw [at_a] at z
        cases z
        exact ⟨ha, by rw [List.length_map]; exact hl, vs, _, rv, ha⟩
      · rw [off b hb] at z
        cases z
    · intro b z
      by_cases hb : b = a
      · exact hb
      · exact absurd (off b hb) z
theorem walk_G {l : PySem.W.OpenLaw} {n k : Nat} {q : Program} {loose : List Str} {XP : (Str → Option Value) → Heap → Prop} {YP : World → Heap → Prop} {d : DefRec} {K : Params → PySem.W.Frag} {sp : PySem.W.Frag → Sp} {x : Str}
    (hn : l.most = some n) (hn2 : n ≤ sizeLine) (hdf : d.params.defaults = []) (room : Room k callerA) (hY : ∀ (w : World) (h : Heap), YP w h → (K w.params).In h)
    (F : ∀ (w : World) (mg : Str → Option Value) (fa : Addr) (h : Heap), (K w.params).In h → h.Ns mainGlobals mg → mg d.name = some (.ref fa) →
      ∃ fd : FuncData, (∀ (s : Shared) (u : Value), BindsTo s fd ⟨[u], []⟩ [(x, u)]) ∧
        ∀ base : Heap, (K w.params).In base → base.Ns mainGlobals mg → FnG l.prog w (K w.params) mg base k fa fd [x] (sp (K w.params)))
    (hsp : ∀ (K : PySem.W.Frag) (H : Hp) (a : Addr) (ns : List Int), ns.length ≤ n → SqL K H a (ns.map V.int) → sp K [.ref a] H (fun v _ => v = .bl true) fun _ _ _ => False) :
    PySem.W.WalkO q loose XP YP l.row.toRowW d [] (fun f vs => PySem.call f vs) := by
  refine Att.attach_call hn hdf ?_
  intro w s₀ s₁ mg mb fa o pm cd doc a vs ns G Y ho hd hcd hmg hobj hints hlen hg
  have KX := hY w _ Y
  obtain ⟨fd, hb, hF⟩ := F w mg fa _ KX G.T.g hmg
  exact law_callG KX G.T.g G.T.b G.T.builtins G.T.nolimit hg hobj hints (Nat.le_trans hlen hn2) room hF hb fun H hS => hsp _ H a ns hlen hS
end Tw

set_option Elab.async false
set_option linter.all false
set_option maxRecDepth 100000
set_option maxHeartbeats 4000000
namespace Tw
open PySem PySem.Spec PyProof.Rows L2 Evl
/-! data, its lists plain -/
mutual
inductive Da (K : PySem.W.Frag) (H : Hp) : V → PyData → Prop
  | non : Da K H .non .none
  | bl (b : Bool) : Da K H (.bl b) (.bool b)
  | int (i : Int) : Da K H (.int i) (.int i)
  | str (x : Str) : Da K H (.str x) (.str x)
  | lst {a : Addr} {xs : List V} {ds : List PyData} : H a = some (.lst xs) → DaAll K H xs ds → Da K H (.ref a) (.list ds)
  | tup {a : Addr} {xs : List V} {ds : List PyData} : SqT K H a xs → DaAll K H xs ds → Da K H (.ref a) (.tuple ds)
inductive DaAll (K : PySem.W.Frag) (H : Hp) : List V → List PyData → Prop
  | nil : DaAll K H [] []
  | cons {v : V} {vs : List V} {d : PyData} {ds : List PyData} : Da K H v d → DaAll K H vs ds → DaAll K H (v :: vs) (d :: ds)
end
section
variable {K : PySem.W.Frag} {H H' : Hp}
mutual
theorem da_ex (e : Ex H H') : ∀ {v : V} {d : PyData}, Da K H v d → Da K H' v d
  | _, _, .non => .non
  | _, _, .bl b => .bl b
  | _, _, .int i => .int i
  | _, _, .str x => .str x
  | _, _, .lst h a => .lst (e _ _ h) (daa_ex e a)
  | _, _, .tup h a => .tup (ex_t e h) (daa_ex e a)
theorem daa_ex (e : Ex H H') : ∀ {vs : List V} {ds : List PyData}, DaAll K H vs ds → DaAll K H' vs ds
  | _, _, .nil => .nil
  | _, _, .cons h a => .cons (da_ex e h) (daa_ex e a)
end
mutual
theorem da_dp : ∀ {v : V} {d : PyData}, Da K H v d → Dp K H v d
  | _, _, .non => .non
  | _, _, .bl b => .bl b
  | _, _, .int i => .int i
  | _, _, .str x => .str x
  | _, _, .lst h a => .lst (sq_of h) (daa_dp a)
  | _, _, .tup h a => .tup h (daa_dp a)
theorem daa_dp : ∀ {vs : List V} {ds : List PyData}, DaAll K H vs ds → DpAll K H vs ds
  | _, _, .nil => .nil
  | _, _, .cons h a => .cons (da_dp h) (daa_dp a)
end
theorem daa_len : ∀ {vs : List V} {ds : List PyData}, DaAll K H vs ds → vs.length = ds.length
  | _, _, .nil => rfl
  | _, _, .cons _ a => by rw [List.length_cons, List.length_cons, daa_len a]
theorem daa_get : ∀ {vs : List V} {ds : List PyData}, DaAll K H vs ds → ∀ (i : Nat) (d : PyData), ds[i]? = some d → ∃ v, vs[i]? = some v ∧ Da K H v d
  | _, _, .nil, i, d, h => by simp at h
  | _, _, .cons (v := v) h a, 0, d, e => ⟨v, rfl, by
      have e' := Option.some.inj e
      rw [← e']
      exact h⟩
  | _, _, .cons h a, i + 1, d, e => daa_get a i d e
theorem daa_getV : ∀ {vs : List V} {ds : List PyData}, DaAll K H vs ds → ∀ (i : Nat) (v : V), vs[i]? = some v → ∃ d, ds[i]? = some d ∧ Da K H v d
  | _, _, .nil, i, d, h => by simp at h
  | _, _, .cons (d := d) h a, 0, v, e => ⟨d, rfl, by
      have e' := Option.some.inj e
      rw [← e']
      exact h⟩
  | _, _, .cons h a, i + 1, v, e => daa_getV a i v e
theorem daa_app : ∀ {vs ws : List V} {ds es : List PyData}, DaAll K H vs ds → DaAll K H ws es → DaAll K H (vs ++ ws) (ds ++ es)
  | _, _, _, _, .nil, b => b
  | _, _, _, _, .cons h a, b => .cons h (daa_app a b)
theorem daa_drop : ∀ {vs : List V} {ds : List PyData} (n : Nat), DaAll K H vs ds → DaAll K H (vs.drop n) (ds.drop n)
  | _, _, 0, h => h
  | _, _, n + 1, .nil => .nil
  | _, _, n + 1, .cons _ a => daa_drop n a
theorem daa_take : ∀ {vs : List V} {ds : List PyData} (n : Nat), DaAll K H vs ds → DaAll K H (vs.take n) (ds.take n)
  | _, _, 0, h => .nil
  | _, _, n + 1, .nil => .nil
  | _, _, n + 1, .cons h a => .cons h (daa_take n a)
theorem daa_ints : ∀ (ns : List Int), DaAll K H (ns.map V.int) (ns.map PyData.int)
  | [] => .nil
  | n :: r => .cons (.int n) (daa_ints r)
theorem daa_intsV : ∀ {ns : List Int} {vs : List V}, DaAll K H vs (ns.map PyData.int) → vs = ns.map V.int
  | [], _, .nil => rfl
  | n :: r, _, .cons (.int _) a => by rw [daa_intsV a]; rfl
theorem daa_strsV : ∀ {ns : List Str} {vs : List V}, DaAll K H vs (ns.map PyData.str) → vs = ns.map V.str
  | [], _, .nil => rfl
  | n :: r, _, .cons (.str _) a => by rw [daa_strsV a]; rfl
end
/-! what is had behind an evaluation: v tells d, by old things of the anchor H and new ones alone -/
structure Sep (H H1 H2 G : Hp) : Prop where
  up : Ex H1 H2
  an : Ex H G
  inn : Ex G H2
  sep : ∀ b, H b = none → H1 b ≠ none → G b = none
theorem Sep.refl {H H1 : Hp} (e : Ex H H1) : Sep H H1 H1 H := ⟨Ex.refl _, Ex.refl _, e, fun _ h _ => h⟩
theorem Sep.trans {H H1 H2 H3 G G2 : Hp} (a : Sep H H1 H2 G) (b : Sep G H2 H3 G2) : Sep H H1 H3 G2 :=
  ⟨a.up.trans b.up, a.an.trans b.an, b.inn, fun c h h1 => b.sep c (a.sep c h h1) fun z => by
    cases q : H1 c with
    | none => exact h1 q
    | some o =>
      rw [a.up c o q] at z
      cases z⟩
theorem Sep.new {H H1 : Hp} {p : Addr} {o : HO} (e : Ex H H1) (h : H1 p = none) : Sep H H1 (upd H1 p o) (upd H p o) := by
  have hp : H p = none := fresh_back e h
  refine ⟨Ex.new h, Ex.new hp, fun b u hb => ?_, fun b hb h1 => ?_⟩
  · by_cases q : b = p
    · subst q
      rw [upd_same] at hb ⊢
      exact hb
    · rw [upd_ne q] at hb ⊢
      exact e b u hb
  · have q : b ≠ p := fun z => by
      rw [z] at h1
      exact h1 h
    rw [upd_ne q]
    exact hb
/-- a place outside the anchor stays outside, and stays -/
theorem Sep.out {H H1 H2 G : Hp} (a : Sep H H1 H2 G) {p : Addr} {o : HO} (h : H p = none) (h1 : H1 p = some o) : G p = none ∧ H2 p = some o :=
  ⟨a.sep p h (by rw [h1]; exact Option.some_ne_none o), a.up p o h1⟩
/-- the place changes; the anchor stands -/
theorem ex_chg {G H : Hp} {p : Addr} {o : HO} (e : Ex G H) (h : G p = none) : Ex G (upd H p o) := Ex.mut e h

def ED (K : PySem.W.Frag) (te : TE) (σ : L2.St) (H : Hp) (d : PyData) : Prop :=
  ∀ H1, Ex H H1 → ∀ Q : VK, (∀ v H2 G, Sep H H1 H2 G → Da K G v d → Q v H2) → te σ H1 Q
def EDA (K : PySem.W.Frag) (ta : TA) (σ : L2.St) (H : Hp) (ds : List PyData) : Prop :=
  ∀ H1, Ex H H1 → ∀ Q : List V → Hp → Prop, (∀ vs H2 G, Sep H H1 H2 G → DaAll K G vs ds → Q vs H2) → ta σ H1 Q
section
variable {K : PySem.W.Frag} {σ : L2.St} {H H' : Hp} {ta tb te : TE} {d e : PyData} {ds es : List PyData}
theorem ED.mono (x : Ex H H') (h : ED K te σ H d) : ED K te σ H' d := fun H1 a Q q => h H1 (x.trans a) Q fun v H2 G s g => by
  -- the anchor grows: what is new stands beside it
  refine q v H2 (fun b => if (H' b).isSome then H' b else G b) ⟨s.up, fun b o hb => ?_, fun b o hb => ?_, fun b hb hb1 => ?_⟩ (da_ex (fun b o hb => ?_) g)
  · show (if (H' b).isSome then H' b else G b) = some o
    rw [hb]
    rfl
  · have hb' : (if (H' b).isSome then H' b else G b) = some o := hb
    cases z : H' b with
    | none =>
      rw [z] at hb'
      exact s.inn b o hb'
    | some u =>
      rw [z] at hb'
      have : u = o := Option.some.inj hb'
      subst this
      exact s.up b u (a b u z)
  · show (if (H' b).isSome then H' b else G b) = none
    rw [hb]
    exact s.sep b (fresh_back x hb) hb1
  · show (if (H' b).isSome then H' b else G b) = some o
    cases z : H' b with
    | none => exact hb
    | some u =>
      have h2 := s.up b u (a b u z)
      rw [s.inn b o hb] at h2
      exact h2.symm
theorem ed_is (h : ED K te σ H d) (x : d = e) : ED K te σ H e := x ▸ h
theorem ed_ev {v : V} (h : Ev te σ H v) (g : Da K H v d) : ED K te σ H d := fun H1 x Q q => h H1 x Q fun H2 x2 =>
  q v H2 H ⟨x2, Ex.refl H, x.trans x2, fun _ h _ => h⟩ g
theorem ev_int {i : Int} (h : ED K te σ H (.int i)) : Ev te σ H (.int i) := fun H1 x Q q => h H1 x Q fun v H2 G s g => by
  cases g
  exact q H2 s.up
theorem ev_bool {b : Bool} (h : ED K te σ H (.bool b)) : Ev te σ H (.bl b) := fun H1 x Q q => h H1 x Q fun v H2 G s g => by
  cases g
  exact q H2 s.up
theorem ev_str {x : Str} (h : ED K te σ H (.str x)) : Ev te σ H (.str x) := fun H1 x Q q => h H1 x Q fun v H2 G s g => by
  cases g
  exact q H2 s.up
theorem ev_non (h : ED K te σ H .none) : Ev te σ H .non := fun H1 x Q q => h H1 x Q fun v H2 G s g => by
  cases g
  exact q H2 s.up
theorem ed_var {i : Nat} {v : V} (h : σ[i]? = some (some v)) (g : Da K H v d) : ED K (tVar i) σ H d := ed_ev (ev_var h) g
theorem ed_int {i : Int} : ED K (tC (.int i)) σ H (.int i) := ed_ev ev_c (.int i)
theorem ed_str {x : Str} : ED K (tC (.str x)) σ H (.str x) := ed_ev ev_c (.str x)
theorem ed_bl {b : Bool} : ED K (tC (.bl b)) σ H (.bool b) := ed_ev ev_c (.bl b)
theorem ed_non : ED K (tC .non) σ H .none := ed_ev ev_c .non
theorem ed_op0 {g : Int → Int → V} {i j k : Int} (ha : ED K ta σ H (.int i)) (hb : ED K tb σ H (.int j)) (hg : g i j = .int k) : ED K (tOp (rI0 g) ta tb) σ H (.int k) :=
  ed_ev (ev_op (ev_int ha) (ev_int hb) rv_I0) (by rw [hg]; exact .int k)
theorem ed_opC {C : Int → Int → Prop} {g : Int → Int → V} {i j k : Int} (ha : ED K ta σ H (.int i)) (hb : ED K tb σ H (.int j)) (hc : C i j) (hg : g i j = .int k) : ED K (tOp (rI C g) ta tb) σ H (.int k) :=
  ed_ev (ev_op (ev_int ha) (ev_int hb) (rv_I hc)) (by rw [hg]; exact .int k)
theorem ed_add {i j : Int} (ha : ED K ta σ H (.int i)) (hb : ED K tb σ H (.int j)) : ED K (tOp (rI0 fun i j => .int (i + j)) ta tb) σ H (.int (i + j)) := ed_op0 ha hb rfl
theorem ed_sub {i j : Int} (ha : ED K ta σ H (.int i)) (hb : ED K tb σ H (.int j)) : ED K (tOp (rI0 fun i j => .int (i - j)) ta tb) σ H (.int (i - j)) := ed_op0 ha hb rfl
theorem ed_mul {i j : Int} (ha : ED K ta σ H (.int i)) (hb : ED K tb σ H (.int j)) (hc : CMul i j) : ED K (tOp (rI CMul fun i j => .int (i * j)) ta tb) σ H (.int (i * j)) := ed_opC ha hb hc rfl
theorem ed_mod {i j : Int} (ha : ED K ta σ H (.int i)) (hb : ED K tb σ H (.int j)) (hc : 0 < j) : ED K (tOp (rI (fun _ j => 0 < j) fun i j => .int (i % j)) ta tb) σ H (.int (i % j)) := ed_opC ha hb hc rfl
theorem ed_fdiv {i j : Int} (ha : ED K ta σ H (.int i)) (hb : ED K tb σ H (.int j)) (hc : CDiv i j) : ED K (tOp (rI CDiv fun i j => .int (i / j)) ta tb) σ H (.int (i / j)) := ed_opC ha hb hc rfl
/-- arguments -/
theorem eda_nil : EDA K tNil σ H [] := fun H1 x Q q => q [] H1 H (Sep.refl x) .nil
theorem EDA.mono' {tr : TA} : True := trivial
theorem eda_cons {tr : TA} (h : ED K te σ H d) (hr : ∀ G, Ex H G → EDA K tr σ G ds) : EDA K (tCons te tr) σ H (d :: ds) := fun H1 x Q q =>
  h H1 x _ fun v H2 G s g => hr G s.an H2 s.inn _ fun vs H3 G2 s2 g2 => q (v :: vs) H3 G2 (s.trans s2) (.cons (da_ex s2.an g) g2)
theorem ed_lst {t : TA} (h : EDA K t σ H ds) (hl : ds.length ≤ 100000) : ED K (tLst t) σ H (.list ds) := fun H1 x Q q =>
  h H1 x _ fun vs H2 G s g => ⟨by rw [daa_len g]; exact sz_of hl, fun p hp => by
    refine q (.ref p) _ (upd G p (.lst vs)) (s.trans (Sep.new s.inn hp)) (.lst upd_same (daa_ex (Ex.new (fresh_back s.inn hp)) g))⟩
theorem ed_tup {t : TA} (h : EDA K t σ H ds) (hl : ds.length ≤ 100000) : ED K (tTup t) σ H (.tuple ds) := fun H1 x Q q =>
  h H1 x _ fun vs H2 G s g => ⟨by rw [daa_len g]; exact sz_of hl, fun p hp => by
    refine q (.ref p) _ (upd G p (.tup vs)) (s.trans (Sep.new s.inn hp)) (.tup (st_of upd_same) (daa_ex (Ex.new (fresh_back s.inn hp)) g))⟩
/-- int(n) -/
theorem ed_toInt {i : Int} (h : ED K ta σ H (.int i)) : ED K (tCB (fun xs H Q => (∃ i, xs = [V.int i] ∧ Q (.int i) H) ∨ ∃ k, xs = [.bl k] ∧ Q (.int (if k then 1 else 0)) H) (tCons ta tNil)) σ H (.int i) := fun H1 x Q q =>
  ev_int h H1 x _ fun H2 x2 => .inl ⟨i, rfl, q (.int i) H2 H ⟨x2, Ex.refl H, x.trans x2, fun _ h _ => h⟩ (.int i)⟩
/-- xs[i], t[i] -/
theorem at_of {vs : List V} (g : DaAll K H vs ds) {n : Nat} (hd : ds[n]? = some d) : ∃ v, atI vs (n : Int) = some v ∧ Da K H v d := by
  obtain ⟨v, hv, gv⟩ := daa_get g n d hd
  exact ⟨v, atI_nat hv, gv⟩
theorem ed_ix {i : Int} {n : Nat} (ha : ED K ta σ H (.list ds)) (hb : ∀ G, Ex H G → ED K tb σ G (.int i)) (hi : i = n) (hd : ds[n]? = some d) : ED K (tOp (rIxL K) ta tb) σ H d := fun H1 x Q q =>
  ha H1 x _ fun v H2 G s g => ev_int (hb G s.an) H2 s.inn _ fun H3 x3 => by
    cases g with
    | @lst a xs _ e g =>
      obtain ⟨v, hv, gv⟩ := at_of g hd
      subst hi
      exact ⟨a, xs, n, v, rfl, rfl, sq_of (x3 _ _ (s.inn _ _ e)), hv, q v H3 G ⟨s.up.trans x3, s.an, s.inn.trans x3, s.sep⟩ gv⟩
theorem ed_ixT {i : Int} {n : Nat} (ha : ED K ta σ H (.tuple ds)) (hb : ∀ G, Ex H G → ED K tb σ G (.int i)) (hi : i = n) (hd : ds[n]? = some d) : ED K (tOp (rIxT K) ta tb) σ H d := fun H1 x Q q =>
  ha H1 x _ fun v H2 G s g => ev_int (hb G s.an) H2 s.inn _ fun H3 x3 => by
    cases g with
    | @tup a xs _ e g =>
      obtain ⟨v, hv, gv⟩ := at_of g hd
      subst hi
      exact ⟨a, xs, n, v, rfl, rfl, ex_t (s.inn.trans x3) e, hv, q v H3 G ⟨s.up.trans x3, s.an, s.inn.trans x3, s.sep⟩ gv⟩
/-- xs + ys -/
theorem ed_cat (ha : ED K ta σ H (.list ds)) (hb : ∀ G, Ex H G → ED K tb σ G (.list es)) (hl : ds.length + es.length ≤ 100000) : ED K (tOp rCat ta tb) σ H (.list (ds ++ es)) := fun H1 x Q q =>
  ha H1 x _ fun v H2 G s g => hb G s.an H2 s.inn _ fun w H3 G2 s2 g2 => by
    cases g with
    | @lst a xs _ e g =>
      cases g2 with
      | @lst b ys _ e2 g2 =>
        refine ⟨a, b, xs, ys, rfl, rfl, s2.up _ _ (s.inn _ _ e), s2.inn _ _ e2, by rw [daa_len g, daa_len g2]; exact sz_of hl, fun p hp => ?_⟩
        have np : G2 p = none := fresh_back s2.inn hp
        exact q (.ref p) _ (upd G2 p (.lst (xs ++ ys))) ((s.trans s2).trans (Sep.new s2.inn hp)) (.lst upd_same (daa_app (daa_ex (s2.an.trans (Ex.new np)) g) (daa_ex (Ex.new np) g2)))
/-- xs[a:b] -/
def cutD (ds : List PyData) (lo hi : Option Int) : List PyData := (ds.drop (HT.sIx ds.length 0 lo)).take (HT.sIx ds.length ds.length hi - HT.sIx ds.length 0 lo)
theorem daa_cut {vs : List V} (g : DaAll K H vs ds) (lo hi : Option Int) : DaAll K H (cutV vs lo hi) (cutD ds lo hi) := by
  unfold cutV cutD
  rw [daa_len g]
  exact daa_take _ (daa_drop _ g)
theorem ed_cut {tl th : TO} {lo hi : Option Int} (ha : ED K ta σ H (.list ds)) (h1 : ∀ G, Ex H G → EvO tl σ G lo) (h2 : ∀ G, Ex H G → EvO th σ G hi) : ED K (tSl (rSlL K) ta tl th) σ H (.list (cutD ds lo hi)) := fun H1 x Q q =>
  ha H1 x _ fun v H2 G s g => h1 G s.an H2 s.inn _ fun H3 x3 => h2 G s.an H3 (s.inn.trans x3) _ fun H4 x4 => by
    cases g with
    | @lst a xs _ e g =>
      have x34 := x3.trans x4
      refine ⟨a, xs, rfl, sq_of (x34 _ _ (s.inn _ _ e)), fun p hp => ?_⟩
      have s' : Sep H H1 H4 G := ⟨s.up.trans x34, s.an, s.inn.trans x34, s.sep⟩
      exact q (.ref p) _ (upd G p (.lst (cutV xs lo hi))) (s'.trans (Sep.new s'.inn hp)) (.lst upd_same (daa_ex (Ex.new (fresh_back s'.inn hp)) (daa_cut g lo hi)))
/-- tuple(xs) of a list -/
theorem ed_tuple (ha : ED K ta σ H (.list ds)) : ED K (tCB (fun xs H Q => ∃ p ys, xs = [V.ref p] ∧ ((SqL K H p ys ∧ ∀ l, H l = none → Q (.ref l) (upd H l (.tup ys))) ∨ (SqT K H p ys ∧ Q (.ref p) H))) (tCons ta tNil)) σ H (.tuple ds) := fun H1 x Q q =>
  ha H1 x _ fun v H2 G s g => by
    cases g with
    | @lst a xs _ e g =>
      refine ⟨a, xs, rfl, .inl ⟨sq_of (s.inn _ _ e), fun p hp => ?_⟩⟩
      exact q (.ref p) _ (upd G p (.tup xs)) (s.trans (Sep.new s.inn hp)) (.tup (st_of upd_same) (daa_ex (Ex.new (fresh_back s.inn hp)) g))
/-- s + t -/
theorem ed_adds {x y : Str} (ha : ED K ta σ H (.str x)) (hb : ED K tb σ H (.str y)) (hl : x.length + y.length ≤ sizeLine) :
    ED K (tOp (fun x y H Q => ∃ i j, x = V.str i ∧ y = V.str j ∧ i.length + j.length ≤ sizeLine ∧ Q (.str (i ++ j)) H) ta tb) σ H (.str (x ++ y)) := fun H1 x1 Q q =>
  ev_str ha H1 x1 _ fun H2 x2 => ev_str hb H2 (x1.trans x2) _ fun H3 x3 => ⟨x, y, rfl, rfl, hl, q _ H3 H ⟨x2.trans x3, Ex.refl H, (x1.trans x2).trans x3, fun _ h _ => h⟩ (.str _)⟩
/-- sep.join(xs) -/
theorem ed_join {z : Str} {ys : List Str} (ha : ED K ta σ H (.str z)) (hb : ∀ G, Ex H G → ED K tb σ G (.list (ys.map .str))) (hl : (ys.map (·.length)).sum + ys.length * z.length ≤ 16777216) :
    ED K (tM1 (fun x xs H Q => ∃ a p, ∃ ys : List Str, x = V.str a ∧ xs = [V.ref p] ∧ (SqL K H p (ys.map V.str) ∨ SqT K H p (ys.map V.str)) ∧ (ys.map (·.length)).sum + ys.length * a.length ≤ 16777216 ∧ Q (.str (Txt.join a ys)) H) ta tb) σ H (.str (Txt.join z ys)) := fun H1 x1 Q q =>
  ev_str ha H1 x1 _ fun H2 x2 => ⟨⟨z, rfl⟩, hb H (Ex.refl H) H2 (x1.trans x2) _ fun v H3 G s g => by
    cases g with
    | @lst a xs _ e g =>
      have ex := daa_strsV g
      subst ex
      exact ⟨z, a, ys, rfl, rfl, .inl (sq_of (s.inn _ _ e)), hl, q _ H3 G ⟨x2.trans s.up, s.an, s.inn, fun b h h1 => s.sep b h fun zz => by
        cases qq : H1 b with
        | none => exact h1 qq
        | some o =>
          rw [x2 b o qq] at zz
          cases zz⟩ (.str _)⟩⟩
/-- len(xs) -/
def rLenS2 (K : PySem.W.Frag) : List V → Hp → VK → Prop := fun xs H Q => ∃ p ys, xs = [.ref p] ∧ (SqL K H p ys ∨ SqT K H p ys) ∧ Q (.int ys.length) H
theorem ed_len (ha : ED K ta σ H (.list ds)) : ED K (tCB (fun xs H Q => ∃ p ys, xs = [V.ref p] ∧ (SqL K H p ys ∨ SqT K H p ys) ∧ Q (.int ys.length) H) (tCons ta tNil)) σ H (.int ds.length) := fun H1 x Q q =>
  ha H1 x _ fun v H2 G s g => by
    cases g with
    | @lst a xs _ e g =>
      refine ⟨a, xs, rfl, .inl (sq_of (s.inn _ _ e)), ?_⟩
      rw [daa_len g]
      exact q _ H2 G s (.int _)
/-- a def's promise -/
def spF (K : PySem.W.Frag) (R : List PyData → PyData → Prop) : Sp := fun vs H1 Q _ => ∃ G0 ds d, Ex G0 H1 ∧ DaAll K G0 vs ds ∧ R ds d ∧ ∀ v H2 G, Sep G0 H1 H2 G → Da K G v d → Q v H2
theorem ed_call {R : List PyData → PyData → Prop} {E : XK} {t : TA} (h : EDA K t σ H ds) (hr : R ds d) : ED K (tCall (spF K R) [] E t) σ H d := fun H1 x Q q =>
  h H1 x _ fun vs H2 G s g => ⟨G, ds, d, s.inn, by rw [List.append_nil]; exact g, hr, fun v H3 G2 s2 g2 => q v H3 G2 (s.trans s2) g2⟩
theorem spF_len {R : List PyData → PyData → Prop} {n : Nat} (h : ∀ ds d, R ds d → ds.length = n) : ∀ vs H Q E, spF K R vs H Q E → vs.length = n := by
  rintro vs H Q E ⟨G0, ds, d, _, g, hr, _⟩
  rw [daa_len g]
  exact h ds d hr
end
/-! statements: the anchor G, the heap H over it -/
section
variable {K : PySem.W.Frag} {σ : L2.St} {G H : Hp} {ta tb te : TE} {d : PyData} {ds : List PyData} {D : Ends} {tu tz : TS}
theorem d_asg {i : Nat} (h : ED K te σ G d) (x : Ex G H) (k : ∀ v H2 G2, Sep G H H2 G2 → Da K G2 v d → tz D (σ.set i (some v)) H2) : tSeq (tAsg te (gName i)) tz D σ H := h H x _ k
theorem d_asg1 {i : Nat} (h : ED K te σ G d) (x : Ex G H) (k : ∀ v H2 G2, Sep G H H2 G2 → Da K G2 v d → D.nx (σ.set i (some v)) H2) : tAsg te (gName i) D σ H := h H x _ k
theorem d_ret (h : ED K te σ G d) (x : Ex G H) (k : ∀ v H2 G2, Sep G H H2 G2 → Da K G2 v d → D.rt v H2) : tRet te D σ H := h H x _ k
/-- xs.append(e), xs outside the anchor, its items within -/
theorem d_app {l : Addr} {xs : List V} {i : Nat} (hG : G l = none) (hl : H l = some (.lst xs)) (hx : DaAll K G xs ds) (hi : σ[i]? = some (some (.ref l))) (h : ED K te σ G d) (x : Ex G H) (hz : xs.length < 100000)
    (k : ∀ v H2 G2, Sep G H H2 G2 → G2 l = none → Da K G2 v d → DaAll K G2 (xs ++ [v]) (ds ++ [d]) → Ex G2 (upd H2 l (.lst (xs ++ [v]))) → tz D σ (upd H2 l (.lst (xs ++ [v])))) :
    tSeq (tDrop (tBM K "list" rAppend (tVar i) (tCons te tNil))) tz D σ H :=
  ⟨_, hi, .inl ⟨rfl, xs, sq_of hl⟩, h H x _ fun v H2 G2 s g => by
    obtain ⟨o1, o2⟩ := s.out hG hl
    exact ⟨l, xs, v, rfl, rfl, o2, sz_lt hz, k v H2 G2 s o1 g (daa_app (daa_ex s.an hx) (.cons g .nil)) (Ex.mut s.inn o1)⟩⟩
theorem d_app1 {l : Addr} {xs : List V} {i : Nat} (hG : G l = none) (hl : H l = some (.lst xs)) (hx : DaAll K G xs ds) (hi : σ[i]? = some (some (.ref l))) (h : ED K te σ G d) (x : Ex G H) (hz : xs.length < 100000)
    (k : ∀ v H2 G2, Sep G H H2 G2 → G2 l = none → Da K G2 v d → DaAll K G2 (xs ++ [v]) (ds ++ [d]) → Ex G2 (upd H2 l (.lst (xs ++ [v]))) → D.nx σ (upd H2 l (.lst (xs ++ [v])))) :
    tDrop (tBM K "list" rAppend (tVar i) (tCons te tNil)) D σ H := d_app (tz := tNext) hG hl hx hi h x hz k
/-- a new empty list, kept outside the anchor -/
theorem d_new {i : Nat} (x : Ex G H) (k : ∀ p, H p = none → G p = none → Ex G (upd H p (.lst [])) → Ex H (upd H p (.lst [])) → tz D (σ.set i (some (.ref p))) (upd H p (.lst []))) : tSeq (tAsg (tLst tNil) (gName i)) tz D σ H :=
  ⟨Nat.zero_le _, fun p hp => k p hp (fresh_back x hp) (Ex.mut x (fresh_back x hp)) (Ex.new hp)⟩
/-- if -/
theorem d_if {t : TT} {tw : TS} {b : Bool} (h : EvT t σ G b) (x : Ex G H) (h1 : b = true → ∀ H1, Ex H H1 → tu { D with nx := tz D } σ H1) (h2 : b = false → ∀ H1, Ex H H1 → tw { D with nx := tz D } σ H1) : tSeq (tIfS t tu tw) tz D σ H := h H x _ fun H1 e => by
  cases b with
  | true => exact h1 rfl H1 e
  | false => exact h2 rfl H1 e
theorem d_if1 {t : TT} {tw : TS} {b : Bool} (h : EvT t σ G b) (x : Ex G H) (h1 : b = true → ∀ H1, Ex H H1 → tu D σ H1) (h2 : b = false → ∀ H1, Ex H H1 → tw D σ H1) : tIfS t tu tw D σ H := h H x _ fun H1 e => by
  cases b with
  | true => exact h1 rfl H1 e
  | false => exact h2 rfl H1 e
/-- for i in range(n) -/
theorem d_range {j : Nat} {n : Int} (h : ED K te σ G (.int n)) (x : Ex G H) (hn : 0 ≤ n ∧ n ≤ 100000) (Pv : Nat → L2.St → Hp → Prop) (h0 : ∀ H1, Ex H H1 → Pv 0 σ H1)
    (hs : ∀ (i : Nat) σ' H', (i : Int) < n → Pv i σ' H' → tu { D with nx := Pv (i + 1), ct := Pv (i + 1), bk := tz D } (σ'.set j (some (.int (i : Int)))) H') (hd : ∀ σ' H', Pv n.toNat σ' H' → tz D σ' H') : tSeq (tFor (iRng1 (tCons te tNil)) (gName j) tu) tz D σ H := by
  have e : EvA (tCons te tNil) σ G [.int n] := ea_cons (ev_int h) ea_nil
  exact q_forR1 (EvA.mono x e) hn Pv h0 hs hd
end
end Tw

set_option Elab.async false
set_option linter.all false
set_option maxRecDepth 100000
set_option maxHeartbeats 4000000
namespace Tw
open PySem PySem.Spec PyProof.Rows L2 Evl
/-! comprehensions -/
theorem et_yes {σ : L2.St} {H : Hp} : EvT tYes σ H true := fun H1 _ Q q => q H1 (Ex.refl H1)
def Lw (K : PySem.W.Frag) (A H2 : Hp) (D : Addr) (out : Nat → List PyData) (i : Nat) (H' : Hp) : Prop :=
  H2 D = none ∧ ∃ G acc, Sep A H2 H' G ∧ G D = none ∧ H' D = some (.lst acc) ∧ DaAll K G acc (out i) ∧ acc.length ≤ i
theorem Lw.start {K : PySem.W.Frag} {A H2 : Hp} {D : Addr} {out : Nat → List PyData} (x : Ex A H2) (hD : H2 D = none) (h0 : out 0 = []) : Lw K A H2 D out 0 (upd H2 D (.lst [])) :=
  ⟨hD, A, [], ⟨Ex.new hD, Ex.refl A, Ex.mut x (fresh_back x hD), fun _ h _ => h⟩, fresh_back x hD, upd_same, by rw [h0]; exact .nil, Nat.le_refl 0⟩
theorem Lw.turn {K : PySem.W.Frag} {A H2 H' : Hp} {D : Addr} {out : Nat → List PyData} {i : Nat} {t : TT} {te : TE} {σ2 : L2.St} {f : Bool} {e : PyData} (p : Lw K A H2 D out i H') (hi : i < 50000)
    (ht : ∀ G, Ex A G → EvT t σ2 G f) (he : f = true → ∀ G, Ex A G → ED K te σ2 G e) (ho : out (i + 1) = if f = true then out i ++ [e] else out i) :
    t σ2 H' fun b H3 => if b = true then te σ2 H3 fun y H4 => ∃ acc, H4 D = some (.lst acc) ∧ acc.length < sizeLine ∧ Lw K A H2 D out (i + 1) (upd H4 D (.lst (acc ++ [y]))) else Lw K A H2 D out (i + 1) H3 := by
  obtain ⟨hD, G, acc, s, gD, hacc, ga, la⟩ := p
  refine ht G s.an H' s.inn _ fun H3 x3 => ?_
  cases f with
  | true =>
    rw [if_pos rfl] at ho
    show te σ2 H3 fun y H4 => ∃ acc, H4 D = some (.lst acc) ∧ acc.length < sizeLine ∧ Lw K A H2 D out (i + 1) (upd H4 D (.lst (acc ++ [y])))
    refine he rfl G s.an H3 (s.inn.trans x3) _ fun v H4 G4 s4 g4 => ?_
    obtain ⟨o1, o2⟩ := s4.out gD (x3 _ _ hacc)
    refine ⟨acc, o2, sz_lt (by omega), hD, G4, acc ++ [v], ⟨Ex.mut ((s.up.trans x3).trans s4.up) hD, s.an.trans s4.an, Ex.mut s4.inn o1, fun b h h1 => ?_⟩, o1, upd_same, ?_, by rw [List.length_append]; exact Nat.add_le_add_right la 1⟩
    · refine s4.sep b (s.sep b h h1) fun z => ?_
      cases q : H2 b with
      | none => exact h1 q
      | some o =>
        rw [(s.up.trans x3) b o q] at z
        cases z
    · rw [ho]
      exact daa_app (daa_ex s4.an ga) (.cons g4 .nil)
  | false =>
    rw [if_neg Bool.false_ne_true] at ho
    show Lw K A H2 D out (i + 1) H3
    refine ⟨hD, G, acc, ⟨s.up.trans x3, s.an, s.inn.trans x3, s.sep⟩, gD, x3 _ _ hacc, ?_, Nat.le_succ_of_le la⟩
    rw [ho]
    exact ga
theorem Lw.stop {K : PySem.W.Frag} {A H2 H' : Hp} {D : Addr} {out : Nat → List PyData} {n : Nat} (p : Lw K A H2 D out n H') : ∃ G, Sep A H2 H' G ∧ Da K G (.ref D) (.list (out n)) := by
  obtain ⟨hD, G, acc, s, gD, hacc, ga, _⟩ := p
  refine ⟨upd G D (.lst acc), ⟨s.up, s.an.trans (Ex.new gD), fun b u hb => ?_, fun b h h1 => ?_⟩, .lst upd_same (daa_ex (Ex.new gD) ga)⟩
  · by_cases q : b = D
    · subst q
      rw [upd_same] at hb
      rw [← hb]
      exact hacc
    · rw [upd_ne q] at hb
      exact s.inn b u hb
  · have q : b ≠ D := fun z => by
      rw [z] at h1
      exact h1 hD
    rw [upd_ne q]
    exact s.sep b h h1
theorem take_one {α : Type} {l : List α} {i : Nat} {x : α} (h : l[i]? = some x) : l.take (i + 1) = l.take i ++ [x] := by
  rw [List.take_add_one, h]
  rfl
theorem filt_step {l : List PyData} {p : PyData → Bool} {g : PyData → PyData} {i : Nat} {x : PyData} (h : l[i]? = some x) :
    ((l.take (i + 1)).filter p).map g = if p x = true then ((l.take i).filter p).map g ++ [g x] else ((l.take i).filter p).map g := by
  rw [take_one h, List.filter_append, List.map_append]
  by_cases q : p x = true
  · rw [if_pos q, List.filter_cons, if_pos q]
    rfl
  · rw [if_neg q, List.filter_cons, if_neg q]
    show _ ++ [] = _
    rw [List.append_nil]
section
variable {K : PySem.W.Frag} {σ : L2.St} {H : Hp} {ta te tl : TE} {t : TT} {ds : List PyData} {j : Nat} {vs : List Nat}
theorem lc_fin {A H2 H1 : Hp} {D : Addr} {out : Nat → List PyData} {n : Nat} {Q : VK} {H' : Hp} (s : Sep H H1 H2 A) (q : ∀ v H2 G, Sep H H1 H2 G → Da K G v (.list (out n)) → Q v H2) (p : Lw K A H2 D out n H') : Q (.ref D) H' := by
  obtain ⟨G, s2, g⟩ := p.stop
  exact q _ _ G (s.trans s2) g
/-- [e for i in range(n) if t] -/
theorem ed_lcRf {n : Int} (f : Nat → Bool) (g : Nat → PyData) (h : ED K ta σ H (.int n)) (hn : 0 ≤ n ∧ n ≤ 40000) (hw : ∀ x, wipe ((wipe σ vs).set j (some x)) vs = wipe σ vs)
    (ht : ∀ (i : Nat) G, Ex H G → (i : Int) < n → EvT t ((wipe σ vs).set j (some (.int (i : Int)))) G (f i)) (he : ∀ (i : Nat) G, Ex H G → (i : Int) < n → f i = true → ED K te ((wipe σ vs).set j (some (.int (i : Int)))) G (g i)) :
    ED K (tLc (iRng1 (tCons ta tNil)) (gName j) t te vs) σ H (.list (((List.range n.toNat).filter f).map g)) := fun H1 x Q q =>
  ev_int h H1 x _ fun H2 x2 => ⟨n, rfl, by omega, by omega, fun D hD => by
    have s0 : Sep H H1 H2 H := ⟨x2, Ex.refl H, x.trans x2, fun _ h _ => h⟩
    refine lc_range (lo := 0) (n := n.toNat) (Lw K H H2 D fun i => ((List.range i).filter f).map g) (Lw.start (x.trans x2) hD rfl) (fun i H' hi p => ?_) fun H' p => lc_fin s0 q p
    have e0 : (0 : Int) + (i : Int) = (i : Int) := Int.zero_add _
    show wipe ((wipe σ vs).set j (some (.int ((0 : Int) + (i : Int))))) vs = wipe σ vs ∧ t ((wipe σ vs).set j (some (.int ((0 : Int) + (i : Int))))) H' fun b H3 => if b = true then te ((wipe σ vs).set j (some (.int ((0 : Int) + (i : Int))))) H3 fun y H4 => ∃ acc, H4 D = some (.lst acc) ∧ acc.length < sizeLine ∧ Lw K H H2 D (fun i => ((List.range i).filter f).map g) (i + 1) (upd H4 D (.lst (acc ++ [y]))) else Lw K H H2 D (fun i => ((List.range i).filter f).map g) (i + 1) H3
    rw [e0]
    refine ⟨hw _, p.turn (by omega) (fun G xg => ht i G xg (by omega)) (fun hf G xg => he i G xg (by omega) hf) ?_⟩
    show ((List.range (i + 1)).filter f).map g = _
    rw [List.range_succ, List.filter_append, List.map_append]
    by_cases z : f i = true
    · rw [if_pos z, List.filter_cons, if_pos z]
      rfl
    · rw [if_neg z, List.filter_cons, if_neg z]
      show _ ++ [] = _
      rw [List.append_nil]⟩
theorem ed_lcR {n : Int} (g : Nat → PyData) (h : ED K ta σ H (.int n)) (hn : 0 ≤ n ∧ n ≤ 40000) (hw : ∀ x, wipe ((wipe σ vs).set j (some x)) vs = wipe σ vs)
    (he : ∀ (i : Nat) G, Ex H G → (i : Int) < n → ED K te ((wipe σ vs).set j (some (.int (i : Int)))) G (g i)) :
    ED K (tLc (iRng1 (tCons ta tNil)) (gName j) tYes te vs) σ H (.list ((List.range n.toNat).map g)) := by
  have h1 := ed_lcRf (t := tYes) (fun _ => true) g h hn hw (fun _ _ _ _ => et_yes) (fun i G x hi _ => he i G x hi)
  rw [List.filter_eq_self.mpr fun _ _ => rfl] at h1
  exact h1
/-- [e for x in xs if t] -/
theorem ed_lcLf (p : PyData → Bool) (g : PyData → PyData) (h : ED K tl σ H (.list ds)) (hz : ds.length ≤ 40000) (hw : ∀ x, wipe ((wipe σ vs).set j (some x)) vs = wipe σ vs)
    (ht : ∀ d v G, d ∈ ds → Ex H G → Da K G v d → EvT t ((wipe σ vs).set j (some v)) G (p d)) (he : ∀ d v G, d ∈ ds → Ex H G → Da K G v d → p d = true → ED K te ((wipe σ vs).set j (some v)) G (g d)) :
    ED K (tLc (iList K tl) (gName j) t te vs) σ H (.list ((ds.filter p).map g)) := fun H1 x Q q =>
  h H1 x _ fun v H2 A s gv => by
    cases gv with
    | @lst a xs _ ea ga =>
      refine ⟨a, rfl, ⟨xs, sq_of (s.inn _ _ ea)⟩, fun D hD => ?_⟩
      have hlen := daa_len ga
      refine lc_list (K := K) (a := a) (xs := xs) (Lw K A H2 D fun i => ((ds.take i).filter p).map g) (Lw.start s.inn hD (by rw [List.take_zero]; rfl)) (fun i H' _ pw => ?_) (fun i y H' hi pw => ?_) fun H' pw => ?_
      · obtain ⟨_, G, acc, s2, _⟩ := pw
        exact sq_of (s2.up _ _ (s.inn _ _ ea))
      · obtain ⟨d, hd, gd⟩ := daa_getV ga i y hi
        have hm : d ∈ ds := List.mem_of_getElem? hd
        have hlt := (List.getElem?_eq_some_iff.mp hi).1
        refine ⟨hw y, pw.turn (by omega) (fun G xg => ht d y G hm (s.an.trans xg) (da_ex xg gd)) (fun hf G xg => he d y G hm (s.an.trans xg) (da_ex xg gd) hf) ?_⟩
        exact filt_step hd
      · have e : ds.take xs.length = ds := List.take_of_length_le (by omega)
        refine lc_fin (out := fun i => ((ds.take i).filter p).map g) s (fun v H2 G s2 g2 => q v H2 G s2 ?_) pw
        have g3 : Da K G v (.list (((ds.take xs.length).filter p).map g)) := g2
        rw [e] at g3
        exact g3
theorem ed_lcL (g : PyData → PyData) (h : ED K tl σ H (.list ds)) (hz : ds.length ≤ 40000) (hw : ∀ x, wipe ((wipe σ vs).set j (some x)) vs = wipe σ vs)
    (he : ∀ d v G, d ∈ ds → Ex H G → Da K G v d → ED K te ((wipe σ vs).set j (some v)) G (g d)) :
    ED K (tLc (iList K tl) (gName j) tYes te vs) σ H (.list (ds.map g)) := by
  have h1 := ed_lcLf (t := tYes) (fun _ => true) g h hz hw (fun _ _ _ _ _ _ => et_yes) (fun d v G hm x gd _ => he d v G hm x gd)
  rw [List.filter_eq_self.mpr fun _ _ => rfl] at h1
  exact h1
theorem ed_lcT (g : PyData → PyData) (h : ED K tl σ H (.tuple ds)) (hz : ds.length ≤ 40000) (hw : ∀ x, wipe ((wipe σ vs).set j (some x)) vs = wipe σ vs)
    (he : ∀ d v G, d ∈ ds → Ex H G → Da K G v d → ED K te ((wipe σ vs).set j (some v)) G (g d)) :
    ED K (tLc (iTup K tl) (gName j) tYes te vs) σ H (.list (ds.map g)) := fun H1 x Q q =>
  h H1 x _ fun v H2 A s gv => by
    cases gv with
    | @tup a xs _ ea ga =>
      refine ⟨a, rfl, ⟨xs, ex_t s.inn ea⟩, fun D hD => ?_⟩
      have hlen := daa_len ga
      refine lc_tup (K := K) (a := a) (xs := xs) (Lw K A H2 D fun i => (ds.take i).map g) (Lw.start s.inn hD (by rw [List.take_zero]; rfl)) (fun i H' _ pw => ?_) (fun i y H' hi pw => ?_) fun H' pw => ?_
      · obtain ⟨_, G, acc, s2, _⟩ := pw
        exact ex_t (s.inn.trans s2.up) ea
      · obtain ⟨d, hd, gd⟩ := daa_getV ga i y hi
        have hm : d ∈ ds := List.mem_of_getElem? hd
        have hlt := (List.getElem?_eq_some_iff.mp hi).1
        refine ⟨hw y, pw.turn (f := true) (e := g d) (by omega) (fun G xg => et_yes) (fun hf G xg => he d y G hm (s.an.trans xg) (da_ex xg gd)) ?_⟩
        show (ds.take (i + 1)).map g = if true = true then (ds.take i).map g ++ [g d] else (ds.take i).map g
        rw [if_pos rfl, take_one hd, List.map_append]
        rfl
      · have e : ds.take xs.length = ds := List.take_of_length_le (by omega)
        refine lc_fin (out := fun i => (ds.take i).map g) s (fun v H2 G s2 g2 => q v H2 G s2 ?_) pw
        have g3 : Da K G v (.list ((ds.take xs.length).map g)) := g2
        rw [e] at g3
        exact g3
end
/-! a list or a tuple walked -/
def iSeq (K : PySem.W.Frag) (tl : TE) : TI := fun σ H R => tl σ H fun x H1 => ∃ a, x = .ref a ∧ (((∃ xs, SqL K H1 a xs) ∧ R (Itl K a) H1) ∨ ((∃ xs, SqT K H1 a xs) ∧ R (Itt K a) H1))
theorem pi_seq {X : Cx} {tg l : Expr} {tl : TE} (hl : PE X l tl) : PI X tg l (iSeq X.K tl) := by
  constructor
  intro pn s σ H R I h
  refine thn (hl.run pn s σ H _ I h) ?_
  rintro v s1 ⟨x, H1, J, rx, a, ex, q⟩
  cases ex
  cases rx
  have fresh : ∀ b ∈ [s1.heap.objs.size], FpOk X pn H1 b := by
    intro b hb
    cases List.mem_singleton.mp hb
    exact J.fpOk (Nat.le_refl _) (J.hok.fresh (Nat.le_refl _))
  rcases q with ⟨⟨xs, hx⟩, q⟩ | ⟨⟨xs, hx⟩, q⟩
  · obtain ⟨its, rv, pl, _⟩ := J.list hx
    refine wpAny_pyIter_list pl.isList ⟨_, _, _, _, H1, rfl, ?_, turn_list a s1.heap.objs.size, ?_, fresh, q⟩
    · exact J.kept (t' := s1.toks) fun c u z => Heap.get?_push_of_some _ z
    · exact ⟨_, Heap.get?_push_size _ rfl, rfl, rfl⟩
  · obtain ⟨its, rv, pl, _⟩ := J.tuple hx
    refine wpAny_pyIter_tuple (show s1.heap.IsTuple a its.toArray from pl) ⟨_, _, _, _, H1, rfl, ?_, turn_tuple a s1.heap.objs.size, ?_, fresh, q⟩
    · exact J.kept (t' := s1.toks) fun c u z => Heap.get?_push_of_some _ z
    · exact ⟨_, Heap.get?_push_size _ rfl, rfl, rfl⟩
section
variable {K : PySem.W.Frag} {σ : L2.St} {H : Hp} {te tl : TE} {d : PyData} {ds : List PyData} {j : Nat} {vs : List Nat}
theorem ed_lcS (g : PyData → PyData) (h : ED K tl σ H d) (hd : d = .list ds ∨ d = .tuple ds) (hz : ds.length ≤ 40000) (hw : ∀ x, wipe ((wipe σ vs).set j (some x)) vs = wipe σ vs)
    (he : ∀ d v G, d ∈ ds → Ex H G → Da K G v d → ED K te ((wipe σ vs).set j (some v)) G (g d)) :
    ED K (tLc (iSeq K tl) (gName j) tYes te vs) σ H (.list (ds.map g)) := fun H1 x Q q => by
  rcases hd with rfl | rfl
  · have h2 : ED K (tLc (iList K tl) (gName j) tYes te vs) σ H (.list (ds.map g)) := ed_lcL g h hz hw he
    -- the value first, then the walk of a list
    refine h H1 x _ fun v H2 A s gv => ?_
    cases gv with
    | @lst a xs _ ea ga =>
      have h3 : ED K (tLc (iList K (tC (.ref a))) (gName j) tYes te vs) σ A (.list (ds.map g)) := ed_lcL g (ed_ev ev_c (.lst ea ga)) hz hw fun d v G hm xg gd => he d v G hm (s.an.trans xg) gd
      have h4 := h3 H2 s.inn Q fun v H3 G s3 g3 => q v H3 G (s.trans s3) g3
      obtain ⟨b, eb, hx, r⟩ := h4
      cases eb
      exact ⟨a, rfl, .inl ⟨hx, r⟩⟩
  · refine h H1 x _ fun v H2 A s gv => ?_
    cases gv with
    | @tup a xs _ ea ga =>
      have h3 : ED K (tLc (iTup K (tC (.ref a))) (gName j) tYes te vs) σ A (.list (ds.map g)) := ed_lcT g (ed_ev ev_c (.tup ea ga)) hz hw fun d v G hm xg gd => he d v G hm (s.an.trans xg) gd
      have h4 := h3 H2 s.inn Q fun v H3 G s3 g3 => q v H3 G (s.trans s3) g3
      obtain ⟨b, eb, hx, r⟩ := h4
      cases eb
      exact ⟨a, rfl, .inr ⟨hx, r⟩⟩
end
/-! str(x) of an int or a text -/
def rStrX : List V → Hp → VK → Prop := fun xs H Q => (∃ i, xs = [.int i] ∧ i.natAbs.log2 < 1920 ∧ Q (.str (toString i)) H) ∨ ∃ a, xs = [.str a] ∧ Q (.str a) H
theorem call_strX {X : Cx} : CallR X (.type "str") rStrX := by
  intro pins s σ H xs us Q I r h
  rcases h with ⟨i, h1, h2, q⟩ | ⟨a, h1, q⟩
  · exact call_str_int pins s σ H xs us Q I r ⟨i, h1, h2, q⟩
  · exact SkE.call_str_str pins s σ H xs us Q I r ⟨a, h1, q⟩
section
variable {K : PySem.W.Frag} {σ : L2.St} {H : Hp} {ta : TE}
theorem ed_strI {i : Int} (h : ED K ta σ H (.int i)) (hi : i.natAbs.log2 < 1920) : ED K (tCB rStrX (tCons ta tNil)) σ H (.str (toString i)) := fun H1 x Q q =>
  ev_int h H1 x _ fun H2 x2 => .inl ⟨i, rfl, hi, q _ H2 H ⟨x2, Ex.refl H, x.trans x2, fun _ h _ => h⟩ (.str _)⟩
theorem ed_strS {a : Str} (h : ED K ta σ H (.str a)) : ED K (tCB rStrX (tCons ta tNil)) σ H (.str a) := fun H1 x Q q =>
  ev_str h H1 x _ fun H2 x2 => .inr ⟨a, rfl, q _ H2 H ⟨x2, Ex.refl H, x.trans x2, fun _ h _ => h⟩ (.str _)⟩
end
end Tw

set_option Elab.async false
set_option linter.all false
set_option maxRecDepth 100000
set_option maxHeartbeats 4000000
namespace Tw
open PySem PySem.Spec PyProof.Rows L2 Evl
/-! the law's own promise; the drawn numbers -/
def spLaw (K : PySem.W.Frag) : Sp := fun vs H Q _ => ∃ (a : Addr) (ns : List Int), vs = [.ref a] ∧ SqL K H a (ns.map V.int) ∧ ns.length ≤ 63 ∧ ∀ H', Q (.bl true) H'
theorem spLaw_len {K : PySem.W.Frag} : ∀ vs H Q E, spLaw K vs H Q E → vs.length = 1 := by
  rintro vs H Q E ⟨a, ns, rfl, _⟩
  rfl
/-- so many, from 0 to 999 -/
def Drawn (n : Nat) (ds : List Int) : Prop := ds.length = n ∧ ∀ d ∈ ds, 0 ≤ d ∧ d < 1000
theorem Drawn.get {n : Nat} {ds : List Int} (h : Drawn n ds) {i : Nat} (hi : i < n) : ∃ d, ds[i]? = some d ∧ 0 ≤ d ∧ d < 1000 := by
  have hl : i < ds.length := by rw [h.1]; exact hi
  exact ⟨ds[i], List.getElem?_eq_getElem hl, h.2 _ (List.getElem_mem hl)⟩
theorem Drawn.getD {n : Nat} {ds : List Int} (h : Drawn n ds) {i : Nat} (hi : i < n) : ds[i]? = some (ds.getD i 0) ∧ 0 ≤ ds.getD i 0 ∧ ds.getD i 0 < 1000 := by
  obtain ⟨d, hd, h0, h1⟩ := h.get hi
  have e : ds.getD i 0 = d := by rw [List.getD_eq_getElem?_getD, hd]; rfl
  rw [e]
  exact ⟨hd, h0, h1⟩
def spDraws (K : PySem.W.Frag) : Sp := fun vs H Q _ => ∃ (a : Addr) (ns : List Int) (n : Nat), vs = [.ref a, .int (n : Int)] ∧ SqL K H a (ns.map V.int) ∧ ns.length ≤ 63 ∧ n ≤ 1000 ∧
  ∀ ds p H2, Drawn n ds → H p = none → Ex H H2 → H2 p = some (.lst (ds.map V.int)) → Q (.ref p) H2
def WD (H : Hp) (a : Addr) (n m : Nat) (R L : Addr) (i : Nat) (σ' : L2.St) (H' : Hp) : Prop := ∃ (x3 x5 x6 x7 x8 : Option V) (rs ds : List Int), σ' = [some (.ref a), some (.int (n : Int)), some (.ref R), x3, some (.ref L), x5, x6, x7, x8] ∧
  Ex H H' ∧ H' R = some (.lst (rs.map V.int)) ∧ H' L = some (.lst (ds.map V.int)) ∧ rs.length = m ∧ Drawn i ds
theorem ev_toInt {te : TE} {σ : L2.St} {H : Hp} {i : Int} (h : Ev te σ H (.int i)) : Ev (tCB (fun xs H Q => (∃ i, xs = [V.int i] ∧ Q (.int i) H) ∨ ∃ k, xs = [.bl k] ∧ Q (.int (if k then 1 else 0)) H) (tCons te tNil)) σ H (.int i) := fun H1 x Q q =>
  h H1 x _ fun H2 x2 => .inl ⟨i, rfl, q H2 x2⟩
theorem mod1000 (x : Int) : 0 ≤ x % 1000 ∧ x % 1000 < 1000 := ⟨Int.emod_nonneg x (by decide), Int.emod_lt_of_pos x (by decide)⟩
theorem at_int {rs : List Int} {j : Nat} (h : j < rs.length) : atI (rs.map V.int) (j : Int) = some (.int rs[j]) := atI_nat (by rw [List.getElem?_map, List.getElem?_eq_getElem h]; rfl)
theorem given_all (l : List V) : given l.length (fun _ => true) (fun i => l.getD i .non) = l := by
  unfold given
  rw [List.filter_eq_self.mpr fun _ _ => rfl]
  apply List.ext_getElem?
  intro i
  rw [List.getElem?_map]
  by_cases hi : i < l.length
  · rw [List.getElem?_range hi, List.getElem?_eq_getElem hi]
    show some (l.getD i .non) = _
    rw [List.getD_eq_getElem?_getD, List.getElem?_eq_getElem hi]
    rfl
  · rw [List.getElem?_eq_none (by rw [List.length_range]; omega), List.getElem?_eq_none (by omega)]
    rfl
section
variable {K : PySem.W.Frag} {σ : L2.St} {G H : Hp} {ta tb te : TE} {d : PyData} {ds : List PyData} {D : Ends} {tu tz : TS}
/-- draws = _law_draws(script, n) -/
theorem d_draws {a : Addr} {ns : List Int} {n : Nat} {i : Nat} {m : Int} {E : XK} (hm : m = (n : Int)) (h0 : σ[0]? = some (some (.ref a))) (hS : SqL K H a (ns.map V.int)) (hl : ns.length ≤ 63) (hn : n ≤ 1000)
    (k : ∀ ds p H2, Drawn n ds → Ex H H2 → Da K H2 (.ref p) (.list (ds.map .int)) → tz D (σ.set i (some (.ref p))) H2) : tSeq (tAsg (tCall (spDraws K) [] E (tCons (tVar 0) (tCons (tC (.int m)) tNil))) (gName i)) tz D σ H := by
  subst hm
  exact ⟨_, h0, a, ns, n, rfl, hS, hl, hn, fun ds p H2 dr hp e h2 => k ds p H2 dr e (.lst h2 (daa_ints ds))⟩
/-- a, b, .. = e -/
theorem d_unp {n : Nat} {gs : TGs} (h : ED K te σ G (.tuple ds)) (x : Ex G H) (hn : ds.length = n) (k : ∀ vs H2 G2, Sep G H H2 G2 → DaAll K G2 vs ds → gs vs σ H2 (tz D)) : tSeq (tAsg te (gTup K n gs)) tz D σ H := h H x _ fun v H2 G2 s g => by
  cases g with
  | @tup a xs _ e g =>
    exact ⟨a, xs, rfl, ex_t s.inn e, by rw [daa_len g]; exact hn, k xs H2 G2 s g⟩
/-- repr(e) -/
theorem ed_repr (h : ED K te σ G d) (hc : ∃ es, d = .list es ∨ d = .tuple es) (h1 : d.showable = true) (h2 : d.hasDict = false) (h3 : d.depth ≤ 60) (h4 : d.shown.length ≤ sizeLine) : ED K (tCB (rRepr K) (tCons te tNil)) σ G (.str d.shown) := fun H1 x Q q =>
  h H1 x _ fun v H2 G2 s g => by
    obtain ⟨es, hc⟩ := hc
    have hv : ∃ a, v = .ref a := by
      rcases hc with rfl | rfl
      · cases g
        exact ⟨_, rfl⟩
      · cases g
        exact ⟨_, rfl⟩
    obtain ⟨a, rfl⟩ := hv
    exact ⟨a, d, rfl, da_dp (da_ex s.inn g), h1, h2, h3, h4, q _ H2 G2 s (.str _)⟩
end
/-! numbers as texts, and their lengths -/
def nS (i : Int) : Str := Str.ofString (toString i)
theorem small_log {i : Int} (h0 : 0 ≤ i) (h1 : i < 100000) : i.natAbs.log2 < 1920 := by
  by_cases z : i.natAbs = 0
  · rw [z]
    decide
  · refine (Nat.log2_lt z).mpr (Nat.lt_of_lt_of_le (show i.natAbs < 2 ^ 17 by omega) (Nat.pow_le_pow_right (by decide) (by decide)))
theorem nS_len {i : Int} (h0 : 0 ≤ i) (h1 : i < 1000) : (nS i).length ≤ 4 := by
  unfold nS
  rw [PySem.ofString_length]
  exact int_text_length_le10 (k := 3) (by decide) (by omega)
theorem join_le {sep : Str} {ts : List Str} {m b c : Nat} (hm : ts.length ≤ m) (hb : ∀ t ∈ ts, t.length ≤ b) (hc : sep.length ≤ c) : (ts.map (·.length)).sum + ts.length * sep.length ≤ m * (b + c) := by
  have h : (ts.map (·.length)).sum + ts.length * sep.length ≤ ts.length * (b + c) := by
    clear hm
    induction ts with
    | nil => simp
    | cons t r ih =>
      have i := ih fun t ht => hb t (List.mem_cons_of_mem _ ht)
      have ht := hb t List.mem_cons_self
      simp only [List.map_cons, List.sum_cons, List.length_cons, Nat.succ_mul]
      omega
  exact Nat.le_trans h (Nat.mul_le_mul_right _ hm)
theorem join_len {sep : Str} {ts : List Str} {m b c : Nat} (hm : ts.length ≤ m) (hb : ∀ t ∈ ts, t.length ≤ b) (hc : sep.length ≤ c) : (Txt.join sep ts).length ≤ m * (b + c) := by
  have e : Txt.join sep ts = Str.join sep ts := StrLaws.glued_eq_join sep ts
  rw [e]
  exact Nat.le_trans (StrLaws.join_length_le sep ts) (join_le hm hb hc)
end Tw
namespace Tw
open PySem PySem.Spec PyProof.Rows L2 Evl
section
variable {K : PySem.W.Frag}
theorem daa_inv {H : Hp} {vs : List V} {d : PyData} {ds : List PyData} (h : DaAll K H vs (d :: ds)) : ∃ v r, vs = v :: r ∧ Da K H v d ∧ DaAll K H r ds := by
  cases h with
  | cons a b => exact ⟨_, _, rfl, a, b⟩
theorem daa_inv0 {H : Hp} {vs : List V} (h : DaAll K H vs []) : vs = [] := by
  cases h
  rfl
theorem Sep.mut {A B C G : Hp} {p : Addr} {o : HO} (s : Sep A B C G) (hB : B p = none) (hG : G p = none) : Sep A B (upd C p o) G := ⟨Ex.mut s.up hB, s.an, Ex.mut s.inn hG, s.sep⟩
/-- a list of one's own becomes data -/
theorem Sep.seal {A B C G : Hp} {p : Addr} {xs : List V} {ds : List PyData} (s : Sep A B C G) (hB : B p = none) (hG : G p = none) (hC : C p = some (.lst xs)) (g : DaAll K G xs ds) :
    Sep A B C (upd G p (.lst xs)) ∧ Da K (upd G p (.lst xs)) (.ref p) (.list ds) := by
  refine ⟨⟨s.up, s.an.trans (Ex.new hG), fun b u hb => ?_, fun b h h1 => ?_⟩, .lst upd_same (daa_ex (Ex.new hG) g)⟩
  · by_cases q : b = p
    · subst q
      rw [upd_same] at hb
      rw [← hb]
      exact hC
    · rw [upd_ne q] at hb
      exact s.inn b u hb
  · have q : b ≠ p := fun z => by
      rw [z] at h1
      exact h1 hB
    rw [upd_ne q]
    exact s.sep b h h1
end
theorem dr_ix {n : Nat} {ds : List Int} (h : Drawn n ds) {i : Nat} (hi : i < n) : (ds.map PyData.int)[i]? = some (.int (ds.getD i 0)) := by
  rw [List.getElem?_map, (h.getD hi).1]
  rfl
theorem sIx_nat' (n : Nat) (d : Nat) (i : Nat) : HT.sIx n d (some (i : Int)) = min i n := HT.sIx_nat n d i
theorem cut_ix {l : List PyData} {a b j : Nat} (hj : a + j < b) (hb : b ≤ l.length) : (cutD l (some (a : Int)) (some (b : Int)))[j]? = l[a + j]? := by
  unfold cutD
  rw [sIx_nat', sIx_nat', List.getElem?_take_of_lt (by omega), List.getElem?_drop]
  congr 1
  omega
def intsOf : PyData → List Int
  | .tuple ds => ds.filterMap fun d => match d with | .int i => some i | _ => none
  | .list ds => ds.filterMap fun d => match d with | .int i => some i | _ => none
  | _ => []
theorem intsOf_fm (s : List Int) : (s.map PyData.int).filterMap (fun d => match d with | .int i => some i | _ => none) = s := by
  induction s with
  | nil => rfl
  | cons a r ih =>
    rw [List.map_cons, List.filterMap_cons]
    show a :: _ = _
    rw [ih]
theorem intsOf_tup (s : List Int) : intsOf (.tuple (s.map .int)) = s := intsOf_fm s
theorem intsOf_lst (s : List Int) : intsOf (.list (s.map .int)) = s := intsOf_fm s
end Tw
namespace Tw
open PySem PySem.Spec PyProof.Rows L2 Evl
/-! the rules with the written part said (within a comprehension's block the context is not the reading's) -/
section
variable {X : Cx} (K : PySem.W.Frag)
theorem ixl (e : X.K = K := by rfl) : IxR X (rIxL K) := e ▸ ix_list
theorem ixt (e : X.K = K := by rfl) : IxR X (rIxT K) := e ▸ ix_tup
theorem slL (e : X.K = K := by rfl) : SlR X (rSlL K) := e ▸ sl_list
theorem lenK (e : X.K = K := by rfl) : CallR X (.builtin "len") (fun xs H Q => ∃ p ys, xs = [V.ref p] ∧ (SqL K H p ys ∨ SqT K H p ys) ∧ Q (.int ys.length) H) := e ▸ call_len_seq
theorem tupK (e : X.K = K := by rfl) : CallR X (.type "tuple") (fun xs H Q => ∃ p ys, xs = [V.ref p] ∧ ((SqL K H p ys ∧ ∀ l, H l = none → Q (.ref l) (upd H l (.tup ys))) ∨ (SqT K H p ys ∧ Q (.ref p) H))) := e ▸ call_tuple_of
theorem pi_listK {tg l : Expr} {tl : TE} (hl : PE X l tl) (e : X.K = K := by rfl) : PI X tg l (iList K tl) := e ▸ pi_list hl
theorem pi_tupK {tg l : Expr} {tl : TE} (hl : PE X l tl) (e : X.K = K := by rfl) : PI X tg l (iTup K tl) := e ▸ pi_tup hl
theorem pi_seqK {tg l : Expr} {tl : TE} (hl : PE X l tl) (e : X.K = K := by rfl) : PI X tg l (iSeq K tl) := e ▸ pi_seq hl
theorem joinK (e : X.K = K := by rfl) : MtR X "str.join" (fun x xs H Q => ∃ a p, ∃ ys : List Str, x = .str a ∧ xs = [.ref p] ∧ (SqL K H p (ys.map V.str) ∨ SqT K H p (ys.map V.str)) ∧ (ys.map (·.length)).sum + ys.length * a.length ≤ 16777216 ∧ Q (.str (Txt.join a ys)) H) := e ▸ mt_join
theorem pe_joinK {o e : Expr} {to te : TE} {apos pos : Pos} (ho : PE X o to) (he : PE X e te) (hK : X.K = K := by rfl) (hs : starEach [e] X.env = [(false, eval e X.env)] := by rfl) (hbase : attributeBase o "join" X.env (eval o X.env) = eval o X.env := by rfl) (hline : (apos.endLine == pos.line) = true := by rfl) :
    PE X (.Call (.Attribute o "join" apos) [e] [] pos) (tM1 (fun x xs H Q => ∃ a p, ∃ ys : List Str, x = .str a ∧ xs = [.ref p] ∧ (SqL K H p (ys.map V.str) ∨ SqT K H p (ys.map V.str)) ∧
      (ys.map (·.length)).sum + ys.length * a.length ≤ 16777216 ∧ Q (.str (Txt.join a ys)) H) to te) :=
  pe_m1 PySem.F.slot_str_join PySem.F.type_str_join (joinK K hK) ho he hs hbase hline
theorem reprK (hg : X.A.guards = some []) (hu : X.A.units + 64 < cLine) (e : X.K = K := by rfl) : CallR X (.builtin "repr") (rRepr K) := e ▸ call_repr hg hu
theorem appendK : MtM X "list.append" rAppend := mt_append
end
end Tw
namespace Tw
open PySem PySem.Spec PyProof.Rows L2 Evl
/-! data of a small size: what repr and == ask -/
structure Ok (n w : Nat) (d : PyData) : Prop where
  sh : d.showable = true
  nd : d.hasDict = false
  dp : d.depth ≤ n
  ls : d.leavesShort 20 = true
  cl : d.canLay0 = true
  wt : d.weight ≤ w
theorem Ok.mono {n w n' w' : Nat} {d : PyData} (h : Ok n w d) (hn : n ≤ n') (hw : w ≤ w') : Ok n' w' d := ⟨h.sh, h.nd, Nat.le_trans h.dp hn, h.ls, h.cl, Nat.le_trans h.wt hw⟩
theorem ok_int {i : Int} (h0 : -100000 < i) (h1 : i < 100000) : Ok 0 17 (.int i) := by
  have hl : i.natAbs.log2 < 17 := by
    by_cases z : i.natAbs = 0
    · rw [z]
      decide
    · exact (Nat.log2_lt z).mpr (show i.natAbs < 2 ^ 17 by omega)
  refine ⟨decide_eq_true (by omega), rfl, Nat.le_refl 0, decide_eq_true ?_, rfl, ?_⟩
  · show (Str.ofString (toString i)).length ≤ 20
    rw [PySem.ofString_length]
    have := int_text_length_le10 (a := i) (k := 5) (by decide) (by omega)
    omega
  · show (if i == 0 then 0 else i.natAbs.log2 + 1) ≤ 17
    split <;> omega
theorem ok_none : Ok 0 17 .none := ⟨rfl, rfl, Nat.le_refl 0, rfl, rfl, Nat.zero_le _⟩
theorem ok_bool (b : Bool) : Ok 0 17 (.bool b) := ⟨rfl, rfl, Nat.le_refl 0, rfl, rfl, Nat.zero_le _⟩
theorem ok_all {n w : Nat} : ∀ {ds : List PyData}, (∀ d ∈ ds, Ok n w d) → PyData.showableAll ds = true ∧ PyData.hasDictAll ds = false ∧ PyData.depthAll ds ≤ n ∧ PyData.leavesShortAll 20 ds = true ∧ PyData.canLayAll0 ds = true ∧ PyData.weightAll ds ≤ ds.length * (w + 1)
  | [], _ => ⟨rfl, rfl, Nat.zero_le _, rfl, rfl, Nat.zero_le _⟩
  | d :: r, h => by
    have hd := h d List.mem_cons_self
    obtain ⟨a1, a2, a3, a4, a5, a6⟩ := ok_all (ds := r) fun x hx => h x (List.mem_cons_of_mem _ hx)
    refine ⟨?_, ?_, ?_, ?_, ?_, ?_⟩
    · show (d.showable && PyData.showableAll r) = true
      rw [hd.sh, a1]
      rfl
    · show (d.hasDict || PyData.hasDictAll r) = false
      rw [hd.nd, a2]
      rfl
    · show max d.depth (PyData.depthAll r) ≤ n
      have := hd.dp
      omega
    · show (d.leavesShort 20 && PyData.leavesShortAll 20 r) = true
      rw [hd.ls, a4]
      rfl
    · show (d.canLay0 && PyData.canLayAll0 r) = true
      rw [hd.cl, a5]
      rfl
    · show d.weight + 1 + PyData.weightAll r ≤ (r.length + 1) * (w + 1)
      have := hd.wt
      rw [Nat.succ_mul]
      omega
theorem ok_list {n w m : Nat} {ds : List PyData} (h : ∀ d ∈ ds, Ok n w d) (hm : ds.length * (w + 1) ≤ m) : Ok (n + 1) m (.list ds) := by
  obtain ⟨a1, a2, a3, a4, a5, a6⟩ := ok_all h
  exact ⟨a1, a2, Nat.succ_le_succ a3, a4, a5, Nat.le_trans a6 hm⟩
theorem ok_tup {n w m : Nat} {ds : List PyData} (h : ∀ d ∈ ds, Ok n w d) (hm : ds.length * (w + 1) ≤ m) : Ok (n + 1) m (.tuple ds) := by
  obtain ⟨a1, a2, a3, a4, a5, a6⟩ := ok_all h
  exact ⟨a1, a2, Nat.succ_le_succ a3, a4, a5, Nat.le_trans a6 hm⟩
theorem Ok.fits {n w : Nat} {d : PyData} (h : Ok n w d) (hw : w ≤ 700000) : d.shown.length ≤ sizeLine := by
  have h1 := PyData.shown_le 20 (by decide) d h.ls
  have h2 := h.wt
  have e : sizeLine = 16777216 := by decide
  rw [e]
  omega
theorem Ok.shaped {n w : Nat} {d : PyData} (h : Ok n w d) (hn : n ≤ 60) : SeqAt.shaped d = true := by
  show (d.canLay0 && decide (d.depth ≤ 64)) = true
  have := h.dp
  rw [h.cl, Bool.true_and, decide_eq_true_eq]
  omega
theorem mem2 {P : PyData → Prop} {a b : PyData} (ha : P a) (hb : P b) : ∀ d ∈ [a, b], P d := by
  intro d hd
  simp only [List.mem_cons, List.not_mem_nil, or_false] at hd
  rcases hd with rfl | rfl <;> assumption
section
variable {K : PySem.W.Frag} {σ : L2.St} {G H : Hp} {te : TE} {d : PyData}
theorem ed_reprO {n w : Nat} (h : ED K te σ G d) (hc : ∃ es, d = .list es ∨ d = .tuple es) (ho : Ok n w d) (hn : n ≤ 60) (hw : w ≤ 700000) : ED K (tCB (rRepr K) (tCons te tNil)) σ G (.str d.shown) :=
  ed_repr h hc ho.sh ho.nd (Nat.le_trans ho.dp hn) (ho.fits hw)
/-- isinstance(x, str) of a text -/
theorem et_isStr {x : Str} (h : ED K te σ G (.str x)) : EvT (tB (tCB RZ.rIsTy (tCons te (tCons (tC (.ty "str")) tNil)))) σ G true := fun H1 e Q q =>
  ev_str h H1 e _ fun H2 e2 => ⟨.str x, "str", rfl, .str x, true, rfl, q H2 e2⟩
theorem et_neS {ta tb : TE} {x y : Str} (ha : ED K ta σ G (.str x)) (hb : ED K tb σ G (.str y)) : EvT (tTest (tOp rNe ta tb)) σ G (!decide (V.str x = V.str y)) := et_test (ev_op (ev_str ha) (ev_str hb) (rv_ne rfl))
theorem ed_eqS {ta tb : TE} {x y : Str} (ha : ED K ta σ G (.str x)) (hb : ED K tb σ G (.str y)) : ED K (tOp rEq ta tb) σ G (.bool (decide (V.str x = V.str y))) := ed_ev (ev_op (ev_str ha) (ev_str hb) (rv_eq rfl)) (.bl _)
end
end Tw

set_option Elab.async false
set_option linter.all false
set_option maxRecDepth 100000
set_option maxHeartbeats 4000000
namespace Tw
open PySem PySem.Spec PyProof.Rows L2 Evl
/-! more of expressions -/
section
variable {K : PySem.W.Frag} {σ : L2.St} {G H : Hp} {ta tb te : TE} {d e : PyData} {ds es : List PyData}
theorem et_bool {b : Bool} (h : ED K te σ G (.bool b)) : EvT (tB te) σ G b := et_B (ev_bool h)
theorem et_cmp0 {p : Int → Int → Bool} {i j : Int} (ha : ED K ta σ G (.int i)) (hb : ED K tb σ G (.int j)) : EvT (tTest (tOp (rI0 fun i j => .bl (p i j)) ta tb)) σ G (p i j) := et_test (ev_op (ev_int ha) (ev_int hb) rv_I0)
theorem ed_cmp0 {p : Int → Int → Bool} {i j : Int} (ha : ED K ta σ G (.int i)) (hb : ED K tb σ G (.int j)) : ED K (tOp (rI0 fun i j => .bl (p i j)) ta tb) σ G (.bool (p i j)) := ed_ev (ev_op (ev_int ha) (ev_int hb) rv_I0) (.bl _)
theorem ed_neg {i : Int} (h : ED K te σ G (.int i)) : ED K (tUn (rU fun i => .int (-i)) te) σ G (.int (-i)) := ed_ev (ev_un (ev_int h) ru_neg) (.int _)
theorem ed_modN {i j : Int} (ha : ED K ta σ G (.int i)) (hb : ED K tb σ G (.int j)) (h0 : 0 < j) : ED K (tOp (rI (fun _ j => j ≠ 0) fun i j => .int (i.fmod j)) ta tb) σ G (.int (i % j)) :=
  ed_opC ha hb (by omega) (by rw [Int.fmod_eq_emod_of_nonneg i (by omega)])
/-- scalars -/
def sc : PyData → Bool
  | .none | .bool _ | .int _ | .str _ => true
  | _ => false
def vOf : PyData → V
  | .none => .non
  | .bool b => .bl b
  | .int i => .int i
  | .str x => .str x
  | _ => .non
theorem da_sc {v : V} (h : Da K H v d) (hs : sc d = true) : v = vOf d := by
  cases h <;> first | rfl | cases hs
theorem ev_sc (h : ED K te σ G d) (hs : sc d = true) : Ev te σ G (vOf d) := fun H1 x Q q => h H1 x Q fun v H2 G2 s g => by
  rw [da_sc g hs] at *
  exact q H2 s.up
theorem ed_vOf {σ : L2.St} (h : Ev te σ G (vOf d)) (hs : sc d = true) : ED K te σ G d := ed_ev h (by
  cases d <;> first | exact .non | exact .bl _ | exact .int _ | exact .str _ | cases hs)
theorem ed_eqSc (ha : ED K ta σ G d) (hb : ED K tb σ G e) (hd : sc d = true) (he : sc e = true) (h : scal (vOf d) (vOf e) = true) : ED K (tOp rEq ta tb) σ G (.bool (decide (vOf d = vOf e))) := ed_ev (ev_op (ev_sc ha hd) (ev_sc hb he) (rv_eq h)) (.bl _)
theorem et_eqSc (ha : ED K ta σ G d) (hb : ED K tb σ G e) (hd : sc d = true) (he : sc e = true) (h : scal (vOf d) (vOf e) = true) : EvT (tTest (tOp rEq ta tb)) σ G (decide (vOf d = vOf e)) := et_test (ev_op (ev_sc ha hd) (ev_sc hb he) (rv_eq h))
theorem et_neSc (ha : ED K ta σ G d) (hb : ED K tb σ G e) (hd : sc d = true) (he : sc e = true) (h : scal (vOf d) (vOf e) = true) : EvT (tTest (tOp rNe ta tb)) σ G (!decide (vOf d = vOf e)) := et_test (ev_op (ev_sc ha hd) (ev_sc hb he) (rv_ne h))
theorem et_eqI {i j : Int} (ha : ED K ta σ G (.int i)) (hb : ED K tb σ G (.int j)) : EvT (tTest (tOp rEq ta tb)) σ G (decide (i = j)) := et_is (et_eqSc ha hb rfl rfl rfl) (by
  show decide (V.int i = V.int j) = decide (i = j)
  by_cases h : i = j
  · rw [h, decide_eq_true rfl, decide_eq_true rfl]
  · rw [decide_eq_false h, decide_eq_false fun z => h (V.int.inj z)])
theorem ed_eqI {i j : Int} (ha : ED K ta σ G (.int i)) (hb : ED K tb σ G (.int j)) : ED K (tOp rEq ta tb) σ G (.bool (decide (i = j))) := ed_is (ed_eqSc ha hb rfl rfl rfl) (by
  show PyData.bool (decide (V.int i = V.int j)) = .bool (decide (i = j))
  by_cases h : i = j
  · rw [h, decide_eq_true rfl, decide_eq_true rfl]
  · rw [decide_eq_false h, decide_eq_false fun z => h (V.int.inj z)])
/-- x is None, x is not None -/
def isN : PyData → Bool
  | .none => true
  | _ => false
theorem da_isN {v : V} (h : Da K H v d) : decide (v = .non) = isN d := by
  cases h <;> first | rfl | exact decide_eq_false fun z => nomatch z
theorem ed_isN (h : ED K ta σ G d) : ED K (tOp (fun x y H Q => y = V.non ∧ Q (.bl (decide (x = .non))) H) ta (tC .non)) σ G (.bool (isN d)) := fun H1 x Q q => h H1 x _ fun v H2 G2 s g => ⟨rfl, by
  rw [da_isN g]
  exact q _ H2 G2 s (.bl _)⟩
theorem et_isN (h : ED K ta σ G d) : EvT (tTest (tOp (fun x y H Q => y = V.non ∧ Q (.bl (decide (x = .non))) H) ta (tC .non))) σ G (isN d) := et_test (ev_bool (ed_isN h))
theorem ed_notN (h : ED K ta σ G d) : ED K (tOp (fun x y H Q => y = V.non ∧ Q (.bl (!decide (x = .non))) H) ta (tC .non)) σ G (.bool (!isN d)) := fun H1 x Q q => h H1 x _ fun v H2 G2 s g => ⟨rfl, by
  rw [da_isN g]
  exact q _ H2 G2 s (.bl _)⟩
theorem et_notN (h : ED K ta σ G d) : EvT (tTest (tOp (fun x y H Q => y = V.non ∧ Q (.bl (!decide (x = .non))) H) ta (tC .non))) σ G (!isN d) := et_test (ev_bool (ed_notN h))
/-- isinstance(x, T) by the type's name -/
def tyD : PyData → String
  | .none => "NoneType"
  | .bool _ => "bool"
  | .int _ => "int"
  | .str _ => "str"
  | .list _ => "list"
  | .tuple _ => "tuple"
  | .dict _ => "dict"
theorem da_ty {v : V} (h : Da K H v d) : TyX K H v (.type (tyD d)) := by
  cases h with
  | non => exact .base .non
  | bl b => exact .base (.bl b)
  | int i => exact .base (.int i)
  | str x => exact .base (.str x)
  | lst e _ => exact .base (.lst e)
  | tup e _ =>
    rcases e with (e | ⟨o, e⟩) | ⟨o, its, n, e, c, _⟩
    · exact .base (.tup e)
    · exact .fTuple e
    · exact .kTuple e c
theorem ed_isi {T : String} {b : Bool} (h : ED K ta σ G d) (hb : kitB (tyD d) T = some b) : ED K (tCB (rIsi K) (tCons ta (tCons (tC (.ty T)) tNil))) σ G (.bool b) := fun H1 x Q q => h H1 x _ fun v H2 G2 s g =>
  ⟨v, .ty T, _, .type T, b, rfl, .ty T, da_ty (da_ex s.inn g), hb, q _ H2 G2 s (.bl b)⟩
/-- max, all, any, sum of a list -/
def mxI : List Int → Int
  | [] => 0
  | x :: r => r.foldl (fun a b => if a < b then b else a) x
theorem mx_fold : ∀ (r : List Int) (x : Int), (r.foldl (fun a b => if a < b then b else a) x ∈ x :: r) ∧ ∀ y ∈ x :: r, y ≤ r.foldl (fun a b => if a < b then b else a) x
  | [], x => ⟨List.mem_cons_self, fun y hy => by cases List.mem_singleton.mp hy; exact Int.le_refl _⟩
  | z :: r, x => by
    obtain ⟨h1, h2⟩ := mx_fold r (if x < z then z else x)
    rw [List.foldl_cons]
    refine ⟨?_, fun y hy => ?_⟩
    · rcases List.mem_cons.mp h1 with h | h
      · rw [h]
        split
        · exact List.mem_cons_of_mem _ List.mem_cons_self
        · exact List.mem_cons_self
      · exact List.mem_cons_of_mem _ (List.mem_cons_of_mem _ h)
    · have h0 := h2 _ List.mem_cons_self
      have key : ∀ a b m : Int, (if a < b then b else a) ≤ m → a ≤ m ∧ b ≤ m := fun a b m h => by
        split at h <;> omega
      obtain ⟨k1, k2⟩ := key x z _ h0
      rcases List.mem_cons.mp hy with e | hy
      · rw [e]
        exact k1
      · rcases List.mem_cons.mp hy with e | hy
        · rw [e]
          exact k2
        · exact h2 y (List.mem_cons_of_mem _ hy)
theorem mx_mem {ns : List Int} (h : ns ≠ []) : mxI ns ∈ ns := by
  cases ns with
  | nil => exact absurd rfl h
  | cons x r => exact (mx_fold r x).1
theorem mx_le {ns : List Int} {y : Int} (h : y ∈ ns) : y ≤ mxI ns := by
  cases ns with
  | nil => exact absurd h List.not_mem_nil
  | cons x r => exact (mx_fold r x).2 y h
theorem mx_is {ns : List Int} {m : Int} (h : m ∈ ns) (hm : ∀ y ∈ ns, y ≤ m) : m = mxI ns := by
  have h1 := mx_le h
  have h2 := hm _ (mx_mem (ns := ns) fun z => by rw [z] at h; exact absurd h List.not_mem_nil)
  omega
theorem ed_max {ns : List Int} (h : ED K ta σ G (.list (ns.map .int))) (hn : ns ≠ []) : ED K (tCB (rMax K) (tCons ta tNil)) σ G (.int (mxI ns)) := fun H1 x Q q => h H1 x _ fun v H2 G2 s g => by
  cases g with
  | @lst a xs _ e g =>
    cases daa_intsV g
    refine ⟨a, ns, rfl, sq_of (s.inn _ _ e), List.length_pos_iff.mpr hn, fun m hm hle => ?_⟩
    rw [mx_is hm hle]
    exact q _ H2 G2 s (.int _)
theorem daa_boolsV : ∀ {bs : List Bool} {vs : List V}, DaAll K H vs (bs.map PyData.bool) → vs = bs.map V.bl
  | [], _, .nil => rfl
  | n :: r, _, .cons (.bl _) a => by rw [daa_boolsV a]; rfl
theorem ed_all {bs : List Bool} (h : ED K ta σ G (.list (bs.map .bool))) : ED K (tCB (rAll K) (tCons ta tNil)) σ G (.bool (bs.all id)) := fun H1 x Q q => h H1 x _ fun v H2 G2 s g => by
  cases g with
  | @lst a xs _ e g =>
    cases daa_boolsV g
    exact ⟨a, bs, rfl, sq_of (s.inn _ _ e), q _ H2 G2 s (.bl _)⟩
theorem ed_any {bs : List Bool} (h : ED K ta σ G (.list (bs.map .bool))) : ED K (tCB (rAny K) (tCons ta tNil)) σ G (.bool (bs.any id)) := fun H1 x Q q => h H1 x _ fun v H2 G2 s g => by
  cases g with
  | @lst a xs _ e g =>
    cases daa_boolsV g
    exact ⟨a, bs, rfl, sq_of (s.inn _ _ e), q _ H2 G2 s (.bl _)⟩
theorem ed_sum {ns : List Int} (h : ED K ta σ G (.list (ns.map .int))) : ED K (tCB (rSum K) (tCons ta tNil)) σ G (.int ns.sum) := fun H1 x Q q => h H1 x _ fun v H2 G2 s g => by
  cases g with
  | @lst a xs _ e g =>
    cases daa_intsV g
    exact ⟨a, ns, rfl, sq_of (s.inn _ _ e), q _ H2 G2 s (.int _)⟩
/-- xs * k -/
theorem daa_rep {vs : List V} (g : DaAll K H vs ds) : ∀ k : Nat, DaAll K H (List.replicate k vs).flatten (List.replicate k ds).flatten
  | 0 => .nil
  | k + 1 => by
    rw [List.replicate_succ, List.replicate_succ, List.flatten_cons, List.flatten_cons]
    exact daa_app g (daa_rep g k)
theorem ed_rep {k : Int} (ha : ED K ta σ G (.list ds)) (hb : ∀ G2, Ex G G2 → ED K tb σ G2 (.int k)) (h0 : 0 ≤ k) (h1 : k < 2 ^ 63) (hz : ds.length * k.toNat ≤ 100000) : ED K (tOp rRep ta tb) σ G (.list (List.replicate k.toNat ds).flatten) := fun H1 x Q q =>
  ha H1 x _ fun v H2 G2 s g => ev_int (hb G2 s.an) H2 s.inn _ fun H3 x3 => by
    cases g with
    | @lst a xs _ e g =>
      refine ⟨a, k, xs, rfl, rfl, x3 _ _ (s.inn _ _ e), by omega, h1, by rw [daa_len g]; exact sz_of hz, fun p hp => ?_⟩
      have s' : Sep G H1 H3 G2 := ⟨s.up.trans x3, s.an, s.inn.trans x3, s.sep⟩
      exact q (.ref p) _ (upd G2 p (.lst (List.replicate k.toNat xs).flatten)) (s'.trans (Sep.new s'.inn hp)) (.lst upd_same (daa_ex (Ex.new (fresh_back s'.inn hp)) (daa_rep g _)))
/-- == of data -/
theorem et_neD {n w m u : Nat} (ha : ED K ta σ G d) (hb : ∀ G2, Ex G G2 → ED K tb σ G2 e) (hd : Ok n w d) (hn : n ≤ 60) (he : Ok m u e) (hm : m ≤ 60) : EvT (tTest (tOp (rNeD K) ta tb)) σ G (!PyData.eqv d e) := fun H1 x Q q =>
  ha H1 x _ fun v H2 G2 s g => hb G2 s.an H2 s.inn _ fun v2 H3 G3 s3 g3 =>
    ⟨d, e, da_dp (da_ex (s3.an.trans s3.inn) g), da_dp (da_ex s3.inn g3), hd.shaped hn, he.shaped hm, _, rfl, q H3 (s.up.trans s3.up)⟩
theorem ed_eqD {n w m u : Nat} (ha : ED K ta σ G d) (hb : ∀ G2, Ex G G2 → ED K tb σ G2 e) (hd : Ok n w d) (hn : n ≤ 60) (he : Ok m u e) (hm : m ≤ 60) : ED K (tOp (rEqD K) ta tb) σ G (.bool (PyData.eqv d e)) := fun H1 x Q q =>
  ha H1 x _ fun v H2 G2 s g => hb G2 s.an H2 s.inn _ fun v2 H3 G3 s3 g3 =>
    ⟨d, e, da_dp (da_ex (s3.an.trans s3.inn) g), da_dp (da_ex s3.inn g3), hd.shaped hn, he.shaped hm, q _ H3 G3 (s.trans s3) (.bl _)⟩
theorem eqv_ints : ∀ a b : List Int, PyData.eqv (.list (a.map .int)) (.list (b.map .int)) = decide (a = b)
  | [], [] => rfl
  | [], y :: b => by
    rw [decide_eq_false fun z => nomatch z]
    simp only [List.map_cons, List.map_nil, PyData.eqv, PyData.eqvAll]
  | x :: a, [] => by
    rw [decide_eq_false fun z => nomatch z]
    simp only [List.map_cons, List.map_nil, PyData.eqv, PyData.eqvAll]
  | x :: a, y :: b => by
    have h := eqv_ints a b
    have e : PyData.eqv (.list ((x :: a).map .int)) (.list ((y :: b).map .int)) = ((x == y) && PyData.eqv (.list (a.map .int)) (.list (b.map .int))) := by simp only [List.map_cons, PyData.eqv, PyData.eqvAll]
    rw [e, h]
    by_cases h1 : x = y
    · subst h1
      by_cases h2 : a = b
      · subst h2
        simp
      · rw [decide_eq_false h2, decide_eq_false fun z => h2 (List.cons.inj z).2, Bool.and_false]
    · rw [decide_eq_false fun z => h1 (List.cons.inj z).1, beq_eq_false_iff_ne.mpr h1, Bool.false_and]
theorem eqv_same {n w : Nat} (h : Ok n w d) : PyData.eqv d d = true := SeqAt.eqv_refl d h.cl
/-- xs[-1] -/
theorem ed_last {i : Int} (ha : ED K ta σ G (.list ds)) (hb : ∀ G2, Ex G G2 → ED K tb σ G2 (.int i)) (hi : i = -1) (hd : ds.getLast? = some d) : ED K (tOp (rIxL K) ta tb) σ G d := fun H1 x Q q =>
  ha H1 x _ fun v H2 G2 s g => ev_int (hb G2 s.an) H2 s.inn _ fun H3 x3 => by
    cases g with
    | @lst a xs _ e g =>
      subst hi
      have hl := daa_len g
      have hne : ds ≠ [] := fun z => by rw [z] at hd; cases hd
      have hpos : 0 < ds.length := List.length_pos_iff.mpr hne
      rw [List.getLast?_eq_getElem?] at hd
      obtain ⟨v, hv, gv⟩ := daa_get g _ d hd
      have hat : atI xs (-1) = some v := by
        unfold atI ixN
        rw [if_neg (by omega), if_pos (by omega)]
        show xs[(-1 + (xs.length : Int)).toNat]? = some v
        rw [show (-1 + (xs.length : Int)).toNat = ds.length - 1 by omega]
        exact hv
      exact ⟨a, xs, -1, v, rfl, rfl, sq_of (x3 _ _ (s.inn _ _ e)), hat, q v H3 G2 ⟨s.up.trans x3, s.an, s.inn.trans x3, s.sep⟩ gv⟩
end
section
variable {X : Cx} (K : PySem.W.Frag)
theorem maxK (hc : X.calm = true) (e : X.K = K := by rfl) : CallR X (.builtin "max") (rMax K) := e ▸ cr_max hc
theorem allK (hc : X.calm = true) (e : X.K = K := by rfl) : CallR X (.builtin "all") (rAll K) := e ▸ cr_all hc
theorem anyK (hc : X.calm = true) (e : X.K = K := by rfl) : CallR X (.builtin "any") (rAny K) := e ▸ cr_any hc
theorem sumK (hc : X.calm = true) (e : X.K = K := by rfl) : CallR X (.builtin "sum") (rSum K) := e ▸ cr_sum hc
theorem isiK (e : X.K = K := by rfl) : CallR X (.builtin "isinstance") (rIsi K) := e ▸ call_isi
theorem neDK (hu : X.A.units + 64 < cLine) (e : X.K = K := by rfl) : OpR X (compareOp .NotEq) (rNeD K) := e ▸ op_neD hu
theorem eqDK (hu : X.A.units + 64 < cLine) (e : X.K = K := by rfl) : OpR X (compareOp .Eq) (rEqD K) := e ▸ op_eqD hu
end
/-! more of statements -/
section
variable {K : PySem.W.Frag} {σ : L2.St} {G H : Hp} {ta tb te : TE} {d : PyData} {ds : List PyData} {D : Ends} {tu tz : TS}
/-- for i in range(a, b) -/
theorem d_range2 {j : Nat} {lo n : Int} (ha : ED K ta σ G (.int lo)) (hb : ED K tb σ G (.int n)) (x : Ex G H) (hn : 0 ≤ lo ∧ lo ≤ 100000 ∧ -100000 ≤ n ∧ n ≤ 100000) (Pv : Nat → L2.St → Hp → Prop) (h0 : ∀ H1, Ex H H1 → Pv 0 σ H1)
    (hs : ∀ (i : Nat) σ' H', lo + (i : Int) < n → Pv i σ' H' → tu { D with nx := Pv (i + 1), ct := Pv (i + 1), bk := tz D } (σ'.set j (some (.int (lo + (i : Int))))) H') (hd : ∀ σ' H', Pv (n - lo).toNat σ' H' → tz D σ' H') : tSeq (tFor (iRng2 (tCons ta (tCons tb tNil))) (gName j) tu) tz D σ H := by
  have e : EvA (tCons ta (tCons tb tNil)) σ G [.int lo, .int n] := ea_cons (ev_int ha) (ea_cons (ev_int hb) ea_nil)
  exact q_forR2 (EvA.mono x e) hn Pv h0 hs hd
/-- xs[-1] = e, xs outside the anchor, its items within -/
theorem daa_set : ∀ {vs : List V} {ds : List PyData} (n : Nat) {v : V}, DaAll K H vs ds → Da K H v d → DaAll K H (vs.set n v) (ds.set n d)
  | _, _, _, _, .nil, _ => .nil
  | _, _, 0, _, .cons _ a, g => .cons g a
  | _, _, n + 1, _, .cons h a, g => .cons h (daa_set n a g)
theorem d_setLast {l : Addr} {xs : List V} {i : Nat} {m : Int} (hG : G l = none) (hl : H l = some (.lst xs)) (hx : DaAll K G xs ds) (hi : σ[i]? = some (some (.ref l))) (h : ED K te σ G d) (x : Ex G H) (hne : 0 < xs.length) (hm : ∀ H', Ev tb σ H' (.int m)) (em : m = -1)
    (k : ∀ v H2 G2, Sep G H H2 G2 → G2 l = none → DaAll K G2 (xs.set (xs.length - 1) v) (ds.set (ds.length - 1) d) → Ex G2 (upd H2 l (.lst (xs.set (xs.length - 1) v))) → D.nx σ (upd H2 l (.lst (xs.set (xs.length - 1) v)))) :
    tAsg te (gSub (tVar i) tb rSetL) D σ H := h H x _ fun v H2 G2 s g => ⟨_, hi, hm H2 H2 (Ex.refl _) _ fun H3 x3 => by
    obtain ⟨o1, o2⟩ := s.out hG hl
    subst em
    refine ⟨l, xs, -1, xs.length - 1, rfl, rfl, x3 _ _ o2, ?_, ?_⟩
    · unfold ixN
      rw [if_neg (by omega), if_pos (by omega)]
      congr 1
      omega
    · have s' : Sep G H H3 G2 := ⟨s.up.trans x3, s.an, s.inn.trans x3, s.sep⟩
      refine k v H3 G2 s' o1 ?_ (Ex.mut s'.inn o1)
      rw [daa_len hx]
      exact daa_set _ (daa_ex s.an hx) g⟩
end
end Tw
namespace Tw
open PySem PySem.Spec PyProof.Rows L2 Evl
section
variable {K : PySem.W.Frag} {σ : L2.St} {G H : Hp} {ta tb te : TE} {d : PyData} {ds : List PyData} {D : Ends} {tu tz : TS}
/-- one new thing beside the anchor -/
theorem Sep.one {H2 : Hp} {p : Addr} {o : HO} (x : Ex G H) (np : H p = none) (e : Ex H H2) (hp : H2 p = some o) : Sep G H H2 (upd G p o) := by
  have gp : G p = none := fresh_back x np
  refine ⟨e, Ex.new gp, fun b u hb => ?_, fun b h h1 => ?_⟩
  · by_cases q : b = p
    · subst q
      rw [upd_same] at hb
      rw [← hb]
      exact hp
    · rw [upd_ne q] at hb
      exact e b u (x b u hb)
  · have q : b ≠ p := fun z => by
      rw [z] at h1
      exact h1 np
    rw [upd_ne q]
    exact h
/-- xs[-1] = (a, ..), the tuple's items told by the heap at hand -/
theorem d_setLastU {l : Addr} {xs ys : List V} {es : List PyData} {i : Nat} {m : Int} (hG : G l = none) (hl : H l = some (.lst xs)) (hx : DaAll K G xs ds) (hi : σ[i]? = some (some (.ref l))) (h : EvU te σ H ys) (hy : DaAll K G ys es) (x : Ex G H) (hne : 0 < xs.length) (hm : ∀ H', Ev tb σ H' (.int m)) (em : m = -1)
    (k : ∀ v H2 G2, Sep G H H2 G2 → G2 l = none → DaAll K G2 (xs.set (xs.length - 1) v) (ds.set (ds.length - 1) (.tuple es)) → Ex G2 (upd H2 l (.lst (xs.set (xs.length - 1) v))) → D.nx σ (upd H2 l (.lst (xs.set (xs.length - 1) v)))) :
    tAsg te (gSub (tVar i) tb rSetL) D σ H := h H (Ex.refl H) _ fun p H2 np e2 hp => ⟨_, hi, hm H2 H2 (Ex.refl _) _ fun H3 x3 => by
    have s := Sep.one x np (e2.trans x3) (x3 _ _ hp)
    obtain ⟨o1, o2⟩ := s.out hG hl
    subst em
    refine ⟨l, xs, -1, xs.length - 1, rfl, rfl, o2, ?_, ?_⟩
    · unfold ixN
      rw [if_neg (by omega), if_pos (by omega)]
      congr 1
      omega
    · refine k (.ref p) H3 _ s o1 ?_ (Ex.mut s.inn o1)
      rw [daa_len hx]
      exact daa_set _ (daa_ex s.an hx) (.tup (st_of upd_same) (daa_ex s.an hy))⟩
end
end Tw
namespace Tw
open PySem L2 Evl
theorem Sep.stay {G H H' : Hp} (x : Ex G H) (e : Ex H H') : Sep G H H' G := ⟨e, Ex.refl _, x.trans e, fun _ h _ => h⟩
end Tw
namespace Tw
open PySem PySem.Spec PyProof.Rows L2 Evl
/-! keyword-only parameters, all of them written -/
theorem kbn_mk {K : PySem.W.Frag} {x qual : Str} {st : Stmt} {f : Addr} {fd : FuncData} {ps ks : List Str} {n : Nat} (F : Fun K x qual st f fd)
    (h : ∀ (kV doc pm : Value) (an : Option Addr) (cdv ct : Value) (us ws : List Value), us.length = n → ws.length = ks.length →
      bindArgs (PySem.W.fnOf x qual (defArgs st) (defBody st) (defScope st) .none kV doc pm an cdv ct) ⟨us, ks.zip ws⟩ = pure (ps.zip (us ++ ws))) : KBn K fd ps n ks (fun us ws => us ++ ws) (fun vs zs => vs ++ zs) := by
  obtain ⟨_, _, kV, doc, pm, an, cdv, ct, _, rfl, _, _⟩ := F.ex
  exact ⟨fun s us ws _ h1 h2 => .of_eq (h kV doc pm an cdv ct us ws h1 h2), fun a b => a.append b⟩
section
variable {K : PySem.W.Frag} {σ : L2.St} {H : Hp} {d : PyData} {ds es : List PyData}
theorem ed_callN {n m : Nat} {R : List PyData → PyData → Prop} {E : XK} {t tk : TA} (h : EDA K t σ H ds) (hk : ∀ G, Ex H G → EDA K tk σ G es) (h1 : ds.length = n) (h2 : es.length = m) (hr : R (ds ++ es) d) : ED K (tCallN n m (spF K R) (fun vs zs => vs ++ zs) E t tk) σ H d := fun H1 x Q q =>
  h H1 x _ fun vs H2 G s g => hk G s.an H2 s.inn _ fun zs H3 G3 s3 g3 => ⟨by rw [daa_len g]; exact h1, by rw [daa_len g3]; exact h2, G3, ds ++ es, d, s3.inn, daa_app (daa_ex s3.an g) g3, hr, fun v H4 G4 s4 g4 => q v H4 G4 ((s.trans s3).trans s4) g4⟩
end
end Tw

set_option Elab.async false
set_option linter.all false
set_option maxRecDepth 100000
set_option maxHeartbeats 4000000
namespace Tw
open PySem PySem.Spec PyProof.Rows L2 Evl
/-! constants of the module -/
def TupK (K : PySem.W.Frag) (a : Addr) (xs : List V) : Prop :=
  ∃ (o : Obj) (its : Array Value) (n : Nat), K.lookup a = some o ∧ o.cls = .type "tuple" ∧ o.data = .seq its n ∧ its.size ≤ sizeLine ∧ Vals xs its.toList
theorem tupK_of {K : PySem.W.Frag} {a : Addr} {xs : List V} {its : Array Value} {n : Nat} {od : Option Addr} {sl : Array (Option Value)} (r : K.lookup a = some ⟨.type "tuple", od, .seq its n, sl⟩) (hl : its.size ≤ sizeLine) (hv : Vals xs its.toList) : TupK K a xs :=
  ⟨_, its, n, r, rfl, rfl, hl, hv⟩
section
variable {K : PySem.W.Frag} {σ : L2.St} {G H : Hp} {ta tb tc te to : TE} {d e : PyData} {ds es : List PyData}
theorem TupK.st {a : Addr} {xs : List V} (h : TupK K a xs) : SqT K H a xs := .inr h
theorem daa_strs : ∀ (ns : List Str), DaAll K H (ns.map V.str) (ns.map PyData.str)
  | [] => .nil
  | n :: r => .cons (.str n) (daa_strs r)
theorem TupK.strs {a : Addr} {ns : List Str} (h : TupK K a (ns.map V.str)) : Da K H (.ref a) (.tuple (ns.map .str)) := .tup h.st (daa_strs ns)
theorem TupK.ints {a : Addr} {ns : List Int} (h : TupK K a (ns.map V.int)) : Da K H (.ref a) (.tuple (ns.map .int)) := .tup h.st (daa_ints ns)
/-! texts -/
theorem ed_m0 {p : Str → Bool} {a : Str} (h : ED K to σ G (.str a)) : ED K (tM0 (fun x xs H Q => ∃ a, x = V.str a ∧ xs = [] ∧ True ∧ Q (.bl (p a)) H) to) σ G (.bool (p a)) := fun H1 x Q q =>
  ev_str h H1 x _ fun H2 x2 => ⟨⟨a, rfl⟩, a, rfl, rfl, trivial, q _ H2 G ⟨x2, Ex.refl G, x.trans x2, fun _ h _ => h⟩ (.bl _)⟩
theorem ed_m1 {p : Str → Str → Bool} {a b : Str} (h : ED K to σ G (.str a)) (hb : ED K te σ G (.str b)) : ED K (tM1 (fun x xs H Q => ∃ a b, x = V.str a ∧ xs = [V.str b] ∧ Q (.bl (p a b)) H) to te) σ G (.bool (p a b)) := fun H1 x Q q =>
  ev_str h H1 x _ fun H2 x2 => ⟨⟨a, rfl⟩, ev_str hb H2 (x.trans x2) _ fun H3 x3 => ⟨a, b, rfl, rfl, q _ H3 G ⟨x2.trans x3, Ex.refl G, (x.trans x2).trans x3, fun _ h _ => h⟩ (.bl _)⟩⟩
theorem two_le {n : Nat} (h : n ≤ 100000) : n + 2 ≤ sizeLine := by
  have e : sizeLine = 16777216 := by decide
  omega
theorem ed_words {a : Str} (h : ED K to σ G (.str a)) (hz : a.length ≤ 100000) : ED K (tM0 (fun x xs H Q => ∃ a, x = V.str a ∧ xs = [] ∧ a.length + 2 ≤ sizeLine ∧ rNewStrs (Txt.words a) H Q) to) σ G (.list ((Txt.words a).map .str)) := fun H1 x Q q =>
  ev_str h H1 x _ fun H2 x2 => ⟨⟨a, rfl⟩, a, rfl, rfl, two_le hz, fun p hp => by
    refine q (.ref p) _ (upd G p (.lst ((Txt.words a).map V.str))) ?_ (.lst upd_same (daa_strs _))
    have s0 : Sep G H1 H2 G := ⟨x2, Ex.refl G, x.trans x2, fun _ h _ => h⟩
    exact s0.trans (Sep.new s0.inn hp)⟩
theorem ed_split {a b : Str} (h : ED K to σ G (.str a)) (hb : ED K te σ G (.str b)) (hz : a.length ≤ 100000) (hn : (b.length == 0) = false) : ED K (tM1 (fun x xs H Q => ∃ a b, x = V.str a ∧ xs = [V.str b] ∧ (b.length == 0) = false ∧ a.length + 2 ≤ sizeLine ∧ rNewStrs (Txt.split a b) H Q) to te) σ G (.list ((Txt.split a b).map .str)) := fun H1 x Q q =>
  ev_str h H1 x _ fun H2 x2 => ⟨⟨a, rfl⟩, ev_str hb H2 (x.trans x2) _ fun H3 x3 => ⟨a, b, rfl, rfl, hn, two_le hz, fun p hp => by
    refine q (.ref p) _ (upd G p (.lst ((Txt.split a b).map V.str))) ?_ (.lst upd_same (daa_strs _))
    have s0 : Sep G H1 H3 G := ⟨x2.trans x3, Ex.refl G, (x.trans x2).trans x3, fun _ h _ => h⟩
    exact s0.trans (Sep.new s0.inn hp)⟩⟩
theorem ed_intS {a : Str} {n : Int} (h : ED K te σ G (.str a)) (hn : intText? a = some n) (hl : a.length ≤ 640) : ED K (tCB (fun xs H Q => ∃ a n, xs = [V.str a] ∧ PySem.intText? a = some n ∧ a.length ≤ 640 ∧ Q (.int n) H) (tCons te tNil)) σ G (.int n) := fun H1 x Q q =>
  ev_str h H1 x _ fun H2 x2 => ⟨a, n, rfl, hn, hl, q _ H2 G ⟨x2, Ex.refl G, x.trans x2, fun _ h _ => h⟩ (.int _)⟩
theorem ed_lenS {a : Str} (h : ED K te σ G (.str a)) (hl : a.length ≤ 100000) : ED K (tCB (fun xs H Q => ∃ z, xs = [V.str z] ∧ z.length ≤ sizeLine ∧ Q (.int z.length) H) (tCons te tNil)) σ G (.int a.length) := fun H1 x Q q =>
  ev_str h H1 x _ fun H2 x2 => ⟨a, rfl, sz_of hl, q _ H2 G ⟨x2, Ex.refl G, x.trans x2, fun _ h _ => h⟩ (.int _)⟩
theorem ed_ixS {a : Str} {i : Int} {c : Nat} (h : ED K te σ G (.str a)) (hb : ED K tb σ G (.int i)) (hl : a.length ≤ 100000) (hc : atI a.cps.toList i = some c) : ED K (tOp rIxS te tb) σ G (.str ⟨#[c]⟩) :=
  ed_ev (ev_op (ev_str h) (ev_int hb) (rv_ixS hl hc)) (.str _)
theorem ed_lenT (ha : ED K ta σ H (.tuple ds)) : ED K (tCB (fun xs H Q => ∃ p ys, xs = [V.ref p] ∧ (SqL K H p ys ∨ SqT K H p ys) ∧ Q (.int ys.length) H) (tCons ta tNil)) σ H (.int ds.length) := fun H1 x Q q =>
  ha H1 x _ fun v H2 G s g => by
    cases g with
    | @tup a xs _ e g =>
      refine ⟨a, xs, rfl, .inr (ex_t s.inn e), ?_⟩
      rw [daa_len g]
      exact q _ H2 G s (.int _)
/-- a text among texts -/
theorem et_inS {z : Str} {zs : List Str} (ha : ED K ta σ G (.str z)) (hb : ED K tb σ G (.list (zs.map .str))) : EvT (tTest (tOp (rIn K false) ta tb)) σ G (inV (.str z) (zs.map V.str)) := fun H1 x Q q =>
  ev_str ha H1 x _ fun H2 x2 => hb H2 (x.trans x2) _ fun v H3 G3 s g => by
    cases g with
    | @lst a xs _ e g =>
      cases daa_strsV g
      refine ⟨a, _, rfl, .inl (sq_of (s.inn _ _ e)), rfl, ?_, _, rfl, q H3 (x2.trans s.up)⟩
      rw [List.all_eq_true]
      intro y hy
      obtain ⟨t, _, rfl⟩ := List.mem_map.mp hy
      rfl
/-! chains, tests -/
theorem et_chain0 {p p' : Int → Int → Bool} {i j k : Int} (ha : ED K ta σ G (.int i)) (hb : ED K tb σ G (.int j)) (hc : ED K tc σ G (.int k)) :
    EvT (tTest (tChain (rI0 fun i j => .bl (p i j)) (rI0 fun i j => .bl (p' i j)) ta tb tc)) σ G (p i j && p' j k) := fun H1 x Q q =>
  ev_int ha H1 x _ fun H2 x2 => ev_int hb H2 (x.trans x2) _ fun H3 x3 => ⟨i, j, rfl, rfl, p i j, rfl, by
    cases hp : p i j with
    | false =>
      rw [if_neg Bool.false_ne_true]
      rw [hp] at q
      exact ⟨false, rfl, q H3 (x2.trans x3)⟩
    | true =>
      rw [if_pos rfl]
      rw [hp] at q
      exact ev_int hc H3 ((x.trans x2).trans x3) _ fun H4 x4 => ⟨j, k, rfl, rfl, p' j k, rfl, q H4 ((x2.trans x3).trans x4)⟩⟩
theorem ed_chain0 {p p' : Int → Int → Bool} {i j k : Int} (ha : ED K ta σ G (.int i)) (hb : ED K tb σ G (.int j)) (hc : ED K tc σ G (.int k)) :
    ED K (tChain (rI0 fun i j => .bl (p i j)) (rI0 fun i j => .bl (p' i j)) ta tb tc) σ G (.bool (p i j && p' j k)) := by
  have h : Ev (tChain (rI0 fun i j => .bl (p i j)) (rI0 fun i j => .bl (p' i j)) ta tb tc) σ G (.bl (p i j && p' j k)) := fun H1 x Q q =>
    ev_int ha H1 x _ fun H2 x2 => ev_int hb H2 (x.trans x2) _ fun H3 x3 => ⟨i, j, rfl, rfl, p i j, rfl, by
      cases hp : p i j with
      | false =>
        rw [if_neg Bool.false_ne_true]
        rw [hp] at q
        exact q H3 (x2.trans x3)
      | true =>
        rw [if_pos rfl]
        rw [hp] at q
        exact ev_int hc H3 ((x.trans x2).trans x3) _ fun H4 x4 => ⟨j, k, rfl, rfl, q H4 ((x2.trans x3).trans x4)⟩⟩
  exact ed_ev h (.bl _)
theorem et_truL (h : ED K te σ G (.list ds)) : EvT (fun σ H Q => te σ H fun x H' => ∃ k, TruV K x H' k ∧ Q k H') σ G (!ds.isEmpty) := fun H1 x Q q =>
  h H1 x _ fun v H2 G2 s g => by
    cases g with
    | @lst a xs _ e g =>
      refine ⟨!ds.isEmpty, .inl ⟨xs, sq_of (s.inn _ _ e), ?_⟩, q H2 s.up⟩
      have hl := daa_len g
      cases xs <;> cases ds <;> first | rfl | cases hl
theorem ed_ifE {t : TT} {b : Bool} (h : EvT t σ G b) (h1 : b = true → ED K ta σ G d) (h2 : b = false → ED K tb σ G d) : ED K (tIf t ta tb) σ G d := fun H1 x Q q => h H1 x _ fun H2 x2 => by
  have k : ∀ v H3 G3, Sep G H2 H3 G3 → Da K G3 v d → Q v H3 := fun v H3 G3 s g => q v H3 G3 ⟨x2.trans s.up, s.an, s.inn, fun b hb h1 => s.sep b hb fun z => by
    cases q1 : H1 b with
    | none => exact h1 q1
    | some o =>
      rw [x2 b o q1] at z
      cases z⟩ g
  cases b with
  | true => exact h1 rfl H2 (x.trans x2) Q k
  | false => exact h2 rfl H2 (x.trans x2) Q k
/-! slices -/
theorem cut_to {l : List PyData} {n : Nat} : cutD l none (some (n : Int)) = l.take n := by
  unfold cutD
  rw [sIx_nat']
  show (l.drop 0).take (min n l.length - 0) = _
  rw [List.drop_zero, Nat.sub_zero]
  by_cases h : n ≤ l.length
  · rw [Nat.min_eq_left h]
  · rw [Nat.min_eq_right (by omega), List.take_length, List.take_of_length_le (by omega)]
theorem cut_from {l : List PyData} {n : Nat} : cutD l (some (n : Int)) none = l.drop n := by
  unfold cutD
  rw [sIx_nat']
  show (l.drop (min n l.length)).take (l.length - min n l.length) = _
  rw [List.take_of_length_le (by rw [List.length_drop]; omega)]
  by_cases h : n ≤ l.length
  · rw [Nat.min_eq_left h]
  · rw [Nat.min_eq_right (by omega), List.drop_length, List.drop_of_length_le (by omega)]
theorem cut_init {l : List PyData} {m : Int} (hm : m = -1) : cutD l none (some m) = l.dropLast := by
  subst hm
  unfold cutD
  have e : HT.sIx l.length l.length (some (-1)) = l.length - 1 := by
    show (if (-1 : Int) < 0 then (-1 + (l.length : Int)).toNat else min (-1 : Int).toNat l.length) = _
    rw [if_pos (by decide)]
    omega
  rw [e]
  show (l.drop 0).take (l.length - 1 - 0) = _
  rw [List.drop_zero, Nat.sub_zero, List.dropLast_eq_take]
end
end Tw

set_option Elab.async false
set_option linter.all false
set_option maxRecDepth 100000
set_option maxHeartbeats 4000000
namespace Tw
open PySem PySem.Spec PyProof.Rows L2 Evl
/-! what is wholly new -/
def Nil : Hp := fun _ => none
theorem ex_nil {H : Hp} : Ex Nil H := fun _ _ h => nomatch h
theorem Sep.back {H1 H2 H3 G F : Hp} (e : Ex H1 H2) (s : Sep G H2 H3 F) : Sep G H1 H3 F := ⟨e.trans s.up, s.an, s.inn, fun b hb h1 => s.sep b hb fun z => by
  cases q : H1 b with
  | none => exact h1 q
  | some o =>
    rw [e b o q] at z
    cases z⟩
/-- what is new stands beside any anchor -/
theorem Sep.join {H H1 H2 F : Hp} (x : Ex H H1) (s : Sep Nil H1 H2 F) : ∃ G, Sep H H1 H2 G ∧ Ex F G := by
  refine ⟨fun b => if (H b).isSome then H b else F b, ⟨s.up, fun b o hb => ?_, fun b o hb => ?_, fun b hb hb1 => ?_⟩, fun b o hb => ?_⟩
  · show (if (H b).isSome then H b else F b) = some o
    rw [hb]
    rfl
  · have hb' : (if (H b).isSome then H b else F b) = some o := hb
    cases z : H b with
    | none =>
      rw [z] at hb'
      exact s.inn b o hb'
    | some u =>
      rw [z] at hb'
      have : u = o := Option.some.inj hb'
      subst this
      exact s.up b u (x b u z)
  · show (if (H b).isSome then H b else F b) = none
    rw [hb]
    exact s.sep b rfl hb1
  · show (if (H b).isSome then H b else F b) = some o
    cases z : H b with
    | none => exact hb
    | some u =>
      have := s.sep b rfl (by rw [x b u z]; exact Option.some_ne_none u)
      rw [hb] at this
      cases this
def EN (K : PySem.W.Frag) (te : TE) (σ : L2.St) (H : Hp) (d : PyData) : Prop :=
  ∀ H1, Ex H H1 → ∀ Q : VK, (∀ v H2 F, Sep Nil H1 H2 F → Da K F v d → Q v H2) → te σ H1 Q
def spO (K : PySem.W.Frag) (R : List PyData → PyData → Prop) : Sp := fun vs H1 Q _ => ∃ G0 ds d, Ex G0 H1 ∧ DaAll K G0 vs ds ∧ R ds d ∧ ∀ v H2 F, Sep Nil H1 H2 F → Da K F v d → Q v H2
section
variable {K : PySem.W.Frag} {σ : L2.St} {G H : Hp} {ta tb te tl : TE} {d e : PyData} {ds es : List PyData} {D : Ends} {tu tz : TS}
theorem EN.ed (h : EN K te σ H d) : ED K te σ H d := fun H1 x Q q => h H1 x Q fun v H2 F s g => by
  obtain ⟨G, s2, e⟩ := s.join x
  exact q v H2 G s2 (da_ex e g)
theorem en_call {R : List PyData → PyData → Prop} {E : XK} {t : TA} (h : EDA K t σ H ds) (hr : R ds d) : EN K (tCall (spO K R) [] E t) σ H d := fun H1 x Q q =>
  h H1 x _ fun vs H2 G s g => ⟨G, ds, d, s.inn, by rw [List.append_nil]; exact g, hr, fun v H3 F s2 g2 => q v H3 F (s2.back s.up) g2⟩
theorem spO_len {R : List PyData → PyData → Prop} {n : Nat} (h : ∀ ds d, R ds d → ds.length = n) : ∀ vs H Q E, spO K R vs H Q E → vs.length = n := by
  rintro vs H Q E ⟨G0, ds, d, _, g, hr, _⟩
  rw [daa_len g]
  exact h ds d hr
theorem d_asgN {i : Nat} (h : EN K te σ G d) (x : Ex G H) (k : ∀ v H2 F, Sep Nil H H2 F → Da K F v d → tz D (σ.set i (some v)) H2) : tSeq (tAsg te (gName i)) tz D σ H := h H x _ k
/-- a statement that is a call, its answer dropped -/
theorem d_drop (h : ED K te σ G d) (x : Ex G H) (k : ∀ H2, Ex H H2 → tz D σ H2) : tSeq (tDrop te) tz D σ H := h H x _ fun v H2 G2 s g => k H2 s.up
theorem d_drop1 (h : ED K te σ G d) (x : Ex G H) (k : ∀ H2, Ex H H2 → D.nx σ H2) : tDrop te D σ H := h H x _ fun v H2 G2 s g => k H2 s.up
/-- a, b, .. = e, e a list -/
theorem d_unpL {n : Nat} {gs : TGs} (h : ED K te σ G (.list ds)) (x : Ex G H) (hn : ds.length = n) (k : ∀ vs H2 G2, Sep G H H2 G2 → DaAll K G2 vs ds → gs vs σ H2 (tz D)) : tSeq (tAsg te (gLst K n gs)) tz D σ H := h H x _ fun v H2 G2 s g => by
  cases g with
  | @lst a xs _ e g => exact ⟨a, xs, rfl, sq_of (s.inn _ _ e), by rw [daa_len g]; exact hn, k xs H2 G2 s g⟩
/-- xs.append(e), e wholly new, xs outside the anchor of what is kept -/
theorem d_appN {l : Addr} {xs : List V} {i : Nat} {A F : Hp} (xF : Ex F H) (hF : F l = none) (hl : H l = some (.lst xs)) (hx : DaAll K F xs ds) (hi : σ[i]? = some (some (.ref l))) (h : EN K te σ A d) (x : Ex A H) (hz : xs.length < 100000)
    (k : ∀ v H2 F2, Sep F H H2 F2 → F2 l = none → DaAll K F2 (xs ++ [v]) (ds ++ [d]) → H2 l = some (.lst xs) → Ex H H2 → D.nx σ (upd H2 l (.lst (xs ++ [v])))) :
    tDrop (tBM K "list" rAppend (tVar i) (tCons te tNil)) D σ H :=
  ⟨_, hi, .inl ⟨rfl, xs, sq_of hl⟩, h H x _ fun v H2 F1 s g => by
    obtain ⟨F2, s2, e2⟩ := s.join xF
    obtain ⟨o1, o2⟩ := s2.out hF hl
    exact ⟨l, xs, v, rfl, rfl, o2, sz_lt hz, k v H2 F2 s2 o1 (daa_app (daa_ex s2.an hx) (.cons (da_ex e2 g) .nil)) o2 s.up⟩⟩
/-- for a, b in enumerate(xs) -/
theorem d_enum {i j1 j2 : Nat} {v : V} (hi : σ[i]? = some (some v)) (g : Da K G v (.list ds)) (x : Ex G H) (Pv : Nat → L2.St → Hp → Prop) (h0 : Pv 0 σ H) (hx : ∀ i σ' H', Pv i σ' H' → Ex G H')
    (hs : ∀ (i : Nat) w d σ' H', ds[i]? = some d → Da K G w d → Pv i σ' H' → ∀ H2, Ex H' H2 → tu { D with nx := Pv (i + 1), ct := Pv (i + 1), bk := tz D } ((σ'.set j1 (some (.int (i : Int)))).set j2 (some w)) H2)
    (hd : ∀ σ' H', Pv ds.length σ' H' → tz D σ' H') : tSeq (tFor (iEnum K (tCons (tVar i) tNil)) (gTup K 2 (gCons (gName j1) (gCons (gName j2) gNil))) tu) tz D σ H := by
  cases g with
  | @lst a xs _ e g =>
    have hl := daa_len g
    refine ⟨_, hi, a, xs, rfl, sq_of (x _ _ e), ?_⟩
    refine for_it (D := { D with nx := tz D }) (walk_enum (K := K) (a := a) (xs := xs)) Pv h0 (fun i σ' H' _ p => sq_of (hx i σ' H' p _ _ e)) (fun i y σ' H' H2 hlt p yy => ?_) (fun σ' H' p => hd σ' H' (by rw [← hl]; exact p))
    obtain ⟨T, p1, p2, rfl, hT, rfl, e1, e2⟩ := yy
    cases Option.some.inj e1
    obtain ⟨d, hd', gd⟩ := daa_getV g i p2 e2
    exact ⟨T, _, rfl, st_of upd_same, rfl, _, _, rfl, _, _, rfl, rfl, hs i p2 d σ' _ hd' gd p _ (Ex.new hT)⟩
/-- for a in xs -/
theorem d_for {i j : Nat} {v : V} (hi : σ[i]? = some (some v)) (g : Da K G v (.list ds)) (x : Ex G H) (Pv : Nat → L2.St → Hp → Prop) (h0 : Pv 0 σ H) (hx : ∀ i σ' H', Pv i σ' H' → Ex G H')
    (hs : ∀ (i : Nat) w d σ' H', ds[i]? = some d → Da K G w d → Pv i σ' H' → tu { D with nx := Pv (i + 1), ct := Pv (i + 1), bk := tz D } (σ'.set j (some w)) H')
    (hd : ∀ σ' H', Pv ds.length σ' H' → tz D σ' H') : tSeq (tFor (iList K (tVar i)) (gName j) tu) tz D σ H := by
  cases g with
  | @lst a xs _ e g =>
    have hl := daa_len g
    refine ⟨_, hi, a, rfl, ⟨xs, sq_of (x _ _ e)⟩, ?_⟩
    refine for_it (D := { D with nx := tz D }) (walk_list (K := K) (a := a) (xs := xs)) Pv h0 (fun i σ' H' _ p => sq_of (hx i σ' H' p _ _ e)) (fun i y σ' H' H2 hlt p yy => ?_) (fun σ' H' p => hd σ' H' (by rw [← hl]; exact p))
    obtain ⟨rfl, e2⟩ := yy
    obtain ⟨d, hd', gd⟩ := daa_getV g i y e2
    exact hs i y d σ' _ hd' gd p
theorem d_for1 {i j : Nat} {v : V} (hi : σ[i]? = some (some v)) (g : Da K G v (.list ds)) (x : Ex G H) (Pv : Nat → L2.St → Hp → Prop) (h0 : Pv 0 σ H) (hx : ∀ i σ' H', Pv i σ' H' → Ex G H')
    (hs : ∀ (i : Nat) w d σ' H', ds[i]? = some d → Da K G w d → Pv i σ' H' → tu { D with nx := Pv (i + 1), ct := Pv (i + 1), bk := D.nx } (σ'.set j (some w)) H')
    (hd : ∀ σ' H', Pv ds.length σ' H' → D.nx σ' H') : tFor (iList K (tVar i)) (gName j) tu D σ H := d_for (tz := tNext) hi g x Pv h0 hx hs hd
theorem d_enum1 {i j1 j2 : Nat} {v : V} (hi : σ[i]? = some (some v)) (g : Da K G v (.list ds)) (x : Ex G H) (Pv : Nat → L2.St → Hp → Prop) (h0 : Pv 0 σ H) (hx : ∀ i σ' H', Pv i σ' H' → Ex G H')
    (hs : ∀ (i : Nat) w d σ' H', ds[i]? = some d → Da K G w d → Pv i σ' H' → ∀ H2, Ex H' H2 → tu { D with nx := Pv (i + 1), ct := Pv (i + 1), bk := D.nx } ((σ'.set j1 (some (.int (i : Int)))).set j2 (some w)) H2)
    (hd : ∀ σ' H', Pv ds.length σ' H' → D.nx σ' H') : tFor (iEnum K (tCons (tVar i) tNil)) (gTup K 2 (gCons (gName j1) (gCons (gName j2) gNil))) tu D σ H := d_enum (tz := tNext) hi g x Pv h0 hx hs hd
/-- two tuples walked at once -/
theorem walk_zipT {a b : Addr} {xs ys : List V} {n : Nat} (hn : n = min xs.length ys.length) : Walk (RZ.ItzT K a b) n (fun H => SqT K H a xs ∧ SqT K H b ys) (YPair (fun i => xs[i]?) (fun i => ys[i]?)) := by
  subst hn
  refine ⟨fun i _ hi q => ?_, fun _ q => ⟨xs, ys, q.1, q.2, by omega⟩, fun i H v H' _ q y => ?_⟩
  · have h1 : i < xs.length := by omega
    have h2 : i < ys.length := by omega
    exact ⟨xs, ys, xs[i], ys[i], q.1, q.2, by simp [h1], by simp [h2]⟩
  · obtain ⟨T, x, z, h1, h2, h3, h4, h5⟩ := y
    exact ⟨T, x, z, h1, h2, h3, h4 xs q.1, h5 ys q.2⟩
theorem range_step {f : Nat → PyData} {i : Nat} : (List.range (i + 1)).map f = if true = true then (List.range i).map f ++ [f i] else (List.range i).map f := by
  rw [if_pos rfl, List.range_succ, List.map_append]
  rfl
/-- [e for v, (lo, hi) in zip(t, bounds)] -/
theorem ed_lcZ {ta : TA} {vs : List Nat} {j1 j2 j3 : Nat} {bs : List (Int × Int)} (f : Nat → PyData) (h : EDA K ta σ H [.tuple ds, .tuple (bs.map fun b => .tuple [.int b.1, .int b.2])]) (hl : ds.length = bs.length) (hz : ds.length ≤ 1000)
    (hw : ∀ x y z, wipe ((((wipe σ vs).set j1 (some x)).set j2 (some y)).set j3 (some z)) vs = wipe σ vs)
    (he : ∀ (i : Nat) d v lo hi G, ds[i]? = some d → bs[i]? = some (lo, hi) → Ex H G → Da K G v d → ED K te ((((wipe σ vs).set j1 (some v)).set j2 (some (.int lo))).set j3 (some (.int hi))) G (f i)) :
    ED K (tLc (RZ.iZipA K ta) (gTup K 2 (gCons (gName j1) (gCons (gTup K 2 (gCons (gName j2) (gCons (gName j3) gNil))) gNil))) tYes te vs) σ H (.list ((List.range ds.length).map f)) := fun H1 x Q q =>
  h H1 x _ fun us H2 A s ga => by
    obtain ⟨v0, r, rfl, g0, ga⟩ := daa_inv ga
    obtain ⟨v1, r, rfl, g1, ga⟩ := daa_inv ga
    cases daa_inv0 ga
    cases g0 with
    | @tup a xs _ ea gx =>
      cases g1 with
      | @tup b ys _ eb gy =>
        have l1 := daa_len gx
        have l2 := daa_len gy
        rw [List.length_map] at l2
        refine ⟨a, b, xs, ys, rfl, .inr ⟨ex_t s.inn ea, ex_t s.inn eb, fun D hD => ?_⟩⟩
        refine lc_it (walk_zipT (K := K) (a := a) (b := b) (xs := xs) (ys := ys) (n := ds.length) (by omega)) (Lw K A H2 D fun i => (List.range i).map f) (Lw.start s.inn hD rfl) (fun i H' _ pw => ?_) (fun i y H' H3 hlt pw yy => ?_) fun H' pw => ?_
        · obtain ⟨_, G, acc, s2, _⟩ := pw
          exact ⟨ex_t (s.inn.trans s2.up) ea, ex_t (s.inn.trans s2.up) eb⟩
        · obtain ⟨T, p1, p2, rfl, hT, rfl, e1, e2⟩ := yy
          obtain ⟨d, hd', gd⟩ := daa_getV gx i p1 e1
          obtain ⟨d2, hd2, gd2⟩ := daa_getV gy i p2 e2
          rw [List.getElem?_map] at hd2
          obtain ⟨⟨lo, hi⟩, hb, rfl⟩ := Option.map_eq_some_iff.mp hd2
          cases gd2 with
          | @tup c zs _ ec gz =>
            obtain ⟨w1, r, rfl, q1, gz⟩ := daa_inv gz
            obtain ⟨w2, r, rfl, q2, gz⟩ := daa_inv gz
            cases daa_inv0 gz
            cases q1
            cases q2
            have pw' := pw
            obtain ⟨hD', G, acc, s2, gD, hacc, ga', la⟩ := pw
            have ex3 : Ex A (upd H' T (.tup [p1, .ref c])) := (s.inn.trans s2.up).trans (Ex.new hT)
            have TD : T ≠ D := fun z => by
              rw [z] at hT
              rw [hT] at hacc
              cases hacc
            have pw3 : Lw K A H2 D (fun i => (List.range i).map f) i (upd H' T (.tup [p1, .ref c])) := ⟨hD', G, acc, ⟨s2.up.trans (Ex.new hT), s2.an, s2.inn.trans (Ex.new hT), s2.sep⟩, gD, Ex.new hT _ _ hacc, ga', la⟩
            have tn := pw3.turn (t := tYes) (te := te) (σ2 := (((wipe σ vs).set j1 (some p1)).set j2 (some (.int lo))).set j3 (some (.int hi))) (f := true) (e := f i) (by omega) (fun _ _ => et_yes) (fun _ G xg => he i d p1 lo hi G hd' hb (s.an.trans xg) (da_ex xg gd)) range_step
            exact ⟨T, _, rfl, st_of upd_same, rfl, _, _, rfl, _, _, rfl, ⟨c, _, rfl, ex_t ex3 ec, rfl, _, _, rfl, _, _, rfl, rfl, ⟨rfl, hw p1 (.int lo) (.int hi), tn⟩⟩⟩
        · have g3 := lc_fin (out := fun i => (List.range i).map f) s q pw
          exact g3
end
end Tw

set_option Elab.async false
set_option linter.all false
set_option maxRecDepth 100000
set_option maxHeartbeats 4000000
namespace K10
open PySem PySem.Spec PyProof.Rows L2 Evl Tw
def topS (i : Nat) : Stmt := PySem.Challenge.pw_tidewaits_k10_harbours_read_back.main.body.getD i (.Pass ⟨0, 0, 0, 0⟩)
abbrev s_is_within : Stmt := topS 8
abbrev N_is_within : List Str := ["value", "least", "most"]
theorem scis_within : FnScope N_is_within ["value", "least", "most"] (defScope s_is_within) := ⟨rfl, rfl, rfl, by decide +kernel, rfl, by decide +kernel, by decide +kernel⟩
abbrev s__check_number : Stmt := topS 9
abbrev N__check_number : List Str := ["value", "least", "most"]
theorem sc_check_number : FnScope N__check_number ["value", "least", "most"] (defScope s__check_number) := ⟨rfl, rfl, rfl, by decide +kernel, rfl, by decide +kernel, by decide +kernel⟩
abbrev s__check_list : Stmt := topS 10
abbrev N__check_list : List Str := ["values", "longest", "least", "most", "value"]
theorem sc_check_list : FnScope N__check_list ["values", "longest", "least", "most"] (defScope s__check_list) := ⟨rfl, rfl, rfl, by decide +kernel, rfl, by decide +kernel, by decide +kernel⟩
abbrev s_check_harbour : Stmt := topS 11
abbrev N_check_harbour : List Str := ["harbour", "depths", "berths", "tugs", "pilots", "last"]
theorem sccheck_harbour : FnScope N_check_harbour ["harbour"] (defScope s_check_harbour) := ⟨rfl, rfl, rfl, by decide +kernel, rfl, by decide +kernel, by decide +kernel⟩
abbrev s_is_ship : Stmt := topS 12
abbrev N_is_ship : List Str := ["ship", "value", "least", "most"]
theorem scis_ship : FnScope N_is_ship ["ship"] (defScope s_is_ship) := ⟨rfl, rfl, rfl, by decide +kernel, rfl, by decide +kernel, by decide +kernel⟩
abbrev s_check_ships : Stmt := topS 13
abbrev N_check_ships : List Str := ["ships", "name", "ship"]
theorem sccheck_ships : FnScope N_check_ships ["ships"] (defScope s_check_ships) := ⟨rfl, rfl, rfl, by decide +kernel, rfl, by decide +kernel, by decide +kernel⟩
abbrev s__line_of : Stmt := topS 19
abbrev N__line_of : List Str := ["word", "numbers", "number"]
theorem sc_line_of : FnScope N__line_of ["word", "numbers"] (defScope s__line_of) := ⟨rfl, rfl, rfl, by decide +kernel, rfl, by decide +kernel, by decide +kernel⟩
abbrev s_write_harbour : Stmt := topS 20
abbrev N_write_harbour : List Str := ["harbour", "ships", "depths", "berths", "tugs", "pilots", "last", "lines", "ship"]
theorem scwrite_harbour : FnScope N_write_harbour ["harbour", "ships"] (defScope s_write_harbour) := ⟨rfl, rfl, rfl, by decide +kernel, rfl, by decide +kernel, by decide +kernel⟩
abbrev s__is_number : Stmt := topS 21
abbrev N__is_number : List Str := ["word"]
theorem sc_is_number : FnScope N__is_number ["word"] (defScope s__is_number) := ⟨rfl, rfl, rfl, by decide +kernel, rfl, by decide +kernel, by decide +kernel⟩
abbrev s__fits : Stmt := topS 22
abbrev N__fits : List Str := ["word", "wanted"]
theorem sc_fits : FnScope N__fits ["word", "wanted"] (defScope s__fits) := ⟨rfl, rfl, rfl, by decide +kernel, rfl, by decide +kernel, by decide +kernel⟩
abbrev s__words_of : Stmt := topS 23
abbrev N__words_of : List Str := ["shape", "count", "wanted"]
theorem sc_words_of : FnScope N__words_of ["shape", "count"] (defScope s__words_of) := ⟨rfl, rfl, rfl, by decide +kernel, rfl, by decide +kernel, by decide +kernel⟩
abbrev s__read_line : Stmt := topS 24
abbrev N__read_line : List Str := ["line", "shape", "number", "words", "wanted", "found", "column", "at", "word"]
theorem sc_read_line : FnScope N__read_line ["line", "shape", "number"] (defScope s__read_line) := ⟨rfl, rfl, rfl, by decide +kernel, rfl, by decide +kernel, by decide +kernel⟩
abbrev s__lines_of : Stmt := topS 25
abbrev N__lines_of : List Str := ["text", "lines"]
theorem sc_lines_of : FnScope N__lines_of ["text"] (defScope s__lines_of) := ⟨rfl, rfl, rfl, by decide +kernel, rfl, by decide +kernel, by decide +kernel⟩
abbrev s__read_lines : Stmt := topS 26
abbrev N__read_lines : List Str := ["text", "shapes", "further", "lines", "found", "at", "line", "shape"]
theorem sc_read_lines : FnScope N__read_lines ["text", "shapes", "further"] (defScope s__read_lines) := ⟨rfl, rfl, rfl, by decide +kernel, rfl, by decide +kernel, by decide +kernel⟩
abbrev s_read_harbour : Stmt := topS 27
abbrev N_read_harbour : List Str := ["text", "rows", "depths", "berths", "tugs", "pilots", "last", "harbour", "ships", "row"]
theorem scread_harbour : FnScope N_read_harbour ["text"] (defScope s_read_harbour) := ⟨rfl, rfl, rfl, by decide +kernel, rfl, by decide +kernel, by decide +kernel⟩
abbrev s__law_draws : Stmt := topS 29
abbrev N__law_draws : List Str := ["script", "count", "rests", "cell", "draws", "k", "value", "at", "mixed"]
theorem sc_law_draws : FnScope N__law_draws ["script", "count"] (defScope s__law_draws) := ⟨rfl, rfl, rfl, by decide +kernel, rfl, by decide +kernel, by decide +kernel⟩
abbrev s__law_port : Stmt := topS 30
abbrev N__law_port : List Str := ["draws", "depths", "k", "berths", "ships", "part", "own"]
theorem sc_law_port : FnScope N__law_port ["draws"] (defScope s__law_port) := ⟨rfl, rfl, rfl, by decide +kernel, rfl, by decide +kernel, by decide +kernel⟩
abbrev s__law_lines : Stmt := topS 31
abbrev N__law_lines : List Str := ["harbour", "ships", "depths", "berths", "tugs", "pilots", "last", "found", "number", "ship", "word", "words"]
theorem sc_law_lines : FnScope N__law_lines ["harbour", "ships"] (defScope s__law_lines) := ⟨rfl, rfl, rfl, by decide +kernel, rfl, by decide +kernel, by decide +kernel⟩
abbrev s__law_text : Stmt := topS 32
abbrev N__law_text : List Str := ["lines", "words"]
theorem sc_law_text : FnScope N__law_text ["lines"] (defScope s__law_text) := ⟨rfl, rfl, rfl, by decide +kernel, rfl, by decide +kernel, by decide +kernel⟩
abbrev s_law : Stmt := topS 33
abbrev N_law : List Str := ["script", "draws", "harbour", "ships", "text", "turn", "told"]
theorem sclaw : FnScope N_law ["script"] (defScope s_law) := ⟨rfl, rfl, rfl, by decide +kernel, rfl, by decide +kernel, by decide +kernel⟩
structure Tx (K : PySem.W.Frag) (mg : Str → Option Value) where
  f_is_within : Addr
  d_is_within : FuncData
  F_is_within : Fun K "is_within" "is_within" s_is_within f_is_within d_is_within
  g_is_within : mg "is_within" = some (.ref f_is_within)
  b_is_within : Binds K d_is_within ["value", "least", "most"] []
  f__check_number : Addr
  d__check_number : FuncData
  F__check_number : Fun K "_check_number" "_check_number" s__check_number f__check_number d__check_number
  g__check_number : mg "_check_number" = some (.ref f__check_number)
  b__check_number : Binds K d__check_number ["value", "least", "most"] []
  f__check_list : Addr
  d__check_list : FuncData
  F__check_list : Fun K "_check_list" "_check_list" s__check_list f__check_list d__check_list
  g__check_list : mg "_check_list" = some (.ref f__check_list)
  b__check_list : Binds K d__check_list ["values", "longest", "least", "most"] []
  f_check_harbour : Addr
  d_check_harbour : FuncData
  F_check_harbour : Fun K "check_harbour" "check_harbour" s_check_harbour f_check_harbour d_check_harbour
  g_check_harbour : mg "check_harbour" = some (.ref f_check_harbour)
  b_check_harbour : Binds K d_check_harbour ["harbour"] []
  f_is_ship : Addr
  d_is_ship : FuncData
  F_is_ship : Fun K "is_ship" "is_ship" s_is_ship f_is_ship d_is_ship
  g_is_ship : mg "is_ship" = some (.ref f_is_ship)
  b_is_ship : Binds K d_is_ship ["ship"] []
  f_check_ships : Addr
  d_check_ships : FuncData
  F_check_ships : Fun K "check_ships" "check_ships" s_check_ships f_check_ships d_check_ships
  g_check_ships : mg "check_ships" = some (.ref f_check_ships)
  b_check_ships : Binds K d_check_ships ["ships"] []
  f__line_of : Addr
  d__line_of : FuncData
  F__line_of : Fun K "_line_of" "_line_of" s__line_of f__line_of d__line_of
  g__line_of : mg "_line_of" = some (.ref f__line_of)
  b__line_of : Binds K d__line_of ["word", "numbers"] []
  f_write_harbour : Addr
  d_write_harbour : FuncData
  F_write_harbour : Fun K "write_harbour" "write_harbour" s_write_harbour f_write_harbour d_write_harbour
  g_write_harbour : mg "write_harbour" = some (.ref f_write_harbour)
  b_write_harbour : Binds K d_write_harbour ["harbour", "ships"] []
  f__is_number : Addr
  d__is_number : FuncData
  F__is_number : Fun K "_is_number" "_is_number" s__is_number f__is_number d__is_number
  g__is_number : mg "_is_number" = some (.ref f__is_number)
  b__is_number : Binds K d__is_number ["word"] []
  f__fits : Addr
  d__fits : FuncData
  F__fits : Fun K "_fits" "_fits" s__fits f__fits d__fits
  g__fits : mg "_fits" = some (.ref f__fits)
  b__fits : Binds K d__fits ["word", "wanted"] []
  f__words_of : Addr
  d__words_of : FuncData
  F__words_of : Fun K "_words_of" "_words_of" s__words_of f__words_of d__words_of
  g__words_of : mg "_words_of" = some (.ref f__words_of)
  b__words_of : Binds K d__words_of ["shape", "count"] []
  f__read_line : Addr
  d__read_line : FuncData
  F__read_line : Fun K "_read_line" "_read_line" s__read_line f__read_line d__read_line
  g__read_line : mg "_read_line" = some (.ref f__read_line)
  b__read_line : Binds K d__read_line ["line", "shape", "number"] []
  f__lines_of : Addr
  d__lines_of : FuncData
  F__lines_of : Fun K "_lines_of" "_lines_of" s__lines_of f__lines_of d__lines_of
  g__lines_of : mg "_lines_of" = some (.ref f__lines_of)
  b__lines_of : Binds K d__lines_of ["text"] []
  f__read_lines : Addr
  d__read_lines : FuncData
  F__read_lines : Fun K "_read_lines" "_read_lines" s__read_lines f__read_lines d__read_lines
  g__read_lines : mg "_read_lines" = some (.ref f__read_lines)
  b__read_lines : Binds K d__read_lines ["text", "shapes", "further"] []
  f_read_harbour : Addr
  d_read_harbour : FuncData
  F_read_harbour : Fun K "read_harbour" "read_harbour" s_read_harbour f_read_harbour d_read_harbour
  g_read_harbour : mg "read_harbour" = some (.ref f_read_harbour)
  b_read_harbour : Binds K d_read_harbour ["text"] []
  f__law_draws : Addr
  d__law_draws : FuncData
  F__law_draws : Fun K "_law_draws" "_law_draws" s__law_draws f__law_draws d__law_draws
  g__law_draws : mg "_law_draws" = some (.ref f__law_draws)
  b__law_draws : Binds K d__law_draws ["script", "count"] []
  f__law_port : Addr
  d__law_port : FuncData
  F__law_port : Fun K "_law_port" "_law_port" s__law_port f__law_port d__law_port
  g__law_port : mg "_law_port" = some (.ref f__law_port)
  b__law_port : Binds K d__law_port ["draws"] []
  f__law_lines : Addr
  d__law_lines : FuncData
  F__law_lines : Fun K "_law_lines" "_law_lines" s__law_lines f__law_lines d__law_lines
  g__law_lines : mg "_law_lines" = some (.ref f__law_lines)
  b__law_lines : Binds K d__law_lines ["harbour", "ships"] []
  f__law_text : Addr
  d__law_text : FuncData
  F__law_text : Fun K "_law_text" "_law_text" s__law_text f__law_text d__law_text
  g__law_text : mg "_law_text" = some (.ref f__law_text)
  b__law_text : Binds K d__law_text ["lines"] []
  f_law : Addr
  d_law : FuncData
  F_law : Fun K "law" "law" s_law f_law d_law
  g_law : mg "law" = some (.ref f_law)
  b_law : Binds K d_law ["script"] []
  m_len : mg "len" = none
  m_int : mg "int" = none
  m_range : mg "range" = none
  m_str : mg "str" = none
  m_tuple : mg "tuple" = none
  m_repr : mg "repr" = none
  m_isinstance : mg "isinstance" = none
  m_bool : mg "bool" = none
  m_enumerate : mg "enumerate" = none
  m_zip : mg "zip" = none
  m_all : mg "all" = none
  a_SHIP_BOUNDS : Addr
  g_SHIP_BOUNDS : mg "SHIP_BOUNDS" = some (.ref a_SHIP_BOUNDS)
  a0_SHIP_BOUNDS : Addr
  k0_SHIP_BOUNDS : Tw.TupK K a0_SHIP_BOUNDS [.int 0, .int 20]
  a1_SHIP_BOUNDS : Addr
  k1_SHIP_BOUNDS : Tw.TupK K a1_SHIP_BOUNDS [.int 1, .int 9]
  a2_SHIP_BOUNDS : Addr
  k2_SHIP_BOUNDS : Tw.TupK K a2_SHIP_BOUNDS [.int 0, .int 40]
  a3_SHIP_BOUNDS : Addr
  k3_SHIP_BOUNDS : Tw.TupK K a3_SHIP_BOUNDS [.int 1, .int 4]
  a4_SHIP_BOUNDS : Addr
  k4_SHIP_BOUNDS : Tw.TupK K a4_SHIP_BOUNDS [.int 0, .int 3]
  a5_SHIP_BOUNDS : Addr
  k5_SHIP_BOUNDS : Tw.TupK K a5_SHIP_BOUNDS [.int 0, .int 9]
  a6_SHIP_BOUNDS : Addr
  k6_SHIP_BOUNDS : Tw.TupK K a6_SHIP_BOUNDS [.int 0, .int 9]
  k_SHIP_BOUNDS : Tw.TupK K a_SHIP_BOUNDS [.ref a0_SHIP_BOUNDS, .ref a1_SHIP_BOUNDS, .ref a2_SHIP_BOUNDS, .ref a3_SHIP_BOUNDS, .ref a4_SHIP_BOUNDS, .ref a5_SHIP_BOUNDS, .ref a6_SHIP_BOUNDS]
  t_NUMBER : Tok
  g_NUMBER : mg "NUMBER" = some (.str (Str.ofString "#") t_NUMBER)
  t_NUMBERS : Tok
  g_NUMBERS : mg "NUMBERS" = some (.str (Str.ofString "..") t_NUMBERS)
  a_HEAD_SHAPES : Addr
  g_HEAD_SHAPES : mg "HEAD_SHAPES" = some (.ref a_HEAD_SHAPES)
  k_HEAD_SHAPES : Tw.TupK K a_HEAD_SHAPES [.str (Str.ofString "tide .."), .str (Str.ofString "berths .."), .str (Str.ofString "tugs #"), .str (Str.ofString "pilots #"), .str (Str.ofString "last #")]
  t_SHIP_SHAPE : Tok
  g_SHIP_SHAPE : mg "SHIP_SHAPE" = some (.str (Str.ofString "ship # # # # # # #") t_SHIP_SHAPE)

/-! the mathematics: what is written -/
def lineD (w : Str) (ns : List Int) : Str := Txt.join " " (w :: ns.map nS) ++ "\n"
def Small (ns : List Int) : Prop := ∀ n ∈ ns, 0 ≤ n ∧ n < 1000
def strD : PyData → PyData
  | .int i => .str (nS i)
  | d => d
theorem strs_of (ns : List Int) : (ns.map PyData.int).map strD = (ns.map nS).map PyData.str := by
  rw [List.map_map, List.map_map]
  rfl
theorem line_parts {w : Str} {ns : List Int} (hw : w.length ≤ 10) (hs : Small ns) : ∀ t ∈ w :: ns.map nS, t.length ≤ 10 := by
  intro t ht
  rcases List.mem_cons.mp ht with h | h
  · rw [h]
    exact hw
  · obtain ⟨n, hn, rfl⟩ := List.mem_map.mp h
    have := nS_len (hs n hn).1 (hs n hn).2
    omega
theorem line_len {w : Str} {ns : List Int} (hw : w.length ≤ 10) (hl : ns.length ≤ 20) (hs : Small ns) : (lineD w ns).length ≤ 300 := by
  unfold lineD
  rw [strLen_append]
  have h := join_len (sep := " ") (ts := w :: ns.map nS) (m := 21) (b := 10) (c := 1) (by rw [List.length_cons, List.length_map]; omega) (line_parts hw hs) (by decide)
  have e : ((("\n" : String) : Str)).length = 1 := rfl
  omega
def encH (dp be : List Int) (t p l : Int) : PyData := .tuple [.list (dp.map .int), .list (be.map .int), .int t, .int p, .int l]
def encS (ss : List (List Int)) : PyData := .list (ss.map fun s => .tuple (s.map .int))
structure Port (dp be : List Int) (t p l : Int) (ss : List (List Int)) : Prop where
  ldp : dp.length ≤ 12
  lbe : be.length ≤ 2
  lss : ss.length ≤ 3
  sdp : Small dp
  sbe : Small be
  st : Small [t]
  sp : Small [p]
  sl : Small [l]
  sss : ∀ s ∈ ss, s.length ≤ 7 ∧ Small s
def textD (dp be : List Int) (t p l : Int) (ss : List (List Int)) : Str := Txt.join "" ([lineD "tide" dp, lineD "berths" be, lineD "tugs" [t], lineD "pilots" [p], lineD "last" [l]] ++ ss.map (lineD "ship"))
section
variable {P : Program} {w : World} {K : PySem.W.Frag} {mg : Str → Option Value} {base : Heap} {k : Nat}
/-! the defs -/
theorem ok_draws (T : Tx K mg) : FnOk P w K mg base CX0 (k + 1) T.f__law_draws T.d__law_draws ["script", "count"] (spDraws K) := by
  refine T.F__law_draws.ok sc_law_draws (fun vs H Q E h => ?_) (fun cdv A outer s H vs Q E hr h => ?_)
  · obtain ⟨a, ns, n, rfl, _⟩ := h
    rfl
  obtain ⟨a, ns, n, rfl, hS, hlen, hn, q⟩ := h
  refine ⟨_, (pss_cons (ps_setLc (i := 2) (own := [("cell", 3)]) (g := gName 3) (tt := tYes) rfl sc_law_draws.nd rfl rfl (sw_true rfl rfl rfl (by decide +kernel)) (pi_list (pv 0)) (blkOk_by (N := N__law_draws) (sc := defScope s__law_draws) (by decide +kernel)) (fun _ _ _ _ _ => (pg_name (i := 3) sc_law_draws.nd rfl (.inl rfl))) (fun _ _ _ _ _ => pts_nil) (fun _ _ _ _ _ => (pv 3)))
    (pss_cons (ps_set (i := 4) sc_law_draws.nd rfl (.inl rfl) (pe_lst pa_nil))
    (pss_cons (ps_for PassesOwn.never rfl (pi_range1 (by rfl) T.m_range (pa_cons (pv 1) pa_nil)) (pg_name (i := 5) sc_law_draws.nd rfl (.inl rfl))
      (pss_cons (ps_set (i := 6) sc_law_draws.nd rfl (.inl rfl) pe_int)
      (pss_cons (ps_if (pt_cmpR op_gt (pe_callB call_len_seq (by rfl) T.m_len (by decide +kernel) (pa_cons (pv 2) pa_nil)) pe_int (nomark _)) (pss_cons (ps_set (i := 7) sc_law_draws.nd rfl (.inl rfl) (pe_op op_modN (pe_callTy call_int1 (by rfl) T.m_int (by decide +kernel) (pa_cons (pv 5) pa_nil)) (pe_callB call_len_seq (by rfl) T.m_len (by decide +kernel) (pa_cons (pv 2) pa_nil))))
        (pss_one (ps_if (pt_cmpR op_ge (pe_ix ix_list (pv 2) (pv 7) (fun _ _ => rfl)) (pe_op op_pow pe_int pe_int) (nomark _)) (pss_cons (ps_set (i := 6) sc_law_draws.nd rfl (.inl rfl) (pe_op op_mod (pe_callTy call_int1 (by rfl) T.m_int (by decide +kernel) (pa_cons (pe_ix ix_list (pv 2) (pv 7) (fun _ _ => rfl)) pa_nil)) pe_int))
          (pss_one (ps_asg (pe_op op_fdiv (pe_ix ix_list (pv 2) (pv 7) (fun _ _ => rfl)) pe_int) (pg_sub (pv 2) (pv 7) set_list)))) (pss_cons (ps_set (i := 8) sc_law_draws.nd rfl (.inl rfl) (pe_op op_mod (pe_callTy call_int1 (by rfl) T.m_int (by decide +kernel) (pa_cons (pe_op op_add (pe_op op_add (pe_op op_mul (pe_ix ix_list (pv 2) (pv 7) (fun _ _ => rfl)) pe_int) (pe_op op_mul (pv 5) pe_int)) pe_int) pa_nil)) pe_int))
          (pss_cons (ps_set (i := 8) sc_law_draws.nd rfl (.inl rfl) (pe_op op_mod (pe_callTy call_int1 (by rfl) T.m_int (by decide +kernel) (pa_cons (pe_op op_add (pe_op op_mul (pv 8) pe_int) (pv 7)) pa_nil)) pe_int))
          (pss_one (ps_set (i := 6) sc_law_draws.nd rfl (.inl rfl) (pe_op op_mod (pe_callTy call_int1 (by rfl) T.m_int (by decide +kernel) (pa_cons (pe_op op_fdiv (pv 8) pe_int) pa_nil)) pe_int)))))))) pss_nil)
      (pss_one (ps_expr (pe_bm PySem.F.plainAttrs_list PySem.F.slot_list_append PySem.F.type_list_append mt_append (pv 4) (pa_cons (pv 6) pa_nil)))))))
    (pss_one (ps_ret (pv 4)))))), ?_⟩
  have hz : (ns.map V.int).length = ns.length := List.length_map ..
  -- rests
  refine q_asgL (xs := ns.map V.int) (fun H1 e Q2 q2 => ?_) fun R H1 nR e1 hR => ?_
  · have h1 := el_lcL (K := K) (a := a) (xs := ns.map V.int) (tl := tVar 0) (j := 3) (vs := [3]) (t := tYes) (te := tVar 3) (σ := start N__law_draws [.ref a, .int (n : Int)]) (H := H) (fun _ => true) (fun i => ((ns.map V.int).getD i .non)) (ev_var rfl) hS (by omega) (fun _ => rfl) (fun _ _ _ _ _ => et_yes)
      (fun i x H1 _ hi _ => by
        have hx : (ns.map V.int).getD i .non = x := by rw [List.getD_eq_getElem?_getD, hi]; rfl
        rw [hx]
        exact ev_var rfl)
    have hg : ∀ l : List V, given l.length (fun _ => true) (fun i => l.getD i .non) = l := by
      intro l
      unfold given
      rw [List.filter_eq_self.mpr fun _ _ => rfl]
      apply List.ext_getElem?
      intro i
      rw [List.getElem?_map]
      by_cases hi : i < l.length
      · rw [List.getElem?_range hi, List.getElem?_eq_getElem hi]
        show some (l.getD i .non) = _
        rw [List.getD_eq_getElem?_getD, List.getElem?_eq_getElem hi]
        rfl
      · rw [List.getElem?_eq_none (by rw [List.length_range]; omega), List.getElem?_eq_none (by omega)]
        rfl
    rw [hg] at h1
    exact h1 H1 e Q2 q2
  -- draws
  refine q_asgL (xs := []) (el_lst ea_nil (by decide)) fun L H2 nL e2 hL => ?_
  have nRL : R ≠ L := ne_of_none hR nL
  have nLH : H L = none := fresh_back e1 nL
  -- the loop
  refine q_forR1 (ea_cons (ev_var (v := .int (n : Int)) rfl) ea_nil) (by omega) (WD H a n ns.length R L) ?_ ?_ ?_
  · intro H3 e3
    exact ⟨none, none, none, none, none, ns, [], rfl, (e1.trans e2).trans e3, e3 _ _ (e2 _ _ hR), e3 _ _ hL, rfl, rfl, fun d hd => absurd hd List.not_mem_nil⟩
  · rintro i σ' H' hi ⟨x3, x5, x6, x7, x8, rs, ds, rfl, ex, hR', hL', lr, ld, bd⟩
    have hi' : i < n := by omega
    -- the turn's end
    have fin : ∀ (v : Int) (rs' : List Int) (y7 y8 : Option V) (H3 : Hp) (D : Ends), D.nx = WD H a n ns.length R L (i + 1) → 0 ≤ v → v < 1000 → rs'.length = ns.length → Ex H H3 → H3 R = some (.lst (rs'.map V.int)) → H3 L = some (.lst (ds.map V.int)) →
        tDrop (tBM K "list" rAppend (tVar 4) (tCons (tVar 6) tNil)) D [some (.ref a), some (.int (n : Int)), some (.ref R), x3, some (.ref L), some (.int (i : Int)), some (.int v), y7, y8] H3 := fun v rs' y7 y8 H3 D hD h0 h1 hl' hx hR3 hL3 => by
      refine s_app (xs := ds.map V.int) hL3 (ev_var rfl) (ev_var (v := .int v) rfl) (by rw [List.length_map]; omega) fun H4 e4 => ?_
      rw [hD]
      refine ⟨x3, _, _, y7, y8, rs', ds ++ [v], rfl, Ex.mut (hx.trans e4) nLH, ?_, ?_, hl', ?_, ?_⟩
      · rw [upd_ne nRL]
        exact e4 _ _ hR3
      · rw [upd_same, List.map_append]
        rfl
      · rw [List.length_append, ld]
        rfl
      · intro d hd
        rcases List.mem_append.mp hd with h | h
        · exact bd d h
        · cases List.mem_singleton.mp h
          exact ⟨h0, h1⟩
    refine q_asg ev_c fun H3 e3 => ?_
    refine q_when (et_test (ev_op (ev_len (K := K) (ev_var (v := .ref R) rfl) (sq_of (e3 _ _ hR'))) ev_c rv_I0)) (fun hb H4 e4 => ?_) (fun hb H4 e4 => ?_)
    · have hpos : 0 < rs.length := by
        have := of_decide_eq_true hb
        rw [List.length_map] at this
        omega
      have hR4 : H4 R = some (.lst (rs.map V.int)) := e4 _ _ (e3 _ _ hR')
      have hL4 : H4 L = some (.lst (ds.map V.int)) := e4 _ _ (e3 _ _ hL')
      have x4 : Ex H H4 := (ex.trans e3).trans e4
      have hj : i % rs.length < rs.length := Nat.mod_lt _ hpos
      have em : ((i : Int)).fmod (((rs.map V.int).length : Nat) : Int) = ((i % rs.length : Nat) : Int) := by
        rw [List.length_map, Int.fmod_eq_emod_of_nonneg _ (by omega)]
        rfl
      refine q_asg (v := .int ((i % rs.length : Nat) : Int)) (ev_is (ev_op (ev_toInt (ev_var (v := .int (i : Int)) rfl)) (ev_len (K := K) (ev_var (v := .ref R) rfl) (sq_of hR4)) (rv_I (show (((rs.map V.int).length : Nat) : Int) ≠ 0 by rw [List.length_map]; omega))) (by rw [em])) fun H5 e5 => ?_
      have hR5 := e5 _ _ hR4
      have hL5 := e5 _ _ hL4
      have x5' := x4.trans e5
      have ix : ∀ {σ : L2.St} {G : Hp}, σ[2]? = some (some (.ref R)) → σ[7]? = some (some (.int ((i % rs.length : Nat) : Int))) → G R = some (.lst (rs.map V.int)) → Ev (tOp (rIxL K) (tVar 2) (tVar 7)) σ G (.int rs[i % rs.length]) := fun s1 s2 hg =>
        ev_op (ev_var s1) (ev_var s2) (rv_ixL (sq_of hg) (at_int hj))
      refine s_if (et_test (ev_op (ix rfl rfl hR5) (ev_op ev_c ev_c (rv_I ⟨by decide, by decide, by decide⟩)) rv_I0)) (fun hc H6 e6 => ?_) (fun hc H6 e6 => ?_)
      · have hR6 := e6 _ _ hR5
        refine q_asg (ev_op (ev_toInt (ix rfl rfl hR6)) ev_c (rv_I (show (0 : Int) < 1000 by decide))) fun H7 e7 => ?_
        have hR7 := e7 _ _ hR6
        refine s_setL hR7 (ev_op (ix rfl rfl hR7) ev_c (rv_I (show CDiv _ 1000 from ⟨by decide, by decide⟩))) (ev_var rfl) (ev_var rfl) (by rw [List.length_map]; exact hj) fun H8 e8 => ?_
        have hL8 := e8 _ _ (e7 _ _ (e6 _ _ hL5))
        have nRH : H R = none := nR
        refine fin _ (rs.set (i % rs.length) (rs[i % rs.length] / 1000)) _ _ _ _ rfl (mod1000 _).1 (mod1000 _).2 (by rw [List.length_set]; exact lr) (Ex.mut (((x5'.trans e6).trans e7).trans e8) nRH) ?_ ?_
        · rw [upd_same, List.map_set]
        · rw [upd_ne nRL.symm]
          exact hL8
      · have hR6 := e6 _ _ hR5
        refine q_asg (ev_op (ev_toInt (ev_op (ev_op (ev_op (ix rfl rfl hR6) ev_c (rv_I (.inr ⟨by decide, by decide⟩))) (ev_op (ev_var (v := .int (i : Int)) rfl) ev_c (rv_I (.inr ⟨by decide, by decide⟩))) rv_I0) ev_c rv_I0)) ev_c (rv_I (show (0 : Int) < 2147483647 by decide))) fun H7 e7 => ?_
        refine q_asg (ev_op (ev_toInt (ev_op (ev_op (ev_var rfl) ev_c (rv_I (.inr ⟨by decide, by decide⟩))) (ev_var (v := .int ((i % rs.length : Nat) : Int)) rfl) rv_I0)) ev_c (rv_I (show (0 : Int) < 2147483629 by decide))) fun H8 e8 => ?_
        refine s_asg (ev_op (ev_toInt (ev_op (ev_var rfl) ev_c (rv_I (show CDiv _ 7 from ⟨by decide, by decide⟩)))) ev_c (rv_I (show (0 : Int) < 1000 by decide))) fun H9 e9 => ?_
        have x9 := ((e6.trans e7).trans e8).trans e9
        exact fin _ rs _ _ _ _ rfl (mod1000 _).1 (mod1000 _).2 lr (x5'.trans x9) (x9 _ _ hR5) (x9 _ _ hL5)
    · have x4 := e3.trans e4
      exact fin 0 rs _ _ _ _ rfl (by decide) (by decide) lr (ex.trans x4) (x4 _ _ hR') (x4 _ _ hL')
  · rintro σ' H' ⟨x3, x5, x6, x7, x8, rs, ds, rfl, ex, hR', hL', lr, dr⟩
    refine s_ret (ev_var rfl) fun H3 e3 => ?_
    have dr' : Drawn n ds := by
      have : ((n : Int)).toNat = n := by omega
      rw [this] at dr
      exact dr
    exact q ds L H3 dr' nLH (ex.trans e3) (e3 _ _ hL')

def R_line : List PyData → PyData → Prop := fun ds d => ∃ (w : Str) (ns : List Int) (c : PyData), ds = [.str w, c] ∧ (c = .list (ns.map .int) ∨ c = .tuple (ns.map .int)) ∧ w.length ≤ 10 ∧ ns.length ≤ 20 ∧ Small ns ∧ d = .str (lineD w ns)
theorem ok__line_of (T : Tx K mg) : FnOk P w K mg base CX0 (k + 1) T.f__line_of T.d__line_of ["word", "numbers"] (spF K R_line) := by
  refine T.F__line_of.ok sc_line_of (spF_len ?_) (fun cdv A outer s H vs Q E hr h => ?_)
  · rintro ds d ⟨w, ns, c, rfl, _⟩
    rfl
  obtain ⟨G, ds, d, x, g, ⟨w, ns, c, rfl, hc, hw, hl, hs, rfl⟩, q⟩ := h
  obtain ⟨v0, v1, rfl⟩ : ∃ v0 v1, vs = [v0, v1] := by
    cases g with
    | cons _ g => cases g with
      | cons _ g => cases g; exact ⟨_, _, rfl⟩
  have g0 : Da K G v0 (.str w) := by cases g; assumption
  have g1 : Da K G v1 c := by cases g with | cons _ g => cases g; assumption
  refine ⟨_, (pss_one (ps_ret (pe_op op_add_str (pe_join pe_str (pe_op op_cat (pe_lst (pa_cons (pv 0) pa_nil)) (pe_lc (own := [("number", 2)]) (g := gName 2) (tt := tYes) rfl sc_line_of.nd (pi_seq (pv 1)) (blkOk_by (N := N__line_of) (sc := defScope s__line_of) (by decide +kernel)) (fun _ _ _ _ _ => (pg_name (i := 2) sc_line_of.nd rfl (.inl rfl))) (fun _ _ _ _ _ => pts_nil) (fun _ _ _ _ _ => (pe_callTy call_strX (by rfl) T.m_str (by decide +kernel) (pa_cons (pv 2) pa_nil)))))) pe_str))), ?_⟩
  refine d_ret (ed_adds (ed_join ed_str (fun G1 x1 => ed_is (ed_cat (ed_lst (eda_cons (ed_var rfl (da_ex x1 g0)) fun _ _ => eda_nil) (by show 1 ≤ 100000; decide)) (fun G2 x2 => ed_lcS strD (ed_var rfl (da_ex (x1.trans x2) g1)) hc (by rw [List.length_map]; omega) (fun _ => rfl) ?_) ?_) ?_) ?_) ed_str ?_) x q
  · intro d v G3 hd x3 gd
    obtain ⟨n, hn, rfl⟩ := List.mem_map.mp hd
    exact ed_strI (ed_var rfl gd) (small_log (hs n hn).1 (by have := (hs n hn).2; omega))
  · rw [List.length_map, List.length_map]
    show 1 + ns.length ≤ 100000
    omega
  · rw [strs_of]
    rfl
  · exact Nat.le_trans (join_le (m := 21) (b := 10) (c := 1) (by rw [List.length_cons, List.length_map]; omega) (line_parts hw hs) (by decide)) (by decide)
  · have h := join_len (sep := " ") (ts := w :: ns.map nS) (m := 21) (b := 10) (c := 1) (by rw [List.length_cons, List.length_map]; omega) (line_parts hw hs) (by decide)
    have e : ((("\n" : String) : Str)).length = 1 := rfl
    have e2 : sizeLine = 16777216 := by decide
    rw [e, e2]
    omega
end
end K10

set_option Elab.async false
set_option linter.all false
set_option maxRecDepth 100000
set_option maxHeartbeats 4000000
namespace K10
open PySem PySem.Spec PyProof.Rows L2 Evl Tw
section
variable {P : Program} {w : World} {K : PySem.W.Frag} {mg : Str → Option Value} {base : Heap} {k : Nat}
theorem small1 {i : Int} (h0 : 0 ≤ i) (h1 : i < 1000) : Small [i] := fun n hn => by
  cases List.mem_singleton.mp hn
  exact ⟨h0, h1⟩
def shipLine : PyData → PyData := fun d => .str (lineD "ship" (intsOf d))
theorem ship_lines (ss : List (List Int)) : (ss.map fun s => PyData.tuple (s.map .int)).map shipLine = (ss.map (lineD "ship")).map .str := by
  rw [List.map_map, List.map_map]
  apply List.map_congr_left
  intro s _
  show PyData.str (lineD "ship" (intsOf (.tuple (s.map .int)))) = _
  rw [intsOf_tup]
  rfl
theorem Port.parts {dp be : List Int} {t p l : Int} {ss : List (List Int)} (h : Port dp be t p l ss) : ∀ x ∈ [lineD "tide" dp, lineD "berths" be, lineD "tugs" [t], lineD "pilots" [p], lineD "last" [l]] ++ ss.map (lineD "ship"), x.length ≤ 300 := by
  intro x hx
  rcases List.mem_append.mp hx with hx | hx
  · have h1 := line_len (w := "tide") (by decide) (by have := h.ldp; omega) h.sdp
    have h2 := line_len (w := "berths") (by decide) (by have := h.lbe; omega) h.sbe
    have h3 := line_len (w := "tugs") (ns := [t]) (by decide) (by show 1 ≤ 20; decide) h.st
    have h4 := line_len (w := "pilots") (ns := [p]) (by decide) (by show 1 ≤ 20; decide) h.sp
    have h5 := line_len (w := "last") (ns := [l]) (by decide) (by show 1 ≤ 20; decide) h.sl
    simp only [List.mem_cons, List.not_mem_nil, or_false] at hx
    rcases hx with rfl | rfl | rfl | rfl | rfl <;> assumption
  · obtain ⟨s, hs, rfl⟩ := List.mem_map.mp hx
    exact line_len (by decide) (by have := (h.sss s hs).1; omega) (h.sss s hs).2
theorem Port.fits {dp be : List Int} {t p l : Int} {ss : List (List Int)} (h : Port dp be t p l ss) :
    (([lineD "tide" dp, lineD "berths" be, lineD "tugs" [t], lineD "pilots" [p], lineD "last" [l]] ++ ss.map (lineD "ship")).map (·.length)).sum + ([lineD "tide" dp, lineD "berths" be, lineD "tugs" [t], lineD "pilots" [p], lineD "last" [l]] ++ ss.map (lineD "ship")).length * ("" : Str).length ≤ 16777216 :=
  Nat.le_trans (join_le (m := 8) (b := 300) (c := 0) (by rw [List.length_append, List.length_map]; have := h.lss; show 5 + _ ≤ 8; omega) h.parts (by decide)) (by decide)
def R_write : List PyData → PyData → Prop := fun ds d => ∃ dp be t p l ss, ds = [encH dp be t p l, encS ss] ∧ Port dp be t p l ss ∧ d = .str (textD dp be t p l ss)
theorem ok_write_harbour (T : Tx K mg) : FnOk P w K mg base CX0 (k + 2) T.f_write_harbour T.d_write_harbour ["harbour", "ships"] (spF K R_write) := by
  refine T.F_write_harbour.ok scwrite_harbour (spF_len ?_) (fun cdv A outer s H vs Q E hr h => ?_)
  · rintro ds d ⟨_, _, _, _, _, _, rfl, _⟩
    rfl
  obtain ⟨G, ds, d, x, g, ⟨dp, be, t, p, l, ss, rfl, hp, rfl⟩, q⟩ := h
  obtain ⟨v0, r, rfl, g0, g⟩ := daa_inv g
  obtain ⟨v1, r, rfl, g1, g⟩ := daa_inv g
  cases daa_inv0 g
  refine ⟨_, (pss_cons (ps_asg (pv 0) (pg_tup (by rfl) (pgs_cons (pg_name (i := 2) scwrite_harbour.nd rfl (.inl rfl)) (pgs_cons (pg_name (i := 3) scwrite_harbour.nd rfl (.inl rfl)) (pgs_cons (pg_name (i := 4) scwrite_harbour.nd rfl (.inl rfl)) (pgs_cons (pg_name (i := 5) scwrite_harbour.nd rfl (.inl rfl)) (pgs_cons (pg_name (i := 6) scwrite_harbour.nd rfl (.inl rfl)) pgs_nil)))))))
    (pss_cons (ps_set (i := 7) scwrite_harbour.nd rfl (.inl rfl) (pe_lst (pa_cons (pe_call (ok__line_of T) hr (by rfl) T.g__line_of T.F__line_of.kp T.b__line_of .nil pass0 (pa_cons pe_str (pa_cons (pv 2) pa_nil))) (pa_cons (pe_call (ok__line_of T) hr (by rfl) T.g__line_of T.F__line_of.kp T.b__line_of .nil pass0 (pa_cons pe_str (pa_cons (pv 3) pa_nil))) (pa_cons (pe_call (ok__line_of T) hr (by rfl) T.g__line_of T.F__line_of.kp T.b__line_of .nil pass0 (pa_cons pe_str (pa_cons (pe_lst (pa_cons (pv 4) pa_nil)) pa_nil))) (pa_cons (pe_call (ok__line_of T) hr (by rfl) T.g__line_of T.F__line_of.kp T.b__line_of .nil pass0 (pa_cons pe_str (pa_cons (pe_lst (pa_cons (pv 5) pa_nil)) pa_nil))) (pa_cons (pe_call (ok__line_of T) hr (by rfl) T.g__line_of T.F__line_of.kp T.b__line_of .nil pass0 (pa_cons pe_str (pa_cons (pe_lst (pa_cons (pv 6) pa_nil)) pa_nil))) pa_nil)))))))
    (pss_one (ps_ret (pe_join pe_str (pe_op op_cat (pv 7) (pe_lc (own := [("ship", 8)]) (g := gName 8) (tt := tYes) rfl scwrite_harbour.nd (pi_list (pv 1)) (blkOk_by (N := N_write_harbour) (sc := defScope s_write_harbour) (by decide +kernel)) (fun _ _ _ _ _ => (pg_name (i := 8) scwrite_harbour.nd rfl (.inl rfl))) (fun _ _ _ _ _ => pts_nil) (fun _ _ _ _ _ => (pe_call (ok__line_of T) hr (by rfl) T.g__line_of T.F__line_of.kp T.b__line_of .nil pass0 (pa_cons pe_str (pa_cons (pv 8) pa_nil))))))))))), ?_⟩
  refine d_unp (ed_var rfl g0) x rfl fun vs H1 G1 s1 a => ?_
  obtain ⟨w0, r, rfl, a0, a⟩ := daa_inv a
  obtain ⟨w1, r, rfl, a1, a⟩ := daa_inv a
  obtain ⟨w2, r, rfl, a2, a⟩ := daa_inv a
  obtain ⟨w3, r, rfl, a3, a⟩ := daa_inv a
  obtain ⟨w4, r, rfl, a4, a⟩ := daa_inv a
  cases daa_inv0 a
  refine ⟨_, _, rfl, _, _, rfl, _, _, rfl, _, _, rfl, _, _, rfl, rfl, ?_⟩
  refine d_asg (ed_lst (eda_cons (ed_call (eda_cons ed_str fun G x => eda_cons (ed_var rfl (da_ex x a0)) fun _ _ => eda_nil) ⟨"tide", dp, _, rfl, .inl rfl, by decide, by have := hp.ldp; omega, hp.sdp, rfl⟩) fun G2 x2 =>
    eda_cons (ed_call (eda_cons ed_str fun G x => eda_cons (ed_var rfl (da_ex (x2.trans x) a1)) fun _ _ => eda_nil) ⟨"berths", be, _, rfl, .inl rfl, by decide, by have := hp.lbe; omega, hp.sbe, rfl⟩) fun G3 x3 =>
    eda_cons (ed_call (eda_cons ed_str fun G x => eda_cons (ed_lst (eda_cons (ed_var rfl (da_ex ((x2.trans x3).trans x) a2)) fun _ _ => eda_nil) (by show 1 ≤ 100000; decide)) fun _ _ => eda_nil) ⟨"tugs", [t], _, rfl, .inl rfl, by decide, by show 1 ≤ 20; decide, hp.st, rfl⟩) fun G4 x4 =>
    eda_cons (ed_call (eda_cons ed_str fun G x => eda_cons (ed_lst (eda_cons (ed_var rfl (da_ex (((x2.trans x3).trans x4).trans x) a3)) fun _ _ => eda_nil) (by show 1 ≤ 100000; decide)) fun _ _ => eda_nil) ⟨"pilots", [p], _, rfl, .inl rfl, by decide, by show 1 ≤ 20; decide, hp.sp, rfl⟩) fun G5 x5 =>
    eda_cons (ed_call (eda_cons ed_str fun G x => eda_cons (ed_lst (eda_cons (ed_var rfl (da_ex ((((x2.trans x3).trans x4).trans x5).trans x) a4)) fun _ _ => eda_nil) (by show 1 ≤ 100000; decide)) fun _ _ => eda_nil) ⟨"last", [l], _, rfl, .inl rfl, by decide, by show 1 ≤ 20; decide, hp.sl, rfl⟩) fun G6 x6 => eda_nil) (by show 5 ≤ 100000; decide)) s1.inn fun v2 H2 G2 s2 b => ?_
  refine d_ret (ed_join ed_str (fun G x => ed_is (ed_cat (ed_var rfl (da_ex x b)) (fun G3 x3 => ed_lcL shipLine (ed_var rfl (da_ex ((s1.an.trans s2.an).trans (x.trans x3)) g1)) ?_ (fun _ => rfl) ?_) ?_) ?_) hp.fits) s2.inn fun v H3 G3 s3 c => q v H3 G3 ((s1.trans s2).trans s3) c
  · rw [List.length_map]
    have := hp.lss
    omega
  · intro d v G4 hd x4 gd
    obtain ⟨s, hs, rfl⟩ := List.mem_map.mp hd
    refine ed_call (eda_cons ed_str fun G x => eda_cons (ed_var rfl (da_ex x gd)) fun _ _ => eda_nil) ⟨"ship", s, _, rfl, .inr rfl, by decide, by have := (hp.sss s hs).1; omega, (hp.sss s hs).2, ?_⟩
    show PyData.str (lineD "ship" (intsOf (.tuple (s.map .int)))) = _
    rw [intsOf_tup]
  · rw [List.length_map, List.length_map]
    have := hp.lss
    show 5 + ss.length ≤ 100000
    omega
  · rw [ship_lines, List.map_append]
    rfl
end
end K10

set_option Elab.async false
set_option linter.all false
set_option maxRecDepth 100000
set_option maxHeartbeats 4000000
namespace K10
open PySem PySem.Spec PyProof.Rows L2 Evl Tw
section
variable {P : Program} {w : World} {K : PySem.W.Frag} {mg : Str → Option Value} {base : Heap} {k : Nat}
/-! what is drawn -/
def dps (D : Nat → Int) : List Int := (List.range (1 + D 0 % 12).toNat).map fun i => D (1 + i) % 41
def bes (D : Nat → Int) : List Int := (List.range (1 + D 13 % 2).toNat).map fun i => 1 + D (14 + i) % 9
def shipN (D : Nat → Int) (i : Nat) : List Int := [D (20 + 8 * i + 0) % 21, 1 + D (20 + 8 * i + 1) % 9, D (20 + 8 * i + 2) % 41, 1 + D (20 + 8 * i + 3) % 4, D (20 + 8 * i + 4) % 4, D (20 + 8 * i + 5) % 10, D (20 + 8 * i + 6) % 10]
def sss (D : Nat → Int) : List (List Int) := (List.range (1 + D 19 % 3).toNat).map (shipN D)
def portD (D : Nat → Int) : PyData := .tuple [encH (dps D) (bes D) (D 16 % 7) (1 + D 17 % 3) (1 + D 18 % 40), encS (sss D)]
theorem md {x m : Int} (hm : 0 < m) : 0 ≤ x % m ∧ x % m < m := ⟨Int.emod_nonneg x (by omega), Int.emod_lt_of_pos x hm⟩
theorem small_md {x m : Int} (h0 : 0 < m) (h1 : m ≤ 900) : 0 ≤ x % m ∧ x % m < 1000 := by
  have := md (x := x) h0
  omega
theorem small_md1 {x m : Int} (h0 : 0 < m) (h1 : m ≤ 900) : 0 ≤ 1 + x % m ∧ 1 + x % m < 1000 := by
  have := md (x := x) h0
  omega
theorem port_ok (D : Nat → Int) : Port (dps D) (bes D) (D 16 % 7) (1 + D 17 % 3) (1 + D 18 % 40) (sss D) := by
  constructor
  · unfold dps
    rw [List.length_map, List.length_range]
    have := md (x := D 0) (m := 12) (by decide)
    omega
  · unfold bes
    rw [List.length_map, List.length_range]
    have := md (x := D 13) (m := 2) (by decide)
    omega
  · unfold sss
    rw [List.length_map, List.length_range]
    have := md (x := D 19) (m := 3) (by decide)
    omega
  · intro n hn
    obtain ⟨i, _, rfl⟩ := List.mem_map.mp hn
    exact small_md (by decide) (by decide)
  · intro n hn
    obtain ⟨i, _, rfl⟩ := List.mem_map.mp hn
    exact small_md1 (by decide) (by decide)
  · exact small1 (small_md (by decide) (by decide)).1 (small_md (by decide) (by decide)).2
  · exact small1 (small_md1 (by decide) (by decide)).1 (small_md1 (by decide) (by decide)).2
  · exact small1 (small_md1 (by decide) (by decide)).1 (small_md1 (by decide) (by decide)).2
  · intro s hs
    obtain ⟨i, _, rfl⟩ := List.mem_map.mp hs
    refine ⟨by show 7 ≤ 7; decide, fun n hn => ?_⟩
    simp only [shipN, List.mem_cons, List.not_mem_nil, or_false] at hn
    rcases hn with rfl | rfl | rfl | rfl | rfl | rfl | rfl
    · exact small_md (by decide) (by decide)
    · exact small_md1 (by decide) (by decide)
    · exact small_md (by decide) (by decide)
    · exact small_md1 (by decide) (by decide)
    · exact small_md (by decide) (by decide)
    · exact small_md (by decide) (by decide)
    · exact small_md (by decide) (by decide)
def R_port : List PyData → PyData → Prop := fun ds d => ∃ draws : List Int, Drawn 45 draws ∧ ds = [.list (draws.map .int)] ∧ d = portD fun i => draws.getD i 0
theorem ok__law_port (T : Tx K mg) : FnOk P w K mg base CX0 (k + 1) T.f__law_port T.d__law_port ["draws"] (spF K R_port) := by
  refine T.F__law_port.ok sc_law_port (spF_len ?_) (fun cdv A outer s H vs Q E hr h => ?_)
  · rintro ds d ⟨_, _, rfl, _⟩
    rfl
  obtain ⟨G, ds, d, x, g, ⟨draws, dr, rfl, rfl⟩, q⟩ := h
  obtain ⟨v0, r, rfl, g0, g⟩ := daa_inv g
  cases daa_inv0 g
  generalize hD : (fun i => draws.getD i 0) = D at q
  have ix : ∀ {n : Nat}, n < 45 → (draws.map PyData.int)[n]? = some (.int (D n)) := fun {n} hn => by rw [← hD]; exact dr_ix dr hn
  -- draws[n]
  have at0 : ∀ {σ : L2.St} {G' : Hp} {te : TE} {i : Int} (n : Nat), σ[0]? = some (some v0) → Ex G G' → (∀ G2, Ex G' G2 → ED K te σ G2 (.int i)) → i = (n : Int) → n < 45 → ED K (tOp (rIxL K) (tVar 0) te) σ G' (.int (D n)) := fun n h0 xg hb hi hn =>
    ed_ix (ed_var h0 (da_ex xg g0)) hb hi (ix hn)
  have len : (draws.map PyData.int).length = 45 := by rw [List.length_map]; exact dr.1
  refine ⟨_, (pss_cons (ps_setLc (i := 1) (own := [("k", 2)]) (g := gName 2) (tt := tYes) rfl sc_law_port.nd rfl rfl (sw_true rfl rfl rfl (by decide +kernel)) (pi_range1 (by rfl) T.m_range (pa_cons (pe_op op_add pe_int (pe_op op_mod (pe_callTy call_int1 (by rfl) T.m_int (by decide +kernel) (pa_cons (pe_ix (ixl K) (pv 0) pe_int (fun _ _ => rfl)) pa_nil)) pe_int)) pa_nil)) (blkOk_by (N := N__law_port) (sc := defScope s__law_port) (by decide +kernel)) (fun _ _ _ _ _ => (pg_name (i := 2) sc_law_port.nd rfl (.inl rfl))) (fun _ _ _ _ _ => pts_nil) (fun _ _ _ _ _ => (pe_op op_mod (pe_callTy call_int1 (by rfl) T.m_int (by decide +kernel) (pa_cons (pe_ix (ixl K) (pv 0) (pe_op op_add pe_int (pv 2)) (fun _ _ => rfl)) pa_nil)) pe_int)))
    (pss_cons (ps_setLc (i := 3) (own := [("k", 2)]) (g := gName 2) (tt := tYes) rfl sc_law_port.nd rfl rfl (sw_true rfl rfl rfl (by decide +kernel)) (pi_range1 (by rfl) T.m_range (pa_cons (pe_op op_add pe_int (pe_op op_mod (pe_callTy call_int1 (by rfl) T.m_int (by decide +kernel) (pa_cons (pe_ix (ixl K) (pv 0) pe_int (fun _ _ => rfl)) pa_nil)) pe_int)) pa_nil)) (blkOk_by (N := N__law_port) (sc := defScope s__law_port) (by decide +kernel)) (fun _ _ _ _ _ => (pg_name (i := 2) sc_law_port.nd rfl (.inl rfl))) (fun _ _ _ _ _ => pts_nil) (fun _ _ _ _ _ => (pe_op op_add pe_int (pe_op op_mod (pe_callTy call_int1 (by rfl) T.m_int (by decide +kernel) (pa_cons (pe_ix (ixl K) (pv 0) (pe_op op_add pe_int (pv 2)) (fun _ _ => rfl)) pa_nil)) pe_int))))
    (pss_cons (ps_set (i := 4) sc_law_port.nd rfl (.inl rfl) (pe_lst pa_nil))
    (pss_cons (ps_for PassesOwn.never rfl (pi_range1 (by rfl) T.m_range (pa_cons (pe_op op_add pe_int (pe_op op_mod (pe_callTy call_int1 (by rfl) T.m_int (by decide +kernel) (pa_cons (pe_ix (ixl K) (pv 0) pe_int (fun _ _ => rfl)) pa_nil)) pe_int)) pa_nil)) (pg_name (i := 2) sc_law_port.nd rfl (.inl rfl))
      (pss_cons (ps_set (i := 5) sc_law_port.nd rfl (.inl rfl) (pe_slice (slL K) (pv 0) (po_some (pe_op op_add pe_int (pe_op op_mul pe_int (pv 2)))) (po_some (pe_op op_add pe_int (pe_op op_mul pe_int (pv 2))))))
      (pss_cons (ps_set (i := 6) sc_law_port.nd rfl (.inl rfl) (pe_lst (pa_cons (pe_op op_mod (pe_callTy call_int1 (by rfl) T.m_int (by decide +kernel) (pa_cons (pe_ix (ixl K) (pv 5) pe_int (fun _ _ => rfl)) pa_nil)) pe_int) (pa_cons (pe_op op_add pe_int (pe_op op_mod (pe_callTy call_int1 (by rfl) T.m_int (by decide +kernel) (pa_cons (pe_ix (ixl K) (pv 5) pe_int (fun _ _ => rfl)) pa_nil)) pe_int)) (pa_cons (pe_op op_mod (pe_callTy call_int1 (by rfl) T.m_int (by decide +kernel) (pa_cons (pe_ix (ixl K) (pv 5) pe_int (fun _ _ => rfl)) pa_nil)) pe_int) (pa_cons (pe_op op_add pe_int (pe_op op_mod (pe_callTy call_int1 (by rfl) T.m_int (by decide +kernel) (pa_cons (pe_ix (ixl K) (pv 5) pe_int (fun _ _ => rfl)) pa_nil)) pe_int)) pa_nil))))))
      (pss_one (ps_expr (pe_bm PySem.F.plainAttrs_list PySem.F.slot_list_append PySem.F.type_list_append mt_append (pv 4) (pa_cons (pe_callTy (tupK K) (by rfl) T.m_tuple (by decide +kernel) (pa_cons (pe_op op_cat (pv 6) (pe_lst (pa_cons (pe_op op_mod (pe_callTy call_int1 (by rfl) T.m_int (by decide +kernel) (pa_cons (pe_ix (ixl K) (pv 5) pe_int (fun _ _ => rfl)) pa_nil)) pe_int) (pa_cons (pe_op op_mod (pe_callTy call_int1 (by rfl) T.m_int (by decide +kernel) (pa_cons (pe_ix (ixl K) (pv 5) pe_int (fun _ _ => rfl)) pa_nil)) pe_int) (pa_cons (pe_op op_mod (pe_callTy call_int1 (by rfl) T.m_int (by decide +kernel) (pa_cons (pe_ix (ixl K) (pv 5) pe_int (fun _ _ => rfl)) pa_nil)) pe_int) pa_nil))))) pa_nil)) pa_nil)))))))
    (pss_one (ps_ret (pe_tup (pa_cons (pe_tup (pa_cons (pv 1) (pa_cons (pv 3) (pa_cons (pe_op op_mod (pe_callTy call_int1 (by rfl) T.m_int (by decide +kernel) (pa_cons (pe_ix (ixl K) (pv 0) pe_int (fun _ _ => rfl)) pa_nil)) pe_int) (pa_cons (pe_op op_add pe_int (pe_op op_mod (pe_callTy call_int1 (by rfl) T.m_int (by decide +kernel) (pa_cons (pe_ix (ixl K) (pv 0) pe_int (fun _ _ => rfl)) pa_nil)) pe_int)) (pa_cons (pe_op op_add pe_int (pe_op op_mod (pe_callTy call_int1 (by rfl) T.m_int (by decide +kernel) (pa_cons (pe_ix (ixl K) (pv 0) pe_int (fun _ _ => rfl)) pa_nil)) pe_int)) pa_nil)))))) (pa_cons (pv 4) pa_nil))))))))), ?_⟩
  -- depths
  refine d_asg (ed_lcR (n := 1 + D 0 % 12) (fun i => .int (D (1 + i) % 41)) (ed_add ed_int (ed_mod (ed_toInt (at0 0 rfl (Ex.refl G) (fun _ _ => ed_int) rfl (by decide))) ed_int (by decide))) (by have := md (x := D 0) (m := 12) (by decide); omega) (fun _ => rfl) ?_) x fun v1 H1 G1 s1 a1 => ?_
  · intro i G2 x2 hi
    have := md (x := D 0) (m := 12) (by decide)
    exact ed_mod (ed_toInt (at0 (1 + i) rfl x2 (fun G3 x3 => ed_add ed_int (ed_var rfl (.int (i : Int)))) (by omega) (by omega))) ed_int (by decide)
  -- berths
  refine d_asg (ed_lcR (n := 1 + D 13 % 2) (fun i => .int (1 + D (14 + i) % 9)) (ed_add ed_int (ed_mod (ed_toInt (at0 13 rfl s1.an (fun _ _ => ed_int) rfl (by decide))) ed_int (by decide))) (by have := md (x := D 13) (m := 2) (by decide); omega) (fun _ => rfl) ?_) s1.inn fun v3 H3 G3 s3 a3 => ?_
  · intro i G2 x2 hi
    have := md (x := D 13) (m := 2) (by decide)
    exact ed_add ed_int (ed_mod (ed_toInt (at0 (14 + i) rfl (s1.an.trans x2) (fun G3 x3 => ed_add ed_int (ed_var rfl (.int (i : Int)))) (by omega) (by omega))) ed_int (by decide))
  have S3 := s1.trans s3
  -- ships
  refine d_new S3.inn fun L nL3 gL xL yL => ?_
  · have nLH : H L = none := fresh_back S3.up nL3
    refine d_range (n := 1 + D 19 % 3) (G := G3) (ed_add ed_int (ed_mod (ed_toInt (at0 19 rfl S3.an (fun _ _ => ed_int) rfl (by decide))) ed_int (by decide))) xL (by have := md (x := D 19) (m := 3) (by decide); omega)
      (fun i σ' H' => ∃ x2 x5 x6 xs G', σ' = [some v0, some v1, x2, some v3, some (.ref L), x5, x6] ∧ Sep G H H' G' ∧ Ex G3 G' ∧ G' L = none ∧ H' L = some (.lst xs) ∧ xs.length = i ∧ DaAll K G' xs ((List.range i).map fun j => .tuple ((shipN D j).map .int))) ?_ ?_ ?_
    · intro H4 e4
      exact ⟨_, _, _, [], G3, rfl, ⟨S3.up.trans (yL.trans e4), S3.an, xL.trans e4, S3.sep⟩, Ex.refl _, gL, e4 _ _ upd_same, rfl, .nil⟩
    · rintro i σ' H' hi ⟨x2, x5, x6, xs, G', rfl, S, x3, gL', hL', lx, gx⟩
      have hm := md (x := D 19) (m := 3) (by decide)
      have hi3 : i < 3 := by omega
      -- part
      refine d_asg (ed_cut (lo := some ((20 + 8 * i : Nat) : Int)) (hi := some ((28 + 8 * i : Nat) : Int)) (ed_var rfl (da_ex S.an g0))
        (fun G2 x2 => eo_some (ev_is (ev_int (K := K) (ed_add ed_int (ed_mul ed_int (ed_var (v := .int (i : Int)) rfl (.int (i : Int))) (.inl ⟨by decide, by decide⟩)))) (congrArg V.int (by omega))))
        (fun G2 x2 => eo_some (ev_is (ev_int (K := K) (ed_add ed_int (ed_mul ed_int (ed_var (v := .int (i : Int)) rfl (.int (i : Int))) (.inl ⟨by decide, by decide⟩)))) (congrArg V.int (by omega))))) S.inn fun v5 H5 G5 s5 a5 => ?_
      have pix : ∀ {j : Nat}, j < 7 → (cutD (draws.map PyData.int) (some ((20 + 8 * i : Nat) : Int)) (some ((28 + 8 * i : Nat) : Int)))[j]? = some (.int (D (20 + 8 * i + j))) := fun {j} hj => by
        rw [cut_ix (by omega) (by rw [len]; omega)]
        exact ix (by omega)
      have at5 : ∀ {σ : L2.St} {G' : Hp} {te : TE} {m : Int} (j : Nat), σ[5]? = some (some v5) → Ex G5 G' → (∀ G2, Ex G' G2 → ED K te σ G2 (.int m)) → m = (j : Int) → j < 7 → ED K (tOp (rIxL K) (tVar 5) te) σ G' (.int (D (20 + 8 * i + j))) := fun j h0 xg hb hi hj =>
        ed_ix (ed_var h0 (da_ex xg a5)) hb hi (pix hj)
      -- own
      refine d_asg (ed_lst (eda_cons (ed_mod (ed_toInt (at5 0 rfl (Ex.refl _) (fun _ _ => ed_int) rfl (by decide))) ed_int (by decide)) fun G6 x6 => eda_cons (ed_add ed_int (ed_mod (ed_toInt (at5 1 rfl x6 (fun _ _ => ed_int) rfl (by decide))) ed_int (by decide))) fun G7 x7 =>
        eda_cons (ed_mod (ed_toInt (at5 2 rfl (x6.trans x7) (fun _ _ => ed_int) rfl (by decide))) ed_int (by decide)) fun G8 x8 => eda_cons (ed_add ed_int (ed_mod (ed_toInt (at5 3 rfl ((x6.trans x7).trans x8) (fun _ _ => ed_int) rfl (by decide))) ed_int (by decide))) fun _ _ => eda_nil) (by show 4 ≤ 100000; decide)) s5.inn fun v6 H6 G6 s6 a6 => ?_
      have S6 := (S.trans s5).trans s6
      obtain ⟨o1, o2⟩ := (s5.trans s6).out gL' hL'
      refine d_app1 o1 o2 (daa_ex (s5.an.trans s6.an) gx) rfl (ed_tuple (ed_cat (ed_var rfl a6) (fun G7 x7 => ed_lst (eda_cons (ed_mod (ed_toInt (at5 4 rfl (s6.an.trans x7) (fun _ _ => ed_int) rfl (by decide))) ed_int (by decide)) fun G8 x8 =>
        eda_cons (ed_mod (ed_toInt (at5 5 rfl ((s6.an.trans x7).trans x8) (fun _ _ => ed_int) rfl (by decide))) ed_int (by decide)) fun G9 x9 => eda_cons (ed_mod (ed_toInt (at5 6 rfl (((s6.an.trans x7).trans x8).trans x9) (fun _ _ => ed_int) rfl (by decide))) ed_int (by decide)) fun _ _ => eda_nil) (by show 3 ≤ 100000; decide)) (by show 4 + 3 ≤ 100000; decide))) s6.inn (by omega) ?_
      intro v7 H7 G7 s7 o7 a7 g7 e7
      refine ⟨_, _, _, xs ++ [v7], G7, rfl, (S6.trans s7).mut nLH o7, ((x3.trans s5.an).trans s6.an).trans s7.an, o7, upd_same, by rw [List.length_append, lx]; rfl, ?_⟩
      rw [List.range_succ, List.map_append]
      exact g7
    · rintro σ' H' ⟨x2, x5, x6, xs, G', rfl, S, x3, gL', hL', lx, gx⟩
      obtain ⟨S', aL⟩ := S.seal nLH gL' hL' gx
      have xG : Ex G3 (upd G' L (.lst xs)) := x3.trans (Ex.new gL')
      have b1 := da_ex (s3.an.trans xG) a1
      have b3 := da_ex xG a3
      have xx : Ex G (upd G' L (.lst xs)) := S'.an
      refine d_ret (d := portD D) (ed_is (ed_tup (eda_cons (ed_tup (eda_cons (ed_var rfl b1) fun G4 x4 => eda_cons (ed_var rfl (da_ex x4 b3)) fun G5 x5 =>
        eda_cons (ed_mod (ed_toInt (at0 16 rfl (xx.trans (x4.trans x5)) (fun _ _ => ed_int) rfl (by decide))) ed_int (by decide)) fun G6 x6 =>
        eda_cons (ed_add ed_int (ed_mod (ed_toInt (at0 17 rfl (xx.trans ((x4.trans x5).trans x6)) (fun _ _ => ed_int) rfl (by decide))) ed_int (by decide))) fun G7 x7 =>
        eda_cons (ed_add ed_int (ed_mod (ed_toInt (at0 18 rfl (xx.trans (((x4.trans x5).trans x6).trans x7)) (fun _ _ => ed_int) rfl (by decide))) ed_int (by decide))) fun _ _ => eda_nil) (by show 5 ≤ 100000; decide)) fun G4 x4 => eda_cons (ed_var rfl (da_ex x4 aL)) fun _ _ => eda_nil) (by show 2 ≤ 100000; decide)) ?_) S'.inn fun v H8 G8 s8 a8 => q v H8 G8 (S'.trans s8) a8
      show PyData.tuple _ = PyData.tuple _
      unfold encH encS dps bes sss
      rw [List.map_map, List.map_map, List.map_map]
      rfl
end
end K10

set_option Elab.async false
set_option linter.all false
set_option maxRecDepth 100000
set_option maxHeartbeats 4000000
namespace K10
open PySem PySem.Spec PyProof.Rows L2 Evl Tw
section
variable {P : Program} {w : World} {K : PySem.W.Frag} {mg : Str → Option Value} {base : Heap} {k : Nat}
/-! the law's own lines -/
def mixD (wd : Str) (ns : List Int) : PyData := .list (.str wd :: ns.map .int)
def wordsD (wd : Str) (ns : List Int) : List Str := wd :: ns.map nS
def strsD : PyData → PyData
  | .list ds => .list (ds.map strD)
  | d => d
def foundL (dp be : List Int) (t p l : Int) (ss : List (List Int)) : List (Str × List Int) := [((("tide" : String) : Str), dp), ((("berths" : String) : Str), be), ((("tugs" : String) : Str), [t]), ((("pilots" : String) : Str), [p]), ((("last" : String) : Str), [l])] ++ ss.map fun s => ((("ship" : String) : Str), s)
def shipMix : PyData → PyData := fun d => mixD "ship" (intsOf d)
def linesD (fs : List (Str × List Int)) : PyData := .list (fs.map fun f => .list ((wordsD f.1 f.2).map .str))
theorem Port.found {dp be : List Int} {t p l : Int} {ss : List (List Int)} (h : Port dp be t p l ss) : ∀ f ∈ foundL dp be t p l ss, f.1.length ≤ 10 ∧ f.2.length ≤ 20 ∧ Small f.2 := by
  intro f hf
  rcases List.mem_append.mp hf with hf | hf
  · simp only [List.mem_cons, List.not_mem_nil, or_false] at hf
    rcases hf with rfl | rfl | rfl | rfl | rfl
    · exact ⟨by show (Str.ofString "tide").length ≤ 10; decide, by have := h.ldp; show dp.length ≤ 20; omega, h.sdp⟩
    · exact ⟨by show (Str.ofString "berths").length ≤ 10; decide, by have := h.lbe; show be.length ≤ 20; omega, h.sbe⟩
    · exact ⟨by show (Str.ofString "tugs").length ≤ 10; decide, by show 1 ≤ 20; decide, h.st⟩
    · exact ⟨by show (Str.ofString "pilots").length ≤ 10; decide, by show 1 ≤ 20; decide, h.sp⟩
    · exact ⟨by show (Str.ofString "last").length ≤ 10; decide, by show 1 ≤ 20; decide, h.sl⟩
  · obtain ⟨s, hs, rfl⟩ := List.mem_map.mp hf
    exact ⟨by show (Str.ofString "ship").length ≤ 10; decide, by have := (h.sss s hs).1; show s.length ≤ 20; omega, (h.sss s hs).2⟩
theorem found_len {dp be : List Int} {t p l : Int} {ss : List (List Int)} (h : Port dp be t p l ss) : (foundL dp be t p l ss).length ≤ 8 := by
  unfold foundL
  rw [List.length_append, List.length_map]
  have := h.lss
  show 5 + ss.length ≤ 8
  omega
def R_lines : List PyData → PyData → Prop := fun ds d => ∃ dp be t p l ss, ds = [encH dp be t p l, encS ss] ∧ Port dp be t p l ss ∧ d = linesD (foundL dp be t p l ss)
theorem ok__law_lines (T : Tx K mg) : FnOk P w K mg base CX0 (k + 1) T.f__law_lines T.d__law_lines ["harbour", "ships"] (spF K R_lines) := by
  refine T.F__law_lines.ok sc_law_lines (spF_len ?_) (fun cdv A outer s H vs Q E hr h => ?_)
  · rintro ds d ⟨_, _, _, _, _, _, rfl, _⟩
    rfl
  obtain ⟨G, ds, d, x, g, ⟨dp, be, t, p, l, ss, rfl, hp, rfl⟩, q⟩ := h
  obtain ⟨v0, r, rfl, g0, g⟩ := daa_inv g
  obtain ⟨v1, r, rfl, g1, g⟩ := daa_inv g
  cases daa_inv0 g
  refine ⟨_, (pss_cons (ps_asg (pv 0) (pg_tup (by rfl) (pgs_cons (pg_name (i := 2) sc_law_lines.nd rfl (.inl rfl)) (pgs_cons (pg_name (i := 3) sc_law_lines.nd rfl (.inl rfl)) (pgs_cons (pg_name (i := 4) sc_law_lines.nd rfl (.inl rfl)) (pgs_cons (pg_name (i := 5) sc_law_lines.nd rfl (.inl rfl)) (pgs_cons (pg_name (i := 6) sc_law_lines.nd rfl (.inl rfl)) pgs_nil)))))))
    (pss_cons (ps_set (i := 7) sc_law_lines.nd rfl (.inl rfl) (pe_lst (pa_cons (pe_op op_cat (pe_lst (pa_cons pe_str pa_nil)) (pv 2)) (pa_cons (pe_op op_cat (pe_lst (pa_cons pe_str pa_nil)) (pv 3)) (pa_cons (pe_lst (pa_cons pe_str (pa_cons (pv 4) pa_nil))) (pa_cons (pe_lst (pa_cons pe_str (pa_cons (pv 5) pa_nil))) (pa_cons (pe_lst (pa_cons pe_str (pa_cons (pv 6) pa_nil))) pa_nil)))))))
    (pss_cons (ps_set (i := 7) sc_law_lines.nd rfl (.inl rfl) (pe_op op_cat (pv 7) (pe_lc (own := [("ship", 9)]) (g := gName 9) (tt := tYes) rfl sc_law_lines.nd (pi_listK K (pv 1)) (blkOk_by (N := N__law_lines) (sc := defScope s__law_lines) (by decide +kernel)) (fun _ _ _ _ _ => (pg_name (i := 9) sc_law_lines.nd rfl (.inl rfl))) (fun _ _ _ _ _ => pts_nil) (fun _ _ _ _ _ => (pe_op op_cat (pe_lst (pa_cons pe_str pa_nil)) (pe_lc (own := [("number", 8)]) (g := gName 8) (tt := tYes) rfl sc_law_lines.nd (pi_tupK K (pv 9)) (blkOk_by (by kernel_rfl)) (fun _ _ _ _ _ => (pg_name (i := 8) sc_law_lines.nd rfl (.inl rfl))) (fun _ _ _ _ _ => pts_nil) (fun _ _ _ _ _ => (pv 8))))))))
    (pss_one (ps_ret (pe_lc (own := [("words", 11)]) (g := gName 11) (tt := tYes) rfl sc_law_lines.nd (pi_listK K (pv 7)) (blkOk_by (N := N__law_lines) (sc := defScope s__law_lines) (by decide +kernel)) (fun _ _ _ _ _ => (pg_name (i := 11) sc_law_lines.nd rfl (.inl rfl))) (fun _ _ _ _ _ => pts_nil) (fun _ _ _ _ _ => (pe_lc (own := [("word", 10)]) (g := gName 10) (tt := tYes) rfl sc_law_lines.nd (pi_listK K (pv 11)) (blkOk_by (by kernel_rfl)) (fun _ _ _ _ _ => (pg_name (i := 10) sc_law_lines.nd rfl (.inl rfl))) (fun _ _ _ _ _ => pts_nil) (fun _ _ _ _ _ => (pe_callTy call_strX (by rfl) T.m_str (by decide +kernel) (pa_cons (pv 10) pa_nil))))))))))), ?_⟩
  refine d_unp (ed_var rfl g0) x rfl fun vs H1 G1 s1 a => ?_
  obtain ⟨w0, r, rfl, a0, a⟩ := daa_inv a
  obtain ⟨w1, r, rfl, a1, a⟩ := daa_inv a
  obtain ⟨w2, r, rfl, a2, a⟩ := daa_inv a
  obtain ⟨w3, r, rfl, a3, a⟩ := daa_inv a
  obtain ⟨w4, r, rfl, a4, a⟩ := daa_inv a
  cases daa_inv0 a
  refine ⟨_, _, rfl, _, _, rfl, _, _, rfl, _, _, rfl, _, _, rfl, rfl, ?_⟩
  have one : ∀ (wd : Str) (G : Hp) (σ : L2.St), ED K (tLst (tCons (tC (.str wd)) tNil)) σ G (.list [.str wd]) := fun wd G σ => ed_lst (eda_cons ed_str fun _ _ => eda_nil) (by show 1 ≤ 100000; decide)
  refine d_asg (ed_lst (eda_cons (ed_cat (one _ _ _) (fun G x => ed_var rfl (da_ex x a0)) (by rw [List.length_map]; have := hp.ldp; show 1 + dp.length ≤ 100000; omega)) fun G2 x2 =>
    eda_cons (ed_cat (one _ _ _) (fun G x => ed_var rfl (da_ex (x2.trans x) a1)) (by rw [List.length_map]; have := hp.lbe; show 1 + be.length ≤ 100000; omega)) fun G3 x3 =>
    eda_cons (ed_lst (eda_cons ed_str fun G x => eda_cons (ed_var rfl (da_ex ((x2.trans x3).trans x) a2)) fun _ _ => eda_nil) (by show 2 ≤ 100000; decide)) fun G4 x4 =>
    eda_cons (ed_lst (eda_cons ed_str fun G x => eda_cons (ed_var rfl (da_ex (((x2.trans x3).trans x4).trans x) a3)) fun _ _ => eda_nil) (by show 2 ≤ 100000; decide)) fun G5 x5 =>
    eda_cons (ed_lst (eda_cons ed_str fun G x => eda_cons (ed_var rfl (da_ex ((((x2.trans x3).trans x4).trans x5).trans x) a4)) fun _ _ => eda_nil) (by show 2 ≤ 100000; decide)) fun G6 x6 => eda_nil) (by show 5 ≤ 100000; decide)) s1.inn fun v2 H2 G2 s2 b => ?_
  refine d_asg (ed_is (e := .list ((foundL dp be t p l ss).map fun f => mixD f.1 f.2)) (ed_cat (ed_var rfl b) (fun G3 x3 => ed_lcL shipMix (ed_var rfl (da_ex ((s1.an.trans s2.an).trans x3) g1)) ?_ (fun _ => rfl) ?_) ?_) ?_) s2.inn fun v3 H3 G3 s3 c => ?_
  · rw [List.length_map]
    have := hp.lss
    omega
  · intro d v G4 hd x4 gd
    obtain ⟨s, hs, rfl⟩ := List.mem_map.mp hd
    refine ed_is (ed_cat (one _ _ _) (fun G5 x5 => ed_lcT (fun d => d) (ed_var rfl (da_ex x5 gd)) ?_ (fun _ => rfl) ?_) ?_) ?_
    · rw [List.length_map]
      have := (hp.sss s hs).1
      omega
    · intro d v G6 _ x6 g6
      exact ed_var rfl g6
    · rw [List.length_map, List.length_map]
      have := (hp.sss s hs).1
      show 1 + s.length ≤ 100000
      omega
    · show PyData.list _ = mixD "ship" (intsOf (.tuple (s.map .int)))
      rw [intsOf_tup, List.map_id']
      rfl
  · rw [List.length_map, List.length_map]
    have := hp.lss
    show 5 + ss.length ≤ 100000
    omega
  · unfold foundL
    rw [List.map_append, List.map_map, List.map_map]
    congr 2
    apply List.map_congr_left
    intro s _
    show mixD "ship" (intsOf (.tuple (s.map .int))) = mixD "ship" s
    rw [intsOf_tup]
  refine d_ret (ed_is (ed_lcL strsD (ed_var rfl c) ?_ (fun _ => rfl) ?_) ?_) s3.inn fun v H4 G4 s4 c4 => q v H4 G4 (((s1.trans s2).trans s3).trans s4) c4
  · rw [List.length_map]
    have := found_len hp
    omega
  · intro d v G4 hd x4 gd
    obtain ⟨f, hf, rfl⟩ := List.mem_map.mp hd
    obtain ⟨_, f2, f3⟩ := hp.found f hf
    refine ed_lcL strD (ed_var rfl gd) ?_ (fun _ => rfl) ?_
    · rw [List.length_cons, List.length_map]
      omega
    · intro d v G5 hd x5 g5
      rcases List.mem_cons.mp hd with rfl | hd
      · exact ed_strS (ed_var rfl g5)
      · obtain ⟨n, hn, rfl⟩ := List.mem_map.mp hd
        exact ed_strI (ed_var rfl g5) (small_log (f3 n hn).1 (by have := (f3 n hn).2; omega))
  · show PyData.list _ = PyData.list _
    rw [List.map_map]
    congr 1
    apply List.map_congr_left
    intro f _
    show PyData.list ((PyData.str f.1 :: f.2.map .int).map strD) = PyData.list ((f.1 :: f.2.map nS).map .str)
    rw [List.map_cons, List.map_cons, strs_of]
    rfl
def strsOf : PyData → List Str
  | .list ds => ds.filterMap fun d => match d with | .str i => some i | _ => none
  | _ => []
theorem strsOf_lst (s : List Str) : strsOf (.list (s.map .str)) = s := by
  show (s.map PyData.str).filterMap (fun d => match d with | .str i => some i | _ => none) = s
  induction s with
  | nil => rfl
  | cons a r ih =>
    rw [List.map_cons, List.filterMap_cons]
    show a :: _ = _
    rw [ih]
def R_text : List PyData → PyData → Prop := fun ds d => ∃ fs : List (Str × List Int), ds = [linesD fs] ∧ fs.length ≤ 8 ∧ (∀ f ∈ fs, f.1.length ≤ 10 ∧ f.2.length ≤ 20 ∧ Small f.2) ∧ d = .str (Txt.join "" (fs.map fun f => lineD f.1 f.2))
theorem ok__law_text (T : Tx K mg) : FnOk P w K mg base CX0 (k + 1) T.f__law_text T.d__law_text ["lines"] (spF K R_text) := by
  refine T.F__law_text.ok sc_law_text (spF_len ?_) (fun cdv A outer s H vs Q E hr h => ?_)
  · rintro ds d ⟨_, rfl, _⟩
    rfl
  obtain ⟨G, ds, d, x, g, ⟨fs, rfl, hl, hf, rfl⟩, q⟩ := h
  obtain ⟨v0, r, rfl, g0, g⟩ := daa_inv g
  cases daa_inv0 g
  refine ⟨_, (pss_one (ps_ret (pe_joinK K pe_str (pe_lc (own := [("words", 1)]) (g := gName 1) (tt := tYes) rfl sc_law_text.nd (pi_listK K (pv 0)) (blkOk_by (N := N__law_text) (sc := defScope s__law_text) (by decide +kernel)) (fun _ _ _ _ _ => (pg_name (i := 1) sc_law_text.nd rfl (.inl rfl))) (fun _ _ _ _ _ => pts_nil) (fun _ _ _ _ _ => (pe_op op_add_str (pe_joinK K pe_str (pv 1)) pe_str)))))), ?_⟩
  refine d_ret (ed_join ed_str (fun G1 x1 => ed_is (ed_lcL (fun d => .str (Txt.join " " (strsOf d) ++ "\n")) (ed_var rfl (da_ex x1 g0)) ?_ (fun _ => rfl) ?_) ?_) ?_) x q
  · rw [List.length_map]
    omega
  · intro d v G4 hd x4 gd
    obtain ⟨f, hm, rfl⟩ := List.mem_map.mp hd
    obtain ⟨f1, f2, f3⟩ := hf f hm
    have e1 : strsOf (.list ((wordsD f.1 f.2).map .str)) = wordsD f.1 f.2 := strsOf_lst _
    rw [e1]
    refine ed_adds (ed_join ed_str (fun G5 x5 => ed_var rfl (da_ex x5 gd)) ?_) ed_str ?_
    · exact Nat.le_trans (join_le (m := 21) (b := 10) (c := 1) (by show (f.1 :: f.2.map nS).length ≤ 21; rw [List.length_cons, List.length_map]; omega) (line_parts f1 f3) (by decide)) (by decide)
    · have h := join_len (sep := " ") (ts := wordsD f.1 f.2) (m := 21) (b := 10) (c := 1) (by show (f.1 :: f.2.map nS).length ≤ 21; rw [List.length_cons, List.length_map]; omega) (line_parts f1 f3) (by decide)
      have e : ((("\n" : String) : Str)).length = 1 := rfl
      have e2 : sizeLine = 16777216 := by decide
      rw [e, e2]
      omega
  · rw [List.map_map]
    show PyData.list (fs.map fun f => PyData.str (Txt.join " " (strsOf (.list ((wordsD f.1 f.2).map .str))) ++ "\n")) = PyData.list ((fs.map fun f => lineD f.1 f.2).map .str)
    rw [List.map_map]
    congr 1
    apply List.map_congr_left
    intro f _
    rw [strsOf_lst]
    rfl
  · refine Nat.le_trans (join_le (m := 8) (b := 300) (c := 0) (by rw [List.length_map]; exact hl) (fun t ht => ?_) (by decide)) (by decide)
    obtain ⟨f, hm, rfl⟩ := List.mem_map.mp ht
    obtain ⟨f1, f2, f3⟩ := hf f hm
    exact line_len f1 f2 f3
end
end K10

set_option Elab.async false
set_option linter.all false
set_option maxRecDepth 100000
set_option maxHeartbeats 4000000
namespace K10
open PySem PySem.Spec PyProof.Rows L2 Evl Tw
section
variable {P : Program} {w : World} {K : PySem.W.Frag} {mg : Str → Option Value} {base : Heap} {k : Nat}
/-! the checks of good things -/
def R_within : List PyData → PyData → Prop := fun ds d => ∃ v lo hi : Int, ds = [.int v, .int lo, .int hi] ∧ d = .bool (decide (lo ≤ v) && decide (v ≤ hi))
theorem ok_is_within (T : Tx K mg) : FnOk P w K mg base CX0 (k + 1) T.f_is_within T.d_is_within ["value", "least", "most"] (spF K R_within) := by
  refine T.F_is_within.ok scis_within (spF_len ?_) (fun cdv A outer s H vs Q E hr h => ?_)
  · rintro ds d ⟨_, _, _, rfl, _⟩
    rfl
  obtain ⟨G, ds, d, x, g, ⟨v, lo, hi, rfl, rfl⟩, q⟩ := h
  obtain ⟨v0, r, rfl, g0, g⟩ := daa_inv g
  obtain ⟨v1, r, rfl, g1, g⟩ := daa_inv g
  obtain ⟨v2, r, rfl, g2, g⟩ := daa_inv g
  cases daa_inv0 g
  refine ⟨_, (pss_cons (ps_if (PW.pt (pw_or (pt_val (pe_callB (isiK K) (by rfl) T.m_isinstance (by decide +kernel) (pa_cons (pv 0) (pa_cons (pe_bltn (v := .ty "bool") (by rfl) T.m_bool (by decide +kernel) rfl) pa_nil)))) (pw_or1 (pt_not (pt_val (pe_callB (isiK K) (by rfl) T.m_isinstance (by decide +kernel) (pa_cons (pv 0) (pa_cons (pe_bltn (v := .ty "int") (by rfl) T.m_int (by decide +kernel) rfl) pa_nil)))))))) (pss_one (ps_ret pe_bl)) pss_nil)
    (pss_one (ps_ret (pe_chain op_le op_le (pv 1) (pv 0) (pv 2))))), ?_⟩
  refine d_if (b := false) (et_or (et_bool (ed_isi (b := false) (ed_var rfl g0) (show kitB "int" "bool" = _ by decide +kernel))) fun _ => et_not (et_bool (ed_isi (b := true) (ed_var rfl g0) (show kitB "int" "int" = _ by decide +kernel)))) x (fun hb => nomatch hb) fun _ H1 e1 => ?_
  exact d_ret (ed_chain0 (ed_var rfl g1) (ed_var rfl g0) (ed_var rfl g2)) (x.trans e1) fun v' H2 G2 s2 a2 => q v' H2 G2 (s2.back e1) a2
def R_check : List PyData → PyData → Prop := fun ds d => ∃ v lo hi : Int, ds = [.int v, .int lo, .int hi] ∧ lo ≤ v ∧ v ≤ hi ∧ d = .none
theorem ok__check_number (T : Tx K mg) : FnOk P w K mg base CX0 (k + 2) T.f__check_number T.d__check_number ["value", "least", "most"] (spF K R_check) := by
  refine T.F__check_number.ok sc_check_number (spF_len ?_) (fun cdv A outer s H vs Q E hr h => ?_)
  · rintro ds d ⟨_, _, _, rfl, _⟩
    rfl
  obtain ⟨G, ds, d, x, g, ⟨v, lo, hi, rfl, h1, h2, rfl⟩, q⟩ := h
  obtain ⟨v0, r, rfl, g0, g⟩ := daa_inv g
  obtain ⟨v1, r, rfl, g1, g⟩ := daa_inv g
  obtain ⟨v2, r, rfl, g2, g⟩ := daa_inv g
  cases daa_inv0 g
  refine ⟨_, (pss_one (ps_if (pt_not (pt_val (pe_call (ok_is_within T) hr (by rfl) T.g_is_within T.F_is_within.kp T.b_is_within .nil pass0 (pa_cons (pv 0) (pa_cons (pv 1) (pa_cons (pv 2) pa_nil)))))) (pss_one ps_never) pss_nil)), ?_⟩
  refine d_if1 (b := false) (et_is (et_not (et_bool (ed_call (eda_cons (ed_var rfl g0) fun G x => eda_cons (ed_var rfl (da_ex x g1)) fun G2 x2 => eda_cons (ed_var rfl (da_ex (x.trans x2) g2)) fun _ _ => eda_nil) ⟨v, lo, hi, rfl, rfl⟩))) ?_) x (fun hb => nomatch hb) fun _ H1 e1 => ?_
  · rw [decide_eq_true h1, decide_eq_true h2]
    rfl
  · exact q .non H1 G (Sep.stay x e1) .non
def R_clist : List PyData → PyData → Prop := fun ds d => ∃ (ns : List Int) (m lo hi : Int), ds = [.list (ns.map .int), .int m, .int lo, .int hi] ∧ 1 ≤ ns.length ∧ (ns.length : Int) ≤ m ∧ (∀ n ∈ ns, lo ≤ n ∧ n ≤ hi) ∧ d = .none
theorem ok__check_list (T : Tx K mg) : FnOk P w K mg base CX0 (k + 3) T.f__check_list T.d__check_list ["values", "longest", "least", "most"] (spF K R_clist) := by
  refine T.F__check_list.ok sc_check_list (spF_len ?_) (fun cdv A outer s H vs Q E hr h => ?_)
  · rintro ds d ⟨_, _, _, _, rfl, _⟩
    rfl
  obtain ⟨G, ds, d, x, g, ⟨ns, m, lo, hi, rfl, h1, h2, h3, rfl⟩, q⟩ := h
  obtain ⟨v0, r, rfl, g0, g⟩ := daa_inv g
  obtain ⟨v1, r, rfl, g1, g⟩ := daa_inv g
  obtain ⟨v2, r, rfl, g2, g⟩ := daa_inv g
  obtain ⟨v3, r, rfl, g3, g⟩ := daa_inv g
  cases daa_inv0 g
  refine ⟨_, (pss_cons (ps_if (pt_not (pt_chain op_le op_le pe_int (pe_callB call_len_seq (by rfl) T.m_len (by decide +kernel) (pa_cons (pv 0) pa_nil)) (pv 1))) (pss_one ps_never) pss_nil)
    (pss_one (ps_for PassesOwn.never rfl (pi_list (pv 0)) (pg_name (i := 4) sc_check_list.nd rfl (.inl rfl))
      (pss_one (ps_expr (pe_call (ok__check_number T) hr (by rfl) T.g__check_number T.F__check_number.kp T.b__check_number .nil pass0 (pa_cons (pv 4) (pa_cons (pv 2) (pa_cons (pv 3) pa_nil))))))))), ?_⟩
  refine d_if (b := false) (et_is (et_not (et_chain0 ed_int (ed_len (ed_var rfl g0)) (ed_var rfl g1))) ?_) x (fun hb => nomatch hb) fun _ H1 e1 => ?_
  · rw [decide_eq_true (by rw [List.length_map]; omega), decide_eq_true (by rw [List.length_map]; omega)]
    rfl
  refine d_for1 (K := K) (i := 0) rfl g0 (x.trans e1) (fun i σ' H' => ∃ x4, σ' = [some v0, some v1, some v2, some v3, x4] ∧ Ex H H') ⟨_, rfl, e1⟩ (fun i σ' H' p => by
    obtain ⟨_, _, e⟩ := p
    exact x.trans e) (fun i w' d' σ' H' hd gd p => ?_) fun σ' H' p => ?_
  · obtain ⟨x4, rfl, e⟩ := p
    rw [List.getElem?_map] at hd
    obtain ⟨n, hn, rfl⟩ := Option.map_eq_some_iff.mp hd
    obtain ⟨b1, b2⟩ := h3 n (List.mem_of_getElem? hn)
    refine d_drop1 (ed_call (eda_cons (ed_var rfl gd) fun G x => eda_cons (ed_var rfl (da_ex x g2)) fun G2 x2 => eda_cons (ed_var rfl (da_ex (x.trans x2) g3)) fun _ _ => eda_nil) ⟨n, lo, hi, rfl, b1, b2, rfl⟩) (x.trans e) fun H2 e2 => ?_
    exact ⟨_, rfl, e.trans e2⟩
  · obtain ⟨x4, rfl, e⟩ := p
    exact q .non H' G (Sep.stay x e) .non
/-- a harbour and ships that may be handed in -/
def bnds : List (Int × Int) := [(0, 20), (1, 9), (0, 40), (1, 4), (0, 3), (0, 9), (0, 9)]
structure PortB (dp be : List Int) (t p l : Int) (ss : List (List Int)) : Prop where
  d0 : 1 ≤ dp.length
  d1 : dp.length ≤ 12
  d2 : ∀ n ∈ dp, 0 ≤ n ∧ n ≤ 40
  b0 : 1 ≤ be.length
  b1 : be.length ≤ 2
  b2 : ∀ n ∈ be, 1 ≤ n ∧ n ≤ 9
  t0 : 0 ≤ t ∧ t ≤ 6
  p0 : 1 ≤ p ∧ p ≤ 3
  l0 : 1 ≤ l ∧ l ≤ 40
  s0 : 1 ≤ ss.length
  s1 : ss.length ≤ 3
  s2 : ∀ s ∈ ss, s.length = 7 ∧ ∀ (i : Nat) (n lo hi : Int), s[i]? = some n → bnds[i]? = some (lo, hi) → lo ≤ n ∧ n ≤ hi
def R_charb : List PyData → PyData → Prop := fun ds d => ∃ dp be t p l ss, ds = [encH dp be t p l] ∧ PortB dp be t p l ss ∧ d = .none
theorem ok_check_harbour (T : Tx K mg) : FnOk P w K mg base CX0 (k + 4) T.f_check_harbour T.d_check_harbour ["harbour"] (spF K R_charb) := by
  refine T.F_check_harbour.ok sccheck_harbour (spF_len ?_) (fun cdv A outer s H vs Q E hr h => ?_)
  · rintro ds d ⟨_, _, _, _, _, _, rfl, _⟩
    rfl
  obtain ⟨G, ds, d, x, g, ⟨dp, be, t, p, l, ss, rfl, B, rfl⟩, q⟩ := h
  obtain ⟨v0, r, rfl, g0, g⟩ := daa_inv g
  cases daa_inv0 g
  refine ⟨_, (pss_cons (ps_asg (pv 0) (pg_tup (by rfl) (pgs_cons (pg_name (i := 1) sccheck_harbour.nd rfl (.inl rfl)) (pgs_cons (pg_name (i := 2) sccheck_harbour.nd rfl (.inl rfl)) (pgs_cons (pg_name (i := 3) sccheck_harbour.nd rfl (.inl rfl)) (pgs_cons (pg_name (i := 4) sccheck_harbour.nd rfl (.inl rfl)) (pgs_cons (pg_name (i := 5) sccheck_harbour.nd rfl (.inl rfl)) pgs_nil)))))))
    (pss_cons (ps_expr (pe_call (ok__check_list T) hr (by rfl) T.g__check_list T.F__check_list.kp T.b__check_list .nil pass0 (pa_cons (pv 1) (pa_cons pe_int (pa_cons pe_int (pa_cons pe_int pa_nil))))))
    (pss_cons (ps_expr (pe_call (ok__check_list T) hr (by rfl) T.g__check_list T.F__check_list.kp T.b__check_list .nil pass0 (pa_cons (pv 2) (pa_cons pe_int (pa_cons pe_int (pa_cons pe_int pa_nil))))))
    (pss_cons (ps_expr (pe_call (ok__check_number T) hr (by rfl) T.g__check_number T.F__check_number.kp T.b__check_number .nil pass0 (pa_cons (pv 3) (pa_cons pe_int (pa_cons pe_int pa_nil)))))
    (pss_cons (ps_expr (pe_call (ok__check_number T) hr (by rfl) T.g__check_number T.F__check_number.kp T.b__check_number .nil pass0 (pa_cons (pv 4) (pa_cons pe_int (pa_cons pe_int pa_nil)))))
    (pss_one (ps_expr (pe_call (ok__check_number T) hr (by rfl) T.g__check_number T.F__check_number.kp T.b__check_number .nil pass0 (pa_cons (pv 5) (pa_cons pe_int (pa_cons pe_int pa_nil))))))))))), ?_⟩
  refine d_unp (ed_var rfl g0) x rfl fun vs H1 G1 s1 a => ?_
  obtain ⟨w0, r, rfl, a0, a⟩ := daa_inv a
  obtain ⟨w1, r, rfl, a1, a⟩ := daa_inv a
  obtain ⟨w2, r, rfl, a2, a⟩ := daa_inv a
  obtain ⟨w3, r, rfl, a3, a⟩ := daa_inv a
  obtain ⟨w4, r, rfl, a4, a⟩ := daa_inv a
  cases daa_inv0 a
  refine ⟨_, _, rfl, _, _, rfl, _, _, rfl, _, _, rfl, _, _, rfl, rfl, ?_⟩
  have d1 := B.d1
  have b1 := B.b1
  refine d_drop (ed_call (eda_cons (ed_var rfl a0) fun G x => eda_cons ed_int fun _ _ => eda_cons ed_int fun _ _ => eda_cons ed_int fun _ _ => eda_nil) ⟨dp, 12, 0, 40, rfl, B.d0, by omega, B.d2, rfl⟩) s1.inn fun H2 e2 => ?_
  refine d_drop (ed_call (eda_cons (ed_var rfl a1) fun G x => eda_cons ed_int fun _ _ => eda_cons ed_int fun _ _ => eda_cons ed_int fun _ _ => eda_nil) ⟨be, 2, 1, 9, rfl, B.b0, by omega, B.b2, rfl⟩) (s1.inn.trans e2) fun H3 e3 => ?_
  refine d_drop (ed_call (eda_cons (ed_var rfl a2) fun G x => eda_cons ed_int fun _ _ => eda_cons ed_int fun _ _ => eda_nil) ⟨t, 0, 6, rfl, B.t0.1, B.t0.2, rfl⟩) ((s1.inn.trans e2).trans e3) fun H4 e4 => ?_
  refine d_drop (ed_call (eda_cons (ed_var rfl a3) fun G x => eda_cons ed_int fun _ _ => eda_cons ed_int fun _ _ => eda_nil) ⟨p, 1, 3, rfl, B.p0.1, B.p0.2, rfl⟩) (((s1.inn.trans e2).trans e3).trans e4) fun H5 e5 => ?_
  refine d_drop1 (ed_call (eda_cons (ed_var rfl a4) fun G x => eda_cons ed_int fun _ _ => eda_cons ed_int fun _ _ => eda_nil) ⟨l, 1, 40, rfl, B.l0.1, B.l0.2, rfl⟩) ((((s1.inn.trans e2).trans e3).trans e4).trans e5) fun H6 e6 => ?_
  exact q .non H6 G (Sep.stay x (((((s1.up.trans e2).trans e3).trans e4).trans e5).trans e6)) .non
def R_isship : List PyData → PyData → Prop := fun ds d => ∃ s : List Int, ds = [.tuple (s.map .int)] ∧ s.length = 7 ∧ (∀ (i : Nat) (n lo hi : Int), s[i]? = some n → bnds[i]? = some (lo, hi) → lo ≤ n ∧ n ≤ hi) ∧ d = .bool true
theorem Tx.bounds (T : Tx K mg) {H : Hp} : Da K H (.ref T.a_SHIP_BOUNDS) (.tuple (bnds.map fun b => .tuple [.int b.1, .int b.2])) := by
  have one : ∀ {a : Addr} {i j : Int}, TupK K a [.int i, .int j] → Da K H (.ref a) (.tuple [.int i, .int j]) := fun h => .tup h.st (.cons (.int _) (.cons (.int _) .nil))
  exact .tup T.k_SHIP_BOUNDS.st (.cons (one T.k0_SHIP_BOUNDS) (.cons (one T.k1_SHIP_BOUNDS) (.cons (one T.k2_SHIP_BOUNDS) (.cons (one T.k3_SHIP_BOUNDS) (.cons (one T.k4_SHIP_BOUNDS) (.cons (one T.k5_SHIP_BOUNDS) (.cons (one T.k6_SHIP_BOUNDS) .nil)))))))
theorem ok_is_ship (T : Tx K mg) : FnOk P w K mg base CX0 (k + 2) T.f_is_ship T.d_is_ship ["ship"] (spF K R_isship) := by
  refine T.F_is_ship.ok scis_ship (spF_len ?_) (fun cdv A outer s H vs Q E hr h => ?_)
  · rintro ds d ⟨_, rfl, _⟩
    rfl
  obtain ⟨G, ds, d, x, g, ⟨s, rfl, hl, hb, rfl⟩, q⟩ := h
  obtain ⟨v0, r, rfl, g0, g⟩ := daa_inv g
  cases daa_inv0 g
  refine ⟨_, (pss_one (ps_ret (pe_callB (allK K (by rfl)) (by rfl) T.m_all (by decide +kernel) (pa_cons (pe_lc (own := [("value", 1), ("least", 2), ("most", 3)]) (g := gTup K 2 (gCons (gName 1) (gCons (gTup K 2 (gCons (gName 2) (gCons (gName 3) gNil))) gNil))) (tt := tYes) rfl scis_ship.nd (RZ.pi_zipA (by rfl) T.m_zip (pa_cons (pv 0) (pa_cons (pe_glob (v := .ref T.a_SHIP_BOUNDS) (by rfl) T.g_SHIP_BOUNDS rfl) pa_nil))) (blkOk_by (N := N_is_ship) (sc := defScope s_is_ship) (by decide +kernel)) (fun _ _ _ _ _ => (pg_tup (by rfl) (pgs_cons (pg_name (i := 1) scis_ship.nd rfl (.inl rfl)) (pgs_cons (pg_tup (by rfl) (pgs_cons (pg_name (i := 2) scis_ship.nd rfl (.inl rfl)) (pgs_cons (pg_name (i := 3) scis_ship.nd rfl (.inl rfl)) pgs_nil))) pgs_nil)))) (fun _ _ _ _ _ => pts_nil) (fun _ _ _ _ _ => (pe_call (ok_is_within T) hr (by rfl) T.g_is_within T.F_is_within.kp T.b_is_within .nil pass0 (pa_cons (pv 1) (pa_cons (pv 2) (pa_cons (pv 3) pa_nil)))))) pa_nil)))), ?_⟩
  refine d_ret (ed_is (ed_all (bs := (List.range 7).map fun _ => true) (ed_is (ed_lcZ (bs := bnds) (fun _ => .bool true) (eda_cons (ed_var rfl g0) fun G2 x2 => eda_cons (ed_ev ev_c T.bounds) fun _ _ => eda_nil) (by rw [List.length_map, hl]; rfl) (by rw [List.length_map, hl]; decide) (fun _ _ _ => rfl) ?_) ?_)) ?_) x q
  · intro i d v lo hi G2 hd hb2 x2 gd
    rw [List.getElem?_map] at hd
    obtain ⟨n, hn, rfl⟩ := Option.map_eq_some_iff.mp hd
    obtain ⟨c1, c2⟩ := hb i n lo hi hn hb2
    refine ed_call (eda_cons (ed_var rfl gd) fun G x => eda_cons (ed_var rfl (.int lo)) fun G2 x2 => eda_cons (ed_var rfl (.int hi)) fun _ _ => eda_nil) ⟨n, lo, hi, rfl, ?_⟩
    rw [decide_eq_true c1, decide_eq_true c2]
    rfl
  · rw [List.length_map, hl, List.map_map]
    rfl
  · rfl
def R_cships : List PyData → PyData → Prop := fun ds d => ∃ dp be t p l ss, ds = [encS ss] ∧ PortB dp be t p l ss ∧ d = .none
theorem ok_check_ships (T : Tx K mg) : FnOk P w K mg base CX0 (k + 3) T.f_check_ships T.d_check_ships ["ships"] (spF K R_cships) := by
  refine T.F_check_ships.ok sccheck_ships (spF_len ?_) (fun cdv A outer s H vs Q E hr h => ?_)
  · rintro ds d ⟨_, _, _, _, _, _, rfl, _⟩
    rfl
  obtain ⟨G, ds, d, x, g, ⟨dp, be, t, p, l, ss, rfl, B, rfl⟩, q⟩ := h
  obtain ⟨v0, r, rfl, g0, g⟩ := daa_inv g
  cases daa_inv0 g
  refine ⟨_, (pss_cons (ps_if (pt_not (pt_chain op_le op_le pe_int (pe_callB call_len_seq (by rfl) T.m_len (by decide +kernel) (pa_cons (pv 0) pa_nil)) pe_int)) (pss_one ps_never) pss_nil)
    (pss_one (ps_for PassesOwn.never rfl (pi_enum (by rfl) T.m_enumerate (pa_cons (pv 0) pa_nil)) (pg_tup (by rfl) (pgs_cons (pg_name (i := 1) sccheck_ships.nd rfl (.inl rfl)) (pgs_cons (pg_name (i := 2) sccheck_ships.nd rfl (.inl rfl)) pgs_nil)))
      (pss_one (ps_if (pt_not (pt_val (pe_call (ok_is_ship T) hr (by rfl) T.g_is_ship T.F_is_ship.kp T.b_is_ship .nil pass0 (pa_cons (pv 2) pa_nil)))) (pss_one ps_never) pss_nil))))), ?_⟩
  have s0 := B.s0
  have s1 := B.s1
  refine d_if (b := false) (et_is (et_not (et_chain0 ed_int (ed_len (ed_var rfl g0)) ed_int)) ?_) x (fun hb => nomatch hb) fun _ H1 e1 => ?_
  · rw [decide_eq_true (by rw [List.length_map]; omega), decide_eq_true (by rw [List.length_map]; omega)]
    rfl
  refine d_enum1 (K := K) (i := 0) rfl g0 (x.trans e1) (fun i σ' H' => ∃ x1 x2, σ' = [some v0, x1, x2] ∧ Ex H H') ⟨_, _, rfl, e1⟩ (fun i σ' H' p => by
    obtain ⟨_, _, _, e⟩ := p
    exact x.trans e) (fun i w' d' σ' H' hd gd p H2 e2 => ?_) fun σ' H' p => ?_
  · obtain ⟨x1, x2, rfl, e⟩ := p
    rw [List.getElem?_map] at hd
    obtain ⟨s, hs, rfl⟩ := Option.map_eq_some_iff.mp hd
    obtain ⟨b1, b2⟩ := B.s2 s (List.mem_of_getElem? hs)
    refine d_if1 (b := false) (et_is (et_not (et_bool (ed_call (eda_cons (ed_var rfl gd) fun _ _ => eda_nil) ⟨s, rfl, b1, b2, rfl⟩))) rfl) ((x.trans e).trans e2) (fun hb => nomatch hb) fun _ H3 e3 => ?_
    exact ⟨_, _, rfl, (e.trans e2).trans e3⟩
  · obtain ⟨x1, x2, rfl, e⟩ := p
    exact q .non H' G (Sep.stay x e) .non
end
end K10

set_option Elab.async false
set_option linter.all false
set_option maxRecDepth 100000
set_option maxHeartbeats 4000000
namespace K10
open PySem PySem.Spec PyProof.Rows L2 Evl Tw
/-! numbers as words -/
def goodN (n : Nat) : Bool := Txt.isascii (nS n) && Txt.isdigit (nS n) && decide ((nS n).length ≤ 3) && (decide ((nS n).length = 1) || ((nS n).cps.toList.head? != some 48)) && (nS n).cps.toList.all (fun c => decide (48 ≤ c ∧ c ≤ 57)) && (intText? (nS n) == some (n : Int)) && decide (1 ≤ (nS n).length)
set_option maxHeartbeats 0 in
theorem good_all : (List.range 1000).all goodN = true := by decide +kernel
structure GoodN (n : Int) : Prop where
  asc : Txt.isascii (nS n) = true
  dig : Txt.isdigit (nS n) = true
  len : (nS n).length ≤ 3
  one : (nS n).length = 1 ∨ (TL.tl (nS n)).head? ≠ some 48
  all : ∀ c ∈ TL.tl (nS n), 48 ≤ c ∧ c ≤ 57
  txt : intText? (nS n) = some n
  pos : 1 ≤ (nS n).length
theorem good_of {n : Int} (h0 : 0 ≤ n) (h1 : n < 1000) : GoodN n := by
  have h := List.all_eq_true.mp good_all n.toNat (List.mem_range.mpr (by omega))
  obtain ⟨m, rfl⟩ : ∃ m : Nat, n = (m : Int) := ⟨n.toNat, by omega⟩
  rw [Int.toNat_natCast] at h
  unfold goodN at h
  simp only [Bool.and_eq_true, decide_eq_true_eq, Bool.or_eq_true, bne_iff_ne, ne_eq, beq_iff_eq, List.all_eq_true] at h
  obtain ⟨⟨⟨⟨⟨⟨a, b⟩, c⟩, d⟩, e⟩, f⟩, g⟩ := h
  exact ⟨a, b, c, d, e, f, g⟩
/-! lines and words -/
def lnD (w : Str) (ns : List Int) : Str := Txt.join " " (w :: ns.map nS)
theorem mem_joinL {S : List Nat} {c : Nat} : ∀ {ps : List (List Nat)}, c ∈ TL.joinL S ps → c ∈ S ∨ ∃ p ∈ ps, c ∈ p
  | [], h => absurd h List.not_mem_nil
  | [p], h => .inr ⟨p, List.mem_singleton.mpr rfl, h⟩
  | p :: q :: r, h => by
    have h' : c ∈ p ++ (S ++ TL.joinL S (q :: r)) := h
    rcases List.mem_append.mp h' with h | h
    · exact .inr ⟨p, List.mem_cons_self, h⟩
    · rcases List.mem_append.mp h with h | h
      · exact .inl h
      · rcases mem_joinL h with h | ⟨z, hz, h⟩
        · exact .inl h
        · exact .inr ⟨z, List.mem_cons_of_mem _ hz, h⟩
theorem join_lines : ∀ ps : List (List Nat), TL.joinL [] (ps.map (· ++ [10])) = TL.joinL [10] (ps ++ [[]])
  | [] => rfl
  | [p] => rfl
  | p :: q :: r => by
    have ih := join_lines (q :: r)
    show (p ++ [10]) ++ ([] ++ TL.joinL [] ((q :: r).map (· ++ [10]))) = p ++ ([10] ++ TL.joinL [10] ((q :: r) ++ [[]]))
    rw [ih, List.nil_append, List.append_assoc]
theorem text_lines (ls : List Str) : Txt.join "" (ls.map (· ++ "\n")) = Txt.join "\n" (ls ++ [(("" : String) : Str)]) := by
  refine TL.ext_tl ?_
  rw [TL.join_eq, TL.join_eq, TL.tl_join, TL.tl_join]
  have e1 : TL.tl (("" : String) : Str) = [] := by decide +kernel
  have e2 : TL.tl (("\n" : String) : Str) = [10] := by decide +kernel
  rw [e1, e2, List.map_append, List.map_map]
  have e3 : ls.map (TL.tl ∘ fun x => x ++ "\n") = (ls.map TL.tl).map (· ++ [10]) := by
    rw [List.map_map]
    apply List.map_congr_left
    intro x _
    show TL.tl (x ++ "\n") = TL.tl x ++ [10]
    rw [TL.tl_append, e2]
  rw [e3, join_lines]
  show _ = TL.joinL [10] (ls.map TL.tl ++ [TL.tl ""])
  rw [e1]
theorem split_lines {ls : List Str} (h : ∀ l ∈ ls, 10 ∉ TL.tl l) : Txt.split (Txt.join "" (ls.map (· ++ "\n"))) "\n" = ls ++ [(("" : String) : Str)] := by
  rw [text_lines]
  refine TL.split_join (s := 10) (S := []) (by decide +kernel) (by decide +kernel) (by simp) fun p hp => ?_
  rcases List.mem_append.mp hp with hp | hp
  · exact h p hp
  · cases List.mem_singleton.mp hp
    decide +kernel
theorem tl_line {w : Str} {ns : List Int} {c : Nat} (hw : c ∉ TL.tl w) (hs : Small ns) (h1 : c < 48 ∨ 57 < c) (h2 : c ≠ 32) : c ∉ TL.tl (lnD w ns) := by
  intro h
  unfold lnD at h
  rw [TL.join_eq, TL.tl_join] at h
  have e : TL.tl ((" " : String) : Str) = [32] := by decide +kernel
  rw [e] at h
  rcases mem_joinL h with h | ⟨p, hp, hc⟩
  · exact h2 (List.mem_singleton.mp h)
  · obtain ⟨t, ht, rfl⟩ := List.mem_map.mp hp
    rcases List.mem_cons.mp ht with rfl | ht
    · exact hw hc
    · obtain ⟨n, hn, rfl⟩ := List.mem_map.mp ht
      have := (good_of (hs n hn).1 (hs n hn).2).all c hc
      omega
theorem split_line {w : Str} {ns : List Int} (hw : 32 ∉ TL.tl w) (hs : Small ns) : Txt.split (lnD w ns) " " = w :: ns.map nS := by
  refine TL.split_join (s := 32) (S := []) (by decide +kernel) (by decide +kernel) (by simp) fun p hp => ?_
  rcases List.mem_cons.mp hp with rfl | hp
  · exact hw
  · obtain ⟨n, hn, rfl⟩ := List.mem_map.mp hp
    intro h
    have := (good_of (hs n hn).1 (hs n hn).2).all 32 h
    omega
theorem ends_line {ls : List Str} (h : ls ≠ []) : Txt.endswith (Txt.join "" (ls.map (· ++ "\n"))) "\n" = true := by
  have e2 : TL.tl (("\n" : String) : Str) = [10] := by decide +kernel
  have e1 : TL.tl (("" : String) : Str) = [] := by decide +kernel
  have key : ∀ ps : List (List Nat), ps ≠ [] → ∃ z, TL.joinL [] (ps.map (· ++ [10])) = z ++ [10] := by
    intro ps
    induction ps with
    | nil => exact fun h => absurd rfl h
    | cons p r ih =>
      intro _
      cases r with
      | nil => exact ⟨p, rfl⟩
      | cons q r =>
        obtain ⟨z, hz⟩ := ih (by simp)
        refine ⟨p ++ [10] ++ z, ?_⟩
        show (p ++ [10]) ++ ([] ++ TL.joinL [] ((q :: r).map (· ++ [10]))) = _
        rw [hz, List.nil_append, List.append_assoc (p ++ [10])]
  obtain ⟨z, hz⟩ := key (ls.map TL.tl) (by simp [h])
  have hx : TL.tl (Txt.join "" (ls.map (· ++ "\n"))) = z ++ [10] := by
    rw [TL.join_eq, TL.tl_join, e1, List.map_map, ← hz, List.map_map]
    congr 1
    apply List.map_congr_left
    intro x _
    show TL.tl (x ++ "\n") = TL.tl x ++ [10]
    rw [TL.tl_append, e2]
  generalize Txt.join "" (ls.map (· ++ "\n")) = x at hx
  have hl : x.length = z.length + 1 := by rw [TL.len_tl, hx, List.length_append]; rfl
  have hy : ((("\n" : String) : Str)).length = 1 := rfl
  have a := (TL.at_iff (x := x) (y := "\n") (by rw [e2]; simp) (x.length - 1)).mpr (by
    rw [hx, e2, hl, Nat.add_sub_cancel, List.drop_left]
    rfl)
  unfold Txt.endswith
  rw [hy]
  have a2 := a.2
  rw [a2, decide_eq_true (by omega)]
  rfl
end K10

set_option Elab.async false
set_option linter.all false
set_option maxRecDepth 100000
set_option maxHeartbeats 4000000
namespace K10
open PySem PySem.Spec PyProof.Rows L2 Evl Tw
section
variable {P : Program} {w : World} {K : PySem.W.Frag} {mg : Str → Option Value} {base : Heap} {k : Nat}
theorem ed_neS {σ : L2.St} {G : Hp} {ta tb : TE} {x y : Str} (ha : ED K ta σ G (.str x)) (hb : ED K tb σ G (.str y)) : ED K (tOp rNe ta tb) σ G (.bool (!decide (V.str x = V.str y))) := ed_ev (ev_op (ev_str ha) (ev_str hb) (rv_ne rfl)) (.bl _)
theorem ed_orV {σ : L2.St} {G : Hp} {ta tb : TE} {a b : Bool} (ha : ED K ta σ G (.bool a)) (hb : a = false → ED K tb σ G (.bool b)) : ED K (tOrV ta tb) σ G (.bool (a || b)) := ed_ev (ev_orV (ev_bool ha) fun h => ev_bool (hb h)) (.bl _)
theorem et_eqS {σ : L2.St} {G : Hp} {ta tb : TE} {x y : Str} (ha : ED K ta σ G (.str x)) (hb : ED K tb σ G (.str y)) : EvT (tTest (tOp rEq ta tb)) σ G (decide (V.str x = V.str y)) := et_test (ev_bool (ed_eqS ha hb))
theorem str_ne {x y : Str} (h : x ≠ y) : decide (V.str x = V.str y) = false := decide_eq_false fun z => h (V.str.inj z)
theorem str_eq {x : Str} : decide (V.str x = V.str x) = true := decide_eq_true rfl
/-! the program's words -/
def R_isnum : List PyData → PyData → Prop := fun ds d => ∃ n : Int, ds = [.str (nS n)] ∧ 0 ≤ n ∧ n < 1000 ∧ d = .bool true
theorem ok__is_number (T : Tx K mg) : FnOk P w K mg base CX0 (k + 1) T.f__is_number T.d__is_number ["word"] (spF K R_isnum) := by
  refine T.F__is_number.ok sc_is_number (spF_len ?_) (fun cdv A outer s H vs Q E hr h => ?_)
  · rintro ds d ⟨_, rfl, _⟩
    rfl
  obtain ⟨G, ds, d, x, g, ⟨n, rfl, h0, h1, rfl⟩, q⟩ := h
  obtain ⟨v0, r, rfl, g0, g⟩ := daa_inv g
  cases daa_inv0 g
  have gd := good_of h0 h1
  have hz : (nS n).length ≤ 100000 := Nat.le_trans gd.len (by decide)
  refine ⟨_, (pss_cons (ps_if (PW.pt (pw_or (pt_not (pt_val (pe_m0 PySem.F.slot_str_isascii PySem.F.type_str_isascii mt_isascii (pv 0)))) (pw_or (pt_not (pt_val (pe_m0 PySem.F.slot_str_isdigit PySem.F.type_str_isdigit mt_isdigit (pv 0)))) (pw_or1 (pt_cmpR op_gt (pe_callB call_len_str (by rfl) T.m_len (by decide +kernel) (pa_cons (pv 0) pa_nil)) pe_int (nomark _)))))) (pss_one (ps_ret pe_bl)) pss_nil)
    (pss_one (ps_ret (pe_or (pe_cmpR op_eq (pe_callB call_len_str (by rfl) T.m_len (by decide +kernel) (pa_cons (pv 0) pa_nil)) pe_int (nomark _)) (pe_one (pe_cmpR op_ne (pe_ix ix_str (pv 0) pe_int (fun _ _ => rfl)) pe_str (nomark _))))))), ?_⟩
  refine d_if (b := false) (et_is (et_or (et_not (et_bool (ed_m0 (p := Txt.isascii) (ed_var rfl g0)))) fun _ => et_or (et_not (et_bool (ed_m0 (p := Txt.isdigit) (ed_var rfl g0)))) fun _ => et_cmp0 (ed_lenS (ed_var rfl g0) hz) ed_int) ?_) x (fun hb => nomatch hb) fun _ H1 e1 => ?_
  · rw [gd.asc, gd.dig, decide_eq_false (by have := gd.len; omega)]
    rfl
  have hne : 0 < (TL.tl (nS n)).length := by rw [← TL.len_tl]; exact gd.pos
  obtain ⟨c, r, hc⟩ : ∃ c r, TL.tl (nS n) = c :: r := by
    cases z : TL.tl (nS n) with
    | nil => rw [z] at hne; exact absurd hne (by simp)
    | cons c r => exact ⟨c, r, rfl⟩
  refine d_ret (ed_is (ed_orV (ed_eqI (ed_lenS (ed_var rfl g0) hz) ed_int) fun _ => ed_neS (ed_ixS (c := c) (ed_var rfl g0) ed_int hz (atI_nat (j := 0) (show (TL.tl (nS n))[0]? = some c by rw [hc]; rfl))) ed_str) ?_) (x.trans e1) fun v' H2 G2 s2 a2 => q v' H2 G2 (s2.back e1) a2
  rcases gd.one with h | h
  · rw [decide_eq_true (by omega)]
    rfl
  · have hn : (⟨#[c]⟩ : Str) ≠ (("0" : String) : Str) := fun z => by
      have z2 := congrArg TL.tl z
      have e0 : TL.tl (("0" : String) : Str) = [48] := by decide +kernel
      rw [e0] at z2
      rw [hc] at h
      exact h (congrArg List.head? z2)
    rw [str_ne hn, Bool.not_false, Bool.or_true]
theorem num_ne {n : Int} (h0 : 0 ≤ n) (h1 : n < 1000) {x : Str} {c : Nat} (hx : c ∈ TL.tl x) (hc : c < 48 ∨ 57 < c) : nS n ≠ x := fun z => by
  rw [← z] at hx
  have := (good_of h0 h1).all c hx
  omega
def R_fits : List PyData → PyData → Prop := fun ds d => ∃ a b : Str, ds = [.str a, .str b] ∧ d = .bool true ∧ ((b = "#" ∧ ∃ n : Int, a = nS n ∧ 0 ≤ n ∧ n < 1000) ∨ (b ≠ "#" ∧ a = b))
theorem ok__fits (T : Tx K mg) : FnOk P w K mg base CX0 (k + 2) T.f__fits T.d__fits ["word", "wanted"] (spF K R_fits) := by
  refine T.F__fits.ok sc_fits (spF_len ?_) (fun cdv A outer s H vs Q E hr h => ?_)
  · rintro ds d ⟨_, _, rfl, _⟩
    rfl
  obtain ⟨G, ds, d, x, g, ⟨a, b, rfl, rfl, hab⟩, q⟩ := h
  obtain ⟨v0, r, rfl, g0, g⟩ := daa_inv g
  obtain ⟨v1, r, rfl, g1, g⟩ := daa_inv g
  cases daa_inv0 g
  refine ⟨_, (pss_cons (ps_if (pt_cmpR op_eq (pv 1) (pe_glob (v := .str (Str.ofString "#")) (by rfl) T.g_NUMBER ⟨_, rfl⟩) (nomark _)) (pss_one (ps_ret (pe_call (ok__is_number T) hr (by rfl) T.g__is_number T.F__is_number.kp T.b__is_number .nil pass0 (pa_cons (pv 0) pa_nil)))) pss_nil)
    (pss_one (ps_ret (pe_cmpR op_eq (pv 0) (pv 1) (nomark _))))), ?_⟩
  rcases hab with ⟨rfl, n, rfl, h0, h1⟩ | ⟨hb, rfl⟩
  · refine d_if (b := true) (et_is (et_eqS (ed_var rfl g1) ed_str) (decide_eq_true rfl)) x (fun _ H1 e1 => ?_) fun hb => nomatch hb
    exact d_ret (ed_call (eda_cons (ed_var rfl g0) fun _ _ => eda_nil) ⟨n, rfl, h0, h1, rfl⟩) (x.trans e1) fun v' H2 G2 s2 a2 => q v' H2 G2 (s2.back e1) a2
  · refine d_if (b := false) (et_is (et_eqS (ed_var rfl g1) ed_str) (str_ne hb)) x (fun hb => nomatch hb) fun _ H1 e1 => ?_
    exact d_ret (ed_is (ed_eqS (ed_var rfl g0) (ed_var rfl g1)) (by rw [str_eq])) (x.trans e1) fun v' H2 G2 s2 a2 => q v' H2 G2 (s2.back e1) a2
/-- a shape's words for a line of w and n numbers -/
def wanted (w : Str) (n : Nat) : List Str := w :: List.replicate n "#"
def ShapeOk (s w : Str) (n : Nat) : Prop := s.length ≤ 100 ∧ ((inV (.str "..") ((Txt.words s).map V.str) = false ∧ Txt.words s = wanted w n) ∨ (inV (.str "..") ((Txt.words s).map V.str) = true ∧ Txt.words s = [w, ".."]))
def R_words : List PyData → PyData → Prop := fun ds d => ∃ (s w : Str) (n : Nat), ds = [.str s, .int (n + 1 : Nat)] ∧ ShapeOk s w n ∧ n ≤ 100 ∧ d = .list ((wanted w n).map .str)
theorem rep_flat {x : PyData} : ∀ n : Nat, (List.replicate n [x]).flatten = List.replicate n x
  | 0 => rfl
  | n + 1 => by rw [List.replicate_succ, List.flatten_cons, rep_flat n]; rfl
theorem ok__words_of (T : Tx K mg) : FnOk P w K mg base CX0 (k + 1) T.f__words_of T.d__words_of ["shape", "count"] (spF K R_words) := by
  refine T.F__words_of.ok sc_words_of (spF_len ?_) (fun cdv A outer s H vs Q E hr h => ?_)
  · rintro ds d ⟨_, _, _, rfl, _⟩
    rfl
  obtain ⟨G, ds, d, x, g, ⟨sh, wd, n, rfl, ⟨hl, hs⟩, hn, rfl⟩, q⟩ := h
  obtain ⟨v0, r, rfl, g0, g⟩ := daa_inv g
  obtain ⟨v1, r, rfl, g1, g⟩ := daa_inv g
  cases daa_inv0 g
  refine ⟨_, (pss_cons (ps_set (i := 2) sc_words_of.nd rfl (.inl rfl) (pe_words (pv 0)))
    (pss_cons (ps_if (pt_cmpR op_in_seq (pe_glob (v := .str (Str.ofString "..")) (by rfl) T.g_NUMBERS ⟨_, rfl⟩) (pv 2) rfl) (pss_one (ps_ret (pe_op op_cat (pe_slice (slL K) (pv 2) po_none (po_some (pe_un un_neg pe_int))) (pe_op op_rep (pe_lst (pa_cons (pe_glob (v := .str (Str.ofString "#")) (by rfl) T.g_NUMBER ⟨_, rfl⟩) pa_nil)) (pe_op op_sub (pv 1) pe_int))))) pss_nil)
    (pss_one (ps_ret (pv 2))))), ?_⟩
  refine d_asg (ed_words (ed_var rfl g0) (by omega)) x fun v2 H1 G1 s1 a1 => ?_
  have tst : EvT (tTest (tOp (rIn K false) (tC (.str (Str.ofString ".."))) (tVar 2))) [some v0, some v1, some v2] G1 (inV (.str "..") ((Txt.words sh).map V.str)) := et_inS ed_str (ed_var rfl a1)
  rcases hs with ⟨hb, hw⟩ | ⟨hb, hw⟩
  · rw [hb] at tst
    refine d_if (b := false) tst s1.inn (fun hb => nomatch hb) fun _ H2 e2 => ?_
    rw [hw] at a1
    exact d_ret (ed_var rfl a1) (s1.inn.trans e2) fun v' H3 G3 s3 a3 => q v' H3 G3 (s1.trans (s3.back e2)) a3
  · rw [hb] at tst
    refine d_if (b := true) tst s1.inn (fun _ H2 e2 => ?_) fun hb => nomatch hb
    rw [hw] at a1
    refine d_ret (ed_is (ed_cat (ed_cut (ed_var rfl a1) (fun _ _ => eo_none) (fun _ _ => eo_some (ev_int (K := K) (ed_neg ed_int)))) (fun G2 x2 => ed_rep (k := (n : Int)) (ed_lst (eda_cons ed_str fun _ _ => eda_nil) (by show 1 ≤ 100000; decide)) (fun G3 x3 => ed_is (ed_sub (ed_var rfl (da_ex ((s1.an.trans x2).trans x3) g1)) ed_int) ?_) (by omega) (by omega) (by show 1 * (n : Int).toNat ≤ 100000; omega)) ?_) ?_) (s1.inn.trans e2) fun v' H3 G3 s3 a3 => q v' H3 G3 (s1.trans (s3.back e2)) a3
    · congr 1
      omega
    · rw [cut_init rfl]
      show 1 + _ ≤ 100000
      rw [rep_flat, List.length_replicate]
      omega
    · rw [cut_init rfl, rep_flat]
      show PyData.list ([.str wd] ++ List.replicate (n : Int).toNat (.str (Str.ofString "#"))) = .list ((wanted wd n).map .str)
      unfold wanted
      rw [List.map_cons, List.map_replicate, Int.toNat_natCast]
      rfl
def R_linesof : List PyData → PyData → Prop := fun ds d => ∃ ls : List Str, ds = [.str (Txt.join "" (ls.map (· ++ "\n")))] ∧ (∀ l ∈ ls, 10 ∉ TL.tl l) ∧ (Txt.join "" (ls.map (· ++ "\n"))).length ≤ 100000 ∧ d = .list (ls.map .str)
theorem ok__lines_of (T : Tx K mg) : FnOk P w K mg base CX0 (k + 1) T.f__lines_of T.d__lines_of ["text"] (spF K R_linesof) := by
  refine T.F__lines_of.ok sc_lines_of (spF_len ?_) (fun cdv A outer s H vs Q E hr h => ?_)
  · rintro ds d ⟨_, rfl, _⟩
    rfl
  obtain ⟨G, ds, d, x, g, ⟨ls, rfl, hn, hl, rfl⟩, q⟩ := h
  obtain ⟨v0, r, rfl, g0, g⟩ := daa_inv g
  cases daa_inv0 g
  refine ⟨_, (pss_cons (ps_set (i := 1) sc_lines_of.nd rfl (.inl rfl) (pe_split (pv 0) pe_str))
    (pss_cons (ps_if (pt_cmpR op_eq (pe_ix (ixl K) (pv 1) (pe_un un_neg pe_int) (fun _ _ => rfl)) pe_str (nomark _)) (pss_one (ps_ret (pe_slice (slL K) (pv 1) po_none (po_some (pe_un un_neg pe_int))))) pss_nil)
    (pss_one (ps_ret (pv 1))))), ?_⟩
  refine d_asg (ed_split (ed_var rfl g0) ed_str hl rfl) x fun v1 H1 G1 s1 a1 => ?_
  have a1' : Da K G1 v1 (.list ((ls ++ [(("" : String) : Str)]).map .str)) := by
    rw [← split_lines hn]
    exact a1
  refine d_if (b := true) (et_is (et_eqS (x := "") (ed_last (ed_var rfl a1') (fun _ _ => ed_neg ed_int) rfl (by rw [List.map_append]; exact List.getLast?_concat)) ed_str) (decide_eq_true rfl)) s1.inn (fun _ H2 e2 => ?_) fun hb => nomatch hb
  refine d_ret (ed_is (ed_cut (ed_var rfl a1') (fun _ _ => eo_none) (fun _ _ => eo_some (ev_int (K := K) (ed_neg ed_int)))) ?_) (s1.inn.trans e2) fun v' H3 G3 s3 a3 => q v' H3 G3 (s1.trans (s3.back e2)) a3
  rw [cut_init rfl, List.map_append]
  exact congrArg PyData.list List.dropLast_concat
end
end K10

set_option Elab.async false
set_option linter.all false
set_option maxRecDepth 100000
set_option maxHeartbeats 4000000
namespace K10
open PySem PySem.Spec PyProof.Rows L2 Evl Tw
section
variable {P : Program} {w : World} {K : PySem.W.Frag} {mg : Str → Option Value} {base : Heap} {k : Nat}
/-! lines are read -/
structure LineOk (w : Str) (ns : List Int) : Prop where
  wl : w.length ≤ 10
  nl : ns.length ≤ 20
  sm : Small ns
  wn : w ≠ "#"
  w32 : 32 ∉ TL.tl w
  w10 : 10 ∉ TL.tl w
theorem LineOk.len {w : Str} {ns : List Int} (h : LineOk w ns) : (lnD w ns).length ≤ 100000 := by
  have hl := h.nl
  exact Nat.le_trans (join_len (sep := " ") (ts := w :: ns.map nS) (m := 21) (b := 10) (c := 1) (by rw [List.length_cons, List.length_map]; omega) (line_parts h.wl h.sm) (by decide)) (by decide)
def R_rline : List PyData → PyData → Prop := fun ds d => ∃ (w : Str) (ns : List Int) (s : Str) (n : Int), ds = [.str (lnD w ns), .str s, .int n] ∧ LineOk w ns ∧ ShapeOk s w ns.length ∧ d = .list (ns.map .int)
theorem ok__read_line (T : Tx K mg) : FnOk P w K mg base CX0 (k + 3) T.f__read_line T.d__read_line ["line", "shape", "number"] (spO K R_rline) := by
  refine T.F__read_line.ok sc_read_line (spO_len ?_) (fun cdv A outer s H vs Q E hr h => ?_)
  · rintro ds d ⟨_, _, _, _, rfl, _⟩
    rfl
  obtain ⟨G, ds, d, x, g, ⟨wd, ns, sh, num, rfl, lo, so, rfl⟩, q⟩ := h
  obtain ⟨v0, r, rfl, g0, g⟩ := daa_inv g
  obtain ⟨v1, r, rfl, g1, g⟩ := daa_inv g
  obtain ⟨v2, r, rfl, g2, g⟩ := daa_inv g
  cases daa_inv0 g
  refine ⟨_, (pss_cons (ps_set (i := 3) sc_read_line.nd rfl (.inl rfl) (pe_split (pv 0) pe_str))
    (pss_cons (ps_set (i := 4) sc_read_line.nd rfl (.inl rfl) (pe_call (ok__words_of T) hr (by rfl) T.g__words_of T.F__words_of.kp T.b__words_of .nil pass0 (pa_cons (pv 1) (pa_cons (pe_callB call_len_seq (by rfl) T.m_len (by decide +kernel) (pa_cons (pv 3) pa_nil)) pa_nil))))
    (pss_cons (ps_set (i := 5) sc_read_line.nd rfl (.inl rfl) (pe_lst pa_nil))
    (pss_cons (ps_set (i := 6) sc_read_line.nd rfl (.inl rfl) pe_int)
    (pss_cons (ps_for PassesOwn.never rfl (pi_enum (by rfl) T.m_enumerate (pa_cons (pv 3) pa_nil)) (pg_tup (by rfl) (pgs_cons (pg_name (i := 7) sc_read_line.nd rfl (.inl rfl)) (pgs_cons (pg_name (i := 8) sc_read_line.nd rfl (.inl rfl)) pgs_nil)))
      (pss_cons (ps_if (PW.pt (pw_or (pt_cmpR op_ge (pv 7) (pe_callB call_len_seq (by rfl) T.m_len (by decide +kernel) (pa_cons (pv 4) pa_nil)) (nomark _)) (pw_or1 (pt_not (pt_val (pe_call (ok__fits T) hr (by rfl) T.g__fits T.F__fits.kp T.b__fits .nil pass0 (pa_cons (pv 8) (pa_cons (pe_ix (ixl K) (pv 4) (pv 7) (fun _ _ => rfl)) pa_nil)))))))) (pss_one ps_never) pss_nil)
      (pss_cons (ps_if (pt_cmpR op_eq (pe_ix (ixl K) (pv 4) (pv 7) (fun _ _ => rfl)) (pe_glob (v := .str (Str.ofString "#")) (by rfl) T.g_NUMBER ⟨_, rfl⟩) (nomark _)) (pss_one (ps_expr (pe_bm PySem.F.plainAttrs_list PySem.F.slot_list_append PySem.F.type_list_append mt_append (pv 5) (pa_cons (pe_callTy call_int_str (by rfl) T.m_int (by decide +kernel) (pa_cons (pv 8) pa_nil)) pa_nil)))) pss_nil)
      (pss_one (ps_aug (i := 6) sc_read_line.nd rfl (.inl rfl) (pe_op op_add (pe_callB call_len_str (by rfl) T.m_len (by decide +kernel) (pa_cons (pv 8) pa_nil)) pe_int) ip_add)))))
    (pss_cons (ps_if (pt_cmpR op_lt (pe_callB call_len_seq (by rfl) T.m_len (by decide +kernel) (pa_cons (pv 3) pa_nil)) (pe_callB call_len_seq (by rfl) T.m_len (by decide +kernel) (pa_cons (pv 4) pa_nil)) (nomark _)) (pss_one ps_never) pss_nil)
    (pss_one (ps_ret (pv 5))))))))), ?_⟩
  have hnl := lo.nl
  refine d_asg (ed_split (ed_var rfl g0) ed_str lo.len rfl) x fun v3 H1 G1 s1 a1 => ?_
  have a1' : Da K G1 v3 (.list ((wd :: ns.map nS).map .str)) := by
    rw [← split_line lo.w32 lo.sm]
    exact a1
  have lw : ((wd :: ns.map nS).map PyData.str).length = ns.length + 1 := by rw [List.length_map, List.length_cons, List.length_map]
  refine d_asg (ed_call (eda_cons (ed_var rfl (da_ex s1.an g1)) fun G2 x2 => eda_cons (ed_is (ed_len (ed_var rfl (da_ex x2 a1'))) (by rw [lw])) fun _ _ => eda_nil) ⟨sh, wd, ns.length, rfl, so, by omega, rfl⟩) s1.inn fun v4 H2 G2 s2 a2 => ?_
  have lq : ((wanted wd ns.length).map PyData.str).length = ns.length + 1 := by
    unfold wanted
    rw [List.length_map, List.length_cons, List.length_replicate]
  have S2 := s1.trans s2
  have b1 := da_ex s2.an a1'
  refine d_new S2.inn fun L nL2 gL xL yL => ?_
  have nLH : H L = none := fresh_back S2.up nL2
  refine q_asg (v := .int 1) ev_c fun H3 e3 => ?_
  refine d_enum (K := K) (i := 3) rfl b1 (xL.trans e3) (fun i σ' H' => ∃ c x7 x8, σ' = [some v0, some v1, some v2, some v3, some v4, some (.ref L), some (.int c), x7, x8] ∧ Ex G2 H' ∧ Ex H H' ∧ H' L = some (.lst ((ns.take (i - 1)).map V.int))) ⟨1, _, _, rfl, xL.trans e3, (S2.up.trans yL).trans e3, e3 _ _ upd_same⟩ (fun i σ' H' p => by
    obtain ⟨_, _, _, _, e, _⟩ := p
    exact e) (fun i w' d' σ' H' hd gd p H4 e4 => ?_) fun σ' H' p => ?_
  · obtain ⟨c, x7, x8, rfl, xg, xh, hL⟩ := p
    have hi : i < ns.length + 1 := by
      have := (List.getElem?_eq_some_iff.mp hd).1
      rw [lw] at this
      exact this
    have hL4 := e4 _ _ hL
    have ll : ((ns.take (i - 1)).map V.int).length < 100000 := by
      rw [List.length_map, List.length_take]
      omega
    -- the turn's end
    have fin : ∀ (a : Str) (H5 : Hp) (D : Ends), a.length ≤ 100000 → Ex G2 H5 → Ex H H5 → H5 L = some (.lst ((ns.take i).map V.int)) →
        (∀ σ2 H2', (∃ c x7 x8, σ2 = [some v0, some v1, some v2, some v3, some v4, some (.ref L), some (.int c), x7, x8] ∧ Ex G2 H2' ∧ Ex H H2' ∧ H2' L = some (.lst ((ns.take (i + 1 - 1)).map V.int))) → D.nx σ2 H2') →
        tAug 6 (tOp (rI0 fun i j => .int (i + j)) (tCB (fun xs H Q => ∃ z, xs = [V.str z] ∧ z.length ≤ sizeLine ∧ Q (.int z.length) H) (tCons (tVar 8) tNil)) (tC (.int 1))) (ipI fun a b => a + b) D [some v0, some v1, some v2, some v3, some v4, some (.ref L), some (.int c), some (.int (i : Int)), some (.str a)] H5 := fun a H5 D ha h1 h2 h3 hD => by
      refine s_aug (a := c) rfl (ev_int (K := K) (ed_add (ed_lenS (ed_var rfl (.str a)) ha) ed_int)) fun H6 e6 => ?_
      exact hD _ _ ⟨_, _, _, rfl, h1.trans e6, h2.trans e6, by rw [Nat.add_sub_cancel]; exact e6 _ _ h3⟩
    -- the test of the word
    have tst : ∀ (a b : Str) (hq : ((wanted wd ns.length).map PyData.str)[i]? = some (.str b)) (hf : R_fits [.str a, .str b] (.bool true)) {σ : L2.St} (h4 : σ[4]? = some (some v4)) (h7 : σ[7]? = some (some (.int (i : Int)))) (h8 : σ[8]? = some (some (.str a))),
        EvT (tOr (tTest (tOp (rI0 fun i j => .bl (decide (j ≤ i))) (tVar 7) (tCB (fun xs H Q => ∃ p ys, xs = [V.ref p] ∧ (SqL K H p ys ∨ SqT K H p ys) ∧ Q (.int ys.length) H) (tCons (tVar 4) tNil)))) (tNot (tB (tCall (spF K R_fits) [] E0 (tCons (tVar 8) (tCons (tOp (rIxL K) (tVar 4) (tVar 7)) tNil)))))) σ G2 false := fun a b hq hf σ h4 h7 h8 => by
      refine et_is (et_or (et_cmp0 (ed_var h7 (.int (i : Int))) (ed_len (ed_var h4 a2))) fun _ => et_not (et_bool (ed_call (eda_cons (ed_var h8 (.str a)) fun G x => eda_cons (ed_ix (n := i) (ed_var h4 (da_ex x a2)) (fun _ _ => ed_var h7 (.int (i : Int))) rfl hq) fun _ _ => eda_nil) hf))) ?_
      rw [lq, decide_eq_false (by omega)]
      rfl
    cases i with
    | zero =>
      cases Option.some.inj hd
      cases gd
      refine d_if (b := false) (tst wd wd rfl ⟨wd, wd, rfl, rfl, .inr ⟨lo.wn, rfl⟩⟩ rfl rfl rfl) (xg.trans e4) (fun hb => nomatch hb) fun _ H5 e5 => ?_
      refine d_if (b := false) (et_is (et_eqS (x := wd) (ed_ix (n := 0) (ed_var rfl a2) (fun _ _ => ed_var rfl (.int 0)) rfl rfl) ed_str) (str_ne lo.wn)) ((xg.trans e4).trans e5) (fun hb => nomatch hb) fun _ H6 e6 => ?_
      exact fin wd H6 _ (Nat.le_trans lo.wl (by decide)) (((xg.trans e4).trans e5).trans e6) (((xh.trans e4).trans e5).trans e6) (e6 _ _ (e5 _ _ hL4)) fun _ _ p => p
    | succ j =>
      have hj : j < ns.length := by omega
      have hn : ns[j]? = some ns[j] := List.getElem?_eq_getElem hj
      generalize ns[j] = n at hn
      have hd2 : ((wd :: ns.map nS).map PyData.str)[j + 1]? = some (.str (nS n)) := by
        rw [List.map_cons, List.getElem?_cons_succ, List.map_map, List.getElem?_map, hn]
        rfl
      rw [hd2] at hd
      cases Option.some.inj hd
      cases gd
      obtain ⟨n0, n1⟩ := lo.sm n (List.mem_of_getElem? hn)
      have gn := good_of n0 n1
      have hq : ((wanted wd ns.length).map PyData.str)[j + 1]? = some (.str (Str.ofString "#")) := by
        unfold wanted
        rw [List.map_cons, List.getElem?_cons_succ, List.getElem?_map, List.getElem?_replicate, if_pos hj]
        rfl
      have hz : (nS n).length ≤ 100000 := Nat.le_trans gn.len (by decide)
      refine d_if (b := false) (tst (nS n) "#" hq ⟨nS n, "#", rfl, rfl, .inl ⟨rfl, n, rfl, n0, n1⟩⟩ rfl rfl rfl) (xg.trans e4) (fun hb => nomatch hb) fun _ H5 e5 => ?_
      refine d_if (b := true) (et_is (et_eqS (x := "#") (ed_ix (n := j + 1) (ed_var rfl a2) (fun _ _ => ed_var rfl (.int _)) rfl hq) ed_str) str_eq) ((xg.trans e4).trans e5) (fun _ H6 e6 => ?_) fun hb => nomatch hb
      refine s_app (e6 _ _ (e5 _ _ hL4)) (ev_var rfl) (ev_int (K := K) (ed_intS (n := n) (ed_var rfl (.str (nS n))) gn.txt (by have := gn.len; omega))) ll fun H7 e7 => ?_
      refine fin (nS n) _ _ hz (Ex.mut ((((xg.trans e4).trans e5).trans e6).trans e7) gL) (Ex.mut ((((xh.trans e4).trans e5).trans e6).trans e7) nLH) ?_ fun _ _ p => p
      rw [upd_same, Nat.add_sub_cancel, take_one hn, List.map_append]
      rfl
  · obtain ⟨c, x7, x8, rfl, xg, xh, hL⟩ := p
    rw [lw, Nat.add_sub_cancel, List.take_length] at hL
    refine d_if (b := false) (et_is (et_cmp0 (ed_len (ed_var rfl b1)) (ed_len (ed_var rfl a2))) ?_) xg (fun hb => nomatch hb) fun _ H5 e5 => ?_
    · rw [lw, lq]
      exact decide_eq_false (by omega)
    refine s_ret (ev_var rfl) fun H6 e6 => ?_
    exact q _ H6 _ (Sep.one ex_nil nLH ((xh.trans e5).trans e6) (e6 _ _ (e5 _ _ hL))) (.lst upd_same (daa_ints _))
end
end K10

set_option Elab.async false
set_option linter.all false
set_option maxRecDepth 100000
set_option maxHeartbeats 4000000
namespace K10
open PySem PySem.Spec PyProof.Rows L2 Evl Tw
section
variable {P : Program} {w : World} {K : PySem.W.Frag} {mg : Str → Option Value} {base : Heap} {k : Nat}
def rowD (f : Str × List Int) : PyData := .list (f.2.map .int)
def textOf (fs : List (Str × List Int)) : Str := Txt.join "" (fs.map fun f => lineD f.1 f.2)
theorem textOf_lines (fs : List (Str × List Int)) : textOf fs = Txt.join "" ((fs.map fun f => lnD f.1 f.2).map (· ++ "\n")) := by
  unfold textOf
  rw [List.map_map]
  rfl
def shapeAt (hs : List Str) (fu : Str) (i : Nat) : Str := hs.getD i fu
def R_rlines : List PyData → PyData → Prop := fun ds d => ∃ (fs : List (Str × List Int)) (hs : List Str) (fu : Str), ds = [.str (textOf fs), .tuple (hs.map .str), .str fu] ∧ (∀ f ∈ fs, LineOk f.1 f.2) ∧ (textOf fs).length ≤ 100000 ∧ fs ≠ [] ∧ hs.length ≤ fs.length ∧ fs.length ≤ 1000 ∧
  (∀ (i : Nat) f, fs[i]? = some f → ShapeOk (shapeAt hs fu i) f.1 f.2.length) ∧ d = .list (fs.map rowD)
theorem ok__read_lines (T : Tx K mg) : FnOk P w K mg base CX0 (k + 4) T.f__read_lines T.d__read_lines ["text", "shapes", "further"] (spO K R_rlines) := by
  refine T.F__read_lines.ok sc_read_lines (spO_len ?_) (fun cdv A outer s H vs Q E hr h => ?_)
  · rintro ds d ⟨_, _, _, rfl, _⟩
    rfl
  obtain ⟨G, ds, d, x, g, ⟨fs, hs, fu, rfl, lo, tz, fne, hfl, fl, so, rfl⟩, q⟩ := h
  obtain ⟨v0, r, rfl, g0, g⟩ := daa_inv g
  obtain ⟨v1, r, rfl, g1, g⟩ := daa_inv g
  obtain ⟨v2, r, rfl, g2, g⟩ := daa_inv g
  cases daa_inv0 g
  refine ⟨_, (pss_cons (ps_set (i := 3) sc_read_lines.nd rfl (.inl rfl) (pe_call (ok__lines_of T) hr (by rfl) T.g__lines_of T.F__lines_of.kp T.b__lines_of .nil pass0 (pa_cons (pv 0) pa_nil)))
    (pss_cons (ps_set (i := 4) sc_read_lines.nd rfl (.inl rfl) (pe_lst pa_nil))
    (pss_cons (ps_for PassesOwn.never rfl (pi_enum (by rfl) T.m_enumerate (pa_cons (pv 3) pa_nil)) (pg_tup (by rfl) (pgs_cons (pg_name (i := 5) sc_read_lines.nd rfl (.inl rfl)) (pgs_cons (pg_name (i := 6) sc_read_lines.nd rfl (.inl rfl)) pgs_nil)))
      (pss_cons (ps_set (i := 7) sc_read_lines.nd rfl (.inl rfl) (pe_ifExp (pt_cmpR op_lt (pv 5) (pe_callB call_len_seq (by rfl) T.m_len (by decide +kernel) (pa_cons (pv 1) pa_nil)) (nomark _)) (pe_ix (ixt K) (pv 1) (pv 5) (fun _ _ => rfl)) (pv 2)))
      (pss_one (ps_expr (pe_bm PySem.F.plainAttrs_list PySem.F.slot_list_append PySem.F.type_list_append mt_append (pv 4) (pa_cons (pe_call (ok__read_line T) hr (by rfl) T.g__read_line T.F__read_line.kp T.b__read_line .nil pass0 (pa_cons (pv 6) (pa_cons (pv 7) (pa_cons (pe_op op_add (pv 5) pe_int) pa_nil)))) pa_nil))))))
    (pss_cons (ps_if (PW.pt (pw_and (pt_truth (pv 3) (by intro _; rfl)) (pw_and1 (pt_not (pt_val (pe_m1 PySem.F.slot_str_endswith PySem.F.type_str_endswith mt_endswith (pv 0) pe_str)))))) (pss_one ps_never) pss_nil)
    (pss_cons (ps_if (pt_cmpR op_lt (pe_callB call_len_seq (by rfl) T.m_len (by decide +kernel) (pa_cons (pv 3) pa_nil)) (pe_callB call_len_seq (by rfl) T.m_len (by decide +kernel) (pa_cons (pv 1) pa_nil)) (nomark _)) (pss_one ps_never) pss_nil)
    (pss_one (ps_ret (pv 4)))))))), ?_⟩
  have lf : ((fs.map fun f => lnD f.1 f.2).map PyData.str).length = fs.length := by rw [List.length_map, List.length_map]
  refine d_asg (ed_call (eda_cons (ed_var rfl g0) fun _ _ => eda_nil) ⟨fs.map fun f => lnD f.1 f.2, by rw [textOf_lines], fun l hl => by
      obtain ⟨f, hf, rfl⟩ := List.mem_map.mp hl
      exact tl_line (lo f hf).w10 (lo f hf).sm (.inl (by decide)) (by decide), by rw [← textOf_lines]; exact tz, rfl⟩) x fun v3 H1 G1 s1 a1 => ?_
  refine d_new s1.inn fun L nL1 gL xL yL => ?_
  have nLH : H L = none := fresh_back s1.up nL1
  refine d_enum (K := K) (i := 3) rfl a1 xL (fun i σ' H' => ∃ x5 x6 x7 F xs, σ' = [some v0, some v1, some v2, some v3, some (.ref L), x5, x6, x7] ∧ Ex G1 H' ∧ Tw.Sep Tw.Nil H H' F ∧ F L = none ∧ H' L = some (.lst xs) ∧ xs.length = i ∧ DaAll K F xs ((fs.take i).map rowD)) ⟨_, _, _, Tw.Nil, [], rfl, xL, ⟨s1.up.trans yL, Ex.refl _, ex_nil, fun _ _ _ => rfl⟩, rfl, upd_same, rfl, .nil⟩ (fun i σ' H' p => by
    obtain ⟨_, _, _, _, _, _, e, _⟩ := p
    exact e) (fun i w' d' σ' H' hd gd p H4 e4 => ?_) fun σ' H' p => ?_
  · obtain ⟨x5, x6, x7, F, xs, rfl, xg, S, gF, hL, lx, gx⟩ := p
    rw [List.getElem?_map, List.getElem?_map] at hd
    obtain ⟨z, hz, rfl⟩ := Option.map_eq_some_iff.mp hd
    obtain ⟨f, hf, rfl⟩ := Option.map_eq_some_iff.mp hz
    have hi := (List.getElem?_eq_some_iff.mp hf).1
    have lof := lo f (List.mem_of_getElem? hf)
    refine d_asg (K := K) (d := .str (shapeAt hs fu i)) (ed_ifE (b := decide ((i : Int) < ((hs.map PyData.str).length : Nat))) (et_cmp0 (ed_var rfl (.int (i : Int))) (ed_lenT (ed_var rfl (da_ex s1.an g1)))) (fun hb => ?_) (fun hb => ?_)) (xg.trans e4) fun v7 H5 G5 s5 a7 => ?_
    · have hb' := of_decide_eq_true hb
      rw [List.length_map] at hb'
      refine ed_ixT (n := i) (ed_var rfl (da_ex s1.an g1)) (fun _ _ => ed_var rfl (.int (i : Int))) rfl ?_
      rw [List.getElem?_map, List.getElem?_eq_getElem (by omega)]
      unfold shapeAt
      rw [List.getD_eq_getElem?_getD, List.getElem?_eq_getElem (by omega)]
      rfl
    · have hb' := of_decide_eq_false hb
      rw [List.length_map] at hb'
      unfold shapeAt
      rw [List.getD_eq_getElem?_getD, List.getElem?_eq_none (by omega)]
      exact ed_var rfl (da_ex s1.an g2)
    cases a7
    have S5 : Tw.Sep Tw.Nil H H5 F := S.trans (Tw.Sep.stay S.inn (e4.trans s5.up))
    refine d_appN (A := G1) (F := F) (ds := (fs.take i).map rowD) (d := rowD f) S5.inn gF (s5.up _ _ (e4 _ _ hL)) gx rfl (en_call (eda_cons (ed_var rfl gd) fun G x => eda_cons (ed_var rfl (.str _)) fun G2 x2 => eda_cons (ed_add (ed_var rfl (.int (i : Int))) ed_int) fun _ _ => eda_nil) ⟨f.1, f.2, _, _, rfl, lof, so i f hf, rfl⟩) ((xg.trans e4).trans s5.up) (by omega) fun v H6 F6 s6 o6 g6 h6 e6 => ?_
    refine ⟨_, _, _, F6, xs ++ [v], rfl, Ex.mut (((xg.trans e4).trans s5.up).trans e6) gL, (S5.trans s6).mut nLH o6, o6, upd_same, by rw [List.length_append, lx]; rfl, ?_⟩
    rw [take_one hf, List.map_append]
    exact g6
  · obtain ⟨x5, x6, x7, F, xs, rfl, xg, S, gF, hL, lx, gx⟩ := p
    rw [lf, List.take_length] at gx
    refine d_if (b := false) (et_is (et_and (et_truL (ed_var rfl a1)) fun _ => et_not (et_bool (ed_m1 (p := Txt.endswith) (ed_var rfl (da_ex s1.an g0)) ed_str))) ?_) xg (fun hb => nomatch hb) fun _ H5 e5 => ?_
    · rw [textOf_lines, ends_line (by simp [fne]), Bool.not_true, Bool.and_false]
    refine d_if (b := false) (et_is (et_cmp0 (ed_len (ed_var rfl a1)) (ed_lenT (ed_var rfl (da_ex s1.an g1)))) ?_) (xg.trans e5) (fun hb => nomatch hb) fun _ H6 e6 => ?_
    · rw [lf, List.length_map]
      exact decide_eq_false (by omega)
    obtain ⟨S', aL⟩ := S.seal nLH gF hL gx
    refine s_ret (ev_var rfl) fun H7 e7 => ?_
    exact q _ H7 _ (S'.trans (Tw.Sep.stay S'.inn ((e5.trans e6).trans e7))) aL
def tupD : PyData → PyData
  | .list ds => .tuple ds
  | d => d
theorem wordOk (w : Str) (h : (w != "#" && !(TL.tl w).contains 32 && !(TL.tl w).contains 10) = true) : w ≠ "#" ∧ 32 ∉ TL.tl w ∧ 10 ∉ TL.tl w := by
  simp only [Bool.and_eq_true, bne_iff_ne, ne_eq, Bool.not_eq_true', List.contains_eq_mem, decide_eq_false_iff_not] at h
  exact ⟨h.1.1, h.1.2, h.2⟩
/-- the lines of a harbour are right -/
theorem found_ok {dp be : List Int} {t p l : Int} {ss : List (List Int)} (h : Port dp be t p l ss) : ∀ f ∈ foundL dp be t p l ss, LineOk f.1 f.2 := by
  intro f hf
  obtain ⟨a, b, c⟩ := h.found f hf
  have word : f.1 ≠ "#" ∧ 32 ∉ TL.tl f.1 ∧ 10 ∉ TL.tl f.1 := by
    rcases List.mem_append.mp hf with hf | hf
    · simp only [List.mem_cons, List.not_mem_nil, or_false] at hf
      rcases hf with rfl | rfl | rfl | rfl | rfl
      · exact wordOk (Str.ofString "tide") (by decide +kernel)
      · exact wordOk (Str.ofString "berths") (by decide +kernel)
      · exact wordOk (Str.ofString "tugs") (by decide +kernel)
      · exact wordOk (Str.ofString "pilots") (by decide +kernel)
      · exact wordOk (Str.ofString "last") (by decide +kernel)
    · obtain ⟨s, hs, rfl⟩ := List.mem_map.mp hf
      exact wordOk (Str.ofString "ship") (by decide +kernel)
  exact ⟨a, b, c, word.1, word.2.1, word.2.2⟩
def headL : List Str := [Str.ofString "tide ..", Str.ofString "berths ..", Str.ofString "tugs #", Str.ofString "pilots #", Str.ofString "last #"]
theorem shapes_ok {dp be : List Int} {t p l : Int} {ss : List (List Int)} (B : PortB dp be t p l ss) : ∀ (i : Nat) f, (foundL dp be t p l ss)[i]? = some f → ShapeOk (shapeAt headL (Str.ofString "ship # # # # # # #") i) f.1 f.2.length := by
  intro i f hf
  match i, hf with
  | 0, hf => cases Option.some.inj hf; exact ⟨by decide +kernel, .inr ⟨by decide +kernel, by show Txt.words (Str.ofString "tide ..") = [Str.ofString "tide", Str.ofString ".."]; decide +kernel⟩⟩
  | 1, hf => cases Option.some.inj hf; exact ⟨by decide +kernel, .inr ⟨by decide +kernel, by show Txt.words (Str.ofString "berths ..") = [Str.ofString "berths", Str.ofString ".."]; decide +kernel⟩⟩
  | 2, hf => cases Option.some.inj hf; exact ⟨by decide +kernel, .inl ⟨by decide +kernel, by show _ = wanted "tugs" 1; decide +kernel⟩⟩
  | 3, hf => cases Option.some.inj hf; exact ⟨by decide +kernel, .inl ⟨by decide +kernel, by show _ = wanted "pilots" 1; decide +kernel⟩⟩
  | 4, hf => cases Option.some.inj hf; exact ⟨by decide +kernel, .inl ⟨by decide +kernel, by show _ = wanted "last" 1; decide +kernel⟩⟩
  | i + 5, hf =>
    have h2 : (ss.map fun s => ((("ship" : String) : Str), s))[i]? = some f := hf
    rw [List.getElem?_map] at h2
    obtain ⟨s, hs, rfl⟩ := Option.map_eq_some_iff.mp h2
    have h7 := (B.s2 s (List.mem_of_getElem? hs)).1
    have e : shapeAt headL (Str.ofString "ship # # # # # # #") (i + 5) = Str.ofString "ship # # # # # # #" := rfl
    rw [e]
    show ShapeOk _ _ s.length
    rw [h7]
    exact ⟨by decide +kernel, .inl ⟨by decide +kernel, by show _ = wanted "ship" 7; decide +kernel⟩⟩
theorem text_len {dp be : List Int} {t p l : Int} {ss : List (List Int)} (h : Port dp be t p l ss) : (textOf (foundL dp be t p l ss)).length ≤ 100000 := by
  have hl := h.lss
  unfold textOf
  refine Nat.le_trans (join_len (sep := "") (m := 8) (b := 300) (c := 0) (by rw [List.length_map]; exact found_len h) (fun x hx => ?_) (by decide)) (by decide)
  obtain ⟨f, hf, rfl⟩ := List.mem_map.mp hx
  obtain ⟨a, b, c⟩ := h.found f hf
  exact line_len a b c
def R_read : List PyData → PyData → Prop := fun ds d => ∃ dp be t p l ss, ds = [.str (textOf (foundL dp be t p l ss))] ∧ Port dp be t p l ss ∧ PortB dp be t p l ss ∧ d = .tuple [encH dp be t p l, encS ss]
theorem ok_read_harbour (T : Tx K mg) : FnOk P w K mg base CX0 (k + 5) T.f_read_harbour T.d_read_harbour ["text"] (spO K R_read) := by
  refine T.F_read_harbour.ok scread_harbour (spO_len ?_) (fun cdv A outer s H vs Q E hr h => ?_)
  · rintro ds d ⟨_, _, _, _, _, _, rfl, _⟩
    rfl
  obtain ⟨G, ds, d, x, g, ⟨dp, be, t, p, l, ss, rfl, hp, B, rfl⟩, q⟩ := h
  obtain ⟨v0, r, rfl, g0, g⟩ := daa_inv g
  cases daa_inv0 g
  refine ⟨_, (pss_cons (ps_set (i := 1) scread_harbour.nd rfl (.inl rfl) (pe_call (ok__read_lines T) hr (by rfl) T.g__read_lines T.F__read_lines.kp T.b__read_lines .nil pass0 (pa_cons (pv 0) (pa_cons (pe_glob (v := .ref T.a_HEAD_SHAPES) (by rfl) T.g_HEAD_SHAPES rfl) (pa_cons (pe_glob (v := .str (Str.ofString "ship # # # # # # #")) (by rfl) T.g_SHIP_SHAPE ⟨_, rfl⟩) pa_nil)))))
    (pss_cons (ps_asg (pe_slice (slL K) (pv 1) po_none (po_some pe_int)) (pg_lst (by rfl) (pgs_cons (pg_name (i := 2) scread_harbour.nd rfl (.inl rfl)) (pgs_cons (pg_name (i := 3) scread_harbour.nd rfl (.inl rfl)) (pgs_cons (pg_name (i := 4) scread_harbour.nd rfl (.inl rfl)) (pgs_cons (pg_name (i := 5) scread_harbour.nd rfl (.inl rfl)) (pgs_cons (pg_name (i := 6) scread_harbour.nd rfl (.inl rfl)) pgs_nil)))))))
    (pss_cons (ps_set (i := 7) scread_harbour.nd rfl (.inl rfl) (pe_tup (pa_cons (pv 2) (pa_cons (pv 3) (pa_cons (pe_ix (ixl K) (pv 4) pe_int (fun _ _ => rfl)) (pa_cons (pe_ix (ixl K) (pv 5) pe_int (fun _ _ => rfl)) (pa_cons (pe_ix (ixl K) (pv 6) pe_int (fun _ _ => rfl)) pa_nil)))))))
    (pss_cons (ps_setLc (i := 8) (own := [("row", 9)]) (g := gName 9) (tt := tYes) rfl scread_harbour.nd rfl rfl (sw_true rfl rfl rfl (by decide +kernel)) (pi_list (pe_slice (slL K) (pv 1) (po_some pe_int) po_none)) (blkOk_by (N := N_read_harbour) (sc := defScope s_read_harbour) (by decide +kernel)) (fun _ _ _ _ _ => (pg_name (i := 9) scread_harbour.nd rfl (.inl rfl))) (fun _ _ _ _ _ => pts_nil) (fun _ _ _ _ _ => (pe_callTy (tupK K) (by rfl) T.m_tuple (by decide +kernel) (pa_cons (pv 9) pa_nil))))
    (pss_cons (ps_expr (pe_call (ok_check_harbour T) hr (by rfl) T.g_check_harbour T.F_check_harbour.kp T.b_check_harbour .nil pass0 (pa_cons (pv 7) pa_nil)))
    (pss_cons (ps_expr (pe_call (ok_check_ships (k := k + 1) T) hr (by rfl) T.g_check_ships T.F_check_ships.kp T.b_check_ships .nil pass0 (pa_cons (pv 8) pa_nil)))
    (pss_one (ps_ret (pe_tup (pa_cons (pv 7) (pa_cons (pv 8) pa_nil))))))))))), ?_⟩
  refine d_asgN (en_call (eda_cons (ed_var rfl g0) fun G x => eda_cons (ed_ev ev_c (TupK.strs (ns := headL) T.k_HEAD_SHAPES)) fun _ _ => eda_cons ed_str fun _ _ => eda_nil) ⟨foundL dp be t p l ss, headL, _, rfl, found_ok hp, text_len hp, by simp [foundL], by
      unfold foundL
      rw [List.length_append]
      show 5 ≤ 5 + _
      omega, by have := found_len hp; omega, shapes_ok B, rfl⟩) x fun v1 H1 F1 s1 a1 => ?_
  have rows : (foundL dp be t p l ss).map rowD = [.list (dp.map .int), .list (be.map .int), .list [.int t], .list [.int p], .list [.int l]] ++ ss.map fun s => .list (s.map .int) := by
    unfold foundL
    rw [List.map_append, List.map_map]
    rfl
  rw [rows] at a1
  refine d_unpL (ds := [.list (dp.map .int), .list (be.map .int), .list [.int t], .list [.int p], .list [.int l]]) (ed_is (ed_cut (ed_var rfl a1) (fun _ _ => eo_none) (fun _ _ => eo_some (ev_int (K := K) ed_int))) (congrArg PyData.list ((cut_to (n := 5)).trans (List.take_left (l₁ := [PyData.list (dp.map .int), .list (be.map .int), .list [.int t], .list [.int p], .list [.int l]]))))) s1.inn rfl fun vs H2 G2 s2 a => ?_
  obtain ⟨w0, r, rfl, b0, a⟩ := daa_inv a
  obtain ⟨w1, r, rfl, b1, a⟩ := daa_inv a
  obtain ⟨w2, r, rfl, b2, a⟩ := daa_inv a
  obtain ⟨w3, r, rfl, b3, a⟩ := daa_inv a
  obtain ⟨w4, r, rfl, b4, a⟩ := daa_inv a
  cases daa_inv0 a
  refine ⟨_, _, rfl, _, _, rfl, _, _, rfl, _, _, rfl, _, _, rfl, rfl, ?_⟩
  refine d_asg (ed_tup (eda_cons (ed_var rfl b0) fun G3 x3 => eda_cons (ed_var rfl (da_ex x3 b1)) fun G4 x4 => eda_cons (ed_ix (n := 0) (ed_var rfl (da_ex (x3.trans x4) b2)) (fun _ _ => ed_int) rfl rfl) fun G5 x5 => eda_cons (ed_ix (n := 0) (ed_var rfl (da_ex ((x3.trans x4).trans x5) b3)) (fun _ _ => ed_int) rfl rfl) fun G6 x6 => eda_cons (ed_ix (n := 0) (ed_var rfl (da_ex (((x3.trans x4).trans x5).trans x6) b4)) (fun _ _ => ed_int) rfl rfl) fun _ _ => eda_nil) (by show 5 ≤ 100000; decide)) s2.inn fun v7 H3 G3 s3 a7 => ?_
  have lss := hp.lss
  refine d_asg (K := K) (d := encS ss) (ed_is (ed_lcL tupD (ds := ss.map fun s => .list (s.map .int)) (ed_is (ed_cut (ed_var rfl (da_ex (s2.an.trans s3.an) a1)) (fun _ _ => eo_some (ev_int (K := K) ed_int)) (fun _ _ => eo_none)) (congrArg PyData.list ((cut_from (n := 5)).trans (List.drop_left (l₁ := [PyData.list (dp.map .int), .list (be.map .int), .list [.int t], .list [.int p], .list [.int l]]))))) (by rw [List.length_map]; omega) (fun _ => rfl) ?_) ?_) s3.inn fun v8 H4 G4 s4 a8 => ?_
  · intro d v G4 hd x4 gd
    obtain ⟨s, hs, rfl⟩ := List.mem_map.mp hd
    exact ed_tuple (ed_var rfl gd)
  · rw [List.map_map]
    rfl
  have c7 := da_ex s4.an a7
  refine d_drop (ed_call (eda_cons (ed_var rfl c7) fun _ _ => eda_nil) ⟨dp, be, t, p, l, ss, rfl, B, rfl⟩) s4.inn fun H5 e5 => ?_
  refine d_drop (ed_call (eda_cons (ed_var rfl a8) fun _ _ => eda_nil) ⟨dp, be, t, p, l, ss, rfl, B, rfl⟩) (s4.inn.trans e5) fun H6 e6 => ?_
  refine d_ret (ed_tup (eda_cons (ed_var rfl c7) fun G x => eda_cons (ed_var rfl (da_ex x a8)) fun _ _ => eda_nil) (by show 2 ≤ 100000; decide)) ((s4.inn.trans e5).trans e6) fun v H7 G7 s7 a9 => ?_
  exact q v H7 G7 ((((s1.trans s2).trans s3).trans s4).trans (s7.back (e5.trans e6))) a9
end
end K10

set_option Elab.async false
set_option linter.all false
set_option maxRecDepth 100000
set_option maxHeartbeats 4000000
namespace K10
open PySem PySem.Spec PyProof.Rows L2 Evl Tw
section
variable {P : Program} {w : World} {K : PySem.W.Frag} {mg : Str → Option Value} {base : Heap}
/-! the law -/
theorem port_lines (dp be : List Int) (t p l : Int) (ss : List (List Int)) : Txt.join "" ((foundL dp be t p l ss).map fun f => lineD f.1 f.2) = textD dp be t p l ss := by
  unfold foundL textD
  rw [List.map_append, List.map_map]
  rfl
theorem ok_small {i : Int} (h : 0 ≤ i ∧ i < 1000) : Ok 0 17 (.int i) := ok_int (by omega) (by omega)
theorem ok_smalls {ns : List Int} (h : Small ns) : ∀ d ∈ ns.map PyData.int, Ok 0 17 d := by
  intro d hd
  obtain ⟨n, hn, rfl⟩ := List.mem_map.mp hd
  exact ok_small (h n hn)
theorem ok_port {dp be : List Int} {t p l : Int} {ss : List (List Int)} (h : Port dp be t p l ss) : Ok 3 10000 (.tuple [encH dp be t p l, encS ss]) := by
  have hd := h.ldp
  have hb := h.lbe
  have hs := h.lss
  have h1 : Ok 2 2000 (encH dp be t p l) := by
    refine ok_tup (n := 1) (w := 300) (fun d hm => ?_) (by show 5 * 301 ≤ 2000; decide)
    simp only [List.mem_cons, List.not_mem_nil, or_false] at hm
    rcases hm with rfl | rfl | rfl | rfl | rfl
    · exact ok_list (ok_smalls h.sdp) (by rw [List.length_map]; omega)
    · exact ok_list (ok_smalls h.sbe) (by rw [List.length_map]; omega)
    · exact (ok_small (h.st t List.mem_cons_self)).mono (by decide) (by decide)
    · exact (ok_small (h.sp p List.mem_cons_self)).mono (by decide) (by decide)
    · exact (ok_small (h.sl l List.mem_cons_self)).mono (by decide) (by decide)
  have h2 : Ok 2 2000 (encS ss) := by
    refine ok_list (n := 1) (w := 200) (fun d hm => ?_) (by rw [List.length_map]; omega)
    obtain ⟨s, hs, rfl⟩ := List.mem_map.mp hm
    exact ok_tup (ok_smalls (h.sss s hs).2) (by rw [List.length_map]; have := (h.sss s hs).1; omega)
  exact ok_tup (mem2 h1 h2) (by show 2 * 2001 ≤ 10000; decide)
theorem portB_ok (D : Nat → Int) : PortB (dps D) (bes D) (D 16 % 7) (1 + D 17 % 3) (1 + D 18 % 40) (sss D) := by
  have m0 := md (x := D 0) (m := 12) (by decide)
  have m1 := md (x := D 13) (m := 2) (by decide)
  have m2 := md (x := D 16) (m := 7) (by decide)
  have m3 := md (x := D 17) (m := 3) (by decide)
  have m4 := md (x := D 18) (m := 40) (by decide)
  have m5 := md (x := D 19) (m := 3) (by decide)
  have l1 : (dps D).length = (1 + D 0 % 12).toNat := by unfold dps; rw [List.length_map, List.length_range]
  have l2 : (bes D).length = (1 + D 13 % 2).toNat := by unfold bes; rw [List.length_map, List.length_range]
  have l3 : (sss D).length = (1 + D 19 % 3).toNat := by unfold sss; rw [List.length_map, List.length_range]
  refine ⟨by omega, by omega, fun n hn => ?_, by omega, by omega, fun n hn => ?_, by omega, by omega, by omega, by omega, by omega, fun s hs => ?_⟩
  · obtain ⟨i, _, rfl⟩ := List.mem_map.mp hn
    have := md (x := D (1 + i)) (m := 41) (by decide)
    omega
  · obtain ⟨i, _, rfl⟩ := List.mem_map.mp hn
    have := md (x := D (14 + i)) (m := 9) (by decide)
    omega
  · obtain ⟨i, _, rfl⟩ := List.mem_map.mp hs
    refine ⟨rfl, fun j n lo hi h1 h2 => ?_⟩
    have c0 := md (x := D (20 + 8 * i + 0)) (m := 21) (by decide)
    have c1 := md (x := D (20 + 8 * i + 1)) (m := 9) (by decide)
    have c2 := md (x := D (20 + 8 * i + 2)) (m := 41) (by decide)
    have c3 := md (x := D (20 + 8 * i + 3)) (m := 4) (by decide)
    have c4 := md (x := D (20 + 8 * i + 4)) (m := 4) (by decide)
    have c5 := md (x := D (20 + 8 * i + 5)) (m := 10) (by decide)
    have c6 := md (x := D (20 + 8 * i + 6)) (m := 10) (by decide)
    match j, h1, h2 with
    | 0, h1, h2 => cases Option.some.inj h1; cases Option.some.inj h2; omega
    | 1, h1, h2 => cases Option.some.inj h1; cases Option.some.inj h2; omega
    | 2, h1, h2 => cases Option.some.inj h1; cases Option.some.inj h2; omega
    | 3, h1, h2 => cases Option.some.inj h1; cases Option.some.inj h2; omega
    | 4, h1, h2 => cases Option.some.inj h1; cases Option.some.inj h2; omega
    | 5, h1, h2 => cases Option.some.inj h1; cases Option.some.inj h2; omega
    | 6, h1, h2 => cases Option.some.inj h1; cases Option.some.inj h2; omega
    | j + 7, h1, h2 => cases h2
/-- a list changes, tuples stay -/
theorem st_upd {H : Hp} {t l : Addr} {xs ys zs : List V} (h : SqT K H t xs) (hl : H l = some (.lst ys)) : SqT K (upd H l (.lst zs)) t xs := by
  rcases h with (h | ⟨o, h⟩) | h
  · refine .inl (.inl ?_)
    rw [upd_ne fun z => by rw [z, hl] at h; cases h]
    exact h
  · refine .inl (.inr ⟨o, ?_⟩)
    rw [upd_ne fun z => by rw [z, hl] at h; cases h]
    exact h
  · exact .inr h
theorem lst_upd {H : Hp} {l m : Addr} {ys zs : List V} {n : Nat} (h : ∃ xs, H m = some (.lst xs) ∧ xs.length ≤ n) (hl : H l = some (.lst ys)) (hz : zs.length ≤ n) : ∃ xs, (upd H l (.lst zs)) m = some (.lst xs) ∧ xs.length ≤ n := by
  by_cases q : m = l
  · subst q
    exact ⟨zs, upd_same, hz⟩
  · obtain ⟨xs, h, hn⟩ := h
    exact ⟨xs, by rw [upd_ne q]; exact h, hn⟩
def lawLevel : Nat := 6
theorem ok_law (T : Tx K mg) : FnG P w K mg base lawLevel T.f_law T.d_law ["script"] (spLaw K) := by
  refine fnG_of T.F_law sclaw spLaw_len (fun cdv A outer s H vs Q E gg hr h => ?_)
  have hu := hr.units
  obtain ⟨a, ns, rfl, hS, hl, q⟩ := h
  refine ⟨_, (pss_cons (ps_set (i := 1) sclaw.nd rfl (.inl rfl) (pe_call (ok_draws T) hr (by rfl) T.g__law_draws T.F__law_draws.kp T.b__law_draws .nil pass0 (pa_cons (pv 0) (pa_cons pe_int pa_nil))))
    (pss_cons (ps_asg (pe_call (ok__law_port T) hr (by rfl) T.g__law_port T.F__law_port.kp T.b__law_port .nil pass0 (pa_cons (pv 1) pa_nil)) (pg_tup (by rfl) (pgs_cons (pg_name (i := 2) sclaw.nd rfl (.inl rfl)) (pgs_cons (pg_name (i := 3) sclaw.nd rfl (.inl rfl)) pgs_nil))))
    (pss_cons (ps_set (i := 4) sclaw.nd rfl (.inl rfl) (pe_call (ok__law_text T) hr (by rfl) T.g__law_text T.F__law_text.kp T.b__law_text .nil pass0 (pa_cons (pe_call (ok__law_lines T) hr (by rfl) T.g__law_lines T.F__law_lines.kp T.b__law_lines .nil pass0 (pa_cons (pv 2) (pa_cons (pv 3) pa_nil))) pa_nil)))
    (pss_cons (ps_for PassesOwn.never rfl (pi_range1 (by rfl) T.m_range (pa_cons pe_int pa_nil)) (pg_name (i := 5) sclaw.nd rfl (.inl rfl))
      (pss_cons (ps_set (i := 6) sclaw.nd rfl (.inl rfl) (pe_call (ok_read_harbour T) hr (by rfl) T.g_read_harbour T.F_read_harbour.kp T.b_read_harbour .nil pass0 (pa_cons (pv 4) pa_nil)))
      (pss_cons (ps_if (PW.pt (pw_or (pt_cmpR op_ne (pe_callB (reprK K gg hu) (by rfl) T.m_repr (by decide +kernel) (pa_cons (pv 6) pa_nil)) (pe_callB (reprK K gg hu) (by rfl) T.m_repr (by decide +kernel) (pa_cons (pe_tup (pa_cons (pv 2) (pa_cons (pv 3) pa_nil))) pa_nil)) (nomark _)) (pw_or1 (pt_cmpR op_ne (pe_call (ok_write_harbour T) hr (by rfl) T.g_write_harbour T.F_write_harbour.kp T.b_write_harbour .nil pass0 (pa_cons (pe_ix (ixt K) (pv 6) pe_int (fun _ _ => rfl)) (pa_cons (pe_ix (ixt K) (pv 6) pe_int (fun _ _ => rfl)) pa_nil))) (pv 4) (nomark _))))) (pss_one (ps_ret pe_bl)) pss_nil)
      (pss_cons (ps_expr (pe_bm PySem.F.plainAttrs_list PySem.F.slot_list_append PySem.F.type_list_append mt_append (pe_ix (ixt K) (pe_ix (ixt K) (pv 6) pe_int (fun _ _ => rfl)) pe_int (fun _ _ => rfl)) (pa_cons pe_int pa_nil)))
      (pss_cons (ps_expr (pe_bm PySem.F.plainAttrs_list PySem.F.slot_list_append PySem.F.type_list_append mt_append (pe_ix (ixt K) (pe_ix (ixt K) (pv 6) pe_int (fun _ _ => rfl)) pe_int (fun _ _ => rfl)) (pa_cons pe_int pa_nil)))
      (pss_one (ps_expr (pe_bm PySem.F.plainAttrs_list PySem.F.slot_list_append PySem.F.type_list_append mt_append (pe_ix (ixt K) (pv 6) pe_int (fun _ _ => rfl)) (pa_cons pe_int pa_nil)))))))))
    (pss_one (ps_ret pe_bl)))))), ?_⟩
  refine d_draws (n := 45) rfl rfl hS hl (by decide) fun ds p H1 dr e1 a1 => ?_
  have hp := port_ok fun i => ds.getD i 0
  have B := portB_ok fun i => ds.getD i 0
  refine d_unp (ed_call (d := portD fun i => ds.getD i 0) (eda_cons (ed_var rfl a1) fun _ _ => eda_nil) ⟨ds, dr, rfl, rfl⟩) (Ex.refl H1) rfl fun vs H2 G2 s2 a => ?_
  obtain ⟨v2, r, rfl, a2, a⟩ := daa_inv a
  obtain ⟨v3, r, rfl, a3, a⟩ := daa_inv a
  cases daa_inv0 a
  refine ⟨_, _, rfl, _, _, rfl, rfl, ?_⟩
  generalize dps (fun i => ds.getD i 0) = dp at hp a2 B
  generalize bes (fun i => ds.getD i 0) = be at hp a2 B
  generalize sss (fun i => ds.getD i 0) = ss at hp a3 B
  generalize ((fun i => ds.getD i 0) 16 % 7 : Int) = t at hp a2 B
  generalize (1 + (fun i => ds.getD i 0) 17 % 3 : Int) = p at hp a2 B
  generalize (1 + (fun i => ds.getD i 0) 18 % 40 : Int) = l at hp a2 B
  refine d_asg (d := .str (textOf (foundL dp be t p l ss))) (ed_call (eda_cons (ed_call (eda_cons (ed_var rfl a2) fun G x => eda_cons (ed_var rfl (da_ex x a3)) fun _ _ => eda_nil) ⟨dp, be, t, p, l, ss, rfl, hp, rfl⟩) fun _ _ => eda_nil) ⟨foundL dp be t p l ss, rfl, found_len hp, hp.found, rfl⟩) s2.inn fun v4 H4 G4 s4 a4 => ?_
  cases a4
  have b2 := da_ex s4.an a2
  have b3 := da_ex s4.an a3
  refine d_range (K := K) (n := 2) (G := G4) ed_int s4.inn (by decide) (fun i σ' H' => ∃ x0 x1 x5 x6, σ' = [x0, x1, some v2, some v3, some (.str (textOf (foundL dp be t p l ss))), x5, x6] ∧ Ex G4 H') ?_ ?_ ?_
  · intro H5 e5
    exact ⟨_, _, _, _, rfl, s4.inn.trans e5⟩
  · rintro i σ' H' hi ⟨x0, x1, x5, x6, rfl, x⟩
    refine d_asgN (K := K) (en_call (eda_cons (ed_var rfl (.str _)) fun _ _ => eda_nil) ⟨dp, be, t, p, l, ss, rfl, hp, B, rfl⟩) x fun v6 H6 F s6 a6 => ?_
    obtain ⟨GG, sG, eF⟩ := s6.join x
    have c6 := da_ex eF a6
    have c2 := da_ex sG.an b2
    have c3 := da_ex sG.an b3
    refine d_if (b := false) (et_is (et_or (et_neS (ed_reprO (ed_var rfl c6) ⟨_, .inr rfl⟩ (ok_port hp) (by decide) (by decide)) (ed_reprO (ed_tup (eda_cons (ed_var rfl c2) fun G x2 => eda_cons (ed_var rfl (da_ex x2 c3)) fun _ _ => eda_nil) (by show 2 ≤ 100000; decide)) ⟨_, .inr rfl⟩ (ok_port hp) (by decide) (by decide))) (fun _ => et_neS (ed_call (eda_cons (ed_ixT (n := 0) (ed_var rfl c6) (fun _ _ => ed_int) rfl rfl) fun G x2 => eda_cons (ed_ixT (n := 1) (ed_var rfl (da_ex x2 c6)) (fun _ _ => ed_int) rfl rfl) fun _ _ => eda_nil) ⟨dp, be, t, p, l, ss, rfl, hp, rfl⟩) (ed_var rfl (.str _)))) ?_) sG.inn (fun hb => nomatch hb) fun _ H7 e7 => ?_
    · rw [str_eq, show textOf (foundL dp be t p l ss) = textD dp be t p l ss from port_lines dp be t p l ss, str_eq]
      rfl
    have xF : Ex F H7 := s6.inn.trans e7
    have xG : Ex G4 H7 := (sG.an.trans sG.inn).trans e7
    have fresh : ∀ {m : Addr} {o : HO}, F m = some o → G4 m = none := fun {m o} hm => by
      cases z : G4 m with
      | none => rfl
      | some u =>
        rw [s6.sep m rfl (by rw [x m u z]; exact Option.some_ne_none u)] at hm
        cases hm
    cases a6 with
    | @tup t0 xs0 _ e0 g0 =>
      obtain ⟨y0, r, rfl, h0, g0⟩ := daa_inv g0
      obtain ⟨y1, r, rfl, h1, g0⟩ := daa_inv g0
      cases daa_inv0 g0
      cases h0 with
      | @tup th xs1 _ eh gh =>
        obtain ⟨z0, r, rfl, k0, gh⟩ := daa_inv gh
        obtain ⟨z1, r, rfl, k1, gh⟩ := daa_inv gh
        cases k0 with
        | @lst ld xd _ ed gd =>
          cases k1 with
          | @lst lb xb _ eb gb =>
            cases h1 with
            | @lst ls xs _ es gs =>
              have n0 : xd.length ≤ 100 := by
                have := daa_len gd
                rw [List.length_map] at this
                have := hp.ldp
                omega
              have n1 : xb.length ≤ 100 := by
                have := daa_len gb
                rw [List.length_map] at this
                have := hp.lbe
                omega
              have n2 : xs.length ≤ 100 := by
                have := daa_len gs
                rw [List.length_map] at this
                have := hp.lss
                omega
              refine q_app (l := ld) (xs := xd) (v := .int 0) (xF _ _ ed) (ev_op (ev_op (ev_var rfl) ev_c (rv_ixT (ex_t xF e0) (atI_nat (j := 0) rfl))) ev_c (rv_ixT (ex_t xF eh) (atI_nat (j := 0) rfl))) ev_c (by omega) fun H8 e8 => ?_
              have y0 := st_upd (zs := xd ++ [.int 0]) (ex_t (xF.trans e8) e0) (e8 _ _ (xF _ _ ed))
              have yh := st_upd (zs := xd ++ [.int 0]) (ex_t (xF.trans e8) eh) (e8 _ _ (xF _ _ ed))
              have xG8 : Ex G4 (upd H8 ld (.lst (xd ++ [.int 0]))) := Ex.mut (xG.trans e8) (fresh ed)
              obtain ⟨wb, hwb, lwb⟩ := lst_upd (n := 101) (zs := xd ++ [.int 0]) ⟨xb, e8 _ _ (xF _ _ eb), by omega⟩ (e8 _ _ (xF _ _ ed)) (by rw [List.length_append]; show xd.length + 1 ≤ 101; omega)
              obtain ⟨ws, hws, lws⟩ := lst_upd (n := 101) (zs := xd ++ [.int 0]) ⟨xs, e8 _ _ (xF _ _ es), by omega⟩ (e8 _ _ (xF _ _ ed)) (by rw [List.length_append]; show xd.length + 1 ≤ 101; omega)
              refine q_app (l := lb) (xs := wb) (v := .int 0) hwb (ev_op (ev_op (ev_var rfl) ev_c (rv_ixT y0 (atI_nat (j := 0) rfl))) ev_c (rv_ixT yh (atI_nat (j := 1) rfl))) ev_c (by omega) fun H9 e9 => ?_
              have y0' := st_upd (zs := wb ++ [.int 0]) (ex_t e9 y0) (e9 _ _ hwb)
              have xG9 : Ex G4 (upd H9 lb (.lst (wb ++ [.int 0]))) := Ex.mut (xG8.trans e9) (fresh eb)
              obtain ⟨ws2, hws2, lws2⟩ := lst_upd (n := 102) (zs := wb ++ [.int 0]) ⟨ws, e9 _ _ hws, by omega⟩ (e9 _ _ hwb) (by rw [List.length_append]; show wb.length + 1 ≤ 102; omega)
              refine s_app (l := ls) (xs := ws2) (v := .int 0) hws2 (ev_op (ev_var rfl) ev_c (rv_ixT y0' (atI_nat (j := 1) rfl))) ev_c (by omega) fun H10 e10 => ?_
              exact ⟨_, _, _, _, rfl, Ex.mut (xG9.trans e10) (fresh es)⟩
  · rintro σ' H' ⟨x0, x1, x5, x6, rfl, x⟩
    refine s_ret (v := .bl true) ev_c fun H8 e8 => ?_
    exact q H8
theorem all_ok {fa : Addr} (T : Tx K mg) (hfa : mg "law" = some (.ref fa)) : ∃ fd : FuncData, (∀ (s : Shared) (v : Value), BindsTo s fd ⟨[v], []⟩ [("script", v)]) ∧ ∀ base : Heap, K.In base → base.Ns mainGlobals mg → FnG P w K mg base lawLevel fa fd ["script"] (spLaw K) := by
  have e := hfa.symm.trans T.g_law
  cases e
  refine ⟨T.d_law, fun s v => ?_, fun base _ _ => ok_law T⟩
  obtain ⟨_, _, _, _, _, _, _, _, _, h, _⟩ := T.F_law.ex
  rw [h]
  exact .of_eq rfl
end
def tx_mk {K : PySem.W.Frag} {h : Heap} {mg : Str → Option Value} (X : K.In h) (G : h.Ns mainGlobals mg)
    {f0 : Addr} {od0 an0 : Option Addr} {sl0 : Array (Option Value)} {oc0 kV0 dc0 pm0 cd0 ct0 : Value}
    (a0 : PySem.W.nsIn K mainGlobals "is_within" = some (some (.ref f0))) (l0 : K.lookup f0 = some ⟨oc0, od0, .func (PySem.W.fnOf "is_within" "is_within" (defArgs s_is_within) (defBody s_is_within) (defScope s_is_within) .none kV0 dc0 pm0 an0 cd0 ct0), sl0⟩) (c0 : PySem.W.codeIn K cd0 "is_within" = true) (k0 : PySem.W.keepIn K (.ref f0) = true)
    {f1 : Addr} {od1 an1 : Option Addr} {sl1 : Array (Option Value)} {oc1 kV1 dc1 pm1 cd1 ct1 : Value}
    (a1 : PySem.W.nsIn K mainGlobals "_check_number" = some (some (.ref f1))) (l1 : K.lookup f1 = some ⟨oc1, od1, .func (PySem.W.fnOf "_check_number" "_check_number" (defArgs s__check_number) (defBody s__check_number) (defScope s__check_number) .none kV1 dc1 pm1 an1 cd1 ct1), sl1⟩) (c1 : PySem.W.codeIn K cd1 "_check_number" = true) (k1 : PySem.W.keepIn K (.ref f1) = true)
    {f2 : Addr} {od2 an2 : Option Addr} {sl2 : Array (Option Value)} {oc2 kV2 dc2 pm2 cd2 ct2 : Value}
    (a2 : PySem.W.nsIn K mainGlobals "_check_list" = some (some (.ref f2))) (l2 : K.lookup f2 = some ⟨oc2, od2, .func (PySem.W.fnOf "_check_list" "_check_list" (defArgs s__check_list) (defBody s__check_list) (defScope s__check_list) .none kV2 dc2 pm2 an2 cd2 ct2), sl2⟩) (c2 : PySem.W.codeIn K cd2 "_check_list" = true) (k2 : PySem.W.keepIn K (.ref f2) = true)
    {f3 : Addr} {od3 an3 : Option Addr} {sl3 : Array (Option Value)} {oc3 kV3 dc3 pm3 cd3 ct3 : Value}
    (a3 : PySem.W.nsIn K mainGlobals "check_harbour" = some (some (.ref f3))) (l3 : K.lookup f3 = some ⟨oc3, od3, .func (PySem.W.fnOf "check_harbour" "check_harbour" (defArgs s_check_harbour) (defBody s_check_harbour) (defScope s_check_harbour) .none kV3 dc3 pm3 an3 cd3 ct3), sl3⟩) (c3 : PySem.W.codeIn K cd3 "check_harbour" = true) (k3 : PySem.W.keepIn K (.ref f3) = true)
    {f4 : Addr} {od4 an4 : Option Addr} {sl4 : Array (Option Value)} {oc4 kV4 dc4 pm4 cd4 ct4 : Value}
    (a4 : PySem.W.nsIn K mainGlobals "is_ship" = some (some (.ref f4))) (l4 : K.lookup f4 = some ⟨oc4, od4, .func (PySem.W.fnOf "is_ship" "is_ship" (defArgs s_is_ship) (defBody s_is_ship) (defScope s_is_ship) .none kV4 dc4 pm4 an4 cd4 ct4), sl4⟩) (c4 : PySem.W.codeIn K cd4 "is_ship" = true) (k4 : PySem.W.keepIn K (.ref f4) = true)
    {f5 : Addr} {od5 an5 : Option Addr} {sl5 : Array (Option Value)} {oc5 kV5 dc5 pm5 cd5 ct5 : Value}
    (a5 : PySem.W.nsIn K mainGlobals "check_ships" = some (some (.ref f5))) (l5 : K.lookup f5 = some ⟨oc5, od5, .func (PySem.W.fnOf "check_ships" "check_ships" (defArgs s_check_ships) (defBody s_check_ships) (defScope s_check_ships) .none kV5 dc5 pm5 an5 cd5 ct5), sl5⟩) (c5 : PySem.W.codeIn K cd5 "check_ships" = true) (k5 : PySem.W.keepIn K (.ref f5) = true)
    {f6 : Addr} {od6 an6 : Option Addr} {sl6 : Array (Option Value)} {oc6 kV6 dc6 pm6 cd6 ct6 : Value}
    (a6 : PySem.W.nsIn K mainGlobals "_line_of" = some (some (.ref f6))) (l6 : K.lookup f6 = some ⟨oc6, od6, .func (PySem.W.fnOf "_line_of" "_line_of" (defArgs s__line_of) (defBody s__line_of) (defScope s__line_of) .none kV6 dc6 pm6 an6 cd6 ct6), sl6⟩) (c6 : PySem.W.codeIn K cd6 "_line_of" = true) (k6 : PySem.W.keepIn K (.ref f6) = true)
    {f7 : Addr} {od7 an7 : Option Addr} {sl7 : Array (Option Value)} {oc7 kV7 dc7 pm7 cd7 ct7 : Value}
    (a7 : PySem.W.nsIn K mainGlobals "write_harbour" = some (some (.ref f7))) (l7 : K.lookup f7 = some ⟨oc7, od7, .func (PySem.W.fnOf "write_harbour" "write_harbour" (defArgs s_write_harbour) (defBody s_write_harbour) (defScope s_write_harbour) .none kV7 dc7 pm7 an7 cd7 ct7), sl7⟩) (c7 : PySem.W.codeIn K cd7 "write_harbour" = true) (k7 : PySem.W.keepIn K (.ref f7) = true)
    {f8 : Addr} {od8 an8 : Option Addr} {sl8 : Array (Option Value)} {oc8 kV8 dc8 pm8 cd8 ct8 : Value}
    (a8 : PySem.W.nsIn K mainGlobals "_is_number" = some (some (.ref f8))) (l8 : K.lookup f8 = some ⟨oc8, od8, .func (PySem.W.fnOf "_is_number" "_is_number" (defArgs s__is_number) (defBody s__is_number) (defScope s__is_number) .none kV8 dc8 pm8 an8 cd8 ct8), sl8⟩) (c8 : PySem.W.codeIn K cd8 "_is_number" = true) (k8 : PySem.W.keepIn K (.ref f8) = true)
    {f9 : Addr} {od9 an9 : Option Addr} {sl9 : Array (Option Value)} {oc9 kV9 dc9 pm9 cd9 ct9 : Value}
    (a9 : PySem.W.nsIn K mainGlobals "_fits" = some (some (.ref f9))) (l9 : K.lookup f9 = some ⟨oc9, od9, .func (PySem.W.fnOf "_fits" "_fits" (defArgs s__fits) (defBody s__fits) (defScope s__fits) .none kV9 dc9 pm9 an9 cd9 ct9), sl9⟩) (c9 : PySem.W.codeIn K cd9 "_fits" = true) (k9 : PySem.W.keepIn K (.ref f9) = true)
    {f10 : Addr} {od10 an10 : Option Addr} {sl10 : Array (Option Value)} {oc10 kV10 dc10 pm10 cd10 ct10 : Value}
    (a10 : PySem.W.nsIn K mainGlobals "_words_of" = some (some (.ref f10))) (l10 : K.lookup f10 = some ⟨oc10, od10, .func (PySem.W.fnOf "_words_of" "_words_of" (defArgs s__words_of) (defBody s__words_of) (defScope s__words_of) .none kV10 dc10 pm10 an10 cd10 ct10), sl10⟩) (c10 : PySem.W.codeIn K cd10 "_words_of" = true) (k10 : PySem.W.keepIn K (.ref f10) = true)
    {f11 : Addr} {od11 an11 : Option Addr} {sl11 : Array (Option Value)} {oc11 kV11 dc11 pm11 cd11 ct11 : Value}
    (a11 : PySem.W.nsIn K mainGlobals "_read_line" = some (some (.ref f11))) (l11 : K.lookup f11 = some ⟨oc11, od11, .func (PySem.W.fnOf "_read_line" "_read_line" (defArgs s__read_line) (defBody s__read_line) (defScope s__read_line) .none kV11 dc11 pm11 an11 cd11 ct11), sl11⟩) (c11 : PySem.W.codeIn K cd11 "_read_line" = true) (k11 : PySem.W.keepIn K (.ref f11) = true)
    {f12 : Addr} {od12 an12 : Option Addr} {sl12 : Array (Option Value)} {oc12 kV12 dc12 pm12 cd12 ct12 : Value}
    (a12 : PySem.W.nsIn K mainGlobals "_lines_of" = some (some (.ref f12))) (l12 : K.lookup f12 = some ⟨oc12, od12, .func (PySem.W.fnOf "_lines_of" "_lines_of" (defArgs s__lines_of) (defBody s__lines_of) (defScope s__lines_of) .none kV12 dc12 pm12 an12 cd12 ct12), sl12⟩) (c12 : PySem.W.codeIn K cd12 "_lines_of" = true) (k12 : PySem.W.keepIn K (.ref f12) = true)
    {f13 : Addr} {od13 an13 : Option Addr} {sl13 : Array (Option Value)} {oc13 kV13 dc13 pm13 cd13 ct13 : Value}
    (a13 : PySem.W.nsIn K mainGlobals "_read_lines" = some (some (.ref f13))) (l13 : K.lookup f13 = some ⟨oc13, od13, .func (PySem.W.fnOf "_read_lines" "_read_lines" (defArgs s__read_lines) (defBody s__read_lines) (defScope s__read_lines) .none kV13 dc13 pm13 an13 cd13 ct13), sl13⟩) (c13 : PySem.W.codeIn K cd13 "_read_lines" = true) (k13 : PySem.W.keepIn K (.ref f13) = true)
    {f14 : Addr} {od14 an14 : Option Addr} {sl14 : Array (Option Value)} {oc14 kV14 dc14 pm14 cd14 ct14 : Value}
    (a14 : PySem.W.nsIn K mainGlobals "read_harbour" = some (some (.ref f14))) (l14 : K.lookup f14 = some ⟨oc14, od14, .func (PySem.W.fnOf "read_harbour" "read_harbour" (defArgs s_read_harbour) (defBody s_read_harbour) (defScope s_read_harbour) .none kV14 dc14 pm14 an14 cd14 ct14), sl14⟩) (c14 : PySem.W.codeIn K cd14 "read_harbour" = true) (k14 : PySem.W.keepIn K (.ref f14) = true)
    {f15 : Addr} {od15 an15 : Option Addr} {sl15 : Array (Option Value)} {oc15 kV15 dc15 pm15 cd15 ct15 : Value}
    (a15 : PySem.W.nsIn K mainGlobals "_law_draws" = some (some (.ref f15))) (l15 : K.lookup f15 = some ⟨oc15, od15, .func (PySem.W.fnOf "_law_draws" "_law_draws" (defArgs s__law_draws) (defBody s__law_draws) (defScope s__law_draws) .none kV15 dc15 pm15 an15 cd15 ct15), sl15⟩) (c15 : PySem.W.codeIn K cd15 "_law_draws" = true) (k15 : PySem.W.keepIn K (.ref f15) = true)
    {f16 : Addr} {od16 an16 : Option Addr} {sl16 : Array (Option Value)} {oc16 kV16 dc16 pm16 cd16 ct16 : Value}
    (a16 : PySem.W.nsIn K mainGlobals "_law_port" = some (some (.ref f16))) (l16 : K.lookup f16 = some ⟨oc16, od16, .func (PySem.W.fnOf "_law_port" "_law_port" (defArgs s__law_port) (defBody s__law_port) (defScope s__law_port) .none kV16 dc16 pm16 an16 cd16 ct16), sl16⟩) (c16 : PySem.W.codeIn K cd16 "_law_port" = true) (k16 : PySem.W.keepIn K (.ref f16) = true)
    {f17 : Addr} {od17 an17 : Option Addr} {sl17 : Array (Option Value)} {oc17 kV17 dc17 pm17 cd17 ct17 : Value}
    (a17 : PySem.W.nsIn K mainGlobals "_law_lines" = some (some (.ref f17))) (l17 : K.lookup f17 = some ⟨oc17, od17, .func (PySem.W.fnOf "_law_lines" "_law_lines" (defArgs s__law_lines) (defBody s__law_lines) (defScope s__law_lines) .none kV17 dc17 pm17 an17 cd17 ct17), sl17⟩) (c17 : PySem.W.codeIn K cd17 "_law_lines" = true) (k17 : PySem.W.keepIn K (.ref f17) = true)
    {f18 : Addr} {od18 an18 : Option Addr} {sl18 : Array (Option Value)} {oc18 kV18 dc18 pm18 cd18 ct18 : Value}
    (a18 : PySem.W.nsIn K mainGlobals "_law_text" = some (some (.ref f18))) (l18 : K.lookup f18 = some ⟨oc18, od18, .func (PySem.W.fnOf "_law_text" "_law_text" (defArgs s__law_text) (defBody s__law_text) (defScope s__law_text) .none kV18 dc18 pm18 an18 cd18 ct18), sl18⟩) (c18 : PySem.W.codeIn K cd18 "_law_text" = true) (k18 : PySem.W.keepIn K (.ref f18) = true)
    {f19 : Addr} {od19 an19 : Option Addr} {sl19 : Array (Option Value)} {oc19 kV19 dc19 pm19 cd19 ct19 : Value}
    (a19 : PySem.W.nsIn K mainGlobals "law" = some (some (.ref f19))) (l19 : K.lookup f19 = some ⟨oc19, od19, .func (PySem.W.fnOf "law" "law" (defArgs s_law) (defBody s_law) (defScope s_law) .none kV19 dc19 pm19 an19 cd19 ct19), sl19⟩) (c19 : PySem.W.codeIn K cd19 "law" = true) (k19 : PySem.W.keepIn K (.ref f19) = true)
    (z0 : PySem.W.nsIn K mainGlobals "len" = some none)
    (z1 : PySem.W.nsIn K mainGlobals "int" = some none)
    (z2 : PySem.W.nsIn K mainGlobals "range" = some none)
    (z3 : PySem.W.nsIn K mainGlobals "str" = some none)
    (z4 : PySem.W.nsIn K mainGlobals "tuple" = some none)
    (z5 : PySem.W.nsIn K mainGlobals "repr" = some none)
    (z6 : PySem.W.nsIn K mainGlobals "isinstance" = some none)
    (z7 : PySem.W.nsIn K mainGlobals "bool" = some none)
    (z8 : PySem.W.nsIn K mainGlobals "enumerate" = some none)
    (z9 : PySem.W.nsIn K mainGlobals "zip" = some none)
    (z10 : PySem.W.nsIn K mainGlobals "all" = some none)
    {p0 p0x0 p0x1 p0x2 p0x3 p0x4 p0x5 p0x6 : Addr} {od0p : Option Addr} {n0p : Nat} {sl0p : Array (Option Value)} (s0 : PySem.W.nsIn K mainGlobals "SHIP_BOUNDS" = some (some (.ref p0))) (r0 : K.lookup p0 = some ⟨.type "tuple", od0p, .seq #[.ref p0x0, .ref p0x1, .ref p0x2, .ref p0x3, .ref p0x4, .ref p0x5, .ref p0x6] n0p, sl0p⟩)
    {od0p0 : Option Addr} {n0p0 : Nat} {sl0p0 : Array (Option Value)} {q0x0y0 q0x0y1 : Tok} (r0x0 : K.lookup p0x0 = some ⟨.type "tuple", od0p0, .seq #[.int 0 q0x0y0, .int 20 q0x0y1] n0p0, sl0p0⟩)
    {od0p1 : Option Addr} {n0p1 : Nat} {sl0p1 : Array (Option Value)} {q0x1y0 q0x1y1 : Tok} (r0x1 : K.lookup p0x1 = some ⟨.type "tuple", od0p1, .seq #[.int 1 q0x1y0, .int 9 q0x1y1] n0p1, sl0p1⟩)
    {od0p2 : Option Addr} {n0p2 : Nat} {sl0p2 : Array (Option Value)} {q0x2y0 q0x2y1 : Tok} (r0x2 : K.lookup p0x2 = some ⟨.type "tuple", od0p2, .seq #[.int 0 q0x2y0, .int 40 q0x2y1] n0p2, sl0p2⟩)
    {od0p3 : Option Addr} {n0p3 : Nat} {sl0p3 : Array (Option Value)} {q0x3y0 q0x3y1 : Tok} (r0x3 : K.lookup p0x3 = some ⟨.type "tuple", od0p3, .seq #[.int 1 q0x3y0, .int 4 q0x3y1] n0p3, sl0p3⟩)
    {od0p4 : Option Addr} {n0p4 : Nat} {sl0p4 : Array (Option Value)} {q0x4y0 q0x4y1 : Tok} (r0x4 : K.lookup p0x4 = some ⟨.type "tuple", od0p4, .seq #[.int 0 q0x4y0, .int 3 q0x4y1] n0p4, sl0p4⟩)
    {od0p5 : Option Addr} {n0p5 : Nat} {sl0p5 : Array (Option Value)} {q0x5y0 q0x5y1 : Tok} (r0x5 : K.lookup p0x5 = some ⟨.type "tuple", od0p5, .seq #[.int 0 q0x5y0, .int 9 q0x5y1] n0p5, sl0p5⟩)
    {od0p6 : Option Addr} {n0p6 : Nat} {sl0p6 : Array (Option Value)} {q0x6y0 q0x6y1 : Tok} (r0x6 : K.lookup p0x6 = some ⟨.type "tuple", od0p6, .seq #[.int 0 q0x6y0, .int 9 q0x6y1] n0p6, sl0p6⟩)
    {t1 : Tok} (s1 : PySem.W.nsIn K mainGlobals "NUMBER" = some (some (.str (Str.ofString "#") t1)))
    {t2 : Tok} (s2 : PySem.W.nsIn K mainGlobals "NUMBERS" = some (some (.str (Str.ofString "..") t2)))
    {p3 : Addr} {od3p : Option Addr} {n3p : Nat} {sl3p : Array (Option Value)} {q3x0 q3x1 q3x2 q3x3 q3x4 : Tok} (s3 : PySem.W.nsIn K mainGlobals "HEAD_SHAPES" = some (some (.ref p3))) (r3 : K.lookup p3 = some ⟨.type "tuple", od3p, .seq #[.str (Str.ofString "tide ..") q3x0, .str (Str.ofString "berths ..") q3x1, .str (Str.ofString "tugs #") q3x2, .str (Str.ofString "pilots #") q3x3, .str (Str.ofString "last #") q3x4] n3p, sl3p⟩)
    {t4 : Tok} (s4 : PySem.W.nsIn K mainGlobals "SHIP_SHAPE" = some (some (.str (Str.ofString "ship # # # # # # #") t4))) : Tx K mg where
  f_is_within := _
  d_is_within := _
  F_is_within := fun_mk (st := s_is_within) l0 c0 k0
  g_is_within := PySem.W.mg_of X G a0
  b_is_within := (fun_mk (st := s_is_within) l0 c0 k0).binds fun _ _ _ _ _ _ us hl => match us, hl with | [_, _, _], _ => rfl
  f__check_number := _
  d__check_number := _
  F__check_number := fun_mk (st := s__check_number) l1 c1 k1
  g__check_number := PySem.W.mg_of X G a1
  b__check_number := (fun_mk (st := s__check_number) l1 c1 k1).binds fun _ _ _ _ _ _ us hl => match us, hl with | [_, _, _], _ => rfl
  f__check_list := _
  d__check_list := _
  F__check_list := fun_mk (st := s__check_list) l2 c2 k2
  g__check_list := PySem.W.mg_of X G a2
  b__check_list := (fun_mk (st := s__check_list) l2 c2 k2).binds fun _ _ _ _ _ _ us hl => match us, hl with | [_, _, _, _], _ => rfl
  f_check_harbour := _
  d_check_harbour := _
  F_check_harbour := fun_mk (st := s_check_harbour) l3 c3 k3
  g_check_harbour := PySem.W.mg_of X G a3
  b_check_harbour := (fun_mk (st := s_check_harbour) l3 c3 k3).binds fun _ _ _ _ _ _ us hl => match us, hl with | [_], _ => rfl
  f_is_ship := _
  d_is_ship := _
  F_is_ship := fun_mk (st := s_is_ship) l4 c4 k4
  g_is_ship := PySem.W.mg_of X G a4
  b_is_ship := (fun_mk (st := s_is_ship) l4 c4 k4).binds fun _ _ _ _ _ _ us hl => match us, hl with | [_], _ => rfl
  f_check_ships := _
  d_check_ships := _
  F_check_ships := fun_mk (st := s_check_ships) l5 c5 k5
  g_check_ships := PySem.W.mg_of X G a5
  b_check_ships := (fun_mk (st := s_check_ships) l5 c5 k5).binds fun _ _ _ _ _ _ us hl => match us, hl with | [_], _ => rfl
  f__line_of := _
  d__line_of := _
  F__line_of := fun_mk (st := s__line_of) l6 c6 k6
  g__line_of := PySem.W.mg_of X G a6
  b__line_of := (fun_mk (st := s__line_of) l6 c6 k6).binds fun _ _ _ _ _ _ us hl => match us, hl with | [_, _], _ => rfl
  f_write_harbour := _
  d_write_harbour := _
  F_write_harbour := fun_mk (st := s_write_harbour) l7 c7 k7
  g_write_harbour := PySem.W.mg_of X G a7
  b_write_harbour := (fun_mk (st := s_write_harbour) l7 c7 k7).binds fun _ _ _ _ _ _ us hl => match us, hl with | [_, _], _ => rfl
  f__is_number := _
  d__is_number := _
  F__is_number := fun_mk (st := s__is_number) l8 c8 k8
  g__is_number := PySem.W.mg_of X G a8
  b__is_number := (fun_mk (st := s__is_number) l8 c8 k8).binds fun _ _ _ _ _ _ us hl => match us, hl with | [_], _ => rfl
  f__fits := _
  d__fits := _
  F__fits := fun_mk (st := s__fits) l9 c9 k9
  g__fits := PySem.W.mg_of X G a9
  b__fits := (fun_mk (st := s__fits) l9 c9 k9).binds fun _ _ _ _ _ _ us hl => match us, hl with | [_, _], _ => rfl
  f__words_of := _
  d__words_of := _
  F__words_of := fun_mk (st := s__words_of) l10 c10 k10
  g__words_of := PySem.W.mg_of X G a10
  b__words_of := (fun_mk (st := s__words_of) l10 c10 k10).binds fun _ _ _ _ _ _ us hl => match us, hl with | [_, _], _ => rfl
  f__read_line := _
  d__read_line := _
  F__read_line := fun_mk (st := s__read_line) l11 c11 k11
  g__read_line := PySem.W.mg_of X G a11
  b__read_line := (fun_mk (st := s__read_line) l11 c11 k11).binds fun _ _ _ _ _ _ us hl => match us, hl with | [_, _, _], _ => rfl
  f__lines_of := _
  d__lines_of := _
  F__lines_of := fun_mk (st := s__lines_of) l12 c12 k12
  g__lines_of := PySem.W.mg_of X G a12
  b__lines_of := (fun_mk (st := s__lines_of) l12 c12 k12).binds fun _ _ _ _ _ _ us hl => match us, hl with | [_], _ => rfl
  f__read_lines := _
  d__read_lines := _
  F__read_lines := fun_mk (st := s__read_lines) l13 c13 k13
  g__read_lines := PySem.W.mg_of X G a13
  b__read_lines := (fun_mk (st := s__read_lines) l13 c13 k13).binds fun _ _ _ _ _ _ us hl => match us, hl with | [_, _, _], _ => rfl
  f_read_harbour := _
  d_read_harbour := _
  F_read_harbour := fun_mk (st := s_read_harbour) l14 c14 k14
  g_read_harbour := PySem.W.mg_of X G a14
  b_read_harbour := (fun_mk (st := s_read_harbour) l14 c14 k14).binds fun _ _ _ _ _ _ us hl => match us, hl with | [_], _ => rfl
  f__law_draws := _
  d__law_draws := _
  F__law_draws := fun_mk (st := s__law_draws) l15 c15 k15
  g__law_draws := PySem.W.mg_of X G a15
  b__law_draws := (fun_mk (st := s__law_draws) l15 c15 k15).binds fun _ _ _ _ _ _ us hl => match us, hl with | [_, _], _ => rfl
  f__law_port := _
  d__law_port := _
  F__law_port := fun_mk (st := s__law_port) l16 c16 k16
  g__law_port := PySem.W.mg_of X G a16
  b__law_port := (fun_mk (st := s__law_port) l16 c16 k16).binds fun _ _ _ _ _ _ us hl => match us, hl with | [_], _ => rfl
  f__law_lines := _
  d__law_lines := _
  F__law_lines := fun_mk (st := s__law_lines) l17 c17 k17
  g__law_lines := PySem.W.mg_of X G a17
  b__law_lines := (fun_mk (st := s__law_lines) l17 c17 k17).binds fun _ _ _ _ _ _ us hl => match us, hl with | [_, _], _ => rfl
  f__law_text := _
  d__law_text := _
  F__law_text := fun_mk (st := s__law_text) l18 c18 k18
  g__law_text := PySem.W.mg_of X G a18
  b__law_text := (fun_mk (st := s__law_text) l18 c18 k18).binds fun _ _ _ _ _ _ us hl => match us, hl with | [_], _ => rfl
  f_law := _
  d_law := _
  F_law := fun_mk (st := s_law) l19 c19 k19
  g_law := PySem.W.mg_of X G a19
  b_law := (fun_mk (st := s_law) l19 c19 k19).binds fun _ _ _ _ _ _ us hl => match us, hl with | [_], _ => rfl
  m_len := PySem.W.mg_none_of X G z0
  m_int := PySem.W.mg_none_of X G z1
  m_range := PySem.W.mg_none_of X G z2
  m_str := PySem.W.mg_none_of X G z3
  m_tuple := PySem.W.mg_none_of X G z4
  m_repr := PySem.W.mg_none_of X G z5
  m_isinstance := PySem.W.mg_none_of X G z6
  m_bool := PySem.W.mg_none_of X G z7
  m_enumerate := PySem.W.mg_none_of X G z8
  m_zip := PySem.W.mg_none_of X G z9
  m_all := PySem.W.mg_none_of X G z10
  a_SHIP_BOUNDS := _
  g_SHIP_BOUNDS := PySem.W.mg_of X G s0
  a0_SHIP_BOUNDS := _
  k0_SHIP_BOUNDS := Tw.tupK_of r0x0 (show 2 ≤ sizeLine by decide) (.cons ⟨_, rfl⟩ (.cons ⟨_, rfl⟩ .nil))
  a1_SHIP_BOUNDS := _
  k1_SHIP_BOUNDS := Tw.tupK_of r0x1 (show 2 ≤ sizeLine by decide) (.cons ⟨_, rfl⟩ (.cons ⟨_, rfl⟩ .nil))
  a2_SHIP_BOUNDS := _
  k2_SHIP_BOUNDS := Tw.tupK_of r0x2 (show 2 ≤ sizeLine by decide) (.cons ⟨_, rfl⟩ (.cons ⟨_, rfl⟩ .nil))
  a3_SHIP_BOUNDS := _
  k3_SHIP_BOUNDS := Tw.tupK_of r0x3 (show 2 ≤ sizeLine by decide) (.cons ⟨_, rfl⟩ (.cons ⟨_, rfl⟩ .nil))
  a4_SHIP_BOUNDS := _
  k4_SHIP_BOUNDS := Tw.tupK_of r0x4 (show 2 ≤ sizeLine by decide) (.cons ⟨_, rfl⟩ (.cons ⟨_, rfl⟩ .nil))
  a5_SHIP_BOUNDS := _
  k5_SHIP_BOUNDS := Tw.tupK_of r0x5 (show 2 ≤ sizeLine by decide) (.cons ⟨_, rfl⟩ (.cons ⟨_, rfl⟩ .nil))
  a6_SHIP_BOUNDS := _
  k6_SHIP_BOUNDS := Tw.tupK_of r0x6 (show 2 ≤ sizeLine by decide) (.cons ⟨_, rfl⟩ (.cons ⟨_, rfl⟩ .nil))
  k_SHIP_BOUNDS := Tw.tupK_of r0 (show 7 ≤ sizeLine by decide) (.cons rfl (.cons rfl (.cons rfl (.cons rfl (.cons rfl (.cons rfl (.cons rfl .nil)))))))
  t_NUMBER := _
  g_NUMBER := PySem.W.mg_of X G s1
  t_NUMBERS := _
  g_NUMBERS := PySem.W.mg_of X G s2
  a_HEAD_SHAPES := _
  g_HEAD_SHAPES := PySem.W.mg_of X G s3
  k_HEAD_SHAPES := Tw.tupK_of r3 (show 5 ≤ sizeLine by decide) (.cons ⟨_, rfl⟩ (.cons ⟨_, rfl⟩ (.cons ⟨_, rfl⟩ (.cons ⟨_, rfl⟩ (.cons ⟨_, rfl⟩ .nil)))))
  t_SHIP_SHAPE := _
  g_SHIP_SHAPE := PySem.W.mg_of X G s4
end K10
open PySem PySem.W PyProof.Rows
set_option maxHeartbeats 0 in
theorem PySem.Challenge.cw_tidewaits_k10_harbours_read_back_holds : PySem.Challenge.rw_tidewaits_k10_harbours_read_back.Holds := by
  w_on; o_law; k_head; (case hw => w_witness2)
  k_fill
  refine Tw.walk_G (l := PySem.Challenge.rw_tidewaits_k10_harbours_read_back) (n := 63) (k := K10.lawLevel) (x := "script") (sp := Tw.spLaw) rfl (by decide) rfl ⟨rfl, by decide, by decide⟩ (fun w h Y => PySem.W.kIn_of Y) ?F (fun _ _ _ _ hl hS => ⟨_, _, rfl, hS, hl, fun _ => rfl⟩)
  case F =>
    intro w mg fa h KX G hmg
    refine' K10.all_ok (K10.tx_mk KX G ?a0 ?l0 ?c0 ?k0 ?a1 ?l1 ?c1 ?k1 ?a2 ?l2 ?c2 ?k2 ?a3 ?l3 ?c3 ?k3 ?a4 ?l4 ?c4 ?k4 ?a5 ?l5 ?c5 ?k5 ?a6 ?l6 ?c6 ?k6 ?a7 ?l7 ?c7 ?k7 ?a8 ?l8 ?c8 ?k8 ?a9 ?l9 ?c9 ?k9 ?a10 ?l10 ?c10 ?k10 ?a11 ?l11 ?c11 ?k11 ?a12 ?l12 ?c12 ?k12 ?a13 ?l13 ?c13 ?k13 ?a14 ?l14 ?c14 ?k14 ?a15 ?l15 ?c15 ?k15 ?a16 ?l16 ?c16 ?k16 ?a17 ?l17 ?c17 ?k17 ?a18 ?l18 ?c18 ?k18 ?a19 ?l19 ?c19 ?k19 ?z0 ?z1 ?z2 ?z3 ?z4 ?z5 ?z6 ?z7 ?z8 ?z9 ?z10 ?s0 ?r0 ?r0x0 ?r0x1 ?r0x2 ?r0x3 ?r0x4 ?r0x5 ?r0x6 ?s1 ?s2 ?s3 ?r3 ?s4) hmg
    (case a0 => k_is); (case l0 => k_is); (case c0 => k_is); (case k0 => k_is); (case a1 => k_is); (case l1 => k_is); (case c1 => k_is); (case k1 => k_is); (case a2 => k_is); (case l2 => k_is); (case c2 => k_is); (case k2 => k_is); (case a3 => k_is); (case l3 => k_is); (case c3 => k_is); (case k3 => k_is); (case a4 => k_is); (case l4 => k_is); (case c4 => k_is); (case k4 => k_is); (case a5 => k_is); (case l5 => k_is); (case c5 => k_is); (case k5 => k_is); (case a6 => k_is); (case l6 => k_is); (case c6 => k_is); (case k6 => k_is); (case a7 => k_is); (case l7 => k_is); (case c7 => k_is); (case k7 => k_is); (case a8 => k_is); (case l8 => k_is); (case c8 => k_is); (case k8 => k_is); (case a9 => k_is); (case l9 => k_is); (case c9 => k_is); (case k9 => k_is); (case a10 => k_is); (case l10 => k_is); (case c10 => k_is); (case k10 => k_is); (case a11 => k_is); (case l11 => k_is); (case c11 => k_is); (case k11 => k_is); (case a12 => k_is); (case l12 => k_is); (case c12 => k_is); (case k12 => k_is); (case a13 => k_is); (case l13 => k_is); (case c13 => k_is); (case k13 => k_is); (case a14 => k_is); (case l14 => k_is); (case c14 => k_is); (case k14 => k_is); (case a15 => k_is); (case l15 => k_is); (case c15 => k_is); (case k15 => k_is); (case a16 => k_is); (case l16 => k_is); (case c16 => k_is); (case k16 => k_is); (case a17 => k_is); (case l17 => k_is); (case c17 => k_is); (case k17 => k_is); (case a18 => k_is); (case l18 => k_is); (case c18 => k_is); (case k18 => k_is); (case a19 => k_is); (case l19 => k_is); (case c19 => k_is); (case k19 => k_is); (case z0 => k_is); (case z1 => k_is); (case z2 => k_is); (case z3 => k_is); (case z4 => k_is); (case z5 => k_is); (case z6 => k_is); (case z7 => k_is); (case z8 => k_is); (case z9 => k_is); (case z10 => k_is); (case s0 => k_is); (case r0 => k_is); (case r0x0 => k_is); (case r0x1 => k_is); (case r0x2 => k_is); (case r0x3 => k_is); (case r0x4 => k_is); (case r0x5 => k_is); (case r0x6 => k_is); (case s1 => k_is); (case s2 => k_is); (case s3 => k_is); (case r3 => k_is); (case s4 => k_is)

