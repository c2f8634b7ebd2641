import PyProof.Rows.All
import Wide.All
import OpenK.AllK
import Wide.FinOn
import HandS.ForMost
import HandS.Evl
import HandS.Zip
import HandS.RaiseMore
import PyProof.ReprRoads
import HandS.IsInst
import HandS.Defaults
import PySem.Challenge.RW_tidewaits_k04_tides_and_passings
set_option Elab.async false
set_option linter.all false
set_option maxRecDepth 100000
set_option maxHeartbeats 4000000
namespace Tw
open PySem PySem.Spec PyProof.Rows L2 Evl
/-! data that stays -/
mutual
theorem dp_ex {K : PySem.W.Frag} {H H' : Hp} (e : Ex H H') : ∀ {v : V} {d : PyData}, Dp K H v d → Dp K H' v d
  | _, _, .non => .non
  | _, _, .bl b => .bl b
  | _, _, .int i => .int i
  | _, _, .str x => .str x
  | _, _, .lst h a => .lst (ex_l e h) (dpa_ex e a)
  | _, _, .tup h a => .tup (ex_t e h) (dpa_ex e a)
theorem dpa_ex {K : PySem.W.Frag} {H H' : Hp} (e : Ex H H') : ∀ {vs : List V} {ds : List PyData}, DpAll K H vs ds → DpAll K H' vs ds
  | _, _, .nil => .nil
  | _, _, .cons h a => .cons (dp_ex e h) (dpa_ex e a)
end
/-! repr of data -/
section
variable {X : Cx}
def rRepr (K : PySem.W.Frag) : List V → Hp → VK → Prop := fun xs H Q => ∃ (a : Addr) (d : PyData), xs = [.ref a] ∧ Dp K H (.ref a) d ∧ d.showable = true ∧ d.hasDict = false ∧ d.depth ≤ 60 ∧ d.shown.length ≤ sizeLine ∧ Q (.str d.shown) H
theorem call_repr (hg : X.A.guards = some []) (hu : X.A.units + 64 < cLine) : CallR X (.builtin "repr") (rRepr X.K) := by
  intro pins s σ H xs us Q I r h
  obtain ⟨a, d, rfl, hd, hs, hn, hz, hl, q⟩ := h
  cases r with
  | cons r1 r2 =>
    cases r2
    cases r1
    obtain ⟨as, rd⟩ := Dp.reads I d _ _ hd rfl
    exact repr_of_reads' rd hs (PyData.noDict_hsm hn) hg (by omega) (fun _ _ e => e) (fun h' u tk hk => ⟨.str d.shown, H, I.kept hk, ⟨u, rfl⟩, q⟩) hl
end
end Tw

set_option Elab.async false
set_option linter.all false
set_option maxRecDepth 100000
set_option maxHeartbeats 4000000
namespace Tw
open PySem PySem.Spec PyProof.Rows L2 Evl
/-! a def's promise where no repr is under way -/
structure FnG (P : Program) (w : World) (K : PySem.W.Frag) (mg : Str → Option Value) (base : Heap) (k : Nat) (f : Addr) (fd : FuncData) (ps : List Str) (sp : Sp) : Prop where
  len : ∀ vs H Q E, sp vs H Q E → vs.length = ps.length
  run : ∀ (A : Around) (outer : List Env) (s : Shared) (H : Hp) (args : Args) (us : List Value) (vs : List V) (Q : VK) (E : XK), A.guards = some [] → Room k A →
    Env0 P w K mg base A outer s H → BindsTo s fd args (ps.zip us) → Vals vs us → sp vs H Q E →
    codeAny (model P w) A (.call (.ref f) args) (CR CX0 outer P w H s Q E) s
theorem fnG_of {P : Program} {w : World} {K : PySem.W.Frag} {mg : Str → Option Value} {base : Heap} {x qual : Str} {st : Stmt} {f : Addr} {fd : FuncData} {N ps : List Str} {k : Nat} {sp : Sp}
    (F : Fun K x qual st f fd) (S : FnScope N ps (defScope st)) (len : ∀ vs H Q E, sp vs H Q E → vs.length = ps.length)
    (body : ∀ (cdv : Value) (A : Around) (outer : List Env) (s : Shared) (H : Hp) (vs : List V) (Q : VK) (E : XK), A.guards = some [] → Room k (A.deeper (envOfC qual (defScope st) s.heap.objs.size f cdv)) → sp vs H Q E →
      ∃ t, PSs (cxOf CX0 P w K mg base N qual (defScope st) f cdv A outer s H E).nox (defBody st) t ∧ t { nx := fun _ H' => Q .non H', rt := Q } (start N vs) H) :
    FnG P w K mg base (k + 1) f fd ps sp := by
  obtain ⟨_, _, _, _, _, _, cdv, _, _, rfl, lk, hcd⟩ := F.ex
  constructor
  · exact len
  intro A outer s H args us vs Q E gd room e0 bt rv hq
  have lenV := len _ _ _ _ hq
  have kin : K.In s.heap := by
    have h := e0.mod.kin
    exact h.keeps fun c u z => (e0.bs c u z).1
  have nol : s.heap.NoLimit := by
    have h := e0.mod.nolimit
    exact h.keeps fun c u z => (e0.bs c u z).1
  have kinds : ∀ y ∈ ps.zip us, (defScope st).names.lookup y.1 = some .local ∨
      ((defScope st).names.lookup y.1 = some .cell ∧ ((cellsFrom (s.heap.objs.size + 1) (defScope st).names []).lookup y.1).isSome = true) := by
    rintro ⟨n, u⟩ hy
    have hn := (List.of_mem_zip hy).1
    cases S.par n hn with
    | inl h => exact .inl h
    | inr h => exact .inr ⟨h, PySem.W.cellsFrom_some _ _ _ (.inl h)⟩
  refine codeAny_call_function room.depth (kin _ _ lk) rfl S.co S.gen rfl
    (PySem.W.codeRec_of kin hcd) (bt _ _ _ _ ?_)
  refine wpAny_newFunctionEnv_cells S.kind kinds ?_
  intro env he s1 inc
  cases he
  refine ⟨nol.keeps inc.toInCall.keep, codeAny_func ?_⟩
  obtain ⟨t, ht', hb⟩ := body cdv A outer s H vs Q E gd (room.deeper _) hq
  have ht := ht'.nox
  have J := inv_start (CX := CX0) (E := E) S room.hd e0 lenV rv inc
  have goal := ht.run [] s1 (start N vs) H _ J hb
  refine wpAny_mono goal ?_ ?_
  · intro fl s' hs
    cases fl with
    | ret u =>
      obtain ⟨v, σ', H', I, r, q⟩ := hs
      exact ⟨v, H', I.os, I.bare, I.base, I.hok, r, q⟩
    | next =>
      obtain ⟨σ', H', I, q⟩ := hs
      exact ⟨.non, H', I.os, I.bare, I.base, I.hok, rfl, q⟩
    | brk =>
      obtain ⟨_, _, _, q⟩ := hs
      exact q.elim
    | cont =>
      obtain ⟨_, _, _, q⟩ := hs
      exact q.elim
  · intro e s' hs
    exact hs
theorem law_callG {P : Program} {w : World} {K : PySem.W.Frag} {mg mb : Str → Option Value} {k : Nat} {fa a : Addr} {fd : FuncData} {x : Str} {sp : Sp} {s₁ : Shared} {vs : List Value} {ns : List Int}
    (KX : K.In s₁.heap) (gl : s₁.heap.Ns mainGlobals mg) (bl : s₁.heap.Ns builtinsNs mb) (bb : ∀ x : Str, x ≠ "__name__" → mb x = bootBuiltins x) (nl : s₁.heap.NoLimit) (ng : s₁.gens = #[])
    (ha : s₁.heap.get? a = some { cls := .type "list", data := .seq vs.toArray }) (hi : IntsAre vs ns) (hl : ns.length ≤ sizeLine) (room : Room k callerA)
    (F : ∀ base : Heap, K.In base → base.Ns mainGlobals mg → FnG P w K mg base k fa fd [x] sp) (bt : ∀ (s : Shared) (u : Value), BindsTo s fd ⟨[u], []⟩ [(x, u)])
    (hsp : ∀ H : Hp, SqL K H a (ns.map V.int) → sp [.ref a] H (fun v _ => v = .bl true) fun _ _ _ => False) :
    codeAny (model P w) callerA (.call (.ref fa) ⟨[.ref a], []⟩) (fun r s' => r = .ok (.ret (.bool true)) ∧ OldK s₁.heap s'.heap ∧ s'.os = s₁.os ∧ AllBare s'.gens) s₁ := by
  have rv := vals_ints hi
  have lenV := hi.length
  have main : ∀ H : Hp, Only H → SqL K H a (ns.map V.int) → HOk P w H s₁.heap → (∀ b, H b ≠ none → b = a) → (H a ≠ none → K.lookup a = none) →
      codeAny (model P w) callerA (.call (.ref fa) ⟨[.ref a], []⟩) (fun r s' => r = .ok (.ret (.bool true)) ∧ OldK s₁.heap s'.heap ∧ s'.os = s₁.os ∧ AllBare s'.gens) s₁ := by
    intro H only sq hok onlyA notK
    have hide : ∀ {b : Addr} {m : Str → Option Value}, s₁.heap.Ns b m → (hidT s₁.heap H).Ns b m := by
      rintro b m ⟨o, es, ep, e1, e2, r⟩
      refine ⟨o, es, ep, hidT_get e1 ?_, e2, r⟩
      cases q : H b with
      | none => rfl
      | some u =>
        have eb : b = a := onlyA b (by rw [q]; exact Option.some_ne_none u)
        subst eb
        rw [ha] at e1
        cases e1
        cases e2
    have kinB : K.In (hidT s₁.heap H) := by
      intro b o e
      refine hidT_get (KX b o e) ?_
      cases q : H b with
      | none => rfl
      | some u =>
        have eb : b = a := onlyA b (by rw [q]; exact Option.some_ne_none u)
        subst eb
        have := notK (by rw [q]; exact Option.some_ne_none u)
        rw [this] at e
        cases e
    obtain ⟨mc, c1, c2⟩ := nl
    have md : Mod K mg (hidT s₁.heap H) := ⟨kinB, hide gl, ⟨mb, hide bl, bb⟩, ⟨mc, hide c1, c2⟩⟩
    have env : Env0 P w K mg (hidT s₁.heap H) callerA [] s₁ H := by
      refine ⟨rfl, md, fun b o e => of_hidT e, Nat.le_of_eq (hidT_size _ _), trivial, ?_, hok, .of_eq ng⟩
      intro b hb
      exact absurd (show b ∈ ([] : List Addr) from hb) List.not_mem_nil
    have FF := F _ kinB (hide gl)
    have go := FF.run callerA [] s₁ H ⟨[.ref a], []⟩ [.ref a] [.ref a] _ _ rfl room env (bt s₁ (.ref a)) (.cons rfl .nil) (hsp H sq)
    refine codeAny_mono go ?_
    intro r s' hr
    match r, hr with
    | .error e, hr => exact False.elim hr
    | .ok .next, hr => exact False.elim hr
    | .ok .brk, hr => exact False.elim hr
    | .ok .cont, hr => exact False.elim hr
    | .ok (.ret u), hr =>
      obtain ⟨v, H', os, bare, un, hok', r', q⟩ := hr
      cases (show v = .bl true from q)
      cases (show u = Value.bool true from r')
      refine ⟨rfl, OldK.of_keep ?_, os, bare⟩
      intro b o e
      cases q : H b with
      | none => exact un.keep b o e q (fun z => absurd (show b ∈ ([] : List Addr) from z) List.not_mem_nil) (fun z => absurd z List.not_mem_nil)
      | some u =>
        rcases only b with z | ⟨ob, xs, z⟩
        · rw [q] at z
          cases z
        · obtain ⟨e1, _⟩ := hok b _ z
          obtain ⟨e2, _⟩ := hok' b _ (un.frzs b ob _ z)
          rw [e] at e1
          cases e1
          exact e2
  cases hk : K.lookup a with
  | some o =>
    have e := KX a o hk
    rw [ha] at e
    cases e
    refine main (fun _ => none) (fun _ => .inl rfl) (.inr ⟨_, vs.toArray, _, hk, rfl, rfl, rfl, ?_, by simpa using rv⟩) (fun b u z => by cases z) (fun b z => absurd rfl z) fun z => absurd rfl z
    rw [List.size_toArray, lenV]
    exact hl
  | none =>
    let Ha : Hp := fun b => if b = a then some (.frz { cls := .type "list", data := .seq vs.toArray } (.lst (ns.map V.int))) else none
    have at_a : Ha a = some (.frz { cls := .type "list", data := .seq vs.toArray } (.lst (ns.map V.int))) := if_pos rfl
    have off : ∀ b, b ≠ a → Ha b = none := fun b hb => if_neg hb
    refine main Ha ?_ (.inl (.inr ⟨_, at_a⟩)) ?_ ?_ fun _ => hk
    · intro b
      by_cases hb : b = a
      · subst hb
        exact .inr ⟨_, _, at_a⟩
      · exact .inl (off b hb)
    · intro b u z
      by_cases hb : b = a
      · subst hb
        rw [at_a] at z
        cases z
        exact ⟨ha, by rw [List.length_map]; exact hl, vs, _, rv, ha⟩
      · rw [off b hb] at z
        cases z
    · intro b z
      by_cases hb : b = a
      · exact hb
      · exact absurd (off b hb) z
theorem walk_G {l : PySem.W.OpenLaw} {n k : Nat} {q : Program} {loose : List Str} {XP : (Str → Option Value) → Heap → Prop} {YP : World → Heap → Prop} {d : DefRec} {K : Params → PySem.W.Frag} {sp : PySem.W.Frag → Sp} {x : Str}
    (hn : l.most = some n) (hn2 : n ≤ sizeLine) (hdf : d.params.defaults = []) (room : Room k callerA) (hY : ∀ (w : World) (h : Heap), YP w h → (K w.params).In h)
    (F : ∀ (w : World) (mg : Str → Option Value) (fa : Addr) (h : Heap), (K w.params).In h → h.Ns mainGlobals mg → mg d.name = some (.ref fa) →
      ∃ fd : FuncData, (∀ (s : Shared) (u : Value), BindsTo s fd ⟨[u], []⟩ [(x, u)]) ∧
        ∀ base : Heap, (K w.params).In base → base.Ns mainGlobals mg → FnG l.prog w (K w.params) mg base k fa fd [x] (sp (K w.params)))
    (hsp : ∀ (K : PySem.W.Frag) (H : Hp) (a : Addr) (ns : List Int), ns.length ≤ n → SqL K H a (ns.map V.int) → sp K [.ref a] H (fun v _ => v = .bl true) fun _ _ _ => False) :
    PySem.W.WalkO q loose XP YP l.row.toRowW d [] (fun f vs => PySem.call f vs) := by
  refine Att.attach_call hn hdf ?_
  intro w s₀ s₁ mg mb fa o pm cd doc a vs ns G Y ho hd hcd hmg hobj hints hlen hg
  have KX := hY w _ Y
  obtain ⟨fd, hb, hF⟩ := F w mg fa _ KX G.T.g hmg
  exact law_callG KX G.T.g G.T.b G.T.builtins G.T.nolimit hg hobj hints (Nat.le_trans hlen hn2) room hF hb fun H hS => hsp _ H a ns hlen hS
end Tw

set_option Elab.async false
set_option linter.all false
set_option maxRecDepth 100000
set_option maxHeartbeats 4000000
namespace Tw
open PySem PySem.Spec PyProof.Rows L2 Evl
/-! data, its lists plain -/
mutual
inductive Da (K : PySem.W.Frag) (H : Hp) : V → PyData → Prop
  | non : Da K H .non .none
  | bl (b : Bool) : Da K H (.bl b) (.bool b)
  | int (i : Int) : Da K H (.int i) (.int i)
  | str (x : Str) : Da K H (.str x) (.str x)
  | lst {a : Addr} {xs : List V} {ds : List PyData} : H a = some (.lst xs) → DaAll K H xs ds → Da K H (.ref a) (.list ds)
  | tup {a : Addr} {xs : List V} {ds : List PyData} : SqT K H a xs → DaAll K H xs ds → Da K H (.ref a) (.tuple ds)
inductive DaAll (K : PySem.W.Frag) (H : Hp) : List V → List PyData → Prop
  | nil : DaAll K H [] []
  | cons {v : V} {vs : List V} {d : PyData} {ds : List PyData} : Da K H v d → DaAll K H vs ds → DaAll K H (v :: vs) (d :: ds)
end
section
variable {K : PySem.W.Frag} {H H' : Hp}
mutual
theorem da_ex (e : Ex H H') : ∀ {v : V} {d : PyData}, Da K H v d → Da K H' v d
  | _, _, .non => .non
  | _, _, .bl b => .bl b
  | _, _, .int i => .int i
  | _, _, .str x => .str x
  | _, _, .lst h a => .lst (e _ _ h) (daa_ex e a)
  | _, _, .tup h a => .tup (ex_t e h) (daa_ex e a)
theorem daa_ex (e : Ex H H') : ∀ {vs : List V} {ds : List PyData}, DaAll K H vs ds → DaAll K H' vs ds
  | _, _, .nil => .nil
  | _, _, .cons h a => .cons (da_ex e h) (daa_ex e a)
end
mutual
theorem da_dp : ∀ {v : V} {d : PyData}, Da K H v d → Dp K H v d
  | _, _, .non => .non
  | _, _, .bl b => .bl b
  | _, _, .int i => .int i
  | _, _, .str x => .str x
  | _, _, .lst h a => .lst (sq_of h) (daa_dp a)
  | _, _, .tup h a => .tup h (daa_dp a)
theorem daa_dp : ∀ {vs : List V} {ds : List PyData}, DaAll K H vs ds → DpAll K H vs ds
  | _, _, .nil => .nil
  | _, _, .cons h a => .cons (da_dp h) (daa_dp a)
end
theorem daa_len : ∀ {vs : List V} {ds : List PyData}, DaAll K H vs ds → vs.length = ds.length
  | _, _, .nil => rfl
  | _, _, .cons _ a => by rw [List.length_cons, List.length_cons, daa_len a]
theorem daa_get : ∀ {vs : List V} {ds : List PyData}, DaAll K H vs ds → ∀ (i : Nat) (d : PyData), ds[i]? = some d → ∃ v, vs[i]? = some v ∧ Da K H v d
  | _, _, .nil, i, d, h => by simp at h
  | _, _, .cons (v := v) h a, 0, d, e => ⟨v, rfl, by
      have e' := Option.some.inj e
      rw [← e']
      exact h⟩
  | _, _, .cons h a, i + 1, d, e => daa_get a i d e
theorem daa_getV : ∀ {vs : List V} {ds : List PyData}, DaAll K H vs ds → ∀ (i : Nat) (v : V), vs[i]? = some v → ∃ d, ds[i]? = some d ∧ Da K H v d
  | _, _, .nil, i, d, h => by simp at h
  | _, _, .cons (d := d) h a, 0, v, e => ⟨d, rfl, by
      have e' := Option.some.inj e
      rw [← e']
      exact h⟩
  | _, _, .cons h a, i + 1, v, e => daa_getV a i v e
theorem daa_app : ∀ {vs ws : List V} {ds es : List PyData}, DaAll K H vs ds → DaAll K H ws es → DaAll K H (vs ++ ws) (ds ++ es)
  | _, _, _, _, .nil, b => b
  | _, _, _, _, .cons h a, b => .cons h (daa_app a b)
theorem daa_drop : ∀ {vs : List V} {ds : List PyData} (n : Nat), DaAll K H vs ds → DaAll K H (vs.drop n) (ds.drop n)
  | _, _, 0, h => h
  | _, _, n + 1, .nil => .nil
  | _, _, n + 1, .cons _ a => daa_drop n a
theorem daa_take : ∀ {vs : List V} {ds : List PyData} (n : Nat), DaAll K H vs ds → DaAll K H (vs.take n) (ds.take n)
  | _, _, 0, h => .nil
  | _, _, n + 1, .nil => .nil
  | _, _, n + 1, .cons h a => .cons h (daa_take n a)
theorem daa_ints : ∀ (ns : List Int), DaAll K H (ns.map V.int) (ns.map PyData.int)
  | [] => .nil
  | n :: r => .cons (.int n) (daa_ints r)
theorem daa_intsV : ∀ {ns : List Int} {vs : List V}, DaAll K H vs (ns.map PyData.int) → vs = ns.map V.int
  | [], _, .nil => rfl
  | n :: r, _, .cons (.int _) a => by rw [daa_intsV a]; rfl
theorem daa_strsV : ∀ {ns : List Str} {vs : List V}, DaAll K H vs (ns.map PyData.str) → vs = ns.map V.str
  | [], _, .nil => rfl
  | n :: r, _, .cons (.str _) a => by rw [daa_strsV a]; rfl
end
/-! what is had behind an evaluation: v tells d, by old things of the anchor H and new ones alone -/
structure Sep (H H1 H2 G : Hp) : Prop where
  up : Ex H1 H2
  an : Ex H G
  inn : Ex G H2
  sep : ∀ b, H b = none → H1 b ≠ none → G b = none
theorem Sep.refl {H H1 : Hp} (e : Ex H H1) : Sep H H1 H1 H := ⟨Ex.refl _, Ex.refl _, e, fun _ h _ => h⟩
theorem Sep.trans {H H1 H2 H3 G G2 : Hp} (a : Sep H H1 H2 G) (b : Sep G H2 H3 G2) : Sep H H1 H3 G2 :=
  ⟨a.up.trans b.up, a.an.trans b.an, b.inn, fun c h h1 => b.sep c (a.sep c h h1) fun z => by
    cases q : H1 c with
    | none => exact h1 q
    | some o =>
      rw [a.up c o q] at z
      cases z⟩
theorem Sep.new {H H1 : Hp} {p : Addr} {o : HO} (e : Ex H H1) (h : H1 p = none) : Sep H H1 (upd H1 p o) (upd H p o) := by
  have hp : H p = none := fresh_back e h
  refine ⟨Ex.new h, Ex.new hp, fun b u hb => ?_, fun b hb h1 => ?_⟩
  · by_cases q : b = p
    · subst q
      rw [upd_same] at hb ⊢
      exact hb
    · rw [upd_ne q] at hb ⊢
      exact e b u hb
  · have q : b ≠ p := fun z => by
      rw [z] at h1
      exact h1 h
    rw [upd_ne q]
    exact hb
/-- a place outside the anchor stays outside, and stays -/
theorem Sep.out {H H1 H2 G : Hp} (a : Sep H H1 H2 G) {p : Addr} {o : HO} (h : H p = none) (h1 : H1 p = some o) : G p = none ∧ H2 p = some o :=
  ⟨a.sep p h (by rw [h1]; exact Option.some_ne_none o), a.up p o h1⟩
/-- the place changes; the anchor stands -/
theorem ex_chg {G H : Hp} {p : Addr} {o : HO} (e : Ex G H) (h : G p = none) : Ex G (upd H p o) := Ex.mut e h

def ED (K : PySem.W.Frag) (te : TE) (σ : L2.St) (H : Hp) (d : PyData) : Prop :=
  ∀ H1, Ex H H1 → ∀ Q : VK, (∀ v H2 G, Sep H H1 H2 G → Da K G v d → Q v H2) → te σ H1 Q
def EDA (K : PySem.W.Frag) (ta : TA) (σ : L2.St) (H : Hp) (ds : List PyData) : Prop :=
  ∀ H1, Ex H H1 → ∀ Q : List V → Hp → Prop, (∀ vs H2 G, Sep H H1 H2 G → DaAll K G vs ds → Q vs H2) → ta σ H1 Q
section
variable {K : PySem.W.Frag} {σ : L2.St} {H H' : Hp} {ta tb te : TE} {d e : PyData} {ds es : List PyData}
theorem ED.mono (x : Ex H H') (h : ED K te σ H d) : ED K te σ H' d := fun H1 a Q q => h H1 (x.trans a) Q fun v H2 G s g => by
  -- the anchor grows: what is new stands beside it
  refine q v H2 (fun b => if (H' b).isSome then H' b else G b) ⟨s.up, fun b o hb => ?_, fun b o hb => ?_, fun b hb hb1 => ?_⟩ (da_ex (fun b o hb => ?_) g)
  · show (if (H' b).isSome then H' b else G b) = some o
    rw [hb]
    rfl
  · have hb' : (if (H' b).isSome then H' b else G b) = some o := hb
    cases z : H' b with
    | none =>
      rw [z] at hb'
      exact s.inn b o hb'
    | some u =>
      rw [z] at hb'
      have : u = o := Option.some.inj hb'
      subst this
      exact s.up b u (a b u z)
  · show (if (H' b).isSome then H' b else G b) = none
    rw [hb]
    exact s.sep b (fresh_back x hb) hb1
  · show (if (H' b).isSome then H' b else G b) = some o
    cases z : H' b with
    | none => exact hb
    | some u =>
      have h2 := s.up b u (a b u z)
      rw [s.inn b o hb] at h2
      exact h2.symm
theorem ed_is (h : ED K te σ H d) (x : d = e) : ED K te σ H e := x ▸ h
theorem ed_ev {v : V} (h : Ev te σ H v) (g : Da K H v d) : ED K te σ H d := fun H1 x Q q => h H1 x Q fun H2 x2 =>
  q v H2 H ⟨x2, Ex.refl H, x.trans x2, fun _ h _ => h⟩ g
theorem ev_int {i : Int} (h : ED K te σ H (.int i)) : Ev te σ H (.int i) := fun H1 x Q q => h H1 x Q fun v H2 G s g => by
  cases g
  exact q H2 s.up
theorem ev_bool {b : Bool} (h : ED K te σ H (.bool b)) : Ev te σ H (.bl b) := fun H1 x Q q => h H1 x Q fun v H2 G s g => by
  cases g
  exact q H2 s.up
theorem ev_str {x : Str} (h : ED K te σ H (.str x)) : Ev te σ H (.str x) := fun H1 x Q q => h H1 x Q fun v H2 G s g => by
  cases g
  exact q H2 s.up
theorem ev_non (h : ED K te σ H .none) : Ev te σ H .non := fun H1 x Q q => h H1 x Q fun v H2 G s g => by
  cases g
  exact q H2 s.up
theorem ed_var {i : Nat} {v : V} (h : σ[i]? = some (some v)) (g : Da K H v d) : ED K (tVar i) σ H d := ed_ev (ev_var h) g
theorem ed_int {i : Int} : ED K (tC (.int i)) σ H (.int i) := ed_ev ev_c (.int i)
theorem ed_str {x : Str} : ED K (tC (.str x)) σ H (.str x) := ed_ev ev_c (.str x)
theorem ed_bl {b : Bool} : ED K (tC (.bl b)) σ H (.bool b) := ed_ev ev_c (.bl b)
theorem ed_non : ED K (tC .non) σ H .none := ed_ev ev_c .non
theorem ed_op0 {g : Int → Int → V} {i j k : Int} (ha : ED K ta σ H (.int i)) (hb : ED K tb σ H (.int j)) (hg : g i j = .int k) : ED K (tOp (rI0 g) ta tb) σ H (.int k) :=
  ed_ev (ev_op (ev_int ha) (ev_int hb) rv_I0) (by rw [hg]; exact .int k)
theorem ed_opC {C : Int → Int → Prop} {g : Int → Int → V} {i j k : Int} (ha : ED K ta σ H (.int i)) (hb : ED K tb σ H (.int j)) (hc : C i j) (hg : g i j = .int k) : ED K (tOp (rI C g) ta tb) σ H (.int k) :=
  ed_ev (ev_op (ev_int ha) (ev_int hb) (rv_I hc)) (by rw [hg]; exact .int k)
theorem ed_add {i j : Int} (ha : ED K ta σ H (.int i)) (hb : ED K tb σ H (.int j)) : ED K (tOp (rI0 fun i j => .int (i + j)) ta tb) σ H (.int (i + j)) := ed_op0 ha hb rfl
theorem ed_sub {i j : Int} (ha : ED K ta σ H (.int i)) (hb : ED K tb σ H (.int j)) : ED K (tOp (rI0 fun i j => .int (i - j)) ta tb) σ H (.int (i - j)) := ed_op0 ha hb rfl
theorem ed_mul {i j : Int} (ha : ED K ta σ H (.int i)) (hb : ED K tb σ H (.int j)) (hc : CMul i j) : ED K (tOp (rI CMul fun i j => .int (i * j)) ta tb) σ H (.int (i * j)) := ed_opC ha hb hc rfl
theorem ed_mod {i j : Int} (ha : ED K ta σ H (.int i)) (hb : ED K tb σ H (.int j)) (hc : 0 < j) : ED K (tOp (rI (fun _ j => 0 < j) fun i j => .int (i % j)) ta tb) σ H (.int (i % j)) := ed_opC ha hb hc rfl
theorem ed_fdiv {i j : Int} (ha : ED K ta σ H (.int i)) (hb : ED K tb σ H (.int j)) (hc : CDiv i j) : ED K (tOp (rI CDiv fun i j => .int (i / j)) ta tb) σ H (.int (i / j)) := ed_opC ha hb hc rfl
/-- arguments -/
theorem eda_nil : EDA K tNil σ H [] := fun H1 x Q q => q [] H1 H (Sep.refl x) .nil
theorem EDA.mono' {tr : TA} : True := trivial
theorem eda_cons {tr : TA} (h : ED K te σ H d) (hr : ∀ G, Ex H G → EDA K tr σ G ds) : EDA K (tCons te tr) σ H (d :: ds) := fun H1 x Q q =>
  h H1 x _ fun v H2 G s g => hr G s.an H2 s.inn _ fun vs H3 G2 s2 g2 => q (v :: vs) H3 G2 (s.trans s2) (.cons (da_ex s2.an g) g2)
theorem ed_lst {t : TA} (h : EDA K t σ H ds) (hl : ds.length ≤ 100000) : ED K (tLst t) σ H (.list ds) := fun H1 x Q q =>
  h H1 x _ fun vs H2 G s g => ⟨by rw [daa_len g]; exact sz_of hl, fun p hp => by
    refine q (.ref p) _ (upd G p (.lst vs)) (s.trans (Sep.new s.inn hp)) (.lst upd_same (daa_ex (Ex.new (fresh_back s.inn hp)) g))⟩
theorem ed_tup {t : TA} (h : EDA K t σ H ds) (hl : ds.length ≤ 100000) : ED K (tTup t) σ H (.tuple ds) := fun H1 x Q q =>
  h H1 x _ fun vs H2 G s g => ⟨by rw [daa_len g]; exact sz_of hl, fun p hp => by
    refine q (.ref p) _ (upd G p (.tup vs)) (s.trans (Sep.new s.inn hp)) (.tup (st_of upd_same) (daa_ex (Ex.new (fresh_back s.inn hp)) g))⟩
/-- int(n) -/
theorem ed_toInt {i : Int} (h : ED K ta σ H (.int i)) : ED K (tCB (fun xs H Q => (∃ i, xs = [V.int i] ∧ Q (.int i) H) ∨ ∃ k, xs = [.bl k] ∧ Q (.int (if k then 1 else 0)) H) (tCons ta tNil)) σ H (.int i) := fun H1 x Q q =>
  ev_int h H1 x _ fun H2 x2 => .inl ⟨i, rfl, q (.int i) H2 H ⟨x2, Ex.refl H, x.trans x2, fun _ h _ => h⟩ (.int i)⟩
/-- xs[i], t[i] -/
theorem at_of {vs : List V} (g : DaAll K H vs ds) {n : Nat} (hd : ds[n]? = some d) : ∃ v, atI vs (n : Int) = some v ∧ Da K H v d := by
  obtain ⟨v, hv, gv⟩ := daa_get g n d hd
  exact ⟨v, atI_nat hv, gv⟩
theorem ed_ix {i : Int} {n : Nat} (ha : ED K ta σ H (.list ds)) (hb : ∀ G, Ex H G → ED K tb σ G (.int i)) (hi : i = n) (hd : ds[n]? = some d) : ED K (tOp (rIxL K) ta tb) σ H d := fun H1 x Q q =>
  ha H1 x _ fun v H2 G s g => ev_int (hb G s.an) H2 s.inn _ fun H3 x3 => by
    cases g with
    | @lst a xs _ e g =>
      obtain ⟨v, hv, gv⟩ := at_of g hd
      subst hi
      exact ⟨a, xs, n, v, rfl, rfl, sq_of (x3 _ _ (s.inn _ _ e)), hv, q v H3 G ⟨s.up.trans x3, s.an, s.inn.trans x3, s.sep⟩ gv⟩
theorem ed_ixT {i : Int} {n : Nat} (ha : ED K ta σ H (.tuple ds)) (hb : ∀ G, Ex H G → ED K tb σ G (.int i)) (hi : i = n) (hd : ds[n]? = some d) : ED K (tOp (rIxT K) ta tb) σ H d := fun H1 x Q q =>
  ha H1 x _ fun v H2 G s g => ev_int (hb G s.an) H2 s.inn _ fun H3 x3 => by
    cases g with
    | @tup a xs _ e g =>
      obtain ⟨v, hv, gv⟩ := at_of g hd
      subst hi
      exact ⟨a, xs, n, v, rfl, rfl, ex_t (s.inn.trans x3) e, hv, q v H3 G ⟨s.up.trans x3, s.an, s.inn.trans x3, s.sep⟩ gv⟩
/-- xs + ys -/
theorem ed_cat (ha : ED K ta σ H (.list ds)) (hb : ∀ G, Ex H G → ED K tb σ G (.list es)) (hl : ds.length + es.length ≤ 100000) : ED K (tOp rCat ta tb) σ H (.list (ds ++ es)) := fun H1 x Q q =>
  ha H1 x _ fun v H2 G s g => hb G s.an H2 s.inn _ fun w H3 G2 s2 g2 => by
    cases g with
    | @lst a xs _ e g =>
      cases g2 with
      | @lst b ys _ e2 g2 =>
        refine ⟨a, b, xs, ys, rfl, rfl, s2.up _ _ (s.inn _ _ e), s2.inn _ _ e2, by rw [daa_len g, daa_len g2]; exact sz_of hl, fun p hp => ?_⟩
        have np : G2 p = none := fresh_back s2.inn hp
        exact q (.ref p) _ (upd G2 p (.lst (xs ++ ys))) ((s.trans s2).trans (Sep.new s2.inn hp)) (.lst upd_same (daa_app (daa_ex (s2.an.trans (Ex.new np)) g) (daa_ex (Ex.new np) g2)))
/-- xs[a:b] -/
def cutD (ds : List PyData) (lo hi : Option Int) : List PyData := (ds.drop (HT.sIx ds.length 0 lo)).take (HT.sIx ds.length ds.length hi - HT.sIx ds.length 0 lo)
theorem daa_cut {vs : List V} (g : DaAll K H vs ds) (lo hi : Option Int) : DaAll K H (cutV vs lo hi) (cutD ds lo hi) := by
  unfold cutV cutD
  rw [daa_len g]
  exact daa_take _ (daa_drop _ g)
theorem ed_cut {tl th : TO} {lo hi : Option Int} (ha : ED K ta σ H (.list ds)) (h1 : ∀ G, Ex H G → EvO tl σ G lo) (h2 : ∀ G, Ex H G → EvO th σ G hi) : ED K (tSl (rSlL K) ta tl th) σ H (.list (cutD ds lo hi)) := fun H1 x Q q =>
  ha H1 x _ fun v H2 G s g => h1 G s.an H2 s.inn _ fun H3 x3 => h2 G s.an H3 (s.inn.trans x3) _ fun H4 x4 => by
    cases g with
    | @lst a xs _ e g =>
      have x34 := x3.trans x4
      refine ⟨a, xs, rfl, sq_of (x34 _ _ (s.inn _ _ e)), fun p hp => ?_⟩
      have s' : Sep H H1 H4 G := ⟨s.up.trans x34, s.an, s.inn.trans x34, s.sep⟩
      exact q (.ref p) _ (upd G p (.lst (cutV xs lo hi))) (s'.trans (Sep.new s'.inn hp)) (.lst upd_same (daa_ex (Ex.new (fresh_back s'.inn hp)) (daa_cut g lo hi)))
/-- tuple(xs) of a list -/
theorem ed_tuple (ha : ED K ta σ H (.list ds)) : ED K (tCB (fun xs H Q => ∃ p ys, xs = [V.ref p] ∧ ((SqL K H p ys ∧ ∀ l, H l = none → Q (.ref l) (upd H l (.tup ys))) ∨ (SqT K H p ys ∧ Q (.ref p) H))) (tCons ta tNil)) σ H (.tuple ds) := fun H1 x Q q =>
  ha H1 x _ fun v H2 G s g => by
    cases g with
    | @lst a xs _ e g =>
      refine ⟨a, xs, rfl, .inl ⟨sq_of (s.inn _ _ e), fun p hp => ?_⟩⟩
      exact q (.ref p) _ (upd G p (.tup xs)) (s.trans (Sep.new s.inn hp)) (.tup (st_of upd_same) (daa_ex (Ex.new (fresh_back s.inn hp)) g))
/-- s + t -/
theorem ed_adds {x y : Str} (ha : ED K ta σ H (.str x)) (hb : ED K tb σ H (.str y)) (hl : x.length + y.length ≤ sizeLine) :
    ED K (tOp (fun x y H Q => ∃ i j, x = V.str i ∧ y = V.str j ∧ i.length + j.length ≤ sizeLine ∧ Q (.str (i ++ j)) H) ta tb) σ H (.str (x ++ y)) := fun H1 x1 Q q =>
  ev_str ha H1 x1 _ fun H2 x2 => ev_str hb H2 (x1.trans x2) _ fun H3 x3 => ⟨x, y, rfl, rfl, hl, q _ H3 H ⟨x2.trans x3, Ex.refl H, (x1.trans x2).trans x3, fun _ h _ => h⟩ (.str _)⟩
/-- sep.join(xs) -/
theorem ed_join {z : Str} {ys : List Str} (ha : ED K ta σ H (.str z)) (hb : ∀ G, Ex H G → ED K tb σ G (.list (ys.map .str))) (hl : (ys.map (·.length)).sum + ys.length * z.length ≤ 16777216) :
    ED K (tM1 (fun x xs H Q => ∃ a p, ∃ ys : List Str, x = V.str a ∧ xs = [V.ref p] ∧ (SqL K H p (ys.map V.str) ∨ SqT K H p (ys.map V.str)) ∧ (ys.map (·.length)).sum + ys.length * a.length ≤ 16777216 ∧ Q (.str (Txt.join a ys)) H) ta tb) σ H (.str (Txt.join z ys)) := fun H1 x1 Q q =>
  ev_str ha H1 x1 _ fun H2 x2 => ⟨⟨z, rfl⟩, hb H (Ex.refl H) H2 (x1.trans x2) _ fun v H3 G s g => by
    cases g with
    | @lst a xs _ e g =>
      have ex := daa_strsV g
      subst ex
      exact ⟨z, a, ys, rfl, rfl, .inl (sq_of (s.inn _ _ e)), hl, q _ H3 G ⟨x2.trans s.up, s.an, s.inn, fun b h h1 => s.sep b h fun zz => by
        cases qq : H1 b with
        | none => exact h1 qq
        | some o =>
          rw [x2 b o qq] at zz
          cases zz⟩ (.str _)⟩⟩
/-- len(xs) -/
def rLenS2 (K : PySem.W.Frag) : List V → Hp → VK → Prop := fun xs H Q => ∃ p ys, xs = [.ref p] ∧ (SqL K H p ys ∨ SqT K H p ys) ∧ Q (.int ys.length) H
theorem ed_len (ha : ED K ta σ H (.list ds)) : ED K (tCB (fun xs H Q => ∃ p ys, xs = [V.ref p] ∧ (SqL K H p ys ∨ SqT K H p ys) ∧ Q (.int ys.length) H) (tCons ta tNil)) σ H (.int ds.length) := fun H1 x Q q =>
  ha H1 x _ fun v H2 G s g => by
    cases g with
    | @lst a xs _ e g =>
      refine ⟨a, xs, rfl, .inl (sq_of (s.inn _ _ e)), ?_⟩
      rw [daa_len g]
      exact q _ H2 G s (.int _)
/-- a def's promise -/
def spF (K : PySem.W.Frag) (R : List PyData → PyData → Prop) : Sp := fun vs H1 Q _ => ∃ G0 ds d, Ex G0 H1 ∧ DaAll K G0 vs ds ∧ R ds d ∧ ∀ v H2 G, Sep G0 H1 H2 G → Da K G v d → Q v H2
theorem ed_call {R : List PyData → PyData → Prop} {E : XK} {t : TA} (h : EDA K t σ H ds) (hr : R ds d) : ED K (tCall (spF K R) [] E t) σ H d := fun H1 x Q q =>
  h H1 x _ fun vs H2 G s g => ⟨G, ds, d, s.inn, by rw [List.append_nil]; exact g, hr, fun v H3 G2 s2 g2 => q v H3 G2 (s.trans s2) g2⟩
theorem spF_len {R : List PyData → PyData → Prop} {n : Nat} (h : ∀ ds d, R ds d → ds.length = n) : ∀ vs H Q E, spF K R vs H Q E → vs.length = n := by
  rintro vs H Q E ⟨G0, ds, d, _, g, hr, _⟩
  rw [daa_len g]
  exact h ds d hr
end
/-! statements: the anchor G, the heap H over it -/
section
variable {K : PySem.W.Frag} {σ : L2.St} {G H : Hp} {ta tb te : TE} {d : PyData} {ds : List PyData} {D : Ends} {tu tz : TS}
theorem d_asg {i : Nat} (h : ED K te σ G d) (x : Ex G H) (k : ∀ v H2 G2, Sep G H H2 G2 → Da K G2 v d → tz D (σ.set i (some v)) H2) : tSeq (tAsg te (gName i)) tz D σ H := h H x _ k
theorem d_asg1 {i : Nat} (h : ED K te σ G d) (x : Ex G H) (k : ∀ v H2 G2, Sep G H H2 G2 → Da K G2 v d → D.nx (σ.set i (some v)) H2) : tAsg te (gName i) D σ H := h H x _ k
theorem d_ret (h : ED K te σ G d) (x : Ex G H) (k : ∀ v H2 G2, Sep G H H2 G2 → Da K G2 v d → D.rt v H2) : tRet te D σ H := h H x _ k
/-- xs.append(e), xs outside the anchor, its items within -/
theorem d_app {l : Addr} {xs : List V} {i : Nat} (hG : G l = none) (hl : H l = some (.lst xs)) (hx : DaAll K G xs ds) (hi : σ[i]? = some (some (.ref l))) (h : ED K te σ G d) (x : Ex G H) (hz : xs.length < 100000)
    (k : ∀ v H2 G2, Sep G H H2 G2 → G2 l = none → Da K G2 v d → DaAll K G2 (xs ++ [v]) (ds ++ [d]) → Ex G2 (upd H2 l (.lst (xs ++ [v]))) → tz D σ (upd H2 l (.lst (xs ++ [v])))) :
    tSeq (tDrop (tBM K "list" rAppend (tVar i) (tCons te tNil))) tz D σ H :=
  ⟨_, hi, .inl ⟨rfl, xs, sq_of hl⟩, h H x _ fun v H2 G2 s g => by
    obtain ⟨o1, o2⟩ := s.out hG hl
    exact ⟨l, xs, v, rfl, rfl, o2, sz_lt hz, k v H2 G2 s o1 g (daa_app (daa_ex s.an hx) (.cons g .nil)) (Ex.mut s.inn o1)⟩⟩
theorem d_app1 {l : Addr} {xs : List V} {i : Nat} (hG : G l = none) (hl : H l = some (.lst xs)) (hx : DaAll K G xs ds) (hi : σ[i]? = some (some (.ref l))) (h : ED K te σ G d) (x : Ex G H) (hz : xs.length < 100000)
    (k : ∀ v H2 G2, Sep G H H2 G2 → G2 l = none → Da K G2 v d → DaAll K G2 (xs ++ [v]) (ds ++ [d]) → Ex G2 (upd H2 l (.lst (xs ++ [v]))) → D.nx σ (upd H2 l (.lst (xs ++ [v])))) :
    tDrop (tBM K "list" rAppend (tVar i) (tCons te tNil)) D σ H := d_app (tz := tNext) hG hl hx hi h x hz k
/-- a new empty list, kept outside the anchor -/
theorem d_new {i : Nat} (x : Ex G H) (k : ∀ p, H p = none → G p = none → Ex G (upd H p (.lst [])) → Ex H (upd H p (.lst [])) → tz D (σ.set i (some (.ref p))) (upd H p (.lst []))) : tSeq (tAsg (tLst tNil) (gName i)) tz D σ H :=
  ⟨Nat.zero_le _, fun p hp => k p hp (fresh_back x hp) (Ex.mut x (fresh_back x hp)) (Ex.new hp)⟩
/-- if -/
theorem d_if {t : TT} {tw : TS} {b : Bool} (h : EvT t σ G b) (x : Ex G H) (h1 : b = true → ∀ H1, Ex H H1 → tu { D with nx := tz D } σ H1) (h2 : b = false → ∀ H1, Ex H H1 → tw { D with nx := tz D } σ H1) : tSeq (tIfS t tu tw) tz D σ H := h H x _ fun H1 e => by
  cases b with
  | true => exact h1 rfl H1 e
  | false => exact h2 rfl H1 e
theorem d_if1 {t : TT} {tw : TS} {b : Bool} (h : EvT t σ G b) (x : Ex G H) (h1 : b = true → ∀ H1, Ex H H1 → tu D σ H1) (h2 : b = false → ∀ H1, Ex H H1 → tw D σ H1) : tIfS t tu tw D σ H := h H x _ fun H1 e => by
  cases b with
  | true => exact h1 rfl H1 e
  | false => exact h2 rfl H1 e
/-- for i in range(n) -/
theorem d_range {j : Nat} {n : Int} (h : ED K te σ G (.int n)) (x : Ex G H) (hn : 0 ≤ n ∧ n ≤ 100000) (Pv : Nat → L2.St → Hp → Prop) (h0 : ∀ H1, Ex H H1 → Pv 0 σ H1)
    (hs : ∀ (i : Nat) σ' H', (i : Int) < n → Pv i σ' H' → tu { D with nx := Pv (i + 1), ct := Pv (i + 1), bk := tz D } (σ'.set j (some (.int (i : Int)))) H') (hd : ∀ σ' H', Pv n.toNat σ' H' → tz D σ' H') : tSeq (tFor (iRng1 (tCons te tNil)) (gName j) tu) tz D σ H := by
  have e : EvA (tCons te tNil) σ G [.int n] := ea_cons (ev_int h) ea_nil
  exact q_forR1 (EvA.mono x e) hn Pv h0 hs hd
end
end Tw

set_option Elab.async false
set_option linter.all false
set_option maxRecDepth 100000
set_option maxHeartbeats 4000000
namespace Tw
open PySem PySem.Spec PyProof.Rows L2 Evl
/-! comprehensions -/
theorem et_yes {σ : L2.St} {H : Hp} : EvT tYes σ H true := fun H1 _ Q q => q H1 (Ex.refl H1)
def Lw (K : PySem.W.Frag) (A H2 : Hp) (D : Addr) (out : Nat → List PyData) (i : Nat) (H' : Hp) : Prop :=
  H2 D = none ∧ ∃ G acc, Sep A H2 H' G ∧ G D = none ∧ H' D = some (.lst acc) ∧ DaAll K G acc (out i) ∧ acc.length ≤ i
theorem Lw.start {K : PySem.W.Frag} {A H2 : Hp} {D : Addr} {out : Nat → List PyData} (x : Ex A H2) (hD : H2 D = none) (h0 : out 0 = []) : Lw K A H2 D out 0 (upd H2 D (.lst [])) :=
  ⟨hD, A, [], ⟨Ex.new hD, Ex.refl A, Ex.mut x (fresh_back x hD), fun _ h _ => h⟩, fresh_back x hD, upd_same, by rw [h0]; exact .nil, Nat.le_refl 0⟩
theorem Lw.turn {K : PySem.W.Frag} {A H2 H' : Hp} {D : Addr} {out : Nat → List PyData} {i : Nat} {t : TT} {te : TE} {σ2 : L2.St} {f : Bool} {e : PyData} (p : Lw K A H2 D out i H') (hi : i < 50000)
    (ht : ∀ G, Ex A G → EvT t σ2 G f) (he : f = true → ∀ G, Ex A G → ED K te σ2 G e) (ho : out (i + 1) = if f = true then out i ++ [e] else out i) :
    t σ2 H' fun b H3 => if b = true then te σ2 H3 fun y H4 => ∃ acc, H4 D = some (.lst acc) ∧ acc.length < sizeLine ∧ Lw K A H2 D out (i + 1) (upd H4 D (.lst (acc ++ [y]))) else Lw K A H2 D out (i + 1) H3 := by
  obtain ⟨hD, G, acc, s, gD, hacc, ga, la⟩ := p
  refine ht G s.an H' s.inn _ fun H3 x3 => ?_
  cases f with
  | true =>
    rw [if_pos rfl] at ho
    show te σ2 H3 fun y H4 => ∃ acc, H4 D = some (.lst acc) ∧ acc.length < sizeLine ∧ Lw K A H2 D out (i + 1) (upd H4 D (.lst (acc ++ [y])))
    refine he rfl G s.an H3 (s.inn.trans x3) _ fun v H4 G4 s4 g4 => ?_
    obtain ⟨o1, o2⟩ := s4.out gD (x3 _ _ hacc)
    refine ⟨acc, o2, sz_lt (by omega), hD, G4, acc ++ [v], ⟨Ex.mut ((s.up.trans x3).trans s4.up) hD, s.an.trans s4.an, Ex.mut s4.inn o1, fun b h h1 => ?_⟩, o1, upd_same, ?_, by rw [List.length_append]; exact Nat.add_le_add_right la 1⟩
    · refine s4.sep b (s.sep b h h1) fun z => ?_
      cases q : H2 b with
      | none => exact h1 q
      | some o =>
        rw [(s.up.trans x3) b o q] at z
        cases z
    · rw [ho]
      exact daa_app (daa_ex s4.an ga) (.cons g4 .nil)
  | false =>
    rw [if_neg Bool.false_ne_true] at ho
    show Lw K A H2 D out (i + 1) H3
    refine ⟨hD, G, acc, ⟨s.up.trans x3, s.an, s.inn.trans x3, s.sep⟩, gD, x3 _ _ hacc, ?_, Nat.le_succ_of_le la⟩
    rw [ho]
    exact ga
theorem Lw.stop {K : PySem.W.Frag} {A H2 H' : Hp} {D : Addr} {out : Nat → List PyData} {n : Nat} (p : Lw K A H2 D out n H') : ∃ G, Sep A H2 H' G ∧ Da K G (.ref D) (.list (out n)) := by
  obtain ⟨hD, G, acc, s, gD, hacc, ga, _⟩ := p
  refine ⟨upd G D (.lst acc), ⟨s.up, s.an.trans (Ex.new gD), fun b u hb => ?_, fun b h h1 => ?_⟩, .lst upd_same (daa_ex (Ex.new gD) ga)⟩
  · by_cases q : b = D
    · subst q
      rw [upd_same] at hb
      rw [← hb]
      exact hacc
    · rw [upd_ne q] at hb
      exact s.inn b u hb
  · have q : b ≠ D := fun z => by
      rw [z] at h1
      exact h1 hD
    rw [upd_ne q]
    exact s.sep b h h1
theorem take_one {α : Type} {l : List α} {i : Nat} {x : α} (h : l[i]? = some x) : l.take (i + 1) = l.take i ++ [x] := by
  rw [List.take_add_one, h]
  rfl
theorem filt_step {l : List PyData} {p : PyData → Bool} {g : PyData → PyData} {i : Nat} {x : PyData} (h : l[i]? = some x) :
    ((l.take (i + 1)).filter p).map g = if p x = true then ((l.take i).filter p).map g ++ [g x] else ((l.take i).filter p).map g := by
  rw [take_one h, List.filter_append, List.map_append]
  by_cases q : p x = true
  · rw [if_pos q, List.filter_cons, if_pos q]
    rfl
  · rw [if_neg q, List.filter_cons, if_neg q]
    show _ ++ [] = _
    rw [List.append_nil]
section
variable {K : PySem.W.Frag} {σ : L2.St} {H : Hp} {ta te tl : TE} {t : TT} {ds : List PyData} {j : Nat} {vs : List Nat}
theorem lc_fin {A H2 H1 : Hp} {D : Addr} {out : Nat → List PyData} {n : Nat} {Q : VK} {H' : Hp} (s : Sep H H1 H2 A) (q : ∀ v H2 G, Sep H H1 H2 G → Da K G v (.list (out n)) → Q v H2) (p : Lw K A H2 D out n H') : Q (.ref D) H' := by
  obtain ⟨G, s2, g⟩ := p.stop
  exact q _ _ G (s.trans s2) g
/-- [e for i in range(n) if t] -/
theorem ed_lcRf {n : Int} (f : Nat → Bool) (g : Nat → PyData) (h : ED K ta σ H (.int n)) (hn : 0 ≤ n ∧ n ≤ 40000) (hw : ∀ x, wipe ((wipe σ vs).set j (some x)) vs = wipe σ vs)
    (ht : ∀ (i : Nat) G, Ex H G → (i : Int) < n → EvT t ((wipe σ vs).set j (some (.int (i : Int)))) G (f i)) (he : ∀ (i : Nat) G, Ex H G → (i : Int) < n → f i = true → ED K te ((wipe σ vs).set j (some (.int (i : Int)))) G (g i)) :
    ED K (tLc (iRng1 (tCons ta tNil)) (gName j) t te vs) σ H (.list (((List.range n.toNat).filter f).map g)) := fun H1 x Q q =>
  ev_int h H1 x _ fun H2 x2 => ⟨n, rfl, by omega, by omega, fun D hD => by
    have s0 : Sep H H1 H2 H := ⟨x2, Ex.refl H, x.trans x2, fun _ h _ => h⟩
    refine lc_range (lo := 0) (n := n.toNat) (Lw K H H2 D fun i => ((List.range i).filter f).map g) (Lw.start (x.trans x2) hD rfl) (fun i H' hi p => ?_) fun H' p => lc_fin s0 q p
    have e0 : (0 : Int) + (i : Int) = (i : Int) := Int.zero_add _
    show wipe ((wipe σ vs).set j (some (.int ((0 : Int) + (i : Int))))) vs = wipe σ vs ∧ t ((wipe σ vs).set j (some (.int ((0 : Int) + (i : Int))))) H' fun b H3 => if b = true then te ((wipe σ vs).set j (some (.int ((0 : Int) + (i : Int))))) H3 fun y H4 => ∃ acc, H4 D = some (.lst acc) ∧ acc.length < sizeLine ∧ Lw K H H2 D (fun i => ((List.range i).filter f).map g) (i + 1) (upd H4 D (.lst (acc ++ [y]))) else Lw K H H2 D (fun i => ((List.range i).filter f).map g) (i + 1) H3
    rw [e0]
    refine ⟨hw _, p.turn (by omega) (fun G xg => ht i G xg (by omega)) (fun hf G xg => he i G xg (by omega) hf) ?_⟩
    show ((List.range (i + 1)).filter f).map g = _
    rw [List.range_succ, List.filter_append, List.map_append]
    by_cases z : f i = true
    · rw [if_pos z, List.filter_cons, if_pos z]
      rfl
    · rw [if_neg z, List.filter_cons, if_neg z]
      show _ ++ [] = _
      rw [List.append_nil]⟩
theorem ed_lcR {n : Int} (g : Nat → PyData) (h : ED K ta σ H (.int n)) (hn : 0 ≤ n ∧ n ≤ 40000) (hw : ∀ x, wipe ((wipe σ vs).set j (some x)) vs = wipe σ vs)
    (he : ∀ (i : Nat) G, Ex H G → (i : Int) < n → ED K te ((wipe σ vs).set j (some (.int (i : Int)))) G (g i)) :
    ED K (tLc (iRng1 (tCons ta tNil)) (gName j) tYes te vs) σ H (.list ((List.range n.toNat).map g)) := by
  have h1 := ed_lcRf (t := tYes) (fun _ => true) g h hn hw (fun _ _ _ _ => et_yes) (fun i G x hi _ => he i G x hi)
  rw [List.filter_eq_self.mpr fun _ _ => rfl] at h1
  exact h1
/-- [e for x in xs if t] -/
theorem ed_lcLf (p : PyData → Bool) (g : PyData → PyData) (h : ED K tl σ H (.list ds)) (hz : ds.length ≤ 40000) (hw : ∀ x, wipe ((wipe σ vs).set j (some x)) vs = wipe σ vs)
    (ht : ∀ d v G, d ∈ ds → Ex H G → Da K G v d → EvT t ((wipe σ vs).set j (some v)) G (p d)) (he : ∀ d v G, d ∈ ds → Ex H G → Da K G v d → p d = true → ED K te ((wipe σ vs).set j (some v)) G (g d)) :
    ED K (tLc (iList K tl) (gName j) t te vs) σ H (.list ((ds.filter p).map g)) := fun H1 x Q q =>
  h H1 x _ fun v H2 A s gv => by
    cases gv with
    | @lst a xs _ ea ga =>
      refine ⟨a, rfl, ⟨xs, sq_of (s.inn _ _ ea)⟩, fun D hD => ?_⟩
      have hlen := daa_len ga
      refine lc_list (K := K) (a := a) (xs := xs) (Lw K A H2 D fun i => ((ds.take i).filter p).map g) (Lw.start s.inn hD (by rw [List.take_zero]; rfl)) (fun i H' _ pw => ?_) (fun i y H' hi pw => ?_) fun H' pw => ?_
      · obtain ⟨_, G, acc, s2, _⟩ := pw
        exact sq_of (s2.up _ _ (s.inn _ _ ea))
      · obtain ⟨d, hd, gd⟩ := daa_getV ga i y hi
        have hm : d ∈ ds := List.mem_of_getElem? hd
        have hlt := (List.getElem?_eq_some_iff.mp hi).1
        refine ⟨hw y, pw.turn (by omega) (fun G xg => ht d y G hm (s.an.trans xg) (da_ex xg gd)) (fun hf G xg => he d y G hm (s.an.trans xg) (da_ex xg gd) hf) ?_⟩
        exact filt_step hd
      · have e : ds.take xs.length = ds := List.take_of_length_le (by omega)
        refine lc_fin (out := fun i => ((ds.take i).filter p).map g) s (fun v H2 G s2 g2 => q v H2 G s2 ?_) pw
        have g3 : Da K G v (.list (((ds.take xs.length).filter p).map g)) := g2
        rw [e] at g3
        exact g3
theorem ed_lcL (g : PyData → PyData) (h : ED K tl σ H (.list ds)) (hz : ds.length ≤ 40000) (hw : ∀ x, wipe ((wipe σ vs).set j (some x)) vs = wipe σ vs)
    (he : ∀ d v G, d ∈ ds → Ex H G → Da K G v d → ED K te ((wipe σ vs).set j (some v)) G (g d)) :
    ED K (tLc (iList K tl) (gName j) tYes te vs) σ H (.list (ds.map g)) := by
  have h1 := ed_lcLf (t := tYes) (fun _ => true) g h hz hw (fun _ _ _ _ _ _ => et_yes) (fun d v G hm x gd _ => he d v G hm x gd)
  rw [List.filter_eq_self.mpr fun _ _ => rfl] at h1
  exact h1
theorem ed_lcT (g : PyData → PyData) (h : ED K tl σ H (.tuple ds)) (hz : ds.length ≤ 40000) (hw : ∀ x, wipe ((wipe σ vs).set j (some x)) vs = wipe σ vs)
    (he : ∀ d v G, d ∈ ds → Ex H G → Da K G v d → ED K te ((wipe σ vs).set j (some v)) G (g d)) :
    ED K (tLc (iTup K tl) (gName j) tYes te vs) σ H (.list (ds.map g)) := fun H1 x Q q =>
  h H1 x _ fun v H2 A s gv => by
    cases gv with
    | @tup a xs _ ea ga =>
      refine ⟨a, rfl, ⟨xs, ex_t s.inn ea⟩, fun D hD => ?_⟩
      have hlen := daa_len ga
      refine lc_tup (K := K) (a := a) (xs := xs) (Lw K A H2 D fun i => (ds.take i).map g) (Lw.start s.inn hD (by rw [List.take_zero]; rfl)) (fun i H' _ pw => ?_) (fun i y H' hi pw => ?_) fun H' pw => ?_
      · obtain ⟨_, G, acc, s2, _⟩ := pw
        exact ex_t (s.inn.trans s2.up) ea
      · obtain ⟨d, hd, gd⟩ := daa_getV ga i y hi
        have hm : d ∈ ds := List.mem_of_getElem? hd
        have hlt := (List.getElem?_eq_some_iff.mp hi).1
        refine ⟨hw y, pw.turn (f := true) (e := g d) (by omega) (fun G xg => et_yes) (fun hf G xg => he d y G hm (s.an.trans xg) (da_ex xg gd)) ?_⟩
        show (ds.take (i + 1)).map g = if true = true then (ds.take i).map g ++ [g d] else (ds.take i).map g
        rw [if_pos rfl, take_one hd, List.map_append]
        rfl
      · have e : ds.take xs.length = ds := List.take_of_length_le (by omega)
        refine lc_fin (out := fun i => (ds.take i).map g) s (fun v H2 G s2 g2 => q v H2 G s2 ?_) pw
        have g3 : Da K G v (.list ((ds.take xs.length).map g)) := g2
        rw [e] at g3
        exact g3
end
/-! a list or a tuple walked -/
def iSeq (K : PySem.W.Frag) (tl : TE) : TI := fun σ H R => tl σ H fun x H1 => ∃ a, x = .ref a ∧ (((∃ xs, SqL K H1 a xs) ∧ R (Itl K a) H1) ∨ ((∃ xs, SqT K H1 a xs) ∧ R (Itt K a) H1))
theorem pi_seq {X : Cx} {tg l : Expr} {tl : TE} (hl : PE X l tl) : PI X tg l (iSeq X.K tl) := by
  constructor
  intro pn s σ H R I h
  refine thn (hl.run pn s σ H _ I h) ?_
  rintro v s1 ⟨x, H1, J, rx, a, ex, q⟩
  cases ex
  cases rx
  have fresh : ∀ b ∈ [s1.heap.objs.size], FpOk X pn H1 b := by
    intro b hb
    cases List.mem_singleton.mp hb
    exact J.fpOk (Nat.le_refl _) (J.hok.fresh (Nat.le_refl _))
  rcases q with ⟨⟨xs, hx⟩, q⟩ | ⟨⟨xs, hx⟩, q⟩
  · obtain ⟨its, rv, pl, _⟩ := J.list hx
    refine wpAny_pyIter_list pl.isList ⟨_, _, _, _, H1, rfl, ?_, turn_list a s1.heap.objs.size, ?_, fresh, q⟩
    · exact J.kept (t' := s1.toks) fun c u z => Heap.get?_push_of_some _ z
    · exact ⟨_, Heap.get?_push_size _ rfl, rfl, rfl⟩
  · obtain ⟨its, rv, pl, _⟩ := J.tuple hx
    refine wpAny_pyIter_tuple (show s1.heap.IsTuple a its.toArray from pl) ⟨_, _, _, _, H1, rfl, ?_, turn_tuple a s1.heap.objs.size, ?_, fresh, q⟩
    · exact J.kept (t' := s1.toks) fun c u z => Heap.get?_push_of_some _ z
    · exact ⟨_, Heap.get?_push_size _ rfl, rfl, rfl⟩
section
variable {K : PySem.W.Frag} {σ : L2.St} {H : Hp} {te tl : TE} {d : PyData} {ds : List PyData} {j : Nat} {vs : List Nat}
theorem ed_lcS (g : PyData → PyData) (h : ED K tl σ H d) (hd : d = .list ds ∨ d = .tuple ds) (hz : ds.length ≤ 40000) (hw : ∀ x, wipe ((wipe σ vs).set j (some x)) vs = wipe σ vs)
    (he : ∀ d v G, d ∈ ds → Ex H G → Da K G v d → ED K te ((wipe σ vs).set j (some v)) G (g d)) :
    ED K (tLc (iSeq K tl) (gName j) tYes te vs) σ H (.list (ds.map g)) := fun H1 x Q q => by
  rcases hd with rfl | rfl
  · have h2 : ED K (tLc (iList K tl) (gName j) tYes te vs) σ H (.list (ds.map g)) := ed_lcL g h hz hw he
    -- the value first, then the walk of a list
    refine h H1 x _ fun v H2 A s gv => ?_
    cases gv with
    | @lst a xs _ ea ga =>
      have h3 : ED K (tLc (iList K (tC (.ref a))) (gName j) tYes te vs) σ A (.list (ds.map g)) := ed_lcL g (ed_ev ev_c (.lst ea ga)) hz hw fun d v G hm xg gd => he d v G hm (s.an.trans xg) gd
      have h4 := h3 H2 s.inn Q fun v H3 G s3 g3 => q v H3 G (s.trans s3) g3
      obtain ⟨b, eb, hx, r⟩ := h4
      cases eb
      exact ⟨a, rfl, .inl ⟨hx, r⟩⟩
  · refine h H1 x _ fun v H2 A s gv => ?_
    cases gv with
    | @tup a xs _ ea ga =>
      have h3 : ED K (tLc (iTup K (tC (.ref a))) (gName j) tYes te vs) σ A (.list (ds.map g)) := ed_lcT g (ed_ev ev_c (.tup ea ga)) hz hw fun d v G hm xg gd => he d v G hm (s.an.trans xg) gd
      have h4 := h3 H2 s.inn Q fun v H3 G s3 g3 => q v H3 G (s.trans s3) g3
      obtain ⟨b, eb, hx, r⟩ := h4
      cases eb
      exact ⟨a, rfl, .inr ⟨hx, r⟩⟩
end
/-! str(x) of an int or a text -/
def rStrX : List V → Hp → VK → Prop := fun xs H Q => (∃ i, xs = [.int i] ∧ i.natAbs.log2 < 1920 ∧ Q (.str (toString i)) H) ∨ ∃ a, xs = [.str a] ∧ Q (.str a) H
theorem call_strX {X : Cx} : CallR X (.type "str") rStrX := by
  intro pins s σ H xs us Q I r h
  rcases h with ⟨i, h1, h2, q⟩ | ⟨a, h1, q⟩
  · exact call_str_int pins s σ H xs us Q I r ⟨i, h1, h2, q⟩
  · exact SkE.call_str_str pins s σ H xs us Q I r ⟨a, h1, q⟩
section
variable {K : PySem.W.Frag} {σ : L2.St} {H : Hp} {ta : TE}
theorem ed_strI {i : Int} (h : ED K ta σ H (.int i)) (hi : i.natAbs.log2 < 1920) : ED K (tCB rStrX (tCons ta tNil)) σ H (.str (toString i)) := fun H1 x Q q =>
  ev_int h H1 x _ fun H2 x2 => .inl ⟨i, rfl, hi, q _ H2 H ⟨x2, Ex.refl H, x.trans x2, fun _ h _ => h⟩ (.str _)⟩
theorem ed_strS {a : Str} (h : ED K ta σ H (.str a)) : ED K (tCB rStrX (tCons ta tNil)) σ H (.str a) := fun H1 x Q q =>
  ev_str h H1 x _ fun H2 x2 => .inr ⟨a, rfl, q _ H2 H ⟨x2, Ex.refl H, x.trans x2, fun _ h _ => h⟩ (.str _)⟩
end
end Tw

set_option Elab.async false
set_option linter.all false
set_option maxRecDepth 100000
set_option maxHeartbeats 4000000
namespace Tw
open PySem PySem.Spec PyProof.Rows L2 Evl
/-! the law's own promise; the drawn numbers -/
def spLaw (K : PySem.W.Frag) : Sp := fun vs H Q _ => ∃ (a : Addr) (ns : List Int), vs = [.ref a] ∧ SqL K H a (ns.map V.int) ∧ ns.length ≤ 63 ∧ ∀ H', Q (.bl true) H'
theorem spLaw_len {K : PySem.W.Frag} : ∀ vs H Q E, spLaw K vs H Q E → vs.length = 1 := by
  rintro vs H Q E ⟨a, ns, rfl, _⟩
  rfl
/-- so many, from 0 to 999 -/
def Drawn (n : Nat) (ds : List Int) : Prop := ds.length = n ∧ ∀ d ∈ ds, 0 ≤ d ∧ d < 1000
theorem Drawn.get {n : Nat} {ds : List Int} (h : Drawn n ds) {i : Nat} (hi : i < n) : ∃ d, ds[i]? = some d ∧ 0 ≤ d ∧ d < 1000 := by
  have hl : i < ds.length := by rw [h.1]; exact hi
  exact ⟨ds[i], List.getElem?_eq_getElem hl, h.2 _ (List.getElem_mem hl)⟩
theorem Drawn.getD {n : Nat} {ds : List Int} (h : Drawn n ds) {i : Nat} (hi : i < n) : ds[i]? = some (ds.getD i 0) ∧ 0 ≤ ds.getD i 0 ∧ ds.getD i 0 < 1000 := by
  obtain ⟨d, hd, h0, h1⟩ := h.get hi
  have e : ds.getD i 0 = d := by rw [List.getD_eq_getElem?_getD, hd]; rfl
  rw [e]
  exact ⟨hd, h0, h1⟩
def spDraws (K : PySem.W.Frag) : Sp := fun vs H Q _ => ∃ (a : Addr) (ns : List Int) (n : Nat), vs = [.ref a, .int (n : Int)] ∧ SqL K H a (ns.map V.int) ∧ ns.length ≤ 63 ∧ n ≤ 1000 ∧
  ∀ ds p H2, Drawn n ds → H p = none → Ex H H2 → H2 p = some (.lst (ds.map V.int)) → Q (.ref p) H2
def WD (H : Hp) (a : Addr) (n m : Nat) (R L : Addr) (i : Nat) (σ' : L2.St) (H' : Hp) : Prop := ∃ (x3 x5 x6 x7 x8 : Option V) (rs ds : List Int), σ' = [some (.ref a), some (.int (n : Int)), some (.ref R), x3, some (.ref L), x5, x6, x7, x8] ∧
  Ex H H' ∧ H' R = some (.lst (rs.map V.int)) ∧ H' L = some (.lst (ds.map V.int)) ∧ rs.length = m ∧ Drawn i ds
theorem ev_toInt {te : TE} {σ : L2.St} {H : Hp} {i : Int} (h : Ev te σ H (.int i)) : Ev (tCB (fun xs H Q => (∃ i, xs = [V.int i] ∧ Q (.int i) H) ∨ ∃ k, xs = [.bl k] ∧ Q (.int (if k then 1 else 0)) H) (tCons te tNil)) σ H (.int i) := fun H1 x Q q =>
  h H1 x _ fun H2 x2 => .inl ⟨i, rfl, q H2 x2⟩
theorem mod1000 (x : Int) : 0 ≤ x % 1000 ∧ x % 1000 < 1000 := ⟨Int.emod_nonneg x (by decide), Int.emod_lt_of_pos x (by decide)⟩
theorem at_int {rs : List Int} {j : Nat} (h : j < rs.length) : atI (rs.map V.int) (j : Int) = some (.int rs[j]) := atI_nat (by rw [List.getElem?_map, List.getElem?_eq_getElem h]; rfl)
theorem given_all (l : List V) : given l.length (fun _ => true) (fun i => l.getD i .non) = l := by
  unfold given
  rw [List.filter_eq_self.mpr fun _ _ => rfl]
  apply List.ext_getElem?
  intro i
  rw [List.getElem?_map]
  by_cases hi : i < l.length
  · rw [List.getElem?_range hi, List.getElem?_eq_getElem hi]
    show some (l.getD i .non) = _
    rw [List.getD_eq_getElem?_getD, List.getElem?_eq_getElem hi]
    rfl
  · rw [List.getElem?_eq_none (by rw [List.length_range]; omega), List.getElem?_eq_none (by omega)]
    rfl
section
variable {K : PySem.W.Frag} {σ : L2.St} {G H : Hp} {ta tb te : TE} {d : PyData} {ds : List PyData} {D : Ends} {tu tz : TS}
/-- draws = _law_draws(script, n) -/
theorem d_draws {a : Addr} {ns : List Int} {n : Nat} {i : Nat} {m : Int} {E : XK} (hm : m = (n : Int)) (h0 : σ[0]? = some (some (.ref a))) (hS : SqL K H a (ns.map V.int)) (hl : ns.length ≤ 63) (hn : n ≤ 1000)
    (k : ∀ ds p H2, Drawn n ds → Ex H H2 → Da K H2 (.ref p) (.list (ds.map .int)) → tz D (σ.set i (some (.ref p))) H2) : tSeq (tAsg (tCall (spDraws K) [] E (tCons (tVar 0) (tCons (tC (.int m)) tNil))) (gName i)) tz D σ H := by
  subst hm
  exact ⟨_, h0, a, ns, n, rfl, hS, hl, hn, fun ds p H2 dr hp e h2 => k ds p H2 dr e (.lst h2 (daa_ints ds))⟩
/-- a, b, .. = e -/
theorem d_unp {n : Nat} {gs : TGs} (h : ED K te σ G (.tuple ds)) (x : Ex G H) (hn : ds.length = n) (k : ∀ vs H2 G2, Sep G H H2 G2 → DaAll K G2 vs ds → gs vs σ H2 (tz D)) : tSeq (tAsg te (gTup K n gs)) tz D σ H := h H x _ fun v H2 G2 s g => by
  cases g with
  | @tup a xs _ e g =>
    exact ⟨a, xs, rfl, ex_t s.inn e, by rw [daa_len g]; exact hn, k xs H2 G2 s g⟩
/-- repr(e) -/
theorem ed_repr (h : ED K te σ G d) (hc : ∃ es, d = .list es ∨ d = .tuple es) (h1 : d.showable = true) (h2 : d.hasDict = false) (h3 : d.depth ≤ 60) (h4 : d.shown.length ≤ sizeLine) : ED K (tCB (rRepr K) (tCons te tNil)) σ G (.str d.shown) := fun H1 x Q q =>
  h H1 x _ fun v H2 G2 s g => by
    obtain ⟨es, hc⟩ := hc
    have hv : ∃ a, v = .ref a := by
      rcases hc with rfl | rfl
      · cases g
        exact ⟨_, rfl⟩
      · cases g
        exact ⟨_, rfl⟩
    obtain ⟨a, rfl⟩ := hv
    exact ⟨a, d, rfl, da_dp (da_ex s.inn g), h1, h2, h3, h4, q _ H2 G2 s (.str _)⟩
end
/-! numbers as texts, and their lengths -/
def nS (i : Int) : Str := Str.ofString (toString i)
theorem small_log {i : Int} (h0 : 0 ≤ i) (h1 : i < 100000) : i.natAbs.log2 < 1920 := by
  by_cases z : i.natAbs = 0
  · rw [z]
    decide
  · refine (Nat.log2_lt z).mpr (Nat.lt_of_lt_of_le (show i.natAbs < 2 ^ 17 by omega) (Nat.pow_le_pow_right (by decide) (by decide)))
theorem nS_len {i : Int} (h0 : 0 ≤ i) (h1 : i < 1000) : (nS i).length ≤ 4 := by
  unfold nS
  rw [PySem.ofString_length]
  exact int_text_length_le10 (k := 3) (by decide) (by omega)
theorem join_le {sep : Str} {ts : List Str} {m b c : Nat} (hm : ts.length ≤ m) (hb : ∀ t ∈ ts, t.length ≤ b) (hc : sep.length ≤ c) : (ts.map (·.length)).sum + ts.length * sep.length ≤ m * (b + c) := by
  have h : (ts.map (·.length)).sum + ts.length * sep.length ≤ ts.length * (b + c) := by
    clear hm
    induction ts with
    | nil => simp
    | cons t r ih =>
      have i := ih fun t ht => hb t (List.mem_cons_of_mem _ ht)
      have ht := hb t List.mem_cons_self
      simp only [List.map_cons, List.sum_cons, List.length_cons, Nat.succ_mul]
      omega
  exact Nat.le_trans h (Nat.mul_le_mul_right _ hm)
theorem join_len {sep : Str} {ts : List Str} {m b c : Nat} (hm : ts.length ≤ m) (hb : ∀ t ∈ ts, t.length ≤ b) (hc : sep.length ≤ c) : (Txt.join sep ts).length ≤ m * (b + c) := by
  have e : Txt.join sep ts = Str.join sep ts := StrLaws.glued_eq_join sep ts
  rw [e]
  exact Nat.le_trans (StrLaws.join_length_le sep ts) (join_le hm hb hc)
end Tw
namespace Tw
open PySem PySem.Spec PyProof.Rows L2 Evl
section
variable {K : PySem.W.Frag}
theorem daa_inv {H : Hp} {vs : List V} {d : PyData} {ds : List PyData} (h : DaAll K H vs (d :: ds)) : ∃ v r, vs = v :: r ∧ Da K H v d ∧ DaAll K H r ds := by
  cases h with
  | cons a b => exact ⟨_, _, rfl, a, b⟩
theorem daa_inv0 {H : Hp} {vs : List V} (h : DaAll K H vs []) : vs = [] := by
  cases h
  rfl
theorem Sep.mut {A B C G : Hp} {p : Addr} {o : HO} (s : Sep A B C G) (hB : B p = none) (hG : G p = none) : Sep A B (upd C p o) G := ⟨Ex.mut s.up hB, s.an, Ex.mut s.inn hG, s.sep⟩
/-- a list of one's own becomes data -/
theorem Sep.seal {A B C G : Hp} {p : Addr} {xs : List V} {ds : List PyData} (s : Sep A B C G) (hB : B p = none) (hG : G p = none) (hC : C p = some (.lst xs)) (g : DaAll K G xs ds) :
    Sep A B C (upd G p (.lst xs)) ∧ Da K (upd G p (.lst xs)) (.ref p) (.list ds) := by
  refine ⟨⟨s.up, s.an.trans (Ex.new hG), fun b u hb => ?_, fun b h h1 => ?_⟩, .lst upd_same (daa_ex (Ex.new hG) g)⟩
  · by_cases q : b = p
    · subst q
      rw [upd_same] at hb
      rw [← hb]
      exact hC
    · rw [upd_ne q] at hb
      exact s.inn b u hb
  · have q : b ≠ p := fun z => by
      rw [z] at h1
      exact h1 hB
    rw [upd_ne q]
    exact s.sep b h h1
end
theorem dr_ix {n : Nat} {ds : List Int} (h : Drawn n ds) {i : Nat} (hi : i < n) : (ds.map PyData.int)[i]? = some (.int (ds.getD i 0)) := by
  rw [List.getElem?_map, (h.getD hi).1]
  rfl
theorem sIx_nat' (n : Nat) (d : Nat) (i : Nat) : HT.sIx n d (some (i : Int)) = min i n := HT.sIx_nat n d i
theorem cut_ix {l : List PyData} {a b j : Nat} (hj : a + j < b) (hb : b ≤ l.length) : (cutD l (some (a : Int)) (some (b : Int)))[j]? = l[a + j]? := by
  unfold cutD
  rw [sIx_nat', sIx_nat', List.getElem?_take_of_lt (by omega), List.getElem?_drop]
  congr 1
  omega
def intsOf : PyData → List Int
  | .tuple ds => ds.filterMap fun d => match d with | .int i => some i | _ => none
  | .list ds => ds.filterMap fun d => match d with | .int i => some i | _ => none
  | _ => []
theorem intsOf_fm (s : List Int) : (s.map PyData.int).filterMap (fun d => match d with | .int i => some i | _ => none) = s := by
  induction s with
  | nil => rfl
  | cons a r ih =>
    rw [List.map_cons, List.filterMap_cons]
    show a :: _ = _
    rw [ih]
theorem intsOf_tup (s : List Int) : intsOf (.tuple (s.map .int)) = s := intsOf_fm s
theorem intsOf_lst (s : List Int) : intsOf (.list (s.map .int)) = s := intsOf_fm s
end Tw
namespace Tw
open PySem PySem.Spec PyProof.Rows L2 Evl
/-! the rules with the written part said (within a comprehension's block the context is not the reading's) -/
section
variable {X : Cx} (K : PySem.W.Frag)
theorem ixl (e : X.K = K := by rfl) : IxR X (rIxL K) := e ▸ ix_list
theorem ixt (e : X.K = K := by rfl) : IxR X (rIxT K) := e ▸ ix_tup
theorem slL (e : X.K = K := by rfl) : SlR X (rSlL K) := e ▸ sl_list
theorem lenK (e : X.K = K := by rfl) : CallR X (.builtin "len") (fun xs H Q => ∃ p ys, xs = [V.ref p] ∧ (SqL K H p ys ∨ SqT K H p ys) ∧ Q (.int ys.length) H) := e ▸ call_len_seq
theorem tupK (e : X.K = K := by rfl) : CallR X (.type "tuple") (fun xs H Q => ∃ p ys, xs = [V.ref p] ∧ ((SqL K H p ys ∧ ∀ l, H l = none → Q (.ref l) (upd H l (.tup ys))) ∨ (SqT K H p ys ∧ Q (.ref p) H))) := e ▸ call_tuple_of
theorem pi_listK {tg l : Expr} {tl : TE} (hl : PE X l tl) (e : X.K = K := by rfl) : PI X tg l (iList K tl) := e ▸ pi_list hl
theorem pi_tupK {tg l : Expr} {tl : TE} (hl : PE X l tl) (e : X.K = K := by rfl) : PI X tg l (iTup K tl) := e ▸ pi_tup hl
theorem pi_seqK {tg l : Expr} {tl : TE} (hl : PE X l tl) (e : X.K = K := by rfl) : PI X tg l (iSeq K tl) := e ▸ pi_seq hl
theorem joinK (e : X.K = K := by rfl) : MtR X "str.join" (fun x xs H Q => ∃ a p, ∃ ys : List Str, x = .str a ∧ xs = [.ref p] ∧ (SqL K H p (ys.map V.str) ∨ SqT K H p (ys.map V.str)) ∧ (ys.map (·.length)).sum + ys.length * a.length ≤ 16777216 ∧ Q (.str (Txt.join a ys)) H) := e ▸ mt_join
theorem pe_joinK {o e : Expr} {to te : TE} {apos pos : Pos} (ho : PE X o to) (he : PE X e te) (hK : X.K = K := by rfl) (hs : starEach [e] X.env = [(false, eval e X.env)] := by rfl) (hbase : attributeBase o "join" X.env (eval o X.env) = eval o X.env := by rfl) (hline : (apos.endLine == pos.line) = true := by rfl) :
    PE X (.Call (.Attribute o "join" apos) [e] [] pos) (tM1 (fun x xs H Q => ∃ a p, ∃ ys : List Str, x = .str a ∧ xs = [.ref p] ∧ (SqL K H p (ys.map V.str) ∨ SqT K H p (ys.map V.str)) ∧
      (ys.map (·.length)).sum + ys.length * a.length ≤ 16777216 ∧ Q (.str (Txt.join a ys)) H) to te) :=
  pe_m1 PySem.F.slot_str_join PySem.F.type_str_join (joinK K hK) ho he hs hbase hline
theorem reprK (hg : X.A.guards = some []) (hu : X.A.units + 64 < cLine) (e : X.K = K := by rfl) : CallR X (.builtin "repr") (rRepr K) := e ▸ call_repr hg hu
theorem appendK : MtM X "list.append" rAppend := mt_append
end
end Tw
namespace Tw
open PySem PySem.Spec PyProof.Rows L2 Evl
/-! data of a small size: what repr and == ask -/
structure Ok (n w : Nat) (d : PyData) : Prop where
  sh : d.showable = true
  nd : d.hasDict = false
  dp : d.depth ≤ n
  ls : d.leavesShort 20 = true
  cl : d.canLay0 = true
  wt : d.weight ≤ w
theorem Ok.mono {n w n' w' : Nat} {d : PyData} (h : Ok n w d) (hn : n ≤ n') (hw : w ≤ w') : Ok n' w' d := ⟨h.sh, h.nd, Nat.le_trans h.dp hn, h.ls, h.cl, Nat.le_trans h.wt hw⟩
theorem ok_int {i : Int} (h0 : -100000 < i) (h1 : i < 100000) : Ok 0 17 (.int i) := by
  have hl : i.natAbs.log2 < 17 := by
    by_cases z : i.natAbs = 0
    · rw [z]
      decide
    · exact (Nat.log2_lt z).mpr (show i.natAbs < 2 ^ 17 by omega)
  refine ⟨decide_eq_true (by omega), rfl, Nat.le_refl 0, decide_eq_true ?_, rfl, ?_⟩
  · show (Str.ofString (toString i)).length ≤ 20
    rw [PySem.ofString_length]
    have := int_text_length_le10 (a := i) (k := 5) (by decide) (by omega)
    omega
  · show (if i == 0 then 0 else i.natAbs.log2 + 1) ≤ 17
    split <;> omega
theorem ok_none : Ok 0 17 .none := ⟨rfl, rfl, Nat.le_refl 0, rfl, rfl, Nat.zero_le _⟩
theorem ok_bool (b : Bool) : Ok 0 17 (.bool b) := ⟨rfl, rfl, Nat.le_refl 0, rfl, rfl, Nat.zero_le _⟩
theorem ok_all {n w : Nat} : ∀ {ds : List PyData}, (∀ d ∈ ds, Ok n w d) → PyData.showableAll ds = true ∧ PyData.hasDictAll ds = false ∧ PyData.depthAll ds ≤ n ∧ PyData.leavesShortAll 20 ds = true ∧ PyData.canLayAll0 ds = true ∧ PyData.weightAll ds ≤ ds.length * (w + 1)
  | [], _ => ⟨rfl, rfl, Nat.zero_le _, rfl, rfl, Nat.zero_le _⟩
  | d :: r, h => by
    have hd := h d List.mem_cons_self
    obtain ⟨a1, a2, a3, a4, a5, a6⟩ := ok_all (ds := r) fun x hx => h x (List.mem_cons_of_mem _ hx)
    refine ⟨?_, ?_, ?_, ?_, ?_, ?_⟩
    · show (d.showable && PyData.showableAll r) = true
      rw [hd.sh, a1]
      rfl
    · show (d.hasDict || PyData.hasDictAll r) = false
      rw [hd.nd, a2]
      rfl
    · show max d.depth (PyData.depthAll r) ≤ n
      have := hd.dp
      omega
    · show (d.leavesShort 20 && PyData.leavesShortAll 20 r) = true
      rw [hd.ls, a4]
      rfl
    · show (d.canLay0 && PyData.canLayAll0 r) = true
      rw [hd.cl, a5]
      rfl
    · show d.weight + 1 + PyData.weightAll r ≤ (r.length + 1) * (w + 1)
      have := hd.wt
      rw [Nat.succ_mul]
      omega
theorem ok_list {n w m : Nat} {ds : List PyData} (h : ∀ d ∈ ds, Ok n w d) (hm : ds.length * (w + 1) ≤ m) : Ok (n + 1) m (.list ds) := by
  obtain ⟨a1, a2, a3, a4, a5, a6⟩ := ok_all h
  exact ⟨a1, a2, Nat.succ_le_succ a3, a4, a5, Nat.le_trans a6 hm⟩
theorem ok_tup {n w m : Nat} {ds : List PyData} (h : ∀ d ∈ ds, Ok n w d) (hm : ds.length * (w + 1) ≤ m) : Ok (n + 1) m (.tuple ds) := by
  obtain ⟨a1, a2, a3, a4, a5, a6⟩ := ok_all h
  exact ⟨a1, a2, Nat.succ_le_succ a3, a4, a5, Nat.le_trans a6 hm⟩
theorem Ok.fits {n w : Nat} {d : PyData} (h : Ok n w d) (hw : w ≤ 700000) : d.shown.length ≤ sizeLine := by
  have h1 := PyData.shown_le 20 (by decide) d h.ls
  have h2 := h.wt
  have e : sizeLine = 16777216 := by decide
  rw [e]
  omega
theorem Ok.shaped {n w : Nat} {d : PyData} (h : Ok n w d) (hn : n ≤ 60) : SeqAt.shaped d = true := by
  show (d.canLay0 && decide (d.depth ≤ 64)) = true
  have := h.dp
  rw [h.cl, Bool.true_and, decide_eq_true_eq]
  omega
theorem mem2 {P : PyData → Prop} {a b : PyData} (ha : P a) (hb : P b) : ∀ d ∈ [a, b], P d := by
  intro d hd
  simp only [List.mem_cons, List.not_mem_nil, or_false] at hd
  rcases hd with rfl | rfl <;> assumption
section
variable {K : PySem.W.Frag} {σ : L2.St} {G H : Hp} {te : TE} {d : PyData}
theorem ed_reprO {n w : Nat} (h : ED K te σ G d) (hc : ∃ es, d = .list es ∨ d = .tuple es) (ho : Ok n w d) (hn : n ≤ 60) (hw : w ≤ 700000) : ED K (tCB (rRepr K) (tCons te tNil)) σ G (.str d.shown) :=
  ed_repr h hc ho.sh ho.nd (Nat.le_trans ho.dp hn) (ho.fits hw)
/-- isinstance(x, str) of a text -/
theorem et_isStr {x : Str} (h : ED K te σ G (.str x)) : EvT (tB (tCB RZ.rIsTy (tCons te (tCons (tC (.ty "str")) tNil)))) σ G true := fun H1 e Q q =>
  ev_str h H1 e _ fun H2 e2 => ⟨.str x, "str", rfl, .str x, true, rfl, q H2 e2⟩
theorem et_neS {ta tb : TE} {x y : Str} (ha : ED K ta σ G (.str x)) (hb : ED K tb σ G (.str y)) : EvT (tTest (tOp rNe ta tb)) σ G (!decide (V.str x = V.str y)) := et_test (ev_op (ev_str ha) (ev_str hb) (rv_ne rfl))
theorem ed_eqS {ta tb : TE} {x y : Str} (ha : ED K ta σ G (.str x)) (hb : ED K tb σ G (.str y)) : ED K (tOp rEq ta tb) σ G (.bool (decide (V.str x = V.str y))) := ed_ev (ev_op (ev_str ha) (ev_str hb) (rv_eq rfl)) (.bl _)
end
end Tw

set_option Elab.async false
set_option linter.all false
set_option maxRecDepth 100000
set_option maxHeartbeats 4000000
namespace Tw
open PySem PySem.Spec PyProof.Rows L2 Evl
/-! more of expressions -/
section
variable {K : PySem.W.Frag} {σ : L2.St} {G H : Hp} {ta tb te : TE} {d e : PyData} {ds es : List PyData}
theorem et_bool {b : Bool} (h : ED K te σ G (.bool b)) : EvT (tB te) σ G b := et_B (ev_bool h)
theorem et_cmp0 {p : Int → Int → Bool} {i j : Int} (ha : ED K ta σ G (.int i)) (hb : ED K tb σ G (.int j)) : EvT (tTest (tOp (rI0 fun i j => .bl (p i j)) ta tb)) σ G (p i j) := et_test (ev_op (ev_int ha) (ev_int hb) rv_I0)
theorem ed_cmp0 {p : Int → Int → Bool} {i j : Int} (ha : ED K ta σ G (.int i)) (hb : ED K tb σ G (.int j)) : ED K (tOp (rI0 fun i j => .bl (p i j)) ta tb) σ G (.bool (p i j)) := ed_ev (ev_op (ev_int ha) (ev_int hb) rv_I0) (.bl _)
theorem ed_neg {i : Int} (h : ED K te σ G (.int i)) : ED K (tUn (rU fun i => .int (-i)) te) σ G (.int (-i)) := ed_ev (ev_un (ev_int h) ru_neg) (.int _)
theorem ed_modN {i j : Int} (ha : ED K ta σ G (.int i)) (hb : ED K tb σ G (.int j)) (h0 : 0 < j) : ED K (tOp (rI (fun _ j => j ≠ 0) fun i j => .int (i.fmod j)) ta tb) σ G (.int (i % j)) :=
  ed_opC ha hb (by omega) (by rw [Int.fmod_eq_emod_of_nonneg i (by omega)])
/-- scalars -/
def sc : PyData → Bool
  | .none | .bool _ | .int _ | .str _ => true
  | _ => false
def vOf : PyData → V
  | .none => .non
  | .bool b => .bl b
  | .int i => .int i
  | .str x => .str x
  | _ => .non
theorem da_sc {v : V} (h : Da K H v d) (hs : sc d = true) : v = vOf d := by
  cases h <;> first | rfl | cases hs
theorem ev_sc (h : ED K te σ G d) (hs : sc d = true) : Ev te σ G (vOf d) := fun H1 x Q q => h H1 x Q fun v H2 G2 s g => by
  rw [da_sc g hs] at *
  exact q H2 s.up
theorem ed_vOf {σ : L2.St} (h : Ev te σ G (vOf d)) (hs : sc d = true) : ED K te σ G d := ed_ev h (by
  cases d <;> first | exact .non | exact .bl _ | exact .int _ | exact .str _ | cases hs)
theorem ed_eqSc (ha : ED K ta σ G d) (hb : ED K tb σ G e) (hd : sc d = true) (he : sc e = true) (h : scal (vOf d) (vOf e) = true) : ED K (tOp rEq ta tb) σ G (.bool (decide (vOf d = vOf e))) := ed_ev (ev_op (ev_sc ha hd) (ev_sc hb he) (rv_eq h)) (.bl _)
theorem et_eqSc (ha : ED K ta σ G d) (hb : ED K tb σ G e) (hd : sc d = true) (he : sc e = true) (h : scal (vOf d) (vOf e) = true) : EvT (tTest (tOp rEq ta tb)) σ G (decide (vOf d = vOf e)) := et_test (ev_op (ev_sc ha hd) (ev_sc hb he) (rv_eq h))
theorem et_neSc (ha : ED K ta σ G d) (hb : ED K tb σ G e) (hd : sc d = true) (he : sc e = true) (h : scal (vOf d) (vOf e) = true) : EvT (tTest (tOp rNe ta tb)) σ G (!decide (vOf d = vOf e)) := et_test (ev_op (ev_sc ha hd) (ev_sc hb he) (rv_ne h))
theorem et_eqI {i j : Int} (ha : ED K ta σ G (.int i)) (hb : ED K tb σ G (.int j)) : EvT (tTest (tOp rEq ta tb)) σ G (decide (i = j)) := et_is (et_eqSc ha hb rfl rfl rfl) (by
  show decide (V.int i = V.int j) = decide (i = j)
  by_cases h : i = j
  · rw [h, decide_eq_true rfl, decide_eq_true rfl]
  · rw [decide_eq_false h, decide_eq_false fun z => h (V.int.inj z)])
theorem ed_eqI {i j : Int} (ha : ED K ta σ G (.int i)) (hb : ED K tb σ G (.int j)) : ED K (tOp rEq ta tb) σ G (.bool (decide (i = j))) := ed_is (ed_eqSc ha hb rfl rfl rfl) (by
  show PyData.bool (decide (V.int i = V.int j)) = .bool (decide (i = j))
  by_cases h : i = j
  · rw [h, decide_eq_true rfl, decide_eq_true rfl]
  · rw [decide_eq_false h, decide_eq_false fun z => h (V.int.inj z)])
/-- x is None, x is not None -/
def isN : PyData → Bool
  | .none => true
  | _ => false
theorem da_isN {v : V} (h : Da K H v d) : decide (v = .non) = isN d := by
  cases h <;> first | rfl | exact decide_eq_false fun z => nomatch z
theorem ed_isN (h : ED K ta σ G d) : ED K (tOp (fun x y H Q => y = V.non ∧ Q (.bl (decide (x = .non))) H) ta (tC .non)) σ G (.bool (isN d)) := fun H1 x Q q => h H1 x _ fun v H2 G2 s g => ⟨rfl, by
  rw [da_isN g]
  exact q _ H2 G2 s (.bl _)⟩
theorem et_isN (h : ED K ta σ G d) : EvT (tTest (tOp (fun x y H Q => y = V.non ∧ Q (.bl (decide (x = .non))) H) ta (tC .non))) σ G (isN d) := et_test (ev_bool (ed_isN h))
theorem ed_notN (h : ED K ta σ G d) : ED K (tOp (fun x y H Q => y = V.non ∧ Q (.bl (!decide (x = .non))) H) ta (tC .non)) σ G (.bool (!isN d)) := fun H1 x Q q => h H1 x _ fun v H2 G2 s g => ⟨rfl, by
  rw [da_isN g]
  exact q _ H2 G2 s (.bl _)⟩
theorem et_notN (h : ED K ta σ G d) : EvT (tTest (tOp (fun x y H Q => y = V.non ∧ Q (.bl (!decide (x = .non))) H) ta (tC .non))) σ G (!isN d) := et_test (ev_bool (ed_notN h))
/-- isinstance(x, T) by the type's name -/
def tyD : PyData → String
  | .none => "NoneType"
  | .bool _ => "bool"
  | .int _ => "int"
  | .str _ => "str"
  | .list _ => "list"
  | .tuple _ => "tuple"
  | .dict _ => "dict"
theorem da_ty {v : V} (h : Da K H v d) : TyX K H v (.type (tyD d)) := by
  cases h with
  | non => exact .base .non
  | bl b => exact .base (.bl b)
  | int i => exact .base (.int i)
  | str x => exact .base (.str x)
  | lst e _ => exact .base (.lst e)
  | tup e _ =>
    rcases e with (e | ⟨o, e⟩) | ⟨o, its, n, e, c, _⟩
    · exact .base (.tup e)
    · exact .fTuple e
    · exact .kTuple e c
theorem ed_isi {T : String} {b : Bool} (h : ED K ta σ G d) (hb : kitB (tyD d) T = some b) : ED K (tCB (rIsi K) (tCons ta (tCons (tC (.ty T)) tNil))) σ G (.bool b) := fun H1 x Q q => h H1 x _ fun v H2 G2 s g =>
  ⟨v, .ty T, _, .type T, b, rfl, .ty T, da_ty (da_ex s.inn g), hb, q _ H2 G2 s (.bl b)⟩
/-- max, all, any, sum of a list -/
def mxI : List Int → Int
  | [] => 0
  | x :: r => r.foldl (fun a b => if a < b then b else a) x
theorem mx_fold : ∀ (r : List Int) (x : Int), (r.foldl (fun a b => if a < b then b else a) x ∈ x :: r) ∧ ∀ y ∈ x :: r, y ≤ r.foldl (fun a b => if a < b then b else a) x
  | [], x => ⟨List.mem_cons_self, fun y hy => by cases List.mem_singleton.mp hy; exact Int.le_refl _⟩
  | z :: r, x => by
    obtain ⟨h1, h2⟩ := mx_fold r (if x < z then z else x)
    rw [List.foldl_cons]
    refine ⟨?_, fun y hy => ?_⟩
    · rcases List.mem_cons.mp h1 with h | h
      · rw [h]
        split
        · exact List.mem_cons_of_mem _ List.mem_cons_self
        · exact List.mem_cons_self
      · exact List.mem_cons_of_mem _ (List.mem_cons_of_mem _ h)
    · have h0 := h2 _ List.mem_cons_self
      have key : ∀ a b m : Int, (if a < b then b else a) ≤ m → a ≤ m ∧ b ≤ m := fun a b m h => by
        split at h <;> omega
      obtain ⟨k1, k2⟩ := key x z _ h0
      rcases List.mem_cons.mp hy with e | hy
      · rw [e]
        exact k1
      · rcases List.mem_cons.mp hy with e | hy
        · rw [e]
          exact k2
        · exact h2 y (List.mem_cons_of_mem _ hy)
theorem mx_mem {ns : List Int} (h : ns ≠ []) : mxI ns ∈ ns := by
  cases ns with
  | nil => exact absurd rfl h
  | cons x r => exact (mx_fold r x).1
theorem mx_le {ns : List Int} {y : Int} (h : y ∈ ns) : y ≤ mxI ns := by
  cases ns with
  | nil => exact absurd h List.not_mem_nil
  | cons x r => exact (mx_fold r x).2 y h
theorem mx_is {ns : List Int} {m : Int} (h : m ∈ ns) (hm : ∀ y ∈ ns, y ≤ m) : m = mxI ns := by
  have h1 := mx_le h
  have h2 := hm _ (mx_mem (ns := ns) fun z => by rw [z] at h; exact absurd h List.not_mem_nil)
  omega
theorem ed_max {ns : List Int} (h : ED K ta σ G (.list (ns.map .int))) (hn : ns ≠ []) : ED K (tCB (rMax K) (tCons ta tNil)) σ G (.int (mxI ns)) := fun H1 x Q q => h H1 x _ fun v H2 G2 s g => by
  cases g with
  | @lst a xs _ e g =>
    cases daa_intsV g
    refine ⟨a, ns, rfl, sq_of (s.inn _ _ e), List.length_pos_iff.mpr hn, fun m hm hle => ?_⟩
    rw [mx_is hm hle]
    exact q _ H2 G2 s (.int _)
theorem daa_boolsV : ∀ {bs : List Bool} {vs : List V}, DaAll K H vs (bs.map PyData.bool) → vs = bs.map V.bl
  | [], _, .nil => rfl
  | n :: r, _, .cons (.bl _) a => by rw [daa_boolsV a]; rfl
theorem ed_all {bs : List Bool} (h : ED K ta σ G (.list (bs.map .bool))) : ED K (tCB (rAll K) (tCons ta tNil)) σ G (.bool (bs.all id)) := fun H1 x Q q => h H1 x _ fun v H2 G2 s g => by
  cases g with
  | @lst a xs _ e g =>
    cases daa_boolsV g
    exact ⟨a, bs, rfl, sq_of (s.inn _ _ e), q _ H2 G2 s (.bl _)⟩
theorem ed_any {bs : List Bool} (h : ED K ta σ G (.list (bs.map .bool))) : ED K (tCB (rAny K) (tCons ta tNil)) σ G (.bool (bs.any id)) := fun H1 x Q q => h H1 x _ fun v H2 G2 s g => by
  cases g with
  | @lst a xs _ e g =>
    cases daa_boolsV g
    exact ⟨a, bs, rfl, sq_of (s.inn _ _ e), q _ H2 G2 s (.bl _)⟩
theorem ed_sum {ns : List Int} (h : ED K ta σ G (.list (ns.map .int))) : ED K (tCB (rSum K) (tCons ta tNil)) σ G (.int ns.sum) := fun H1 x Q q => h H1 x _ fun v H2 G2 s g => by
  cases g with
  | @lst a xs _ e g =>
    cases daa_intsV g
    exact ⟨a, ns, rfl, sq_of (s.inn _ _ e), q _ H2 G2 s (.int _)⟩
/-- xs * k -/
theorem daa_rep {vs : List V} (g : DaAll K H vs ds) : ∀ k : Nat, DaAll K H (List.replicate k vs).flatten (List.replicate k ds).flatten
  | 0 => .nil
  | k + 1 => by
    rw [List.replicate_succ, List.replicate_succ, List.flatten_cons, List.flatten_cons]
    exact daa_app g (daa_rep g k)
theorem ed_rep {k : Int} (ha : ED K ta σ G (.list ds)) (hb : ∀ G2, Ex G G2 → ED K tb σ G2 (.int k)) (h0 : 0 ≤ k) (h1 : k < 2 ^ 63) (hz : ds.length * k.toNat ≤ 100000) : ED K (tOp rRep ta tb) σ G (.list (List.replicate k.toNat ds).flatten) := fun H1 x Q q =>
  ha H1 x _ fun v H2 G2 s g => ev_int (hb G2 s.an) H2 s.inn _ fun H3 x3 => by
    cases g with
    | @lst a xs _ e g =>
      refine ⟨a, k, xs, rfl, rfl, x3 _ _ (s.inn _ _ e), by omega, h1, by rw [daa_len g]; exact sz_of hz, fun p hp => ?_⟩
      have s' : Sep G H1 H3 G2 := ⟨s.up.trans x3, s.an, s.inn.trans x3, s.sep⟩
      exact q (.ref p) _ (upd G2 p (.lst (List.replicate k.toNat xs).flatten)) (s'.trans (Sep.new s'.inn hp)) (.lst upd_same (daa_ex (Ex.new (fresh_back s'.inn hp)) (daa_rep g _)))
/-- == of data -/
theorem et_neD {n w m u : Nat} (ha : ED K ta σ G d) (hb : ∀ G2, Ex G G2 → ED K tb σ G2 e) (hd : Ok n w d) (hn : n ≤ 60) (he : Ok m u e) (hm : m ≤ 60) : EvT (tTest (tOp (rNeD K) ta tb)) σ G (!PyData.eqv d e) := fun H1 x Q q =>
  ha H1 x _ fun v H2 G2 s g => hb G2 s.an H2 s.inn _ fun v2 H3 G3 s3 g3 =>
    ⟨d, e, da_dp (da_ex (s3.an.trans s3.inn) g), da_dp (da_ex s3.inn g3), hd.shaped hn, he.shaped hm, _, rfl, q H3 (s.up.trans s3.up)⟩
theorem ed_eqD {n w m u : Nat} (ha : ED K ta σ G d) (hb : ∀ G2, Ex G G2 → ED K tb σ G2 e) (hd : Ok n w d) (hn : n ≤ 60) (he : Ok m u e) (hm : m ≤ 60) : ED K (tOp (rEqD K) ta tb) σ G (.bool (PyData.eqv d e)) := fun H1 x Q q =>
  ha H1 x _ fun v H2 G2 s g => hb G2 s.an H2 s.inn _ fun v2 H3 G3 s3 g3 =>
    ⟨d, e, da_dp (da_ex (s3.an.trans s3.inn) g), da_dp (da_ex s3.inn g3), hd.shaped hn, he.shaped hm, q _ H3 G3 (s.trans s3) (.bl _)⟩
theorem eqv_ints : ∀ a b : List Int, PyData.eqv (.list (a.map .int)) (.list (b.map .int)) = decide (a = b)
  | [], [] => rfl
  | [], y :: b => by
    rw [decide_eq_false fun z => nomatch z]
    simp only [List.map_cons, List.map_nil, PyData.eqv, PyData.eqvAll]
  | x :: a, [] => by
    rw [decide_eq_false fun z => nomatch z]
    simp only [List.map_cons, List.map_nil, PyData.eqv, PyData.eqvAll]
  | x :: a, y :: b => by
    have h := eqv_ints a b
    have e : PyData.eqv (.list ((x :: a).map .int)) (.list ((y :: b).map .int)) = ((x == y) && PyData.eqv (.list (a.map .int)) (.list (b.map .int))) := by simp only [List.map_cons, PyData.eqv, PyData.eqvAll]
    rw [e, h]
    by_cases h1 : x = y
    · subst h1
      by_cases h2 : a = b
      · subst h2
        simp
      · rw [decide_eq_false h2, decide_eq_false fun z => h2 (List.cons.inj z).2, Bool.and_false]
    · rw [decide_eq_false fun z => h1 (List.cons.inj z).1, beq_eq_false_iff_ne.mpr h1, Bool.false_and]
theorem eqv_same {n w : Nat} (h : Ok n w d) : PyData.eqv d d = true := SeqAt.eqv_refl d h.cl
/-- xs[-1] -/
theorem ed_last {i : Int} (ha : ED K ta σ G (.list ds)) (hb : ∀ G2, Ex G G2 → ED K tb σ G2 (.int i)) (hi : i = -1) (hd : ds.getLast? = some d) : ED K (tOp (rIxL K) ta tb) σ G d := fun H1 x Q q =>
  ha H1 x _ fun v H2 G2 s g => ev_int (hb G2 s.an) H2 s.inn _ fun H3 x3 => by
    cases g with
    | @lst a xs _ e g =>
      subst hi
      have hl := daa_len g
      have hne : ds ≠ [] := fun z => by rw [z] at hd; cases hd
      have hpos : 0 < ds.length := List.length_pos_iff.mpr hne
      rw [List.getLast?_eq_getElem?] at hd
      obtain ⟨v, hv, gv⟩ := daa_get g _ d hd
      have hat : atI xs (-1) = some v := by
        unfold atI ixN
        rw [if_neg (by omega), if_pos (by omega)]
        show xs[(-1 + (xs.length : Int)).toNat]? = some v
        rw [show (-1 + (xs.length : Int)).toNat = ds.length - 1 by omega]
        exact hv
      exact ⟨a, xs, -1, v, rfl, rfl, sq_of (x3 _ _ (s.inn _ _ e)), hat, q v H3 G2 ⟨s.up.trans x3, s.an, s.inn.trans x3, s.sep⟩ gv⟩
end
section
variable {X : Cx} (K : PySem.W.Frag)
theorem maxK (hc : X.calm = true) (e : X.K = K := by rfl) : CallR X (.builtin "max") (rMax K) := e ▸ cr_max hc
theorem allK (hc : X.calm = true) (e : X.K = K := by rfl) : CallR X (.builtin "all") (rAll K) := e ▸ cr_all hc
theorem anyK (hc : X.calm = true) (e : X.K = K := by rfl) : CallR X (.builtin "any") (rAny K) := e ▸ cr_any hc
theorem sumK (hc : X.calm = true) (e : X.K = K := by rfl) : CallR X (.builtin "sum") (rSum K) := e ▸ cr_sum hc
theorem isiK (e : X.K = K := by rfl) : CallR X (.builtin "isinstance") (rIsi K) := e ▸ call_isi
theorem neDK (hu : X.A.units + 64 < cLine) (e : X.K = K := by rfl) : OpR X (compareOp .NotEq) (rNeD K) := e ▸ op_neD hu
theorem eqDK (hu : X.A.units + 64 < cLine) (e : X.K = K := by rfl) : OpR X (compareOp .Eq) (rEqD K) := e ▸ op_eqD hu
end
/-! more of statements -/
section
variable {K : PySem.W.Frag} {σ : L2.St} {G H : Hp} {ta tb te : TE} {d : PyData} {ds : List PyData} {D : Ends} {tu tz : TS}
/-- for i in range(a, b) -/
theorem d_range2 {j : Nat} {lo n : Int} (ha : ED K ta σ G (.int lo)) (hb : ED K tb σ G (.int n)) (x : Ex G H) (hn : 0 ≤ lo ∧ lo ≤ 100000 ∧ -100000 ≤ n ∧ n ≤ 100000) (Pv : Nat → L2.St → Hp → Prop) (h0 : ∀ H1, Ex H H1 → Pv 0 σ H1)
    (hs : ∀ (i : Nat) σ' H', lo + (i : Int) < n → Pv i σ' H' → tu { D with nx := Pv (i + 1), ct := Pv (i + 1), bk := tz D } (σ'.set j (some (.int (lo + (i : Int))))) H') (hd : ∀ σ' H', Pv (n - lo).toNat σ' H' → tz D σ' H') : tSeq (tFor (iRng2 (tCons ta (tCons tb tNil))) (gName j) tu) tz D σ H := by
  have e : EvA (tCons ta (tCons tb tNil)) σ G [.int lo, .int n] := ea_cons (ev_int ha) (ea_cons (ev_int hb) ea_nil)
  exact q_forR2 (EvA.mono x e) hn Pv h0 hs hd
/-- xs[-1] = e, xs outside the anchor, its items within -/
theorem daa_set : ∀ {vs : List V} {ds : List PyData} (n : Nat) {v : V}, DaAll K H vs ds → Da K H v d → DaAll K H (vs.set n v) (ds.set n d)
  | _, _, _, _, .nil, _ => .nil
  | _, _, 0, _, .cons _ a, g => .cons g a
  | _, _, n + 1, _, .cons h a, g => .cons h (daa_set n a g)
theorem d_setLast {l : Addr} {xs : List V} {i : Nat} {m : Int} (hG : G l = none) (hl : H l = some (.lst xs)) (hx : DaAll K G xs ds) (hi : σ[i]? = some (some (.ref l))) (h : ED K te σ G d) (x : Ex G H) (hne : 0 < xs.length) (hm : ∀ H', Ev tb σ H' (.int m)) (em : m = -1)
    (k : ∀ v H2 G2, Sep G H H2 G2 → G2 l = none → DaAll K G2 (xs.set (xs.length - 1) v) (ds.set (ds.length - 1) d) → Ex G2 (upd H2 l (.lst (xs.set (xs.length - 1) v))) → D.nx σ (upd H2 l (.lst (xs.set (xs.length - 1) v)))) :
    tAsg te (gSub (tVar i) tb rSetL) D σ H := h H x _ fun v H2 G2 s g => ⟨_, hi, hm H2 H2 (Ex.refl _) _ fun H3 x3 => by
    obtain ⟨o1, o2⟩ := s.out hG hl
    subst em
    refine ⟨l, xs, -1, xs.length - 1, rfl, rfl, x3 _ _ o2, ?_, ?_⟩
    · unfold ixN
      rw [if_neg (by omega), if_pos (by omega)]
      congr 1
      omega
    · have s' : Sep G H H3 G2 := ⟨s.up.trans x3, s.an, s.inn.trans x3, s.sep⟩
      refine k v H3 G2 s' o1 ?_ (Ex.mut s'.inn o1)
      rw [daa_len hx]
      exact daa_set _ (daa_ex s.an hx) g⟩
end
end Tw
namespace Tw
open PySem PySem.Spec PyProof.Rows L2 Evl
section
variable {K : PySem.W.Frag} {σ : L2.St} {G H : Hp} {ta tb te : TE} {d : PyData} {ds : List PyData} {D : Ends} {tu tz : TS}
/-- one new thing beside the anchor -/
theorem Sep.one {H2 : Hp} {p : Addr} {o : HO} (x : Ex G H) (np : H p = none) (e : Ex H H2) (hp : H2 p = some o) : Sep G H H2 (upd G p o) := by
  have gp : G p = none := fresh_back x np
  refine ⟨e, Ex.new gp, fun b u hb => ?_, fun b h h1 => ?_⟩
  · by_cases q : b = p
    · subst q
      rw [upd_same] at hb
      rw [← hb]
      exact hp
    · rw [upd_ne q] at hb
      exact e b u (x b u hb)
  · have q : b ≠ p := fun z => by
      rw [z] at h1
      exact h1 np
    rw [upd_ne q]
    exact h
/-- xs[-1] = (a, ..), the tuple's items told by the heap at hand -/
theorem d_setLastU {l : Addr} {xs ys : List V} {es : List PyData} {i : Nat} {m : Int} (hG : G l = none) (hl : H l = some (.lst xs)) (hx : DaAll K G xs ds) (hi : σ[i]? = some (some (.ref l))) (h : EvU te σ H ys) (hy : DaAll K G ys es) (x : Ex G H) (hne : 0 < xs.length) (hm : ∀ H', Ev tb σ H' (.int m)) (em : m = -1)
    (k : ∀ v H2 G2, Sep G H H2 G2 → G2 l = none → DaAll K G2 (xs.set (xs.length - 1) v) (ds.set (ds.length - 1) (.tuple es)) → Ex G2 (upd H2 l (.lst (xs.set (xs.length - 1) v))) → D.nx σ (upd H2 l (.lst (xs.set (xs.length - 1) v)))) :
    tAsg te (gSub (tVar i) tb rSetL) D σ H := h H (Ex.refl H) _ fun p H2 np e2 hp => ⟨_, hi, hm H2 H2 (Ex.refl _) _ fun H3 x3 => by
    have s := Sep.one x np (e2.trans x3) (x3 _ _ hp)
    obtain ⟨o1, o2⟩ := s.out hG hl
    subst em
    refine ⟨l, xs, -1, xs.length - 1, rfl, rfl, o2, ?_, ?_⟩
    · unfold ixN
      rw [if_neg (by omega), if_pos (by omega)]
      congr 1
      omega
    · refine k (.ref p) H3 _ s o1 ?_ (Ex.mut s.inn o1)
      rw [daa_len hx]
      exact daa_set _ (daa_ex s.an hx) (.tup (st_of upd_same) (daa_ex s.an hy))⟩
end
end Tw
namespace Tw
open PySem L2 Evl
theorem Sep.stay {G H H' : Hp} (x : Ex G H) (e : Ex H H') : Sep G H H' G := ⟨e, Ex.refl _, x.trans e, fun _ h _ => h⟩
end Tw
namespace Tw
open PySem PySem.Spec PyProof.Rows L2 Evl
/-! keyword-only parameters, all of them written -/
theorem kbn_mk {K : PySem.W.Frag} {x qual : Str} {st : Stmt} {f : Addr} {fd : FuncData} {ps ks : List Str} {n : Nat} (F : Fun K x qual st f fd)
    (h : ∀ (kV doc pm : Value) (an : Option Addr) (cdv ct : Value) (us ws : List Value), us.length = n → ws.length = ks.length →
      bindArgs (PySem.W.fnOf x qual (defArgs st) (defBody st) (defScope st) .none kV doc pm an cdv ct) ⟨us, ks.zip ws⟩ = pure (ps.zip (us ++ ws))) : KBn K fd ps n ks (fun us ws => us ++ ws) (fun vs zs => vs ++ zs) := by
  obtain ⟨_, _, kV, doc, pm, an, cdv, ct, _, rfl, _, _⟩ := F.ex
  exact ⟨fun s us ws _ h1 h2 => .of_eq (h kV doc pm an cdv ct us ws h1 h2), fun a b => a.append b⟩
section
variable {K : PySem.W.Frag} {σ : L2.St} {H : Hp} {d : PyData} {ds es : List PyData}
theorem ed_callN {n m : Nat} {R : List PyData → PyData → Prop} {E : XK} {t tk : TA} (h : EDA K t σ H ds) (hk : ∀ G, Ex H G → EDA K tk σ G es) (h1 : ds.length = n) (h2 : es.length = m) (hr : R (ds ++ es) d) : ED K (tCallN n m (spF K R) (fun vs zs => vs ++ zs) E t tk) σ H d := fun H1 x Q q =>
  h H1 x _ fun vs H2 G s g => hk G s.an H2 s.inn _ fun zs H3 G3 s3 g3 => ⟨by rw [daa_len g]; exact h1, by rw [daa_len g3]; exact h2, G3, ds ++ es, d, s3.inn, daa_app (daa_ex s3.an g) g3, hr, fun v H4 G4 s4 g4 => q v H4 G4 ((s.trans s3).trans s4) g4⟩
end
end Tw

set_option Elab.async false
set_option linter.all false
set_option maxRecDepth 100000
set_option maxHeartbeats 4000000
namespace K4
open PySem PySem.Spec PyProof.Rows L2 Evl Tw
def topS (i : Nat) : Stmt := PySem.Challenge.pw_tidewaits_k04_tides_and_passings.main.body.getD i (.Pass ⟨0, 0, 0, 0⟩)
abbrev s_depth_at : Stmt := topS 1
abbrev N_depth_at : List Str := ["harbour", "hour", "depths"]
theorem scdepth_at : FnScope N_depth_at ["harbour", "hour"] (defScope s_depth_at) := ⟨rfl, rfl, rfl, by decide +kernel, rfl, by decide +kernel, by decide +kernel⟩
abbrev s_can_pass : Stmt := topS 3
abbrev N_can_pass : List Str := ["harbour", "draught", "hour"]
theorem sccan_pass : FnScope N_can_pass ["harbour", "draught", "hour"] (defScope s_can_pass) := ⟨rfl, rfl, rfl, by decide +kernel, rfl, by decide +kernel, by decide +kernel⟩
abbrev s_tides : Stmt := topS 4
abbrev N_tides : List Str := ["harbour", "draught", "until", "found", "start", "hour"]
theorem sctides : FnScope N_tides ["harbour", "draught", "until"] (defScope s_tides) := ⟨rfl, rfl, rfl, by decide +kernel, rfl, by decide +kernel, by decide +kernel⟩
abbrev s_next_passing : Stmt := topS 5
abbrev N_next_passing : List Str := ["harbour", "draught", "hour", "wait"]
theorem scnext_passing : FnScope N_next_passing ["harbour", "draught", "hour"] (defScope s_next_passing) := ⟨rfl, rfl, rfl, by decide +kernel, rfl, by decide +kernel, by decide +kernel⟩
abbrev s_turn_of : Stmt := topS 6
abbrev N_turn_of : List Str := ["harbour", "depths", "turn"]
theorem scturn_of : FnScope N_turn_of ["harbour"] (defScope s_turn_of) := ⟨rfl, rfl, rfl, by decide +kernel, rfl, by decide +kernel, by decide +kernel⟩
abbrev s_greatest_wait : Stmt := topS 7
abbrev N_greatest_wait : List Str := ["harbour", "draught", "hour"]
theorem scgreatest_wait : FnScope N_greatest_wait ["harbour", "draught"] (defScope s_greatest_wait) := ⟨rfl, rfl, rfl, by decide +kernel, rfl, by decide +kernel, by decide +kernel⟩
abbrev s__law_draws : Stmt := topS 9
abbrev N__law_draws : List Str := ["script", "count", "rests", "cell", "draws", "k", "value", "at", "mixed"]
theorem sc_law_draws : FnScope N__law_draws ["script", "count"] (defScope s__law_draws) := ⟨rfl, rfl, rfl, by decide +kernel, rfl, by decide +kernel, by decide +kernel⟩
abbrev s__law_depths : Stmt := topS 11
abbrev N__law_depths : List Str := ["draws", "turn", "row", "k"]
theorem sc_law_depths : FnScope N__law_depths ["draws"] (defScope s__law_depths) := ⟨rfl, rfl, rfl, by decide +kernel, rfl, by decide +kernel, by decide +kernel⟩
abbrev s__law_next : Stmt := topS 12
abbrev N__law_next : List Str := ["deep", "hour", "later"]
theorem sc_law_next : FnScope N__law_next ["deep", "hour"] (defScope s__law_next) := ⟨rfl, rfl, rfl, by decide +kernel, rfl, by decide +kernel, by decide +kernel⟩
abbrev s__law_tides : Stmt := topS 13
abbrev N__law_tides : List Str := ["deep", "found", "hour"]
theorem sc_law_tides : FnScope N__law_tides ["deep"] (defScope s__law_tides) := ⟨rfl, rfl, rfl, by decide +kernel, rfl, by decide +kernel, by decide +kernel⟩
abbrev s__law_waits : Stmt := topS 14
abbrev N__law_waits : List Str := ["deep", "found", "hour", "later"]
theorem sc_law_waits : FnScope N__law_waits ["deep"] (defScope s__law_waits) := ⟨rfl, rfl, rfl, by decide +kernel, rfl, by decide +kernel, by decide +kernel⟩
abbrev s__law_turn : Stmt := topS 15
abbrev N__law_turn : List Str := ["depths", "row", "turn", "hour"]
theorem sc_law_turn : FnScope N__law_turn ["depths"] (defScope s__law_turn) := ⟨rfl, rfl, rfl, by decide +kernel, rfl, by decide +kernel, by decide +kernel⟩
abbrev s_law : Stmt := topS 16
abbrev N_law : List Str := ["script", "draws", "depths", "harbour", "kept", "draught", "until", "row", "deep", "depth", "hour", "answer", "told", "due", "worst", "more"]
theorem sclaw : FnScope N_law ["script"] (defScope s_law) := ⟨rfl, rfl, rfl, by decide +kernel, rfl, by decide +kernel, by decide +kernel⟩
structure Tx (K : PySem.W.Frag) (mg : Str → Option Value) where
  f_depth_at : Addr
  d_depth_at : FuncData
  F_depth_at : Fun K "depth_at" "depth_at" s_depth_at f_depth_at d_depth_at
  g_depth_at : mg "depth_at" = some (.ref f_depth_at)
  b_depth_at : Binds K d_depth_at ["harbour", "hour"] []
  f_can_pass : Addr
  d_can_pass : FuncData
  F_can_pass : Fun K "can_pass" "can_pass" s_can_pass f_can_pass d_can_pass
  g_can_pass : mg "can_pass" = some (.ref f_can_pass)
  b_can_pass : Binds K d_can_pass ["harbour", "draught", "hour"] []
  f_tides : Addr
  d_tides : FuncData
  F_tides : Fun K "tides" "tides" s_tides f_tides d_tides
  g_tides : mg "tides" = some (.ref f_tides)
  b_tides : KBn K d_tides ["harbour", "draught", "until"] 2 ["until"] (fun us ws => us ++ ws) (fun vs zs => vs ++ zs)
  f_next_passing : Addr
  d_next_passing : FuncData
  F_next_passing : Fun K "next_passing" "next_passing" s_next_passing f_next_passing d_next_passing
  g_next_passing : mg "next_passing" = some (.ref f_next_passing)
  b_next_passing : Binds K d_next_passing ["harbour", "draught", "hour"] []
  f_turn_of : Addr
  d_turn_of : FuncData
  F_turn_of : Fun K "turn_of" "turn_of" s_turn_of f_turn_of d_turn_of
  g_turn_of : mg "turn_of" = some (.ref f_turn_of)
  b_turn_of : Binds K d_turn_of ["harbour"] []
  f_greatest_wait : Addr
  d_greatest_wait : FuncData
  F_greatest_wait : Fun K "greatest_wait" "greatest_wait" s_greatest_wait f_greatest_wait d_greatest_wait
  g_greatest_wait : mg "greatest_wait" = some (.ref f_greatest_wait)
  b_greatest_wait : Binds K d_greatest_wait ["harbour", "draught"] []
  f__law_draws : Addr
  d__law_draws : FuncData
  F__law_draws : Fun K "_law_draws" "_law_draws" s__law_draws f__law_draws d__law_draws
  g__law_draws : mg "_law_draws" = some (.ref f__law_draws)
  b__law_draws : Binds K d__law_draws ["script", "count"] []
  f__law_depths : Addr
  d__law_depths : FuncData
  F__law_depths : Fun K "_law_depths" "_law_depths" s__law_depths f__law_depths d__law_depths
  g__law_depths : mg "_law_depths" = some (.ref f__law_depths)
  b__law_depths : Binds K d__law_depths ["draws"] []
  f__law_next : Addr
  d__law_next : FuncData
  F__law_next : Fun K "_law_next" "_law_next" s__law_next f__law_next d__law_next
  g__law_next : mg "_law_next" = some (.ref f__law_next)
  b__law_next : Binds K d__law_next ["deep", "hour"] []
  f__law_tides : Addr
  d__law_tides : FuncData
  F__law_tides : Fun K "_law_tides" "_law_tides" s__law_tides f__law_tides d__law_tides
  g__law_tides : mg "_law_tides" = some (.ref f__law_tides)
  b__law_tides : Binds K d__law_tides ["deep"] []
  f__law_waits : Addr
  d__law_waits : FuncData
  F__law_waits : Fun K "_law_waits" "_law_waits" s__law_waits f__law_waits d__law_waits
  g__law_waits : mg "_law_waits" = some (.ref f__law_waits)
  b__law_waits : Binds K d__law_waits ["deep"] []
  f__law_turn : Addr
  d__law_turn : FuncData
  F__law_turn : Fun K "_law_turn" "_law_turn" s__law_turn f__law_turn d__law_turn
  g__law_turn : mg "_law_turn" = some (.ref f__law_turn)
  b__law_turn : Binds K d__law_turn ["depths"] []
  f_law : Addr
  d_law : FuncData
  F_law : Fun K "law" "law" s_law f_law d_law
  g_law : mg "law" = some (.ref f_law)
  b_law : Binds K d_law ["script"] []
  m_len : mg "len" = none
  m_int : mg "int" = none
  m_range : mg "range" = none
  m_repr : mg "repr" = none
  m_isinstance : mg "isinstance" = none
  m_max : mg "max" = none
  m_all : mg "all" = none
  m_bool : mg "bool" = none
section
variable {P : Program} {w : World} {K : PySem.W.Frag} {mg : Str → Option Value} {base : Heap} {k : Nat}
theorem ok_draws (T : Tx K mg) : FnOk P w K mg base CX0 (k + 1) T.f__law_draws T.d__law_draws ["script", "count"] (spDraws K) := by
  refine T.F__law_draws.ok sc_law_draws (fun vs H Q E h => ?_) (fun cdv A outer s H vs Q E hr h => ?_)
  · obtain ⟨a, ns, n, rfl, _⟩ := h
    rfl
  obtain ⟨a, ns, n, rfl, hS, hlen, hn, q⟩ := h
  refine ⟨_, (pss_cons (ps_setLc (i := 2) (own := [("cell", 3)]) (g := gName 3) (tt := tYes) rfl sc_law_draws.nd rfl rfl (sw_true rfl rfl rfl (by decide +kernel)) (pi_list (pv 0)) (blkOk_by (N := N__law_draws) (sc := defScope s__law_draws) (by decide +kernel)) (fun _ _ _ _ _ => (pg_name (i := 3) sc_law_draws.nd rfl (.inl rfl))) (fun _ _ _ _ _ => pts_nil) (fun _ _ _ _ _ => (pv 3)))
    (pss_cons (ps_set (i := 4) sc_law_draws.nd rfl (.inl rfl) (pe_lst pa_nil))
    (pss_cons (ps_for PassesOwn.never rfl (pi_range1 (by rfl) T.m_range (pa_cons (pv 1) pa_nil)) (pg_name (i := 5) sc_law_draws.nd rfl (.inl rfl))
      (pss_cons (ps_set (i := 6) sc_law_draws.nd rfl (.inl rfl) pe_int)
      (pss_cons (ps_if (pt_cmpR op_gt (pe_callB call_len_seq (by rfl) T.m_len (by decide +kernel) (pa_cons (pv 2) pa_nil)) pe_int (nomark _)) (pss_cons (ps_set (i := 7) sc_law_draws.nd rfl (.inl rfl) (pe_op op_modN (pe_callTy call_int1 (by rfl) T.m_int (by decide +kernel) (pa_cons (pv 5) pa_nil)) (pe_callB call_len_seq (by rfl) T.m_len (by decide +kernel) (pa_cons (pv 2) pa_nil))))
        (pss_one (ps_if (pt_cmpR op_ge (pe_ix ix_list (pv 2) (pv 7) (fun _ _ => rfl)) (pe_op op_pow pe_int pe_int) (nomark _)) (pss_cons (ps_set (i := 6) sc_law_draws.nd rfl (.inl rfl) (pe_op op_mod (pe_callTy call_int1 (by rfl) T.m_int (by decide +kernel) (pa_cons (pe_ix ix_list (pv 2) (pv 7) (fun _ _ => rfl)) pa_nil)) pe_int))
          (pss_one (ps_asg (pe_op op_fdiv (pe_ix ix_list (pv 2) (pv 7) (fun _ _ => rfl)) pe_int) (pg_sub (pv 2) (pv 7) set_list)))) (pss_cons (ps_set (i := 8) sc_law_draws.nd rfl (.inl rfl) (pe_op op_mod (pe_callTy call_int1 (by rfl) T.m_int (by decide +kernel) (pa_cons (pe_op op_add (pe_op op_add (pe_op op_mul (pe_ix ix_list (pv 2) (pv 7) (fun _ _ => rfl)) pe_int) (pe_op op_mul (pv 5) pe_int)) pe_int) pa_nil)) pe_int))
          (pss_cons (ps_set (i := 8) sc_law_draws.nd rfl (.inl rfl) (pe_op op_mod (pe_callTy call_int1 (by rfl) T.m_int (by decide +kernel) (pa_cons (pe_op op_add (pe_op op_mul (pv 8) pe_int) (pv 7)) pa_nil)) pe_int))
          (pss_one (ps_set (i := 6) sc_law_draws.nd rfl (.inl rfl) (pe_op op_mod (pe_callTy call_int1 (by rfl) T.m_int (by decide +kernel) (pa_cons (pe_op op_fdiv (pv 8) pe_int) pa_nil)) pe_int)))))))) pss_nil)
      (pss_one (ps_expr (pe_bm PySem.F.plainAttrs_list PySem.F.slot_list_append PySem.F.type_list_append mt_append (pv 4) (pa_cons (pv 6) pa_nil)))))))
    (pss_one (ps_ret (pv 4)))))), ?_⟩
  have hz : (ns.map V.int).length = ns.length := List.length_map ..
  -- rests
  refine q_asgL (xs := ns.map V.int) (fun H1 e Q2 q2 => ?_) fun R H1 nR e1 hR => ?_
  · have h1 := el_lcL (K := K) (a := a) (xs := ns.map V.int) (tl := tVar 0) (j := 3) (vs := [3]) (t := tYes) (te := tVar 3) (σ := start N__law_draws [.ref a, .int (n : Int)]) (H := H) (fun _ => true) (fun i => ((ns.map V.int).getD i .non)) (ev_var rfl) hS (by omega) (fun _ => rfl) (fun _ _ _ _ _ => et_yes)
      (fun i x H1 _ hi _ => by
        have hx : (ns.map V.int).getD i .non = x := by rw [List.getD_eq_getElem?_getD, hi]; rfl
        rw [hx]
        exact ev_var rfl)
    have hg : ∀ l : List V, given l.length (fun _ => true) (fun i => l.getD i .non) = l := by
      intro l
      unfold given
      rw [List.filter_eq_self.mpr fun _ _ => rfl]
      apply List.ext_getElem?
      intro i
      rw [List.getElem?_map]
      by_cases hi : i < l.length
      · rw [List.getElem?_range hi, List.getElem?_eq_getElem hi]
        show some (l.getD i .non) = _
        rw [List.getD_eq_getElem?_getD, List.getElem?_eq_getElem hi]
        rfl
      · rw [List.getElem?_eq_none (by rw [List.length_range]; omega), List.getElem?_eq_none (by omega)]
        rfl
    rw [hg] at h1
    exact h1 H1 e Q2 q2
  -- draws
  refine q_asgL (xs := []) (el_lst ea_nil (by decide)) fun L H2 nL e2 hL => ?_
  have nRL : R ≠ L := ne_of_none hR nL
  have nLH : H L = none := fresh_back e1 nL
  -- the loop
  refine q_forR1 (ea_cons (ev_var (v := .int (n : Int)) rfl) ea_nil) (by omega) (WD H a n ns.length R L) ?_ ?_ ?_
  · intro H3 e3
    exact ⟨none, none, none, none, none, ns, [], rfl, (e1.trans e2).trans e3, e3 _ _ (e2 _ _ hR), e3 _ _ hL, rfl, rfl, fun d hd => absurd hd List.not_mem_nil⟩
  · rintro i σ' H' hi ⟨x3, x5, x6, x7, x8, rs, ds, rfl, ex, hR', hL', lr, ld, bd⟩
    have hi' : i < n := by omega
    -- the turn's end
    have fin : ∀ (v : Int) (rs' : List Int) (y7 y8 : Option V) (H3 : Hp) (D : Ends), D.nx = WD H a n ns.length R L (i + 1) → 0 ≤ v → v < 1000 → rs'.length = ns.length → Ex H H3 → H3 R = some (.lst (rs'.map V.int)) → H3 L = some (.lst (ds.map V.int)) →
        tDrop (tBM K "list" rAppend (tVar 4) (tCons (tVar 6) tNil)) D [some (.ref a), some (.int (n : Int)), some (.ref R), x3, some (.ref L), some (.int (i : Int)), some (.int v), y7, y8] H3 := fun v rs' y7 y8 H3 D hD h0 h1 hl' hx hR3 hL3 => by
      refine s_app (xs := ds.map V.int) hL3 (ev_var rfl) (ev_var (v := .int v) rfl) (by rw [List.length_map]; omega) fun H4 e4 => ?_
      rw [hD]
      refine ⟨x3, _, _, y7, y8, rs', ds ++ [v], rfl, Ex.mut (hx.trans e4) nLH, ?_, ?_, hl', ?_, ?_⟩
      · rw [upd_ne nRL]
        exact e4 _ _ hR3
      · rw [upd_same, List.map_append]
        rfl
      · rw [List.length_append, ld]
        rfl
      · intro d hd
        rcases List.mem_append.mp hd with h | h
        · exact bd d h
        · cases List.mem_singleton.mp h
          exact ⟨h0, h1⟩
    refine q_asg ev_c fun H3 e3 => ?_
    refine q_when (et_test (ev_op (ev_len (K := K) (ev_var (v := .ref R) rfl) (sq_of (e3 _ _ hR'))) ev_c rv_I0)) (fun hb H4 e4 => ?_) (fun hb H4 e4 => ?_)
    · have hpos : 0 < rs.length := by
        have := of_decide_eq_true hb
        rw [List.length_map] at this
        omega
      have hR4 : H4 R = some (.lst (rs.map V.int)) := e4 _ _ (e3 _ _ hR')
      have hL4 : H4 L = some (.lst (ds.map V.int)) := e4 _ _ (e3 _ _ hL')
      have x4 : Ex H H4 := (ex.trans e3).trans e4
      have hj : i % rs.length < rs.length := Nat.mod_lt _ hpos
      have em : ((i : Int)).fmod (((rs.map V.int).length : Nat) : Int) = ((i % rs.length : Nat) : Int) := by
        rw [List.length_map, Int.fmod_eq_emod_of_nonneg _ (by omega)]
        rfl
      refine q_asg (v := .int ((i % rs.length : Nat) : Int)) (ev_is (ev_op (ev_toInt (ev_var (v := .int (i : Int)) rfl)) (ev_len (K := K) (ev_var (v := .ref R) rfl) (sq_of hR4)) (rv_I (show (((rs.map V.int).length : Nat) : Int) ≠ 0 by rw [List.length_map]; omega))) (by rw [em])) fun H5 e5 => ?_
      have hR5 := e5 _ _ hR4
      have hL5 := e5 _ _ hL4
      have x5' := x4.trans e5
      have ix : ∀ {σ : L2.St} {G : Hp}, σ[2]? = some (some (.ref R)) → σ[7]? = some (some (.int ((i % rs.length : Nat) : Int))) → G R = some (.lst (rs.map V.int)) → Ev (tOp (rIxL K) (tVar 2) (tVar 7)) σ G (.int rs[i % rs.length]) := fun s1 s2 hg =>
        ev_op (ev_var s1) (ev_var s2) (rv_ixL (sq_of hg) (at_int hj))
      refine s_if (et_test (ev_op (ix rfl rfl hR5) (ev_op ev_c ev_c (rv_I ⟨by decide, by decide, by decide⟩)) rv_I0)) (fun hc H6 e6 => ?_) (fun hc H6 e6 => ?_)
      · have hR6 := e6 _ _ hR5
        refine q_asg (ev_op (ev_toInt (ix rfl rfl hR6)) ev_c (rv_I (show (0 : Int) < 1000 by decide))) fun H7 e7 => ?_
        have hR7 := e7 _ _ hR6
        refine s_setL hR7 (ev_op (ix rfl rfl hR7) ev_c (rv_I (show CDiv _ 1000 from ⟨by decide, by decide⟩))) (ev_var rfl) (ev_var rfl) (by rw [List.length_map]; exact hj) fun H8 e8 => ?_
        have hL8 := e8 _ _ (e7 _ _ (e6 _ _ hL5))
        have nRH : H R = none := nR
        refine fin _ (rs.set (i % rs.length) (rs[i % rs.length] / 1000)) _ _ _ _ rfl (mod1000 _).1 (mod1000 _).2 (by rw [List.length_set]; exact lr) (Ex.mut (((x5'.trans e6).trans e7).trans e8) nRH) ?_ ?_
        · rw [upd_same, List.map_set]
        · rw [upd_ne nRL.symm]
          exact hL8
      · have hR6 := e6 _ _ hR5
        refine q_asg (ev_op (ev_toInt (ev_op (ev_op (ev_op (ix rfl rfl hR6) ev_c (rv_I (.inr ⟨by decide, by decide⟩))) (ev_op (ev_var (v := .int (i : Int)) rfl) ev_c (rv_I (.inr ⟨by decide, by decide⟩))) rv_I0) ev_c rv_I0)) ev_c (rv_I (show (0 : Int) < 2147483647 by decide))) fun H7 e7 => ?_
        refine q_asg (ev_op (ev_toInt (ev_op (ev_op (ev_var rfl) ev_c (rv_I (.inr ⟨by decide, by decide⟩))) (ev_var (v := .int ((i % rs.length : Nat) : Int)) rfl) rv_I0)) ev_c (rv_I (show (0 : Int) < 2147483629 by decide))) fun H8 e8 => ?_
        refine s_asg (ev_op (ev_toInt (ev_op (ev_var rfl) ev_c (rv_I (show CDiv _ 7 from ⟨by decide, by decide⟩)))) ev_c (rv_I (show (0 : Int) < 1000 by decide))) fun H9 e9 => ?_
        have x9 := ((e6.trans e7).trans e8).trans e9
        exact fin _ rs _ _ _ _ rfl (mod1000 _).1 (mod1000 _).2 lr (x5'.trans x9) (x9 _ _ hR5) (x9 _ _ hL5)
    · have x4 := e3.trans e4
      exact fin 0 rs _ _ _ _ rfl (by decide) (by decide) lr (ex.trans x4) (x4 _ _ hR') (x4 _ _ hL')
  · rintro σ' H' ⟨x3, x5, x6, x7, x8, rs, ds, rfl, ex, hR', hL', lr, dr⟩
    refine s_ret (ev_var rfl) fun H3 e3 => ?_
    have dr' : Drawn n ds := by
      have : ((n : Int)).toNat = n := by omega
      rw [this] at dr
      exact dr
    exact q ds L H3 dr' nLH (ex.trans e3) (e3 _ _ hL')


/-! depths, hour by hour -/
def dAt (ds : List Int) (h : Nat) : Int := ds.getD (h % ds.length) 0
def pass (ds : List Int) (q : Int) (h : Nat) : Bool := decide (q ≤ dAt ds h)
def Hb (ds : List Int) (rest : List PyData) : PyData := .tuple (.list (ds.map .int) :: rest)
theorem dAt_get {ds : List Int} (h : Nat) (hn : ds ≠ []) : (ds.map PyData.int)[h % ds.length]? = some (.int (dAt ds h)) := by
  have hp : 0 < ds.length := List.length_pos_iff.mpr hn
  have hl := Nat.mod_lt h hp
  rw [List.getElem?_map, List.getElem?_eq_getElem hl]
  unfold dAt
  rw [List.getD_eq_getElem?_getD, List.getElem?_eq_getElem hl]
  rfl
def R_depth : List PyData → PyData → Prop := fun as d => ∃ ds rest, ∃ h : Nat, as = [Hb ds rest, .int h] ∧ ds ≠ [] ∧ d = .int (dAt ds h)
theorem ok_depth_at (T : Tx K mg) : FnOk P w K mg base CX0 (k + 1) T.f_depth_at T.d_depth_at ["harbour", "hour"] (spF K R_depth) := by
  refine T.F_depth_at.ok scdepth_at (spF_len ?_) (fun cdv A outer s H vs Q E hr h => ?_)
  · rintro ds d ⟨_, _, _, rfl, _⟩
    rfl
  obtain ⟨G, as, d, x, g, ⟨ds, rest, h, rfl, hn, rfl⟩, q⟩ := h
  obtain ⟨v0, r, rfl, g0, g⟩ := daa_inv g
  obtain ⟨v1, r, rfl, g1, g⟩ := daa_inv g
  cases daa_inv0 g
  have hp : 0 < ds.length := List.length_pos_iff.mpr hn
  refine ⟨_, (pss_cons (ps_set (i := 2) scdepth_at.nd rfl (.inl rfl) (pe_ix (ixt K) (pv 0) pe_int (fun _ _ => rfl)))
    (pss_one (ps_ret (pe_ix (ixl K) (pv 2) (pe_op op_modN (pv 1) (pe_callB (lenK K) (by rfl) T.m_len (by decide +kernel) (pa_cons (pv 2) pa_nil))) (fun _ _ => rfl))))), ?_⟩
  refine d_asg (ed_ixT (n := 0) (ed_var rfl g0) (fun _ _ => ed_int) rfl rfl) x fun v2 H1 G1 s1 a1 => ?_
  refine d_ret (ed_ix (n := h % ds.length) (ed_var rfl a1) (fun G x => ed_modN (ed_var rfl (da_ex (s1.an.trans x) g1)) (ed_len (ed_var rfl (da_ex x a1))) (by rw [List.length_map]; omega)) (by rw [List.length_map]; rfl) (dAt_get h hn)) s1.inn fun v H2 G2 s2 a2 => q v H2 G2 (s1.trans s2) a2
def R_pass : List PyData → PyData → Prop := fun as d => ∃ ds rest c, ∃ h : Nat, as = [Hb ds rest, .int c, .int h] ∧ ds ≠ [] ∧ d = .bool (pass ds c h)
theorem ok_can_pass (T : Tx K mg) : FnOk P w K mg base CX0 (k + 2) T.f_can_pass T.d_can_pass ["harbour", "draught", "hour"] (spF K R_pass) := by
  refine T.F_can_pass.ok sccan_pass (spF_len ?_) (fun cdv A outer s H vs Q E hr h => ?_)
  · rintro ds d ⟨_, _, _, _, rfl, _⟩
    rfl
  obtain ⟨G, as, d, x, g, ⟨ds, rest, c, h, rfl, hn, rfl⟩, q⟩ := h
  obtain ⟨v0, r, rfl, g0, g⟩ := daa_inv g
  obtain ⟨v1, r, rfl, g1, g⟩ := daa_inv g
  obtain ⟨v2, r, rfl, g2, g⟩ := daa_inv g
  cases daa_inv0 g
  refine ⟨_, (pss_one (ps_ret (pe_cmpR op_ge (pe_call (ok_depth_at T) hr (by rfl) T.g_depth_at T.F_depth_at.kp T.b_depth_at .nil pass0 (pa_cons (pv 0) (pa_cons (pv 2) pa_nil))) (pv 1) (nomark _)))), ?_⟩
  exact d_ret (ed_cmp0 (ed_call (eda_cons (ed_var rfl g0) fun G x => eda_cons (ed_var rfl (da_ex x g2)) fun _ _ => eda_nil) ⟨ds, rest, h, rfl, hn, rfl⟩) (ed_var rfl g1)) x q
/-! the tides of a row of truths -/
def tidesF (f : Nat → Bool) : Nat → List (Int × Int)
  | 0 => []
  | i + 1 => if f i = true then (if 0 < i ∧ f (i - 1) = true then (tidesF f i).set ((tidesF f i).length - 1) (((tidesF f i).getLastD (0, 0)).1, (i : Int)) else tidesF f i ++ [((i : Int), (i : Int))]) else tidesF f i
def pairD (p : Int × Int) : PyData := .tuple [.int p.1, .int p.2]
theorem tides_len (f : Nat → Bool) : ∀ i, (tidesF f i).length ≤ i
  | 0 => Nat.le_refl 0
  | i + 1 => by
    have h := tides_len f i
    unfold tidesF
    split
    · split
      · rw [List.length_set]
        omega
      · rw [List.length_append]
        exact Nat.add_le_add_right h 1
    · omega
theorem tides_pos (f : Nat → Bool) : ∀ i, f i = true → 0 < (tidesF f (i + 1)).length
  | 0, h => by
    unfold tidesF
    rw [if_pos h, if_neg (fun z => absurd z.1 (Nat.lt_irrefl 0)), List.length_append]
    exact Nat.succ_pos _
  | i + 1, h => by
    unfold tidesF
    rw [if_pos h]
    by_cases h2 : f i = true
    · rw [if_pos ⟨Nat.succ_pos i, h2⟩, List.length_set]
      exact tides_pos f i h2
    · rw [if_neg fun z => h2 z.2, List.length_append]
      exact Nat.succ_pos _
theorem tides_congr {f g : Nat → Bool} : ∀ n, (∀ i, i < n → f i = g i) → tidesF f n = tidesF g n
  | 0, _ => rfl
  | n + 1, h => by
    have ih := tides_congr n fun i hi => h i (by omega)
    unfold tidesF
    rw [ih, h n (by omega)]
    by_cases hn : 0 < n
    · rw [h (n - 1) (by omega)]
    · have e : n = 0 := by omega
      subst e
      rfl
def startF (f : Nat → Bool) (i : Nat) : PyData := if 0 < i ∧ f (i - 1) = true then .int ((tidesF f i).getLastD (0, 0)).1 else .none
theorem set_map {α β : Type} (g : α → β) : ∀ (l : List α) (n : Nat) (x : α), (l.set n x).map g = (l.map g).set n (g x)
  | [], _, _ => rfl
  | _ :: _, 0, _ => rfl
  | a :: l, n + 1, x => by
    show g a :: (l.set n x).map g = g a :: (l.map g).set n (g x)
    rw [set_map g l n x]
theorem getLastD_set {α : Type} (l : List α) (x d : α) (h : 0 < l.length) : (l.set (l.length - 1) x).getLastD d = x := by
  rw [List.getLastD_eq_getLast?, List.getLast?_eq_getElem?, List.length_set, List.getElem?_set_self (by omega)]
  rfl
theorem start_succ (f : Nat → Bool) (i : Nat) : startF f (i + 1) = if f i = true then (if isN (startF f i) = true then .int (i : Int) else startF f i) else .none := by
  unfold startF
  by_cases h : f i = true
  · rw [if_pos ⟨Nat.succ_pos i, h⟩, if_pos h]
    by_cases h2 : 0 < i ∧ f (i - 1) = true
    · rw [if_pos h2]
      show PyData.int _ = (if false = true then PyData.int (i : Int) else PyData.int ((tidesF f i).getLastD (0, 0)).1)
      rw [if_neg Bool.false_ne_true]
      have e : i - 1 + 1 = i := by omega
      have hp := tides_pos f (i - 1) h2.2
      rw [e] at hp
      conv => lhs; unfold tidesF
      rw [if_pos h, if_pos h2, getLastD_set _ _ _ hp]
    · rw [if_neg h2]
      show PyData.int _ = (if true = true then PyData.int (i : Int) else PyData.none)
      rw [if_pos rfl]
      unfold tidesF
      rw [if_pos h, if_neg h2, List.getLastD_eq_getLast?, List.getLast?_append]
      rfl
  · rw [if_neg fun z => h z.2, if_neg h]
theorem start_none (f : Nat → Bool) (i : Nat) (hf : f i = true) : tidesF f (i + 1) = if isN (startF f i) = true then tidesF f i ++ [((i : Int), (i : Int))] else (tidesF f i).set ((tidesF f i).length - 1) (((tidesF f i).getLastD (0, 0)).1, (i : Int)) := by
  conv => lhs; unfold tidesF
  rw [if_pos hf]
  unfold startF
  by_cases h2 : 0 < i ∧ f (i - 1) = true
  · rw [if_pos h2, if_pos h2]
    rfl
  · rw [if_neg h2, if_neg h2]
    rfl
end
end K4

set_option Elab.async false
set_option linter.all false
set_option maxRecDepth 100000
set_option maxHeartbeats 4000000
namespace K4
open PySem PySem.Spec PyProof.Rows L2 Evl Tw
section
variable {P : Program} {w : World} {K : PySem.W.Frag} {mg : Str → Option Value} {base : Heap} {k : Nat}

def tidesD (f : Nat → Bool) (n : Nat) : PyData := .list ((tidesF f n).map pairD)
def R_tides : List PyData → PyData → Prop := fun as d => ∃ ds rest c, ∃ u : Nat, as = [Hb ds rest, .int c, .int u] ∧ ds ≠ [] ∧ u ≤ 1000 ∧ d = tidesD (pass ds c) (u + 1)
theorem ok_tides (T : Tx K mg) : FnOk P w K mg base CX0 (k + 3) T.f_tides T.d_tides ["harbour", "draught", "until"] (spF K R_tides) := by
  refine T.F_tides.ok sctides (spF_len ?_) (fun cdv A outer s H vs Q E hr h => ?_)
  · rintro ds d ⟨_, _, _, _, rfl, _⟩
    rfl
  obtain ⟨G, as, d, x, g, ⟨ds, rest, c, u, rfl, hn, hu, rfl⟩, q⟩ := h
  obtain ⟨v0, r, rfl, g0, g⟩ := daa_inv g
  obtain ⟨v1, r, rfl, g1, g⟩ := daa_inv g
  obtain ⟨v2, r, rfl, g2, g⟩ := daa_inv g
  cases daa_inv0 g
  refine ⟨_, (pss_cons (ps_set (i := 3) sctides.nd rfl (.inl rfl) (pe_lst pa_nil))
    (pss_cons (ps_set (i := 4) sctides.nd rfl (.inl rfl) pe_non)
    (pss_cons (ps_for PassesOwn.never rfl (pi_range1 (by rfl) T.m_range (pa_cons (pe_op op_add (pv 2) pe_int) pa_nil)) (pg_name (i := 5) sctides.nd rfl (.inl rfl))
      (pss_one (ps_if (pt_not (pt_val (pe_call (ok_can_pass T) hr (by rfl) T.g_can_pass T.F_can_pass.kp T.b_can_pass .nil pass0 (pa_cons (pv 0) (pa_cons (pv 1) (pa_cons (pv 5) pa_nil)))))) (pss_one (ps_set (i := 4) sctides.nd rfl (.inl rfl) pe_non)) (pss_one (ps_if (pt_cmpR op_isN (pv 4) pe_non (nomark _)) (pss_cons (ps_set (i := 4) sctides.nd rfl (.inl rfl) (pv 5))
          (pss_one (ps_expr (pe_bm PySem.F.plainAttrs_list PySem.F.slot_list_append PySem.F.type_list_append mt_append (pv 3) (pa_cons (pe_tup (pa_cons (pv 4) (pa_cons (pv 5) pa_nil))) pa_nil))))) (pss_one (ps_asg (pe_tup (pa_cons (pv 4) (pa_cons (pv 5) pa_nil))) (pg_sub (pv 3) (pe_un un_neg pe_int) set_list))))))))
    (pss_one (ps_ret (pv 3)))))), ?_⟩
  refine d_new x fun L nL gL xL yL => ?_
  refine q_asg ev_c fun H4 e4 => ?_
  have up4 : Ex H H4 := (Ex.new nL).trans e4
  have hL4 := e4 _ _ upd_same
  refine d_range (K := K) (n := (u : Int) + 1) (ed_add (ed_var rfl g2) ed_int) (xL.trans e4) (by omega)
    (fun i σ' H' => ∃ v4 x5 xs G', σ' = [some v0, some v1, some v2, some (.ref L), some v4, x5] ∧ Sep G H H' G' ∧ G' L = none ∧ H' L = some (.lst xs) ∧ xs.length ≤ i ∧ DaAll K G' xs ((tidesF (pass ds c) i).map pairD) ∧ Da K G' v4 (startF (pass ds c) i)) ?_ ?_ ?_
  · intro H5 e5
    refine ⟨.non, _, [], G, rfl, ⟨up4.trans e5, Ex.refl _, (xL.trans e4).trans e5, fun b h h1 => h⟩, gL, e5 _ _ hL4, Nat.le_refl 0, .nil, ?_⟩
    · unfold startF
      rw [if_neg fun z => absurd z.1 (Nat.lt_irrefl 0)]
      exact .non
  · rintro i σ' H' hi ⟨v4, x5, xs, G', rfl, S, gL', hL', lx, gx, gs⟩
    have ex := S.an
    refine d_if1 (b := !pass ds c i) (et_not (et_bool (ed_call (eda_cons (ed_var rfl (da_ex ex g0)) fun G2 x2 => eda_cons (ed_var rfl (da_ex (ex.trans x2) g1)) fun G3 x3 => eda_cons (ed_var (v := .int (i : Int)) rfl (.int (i : Int))) fun _ _ => eda_nil) ⟨ds, rest, c, i, rfl, hn, rfl⟩))) S.inn (fun hb H1 e1 => ?_) (fun hb H1 e1 => ?_)
    · have hf : ¬ pass ds c i = true := by
        intro z
        rw [z] at hb
        cases hb
      refine d_asg1 (K := K) (d := .none) ed_non (S.inn.trans e1) fun v5 H5 G5 s5 a5 => ?_
      obtain ⟨o1, o2⟩ := s5.out gL' (e1 _ _ hL')
      refine ⟨v5, _, xs, G5, rfl, (⟨S.up.trans e1, S.an, S.inn.trans e1, S.sep⟩ : Sep G H H1 G').trans s5, o1, o2, Nat.le_succ_of_le lx, ?_, ?_⟩
      · unfold tidesF
        rw [if_neg hf]
        exact daa_ex s5.an gx
      · rw [start_succ, if_neg hf]
        exact a5
    · have hf : pass ds c i = true := by
        cases z : pass ds c i with
        | true => rfl
        | false =>
          rw [z] at hb
          cases hb
      refine d_if1 (et_isN (ed_var rfl gs)) (S.inn.trans e1) (fun hb2 H2 e2 => ?_) (fun hb2 H2 e2 => ?_)
      · have e12 := e1.trans e2
        have S2 : Sep G H H2 G' := ⟨S.up.trans e12, S.an, S.inn.trans e12, S.sep⟩
        refine d_asg (K := K) (ed_var (v := .int (i : Int)) rfl (.int (i : Int))) S2.inn fun v5 H5 G5 s5 a5 => ?_
        cases a5
        obtain ⟨o1, o2⟩ := s5.out gL' (e12 _ _ hL')
        refine d_app1 o1 o2 (daa_ex s5.an gx) rfl (ed_tup (eda_cons (ed_var (v := .int (i : Int)) rfl (.int (i : Int))) fun G6 x6 => eda_cons (ed_var (v := .int (i : Int)) rfl (.int (i : Int))) fun _ _ => eda_nil) (by show 2 ≤ 100000; decide)) s5.inn (by omega) fun v6 H6 G6 s6 o6 a6 g6 e6 => ?_
        refine ⟨_, _, xs ++ [v6], G6, rfl, ((S2.trans s5).trans s6).mut nL o6, o6, upd_same, by rw [List.length_append]; exact Nat.add_le_add_right lx 1, ?_, ?_⟩
        · rw [start_none _ _ hf, if_pos hb2, List.map_append]
          exact g6
        · rw [start_succ, if_pos hf, if_pos hb2]
          exact .int _
      · have e12 := e1.trans e2
        have S2 : Sep G H H2 G' := ⟨S.up.trans e12, S.an, S.inn.trans e12, S.sep⟩
        have hs : 0 < i ∧ pass ds c (i - 1) = true := by
          by_cases z : 0 < i ∧ pass ds c (i - 1) = true
          · exact z
          · unfold startF at hb2
            rw [if_neg z] at hb2
            cases hb2
        have es : startF (pass ds c) i = .int ((tidesF (pass ds c) i).getLastD (0, 0)).1 := if_pos hs
        have hp : 0 < (tidesF (pass ds c) i).length := by
          have e : i - 1 + 1 = i := by omega
          have hp := tides_pos (pass ds c) (i - 1) hs.2
          rw [e] at hp
          exact hp
        have lx2 : xs.length = (tidesF (pass ds c) i).length := by
          rw [daa_len gx, List.length_map]
        rw [es] at gs
        refine d_setLast gL' (e12 _ _ hL') gx rfl (ed_tup (eda_cons (ed_var rfl gs) fun G6 x6 => eda_cons (ed_var (v := .int (i : Int)) rfl (.int (i : Int))) fun _ _ => eda_nil) (by show 2 ≤ 100000; decide)) S2.inn (by omega) (fun H' => ev_int (K := K) (ed_neg ed_int)) rfl fun v6 H6 G6 s6 o6 g6 e6 => ?_
        refine ⟨v4, _, _, G6, rfl, (S2.trans s6).mut nL o6, o6, upd_same, by rw [List.length_set]; exact Nat.le_succ_of_le lx, ?_, ?_⟩
        · rw [start_none _ _ hf, if_neg (by rw [hb2]; decide), set_map]
          rw [List.length_map] at g6
          exact g6
        · rw [start_succ, if_pos hf, if_neg (by rw [hb2]; decide), es]
          exact da_ex s6.an gs
  · rintro σ' H' ⟨v4, x5, xs, G', rfl, S, gL', hL', lx, gx, gs⟩
    have e : ((u : Int) + 1).toNat = u + 1 := by omega
    rw [e] at gx
    obtain ⟨S', aL⟩ := S.seal nL gL' hL' gx
    exact d_ret (ed_var rfl aL) S'.inn fun v H8 G8 s8 a8 => q v H8 G8 (S'.trans s8) a8
def R_ltides : List PyData → PyData → Prop := fun as d => ∃ bs : List Bool, as = [.list (bs.map .bool)] ∧ bs.length ≤ 1000 ∧ d = tidesD (fun i => bs.getD i false) bs.length
theorem ok__law_tides (T : Tx K mg) : FnOk P w K mg base CX0 (k + 1) T.f__law_tides T.d__law_tides ["deep"] (spF K R_ltides) := by
  refine T.F__law_tides.ok sc_law_tides (spF_len ?_) (fun cdv A outer s H vs Q E hr h => ?_)
  · rintro ds d ⟨_, rfl, _⟩
    rfl
  obtain ⟨G, as, d, x, g, ⟨bs, rfl, hb, rfl⟩, q⟩ := h
  obtain ⟨v0, r, rfl, g0, g⟩ := daa_inv g
  cases daa_inv0 g
  have ix : ∀ {i : Nat}, i < bs.length → (bs.map PyData.bool)[i]? = some (.bool (bs.getD i false)) := fun {i} hi => by
    rw [List.getElem?_map, List.getD_eq_getElem?_getD, List.getElem?_eq_getElem hi]
    rfl
  refine ⟨_, (pss_cons (ps_set (i := 1) sc_law_tides.nd rfl (.inl rfl) (pe_lst pa_nil))
    (pss_cons (ps_for PassesOwn.never rfl (pi_range1 (by rfl) T.m_range (pa_cons (pe_callB (lenK K) (by rfl) T.m_len (by decide +kernel) (pa_cons (pv 0) pa_nil)) pa_nil)) (pg_name (i := 2) sc_law_tides.nd rfl (.inl rfl))
      (pss_one (ps_if (PW.pt (pw_and (pt_val (pe_ix (ixl K) (pv 0) (pv 2) (fun _ _ => rfl))) (pw_and (pt_cmpR op_gt (pv 2) pe_int (nomark _)) (pw_and1 (pt_val (pe_ix (ixl K) (pv 0) (pe_op op_sub (pv 2) pe_int) (fun _ _ => rfl))))))) (pss_one (ps_asg (pe_tup (pa_cons (pe_ix (ixt K) (pe_ix (ixl K) (pv 1) (pe_un un_neg pe_int) (fun _ _ => rfl)) pe_int (fun _ _ => rfl)) (pa_cons (pv 2) pa_nil))) (pg_sub (pv 1) (pe_un un_neg pe_int) set_list))) (pss_one (ps_if (pt_val (pe_ix (ixl K) (pv 0) (pv 2) (fun _ _ => rfl))) (pss_one (ps_expr (pe_bm PySem.F.plainAttrs_list PySem.F.slot_list_append PySem.F.type_list_append mt_append (pv 1) (pa_cons (pe_tup (pa_cons (pv 2) (pa_cons (pv 2) pa_nil))) pa_nil)))) pss_nil)))))
    (pss_one (ps_ret (pv 1))))), ?_⟩
  refine d_new x fun L nL gL xL yL => ?_
  generalize hf : (fun i => bs.getD i false) = f at q
  have fi : ∀ i, bs.getD i false = f i := fun i => by rw [← hf]
  refine d_range (n := (bs.length : Int)) (ed_is (ed_len (ed_var rfl g0)) (by rw [List.length_map])) xL (by omega)
    (fun i σ' H' => ∃ x2 xs G', σ' = [some v0, some (.ref L), x2] ∧ Sep G H H' G' ∧ G' L = none ∧ H' L = some (.lst xs) ∧ xs.length ≤ i ∧ DaAll K G' xs ((tidesF f i).map pairD)) ?_ ?_ ?_
  · intro H5 e5
    exact ⟨_, [], G, rfl, ⟨(Ex.new nL).trans e5, Ex.refl _, xL.trans e5, fun b h h1 => h⟩, gL, e5 _ _ upd_same, Nat.le_refl 0, .nil⟩
  · rintro i σ' H' hi ⟨x2, xs, G', rfl, S, gL', hL', lx, gx⟩
    have ex := S.an
    have hi' : i < bs.length := by omega
    have at_i : ∀ {σ : L2.St} {G2 : Hp}, σ[0]? = some (some v0) → σ[2]? = some (some (.int (i : Int))) → Ex G' G2 → ED K (tOp (rIxL K) (tVar 0) (tVar 2)) σ G2 (.bool (f i)) := fun h0 h2 x2 => by
      rw [← fi i]
      exact ed_ix (ed_var h0 (da_ex (ex.trans x2) g0)) (fun G3 x3 => ed_var h2 (.int (i : Int))) rfl (ix hi')
    refine d_if1 (b := f i && (decide ((0 : Int) < (i : Int)) && f (i - 1))) (et_and (et_bool (at_i rfl rfl (Ex.refl G'))) (fun hfi => et_and (et_cmp0 (K := K) (p := fun i j => decide (j < i)) (ed_var (v := .int (i : Int)) rfl (.int (i : Int))) ed_int) (fun hp => et_bool (K := K) ?_))) S.inn (fun hb1 H1 e1 => ?_) (fun hb1 H1 e1 => ?_)
    · have hp' : 0 < i := by
        have := of_decide_eq_true hp
        omega
      rw [← fi (i - 1)]
      exact ed_ix (ed_var rfl (da_ex ex g0)) (fun G3 x3 => ed_sub (ed_var (v := .int (i : Int)) rfl (.int (i : Int))) ed_int) (by omega) (ix (by omega))
    · have hb1' : f i = true ∧ decide ((0 : Int) < (i : Int)) = true ∧ f (i - 1) = true := by simpa only [Bool.and_eq_true] using hb1
      have hp : 0 < i := by
        have := of_decide_eq_true hb1'.2.1
        omega
      have S2 : Sep G H H1 G' := ⟨S.up.trans e1, S.an, S.inn.trans e1, S.sep⟩
      have hL1 := e1 _ _ hL'
      have hpos : 0 < (tidesF f i).length := by
        have e : i - 1 + 1 = i := by omega
        have hp := tides_pos f (i - 1) hb1'.2.2
        rw [e] at hp
        exact hp
      have lx2 : xs.length = (tidesF f i).length := by
        rw [daa_len gx, List.length_map]
      -- found[-1][0]
      have hlast : ((tidesF f i).map pairD)[(tidesF f i).length - 1]? = some (pairD ((tidesF f i).getLastD (0, 0))) := by
        rw [List.getElem?_map, List.getLastD_eq_getLast?, List.getLast?_eq_getElem?, List.getElem?_eq_getElem (by omega)]
        rfl
      obtain ⟨vl, hvl, gvl⟩ := daa_get gx _ _ hlast
      generalize hpl : (tidesF f i).getLastD (0, 0) = pl at gvl
      cases gvl with
      | @tup a ys _ ea ga =>
        obtain ⟨w0, r, rfl, b0, ga⟩ := daa_inv ga
        cases b0
        have hat : atI xs (-1) = some (.ref a) := by
          unfold atI ixN
          rw [if_neg (by omega), if_pos (by omega)]
          show xs[(-1 + (xs.length : Int)).toNat]? = some _
          rw [show (-1 + (xs.length : Int)).toNat = (tidesF f i).length - 1 by omega]
          exact hvl
        refine d_setLastU (ys := [.int pl.1, .int (i : Int)]) gL' hL1 gx rfl (eu_tup (ea_cons (ev_op (ev_op (ev_var rfl) (ev_un ev_c ru_neg) (rv_ixL (sq_of hL1) hat)) ev_c (rv_ixT (ex_t S2.inn ea) (atI_nat (j := 0) rfl))) (ea_cons (ev_var rfl) ea_nil)) (by show 2 ≤ 100000; decide)) (.cons (.int _) (.cons (.int _) .nil)) S2.inn (by omega) (fun H' => ev_un ev_c ru_neg) rfl fun v6 H6 G6 s6 o6 g6 e6 => ?_
        refine ⟨_, _, G6, rfl, (S2.trans s6).mut nL o6, o6, upd_same, by rw [List.length_set]; exact Nat.le_succ_of_le lx, ?_⟩
        unfold tidesF
        rw [if_pos hb1'.1, if_pos ⟨hp, hb1'.2.2⟩, set_map, hpl]
        rw [List.length_map] at g6
        exact g6
    · refine d_if1 (b := f i) (et_bool (at_i rfl rfl (Ex.refl G'))) (S.inn.trans e1) (fun hb2 H2 e2 => ?_) (fun hb2 H2 e2 => ?_)
      · have e12 := e1.trans e2
        have S2 : Sep G H H2 G' := ⟨S.up.trans e12, S.an, S.inn.trans e12, S.sep⟩
        have hn2 : ¬ (0 < i ∧ f (i - 1) = true) := fun z => by
          have h3 : (0 : Int) < (i : Int) := by omega
          rw [hb2, z.2, decide_eq_true h3] at hb1
          cases hb1
        refine d_app1 gL' (e12 _ _ hL') gx rfl (ed_tup (eda_cons (ed_var (v := .int (i : Int)) rfl (.int (i : Int))) fun G6 x6 => eda_cons (ed_var (v := .int (i : Int)) rfl (.int (i : Int))) fun _ _ => eda_nil) (by show 2 ≤ 100000; decide)) S2.inn (by omega) fun v6 H6 G6 s6 o6 a6 g6 e6 => ?_
        refine ⟨_, xs ++ [v6], G6, rfl, (S2.trans s6).mut nL o6, o6, upd_same, by rw [List.length_append]; exact Nat.add_le_add_right lx 1, ?_⟩
        unfold tidesF
        rw [if_pos hb2, if_neg hn2, List.map_append]
        exact g6
      · have e12 := e1.trans e2
        refine ⟨_, xs, G', rfl, ⟨S.up.trans e12, S.an, S.inn.trans e12, S.sep⟩, gL', e12 _ _ hL', Nat.le_succ_of_le lx, ?_⟩
        unfold tidesF
        rw [if_neg (by rw [hb2]; decide)]
        exact gx
  · rintro σ' H' ⟨x2, xs, G', rfl, S, gL', hL', lx, gx⟩
    have e : ((bs.length : Nat) : Int).toNat = bs.length := by omega
    rw [e] at gx
    obtain ⟨S', aL⟩ := S.seal nL gL' hL' gx
    exact d_ret (ed_var rfl aL) S'.inn fun v H8 G8 s8 a8 => q v H8 G8 (S'.trans s8) a8
end
end K4

set_option Elab.async false
set_option linter.all false
set_option maxRecDepth 100000
set_option maxHeartbeats 4000000
namespace K4
open PySem PySem.Spec PyProof.Rows L2 Evl Tw
/-! the mathematics of passings -/
def optD : Option Nat → PyData
  | none => .none
  | some k => .int (k : Int)
def optI : Option Int → PyData
  | none => .none
  | some k => .int k
def nextP (ds : List Int) (q : Int) (h : Nat) : Option Nat := ((List.range ds.length).find? fun w => pass ds q (h + w)).map (h + ·)
def nextL (f : Nat → Bool) (n h : Nat) : Option Nat := ((List.range (n - h)).find? fun w => f (h + w)).map (h + ·)
theorem find_s {p : Nat → Bool} {n i : Nat} (hi : i < n) (h : p i = true) (hl : ∀ w, w < i → p w = false) : (List.range n).find? p = some i := by
  rw [List.find?_range_eq_some]
  refine ⟨h, List.mem_range.mpr hi, fun w hw => ?_⟩
  rw [hl w hw]
  rfl
theorem find_n {p : Nat → Bool} {n : Nat} (h : ∀ w, w < n → p w = false) : (List.range n).find? p = none := by
  rw [List.find?_range_eq_none]
  intro w hw
  rw [h w hw]
  rfl
theorem find_cases (p : Nat → Bool) (n : Nat) : ((List.range n).find? p = none ∧ ∀ w, w < n → p w = false) ∨ ∃ i, i < n ∧ p i = true ∧ (∀ w, w < i → p w = false) ∧ (List.range n).find? p = some i := by
  cases h : (List.range n).find? p with
  | none =>
    rw [List.find?_range_eq_none] at h
    refine .inl ⟨rfl, fun w hw => ?_⟩
    have := h w hw
    cases z : p w with
    | false => rfl
    | true =>
      rw [z] at this
      cases this
  | some i =>
    rw [List.find?_range_eq_some] at h
    obtain ⟨h1, h2, h3⟩ := h
    refine .inr ⟨i, List.mem_range.mp h2, h1, fun w hw => ?_, rfl⟩
    have := h3 w hw
    cases z : p w with
    | false => rfl
    | true =>
      rw [z] at this
      cases this
theorem dAt_mod (ds : List Int) (h : Nat) : dAt ds (h % ds.length) = dAt ds h := by
  unfold dAt
  rw [Nat.mod_mod]
theorem dAt_add (ds : List Int) (h : Nat) : dAt ds (h + ds.length) = dAt ds h := by
  unfold dAt
  rw [Nat.add_mod_right]
theorem pass_mod (ds : List Int) (q : Int) (h : Nat) : pass ds q (h % ds.length) = pass ds q h := by
  unfold pass
  rw [dAt_mod]
theorem pass_add (ds : List Int) (q : Int) (h : Nat) : pass ds q (h + ds.length) = pass ds q h := by
  unfold pass
  rw [dAt_add]
/-- nothing in one round: never -/
theorem round_none {ds : List Int} {q : Int} {h : Nat} (hn : ds ≠ []) (hw : ∀ w, w < ds.length → pass ds q (h + w) = false) : ∀ j, pass ds q j = false := by
  have hp : 0 < ds.length := List.length_pos_iff.mpr hn
  have up : ∀ w, pass ds q (h + w) = false := by
    intro w
    rw [← pass_mod]
    have e : (h + w) % ds.length = (h + w % ds.length) % ds.length := by rw [Nat.add_mod_mod]
    rw [e, pass_mod]
    exact hw _ (Nat.mod_lt _ hp)
  intro j
  -- j and a later hour of the same place
  have e : j % ds.length = (h + (j + (ds.length - h % ds.length))) % ds.length := by
    have h1 : h % ds.length < ds.length := Nat.mod_lt _ hp
    have h2 : h + (j + (ds.length - h % ds.length)) = j + ds.length * (h / ds.length + 1) := by
      have h3 := Nat.div_add_mod h ds.length
      rw [Nat.mul_add, Nat.mul_one]
      omega
    rw [h2, Nat.add_mul_mod_self_left]
  rw [← pass_mod, e, pass_mod]
  exact up _
theorem nextP_none {ds : List Int} {q : Int} {h : Nat} (hn : ds ≠ []) : nextP ds q h = none ↔ ∀ j, pass ds q j = false := by
  unfold nextP
  rcases find_cases (fun w => pass ds q (h + w)) ds.length with ⟨e, hw⟩ | ⟨i, hi, h1, _, e⟩
  · rw [e]
    exact ⟨fun _ => round_none hn hw, fun _ => rfl⟩
  · rw [e]
    refine ⟨fun z => (nomatch z), fun z => ?_⟩
    rw [z] at h1
    cases h1
theorem nextP_none' {ds : List Int} {q : Int} {h h' : Nat} (hn : ds ≠ []) : nextP ds q h = none ↔ nextP ds q h' = none := by rw [nextP_none hn, nextP_none hn]
theorem nextP_eq {ds : List Int} {q : Int} {h n : Nat} {f : Nat → Bool} (hn : ds ≠ []) (hf : ∀ i, i < n → f i = pass ds q i) (hl : h + ds.length ≤ n) : nextL f n h = nextP ds q h := by
  unfold nextL nextP
  rcases find_cases (fun w => pass ds q (h + w)) ds.length with ⟨e, hw⟩ | ⟨i, hi, h1, h2, e⟩
  · have hz := round_none hn hw
    rw [e, find_n (fun w hw2 => by rw [hf _ (by omega)]; exact hz _)]
  · rw [e, find_s (i := i) (by omega) (by rw [hf _ (by omega)]; exact h1) (fun w hw => by rw [hf _ (by omega)]; exact h2 w hw)]
def waitP (ds : List Int) (q : Int) (h : Nat) : Int := ((nextP ds q h).getD 0 : Nat) - (h : Int)
def gw (ds : List Int) (q : Int) : Option Int := if nextP ds q 0 = none then none else some (mxI ((List.range ds.length).map (waitP ds q)))
def waitL (f : Nat → Bool) (n h : Nat) : Int := ((nextL f n h).getD 0 : Nat) - (h : Int)
def lw (f : Nat → Bool) (n : Nat) : Option Int := if (List.range 12).all (fun h => (nextL f n h).isSome) = true then some (mxI ((List.range 12).map (waitL f n))) else none
theorem waitP_eq {ds : List Int} {q : Int} {h w : Nat} (hw : w < ds.length) (h1 : pass ds q (h + w) = true) (h2 : ∀ v, v < w → pass ds q (h + v) = false) : waitP ds q h = (w : Int) := by
  unfold waitP nextP
  rw [find_s (p := fun w => pass ds q (h + w)) hw h1 h2]
  show (((h + w : Nat) : Int)) - (h : Int) = _
  omega
theorem waitP_mod {ds : List Int} {q : Int} (h : Nat) (hs : nextP ds q h ≠ none) : waitP ds q (h % ds.length) = waitP ds q h := by
  have key : ∀ w, pass ds q (h % ds.length + w) = pass ds q (h + w) := fun w => by
    rw [← pass_mod, Nat.mod_add_mod, pass_mod]
  rcases find_cases (fun w => pass ds q (h + w)) ds.length with ⟨e, hw⟩ | ⟨i, hi, h1, h2, e⟩
  · exact absurd (show nextP ds q h = none by unfold nextP; rw [e]; rfl) hs
  · rw [waitP_eq hi h1 h2, waitP_eq hi (by rw [key]; exact h1) (fun v hv => by rw [key]; exact h2 v hv)]
theorem mx_congr {a b : List Int} (ha : a ≠ []) (h : ∀ x, x ∈ a ↔ x ∈ b) : mxI a = mxI b :=
  mx_is ((h _).mp (mx_mem ha)) fun y hy => mx_le ((h y).mpr hy)
theorem range_ne {n : Nat} (h : 0 < n) {f : Nat → Int} : (List.range n).map f ≠ [] := fun z => by
  have := congrArg List.length z
  rw [List.length_map, List.length_range] at this
  exact absurd this (by show n ≠ 0; omega)
theorem gw_lw {ds : List Int} {q : Int} {n : Nat} {f : Nat → Bool} (hn : ds ≠ []) (h12 : ds.length ≤ 12) (hf : ∀ i, i < n → f i = pass ds q i) (hl : 24 ≤ n) : lw f n = gw ds q := by
  have hp : 0 < ds.length := List.length_pos_iff.mpr hn
  have en : ∀ h, h < 12 → nextL f n h = nextP ds q h := fun h hh => nextP_eq hn hf (by omega)
  unfold lw gw
  by_cases hz : nextP ds q 0 = none
  · rw [if_pos hz, if_neg]
    intro z
    rw [List.all_eq_true] at z
    have := z 0 (List.mem_range.mpr (by decide))
    rw [en 0 (by decide), hz] at this
    cases this
  · have hs : ∀ h, nextP ds q h ≠ none := fun h z => hz ((nextP_none' hn).mp z)
    rw [if_neg hz, if_pos]
    · congr 1
      apply mx_congr (range_ne (by decide))
      intro x
      rw [List.mem_map, List.mem_map]
      constructor
      · rintro ⟨h, hh, rfl⟩
        refine ⟨h % ds.length, List.mem_range.mpr (Nat.mod_lt _ hp), ?_⟩
        rw [waitP_mod h (hs h)]
        unfold waitP waitL
        rw [en h (List.mem_range.mp hh)]
      · rintro ⟨h, hh, rfl⟩
        have hh' := List.mem_range.mp hh
        refine ⟨h, List.mem_range.mpr (by omega), ?_⟩
        unfold waitP waitL
        rw [en h (by omega)]
    · rw [List.all_eq_true]
      intro h hh
      rw [en h (List.mem_range.mp hh)]
      cases z : nextP ds q h with
      | none => exact absurd z (hs h)
      | some _ => rfl
/-- with a greater draught no wait is less -/
theorem pass_le {ds : List Int} {q q' : Int} {h : Nat} (hq : q ≤ q') (hp : pass ds q' h = true) : pass ds q h = true := by
  have := of_decide_eq_true hp
  exact decide_eq_true (by omega)
theorem gw_none {ds : List Int} {q q' : Int} (hn : ds ≠ []) (hq : q ≤ q') (h : gw ds q = none) : gw ds q' = none := by
  unfold gw at h ⊢
  by_cases hz : nextP ds q 0 = none
  · rw [if_pos]
    rw [nextP_none hn] at hz ⊢
    intro j
    cases z : pass ds q' j with
    | false => rfl
    | true =>
      have := hz j
      rw [pass_le hq z] at this
      cases this
  · rw [if_neg hz] at h
    cases h
theorem gw_le {ds : List Int} {q q' a b : Int} (hn : ds ≠ []) (hq : q ≤ q') (h : gw ds q = some a) (h' : gw ds q' = some b) : a ≤ b := by
  unfold gw at h h'
  by_cases hz : nextP ds q 0 = none
  · rw [if_pos hz] at h
    cases h
  by_cases hz' : nextP ds q' 0 = none
  · rw [if_pos hz'] at h'
    cases h'
  rw [if_neg hz] at h
  rw [if_neg hz'] at h'
  cases h
  cases h'
  have hp : 0 < ds.length := List.length_pos_iff.mpr hn
  obtain ⟨i, hi, e⟩ := List.mem_map.mp (mx_mem (range_ne hp (f := waitP ds q)))
  rw [← e]
  refine Int.le_trans ?_ (mx_le (List.mem_map.mpr ⟨i, hi, rfl⟩))
  rcases find_cases (fun w => pass ds q' (i + w)) ds.length with ⟨e', hw⟩ | ⟨j, hj, h1, h2, e'⟩
  · exact absurd ((nextP_none (h := 0) hn).mpr (round_none hn hw)) hz'
  · rcases find_cases (fun w => pass ds q (i + w)) ds.length with ⟨e'', hw⟩ | ⟨l, hl, k1, k2, _⟩
    · exact absurd ((nextP_none (h := 0) hn).mpr (round_none hn hw)) hz
    · rw [waitP_eq hj h1 h2, waitP_eq hl k1 k2]
      have : ¬ j < l := fun z => by
        have := k2 j z
        rw [pass_le hq h1] at this
        cases this
      omega
/-! the turn -/
def rot (ds : List Int) (t : Nat) : List Int := ds.drop t ++ ds.take t
def turnP (ds : List Int) : Nat := match (List.range ds.length).find? fun i => decide (rot ds (1 + i) = ds) with
  | some i => 1 + i
  | none => 0
def turnOk (ds : List Int) (t : Nat) : Bool := (List.range 12).all fun h => decide (dAt ds h = dAt ds (h + t))
def turnL (ds : List Int) : Nat := match (List.range 12).find? fun i => turnOk ds (1 + i) with
  | some i => 1 + i
  | none => 0
theorem rot_get {ds : List Int} {t i : Nat} (ht : t ≤ ds.length) (hi : i < ds.length) : (rot ds t)[i]? = some (dAt ds (i + t)) := by
  unfold rot dAt
  by_cases h : i < ds.length - t
  · rw [List.getElem?_append_left (by rw [List.length_drop]; exact h), List.getElem?_drop, Nat.mod_eq_of_lt (by omega), List.getD_eq_getElem?_getD, Nat.add_comm t i, List.getElem?_eq_getElem (by omega)]
    rfl
  · have e : (i + t) % ds.length = i - (ds.length - t) := by
      rw [show i + t = i - (ds.length - t) + ds.length by omega, Nat.add_mod_right, Nat.mod_eq_of_lt (by omega)]
    rw [List.getElem?_append_right (by rw [List.length_drop]; omega), List.length_drop, e, List.getElem?_take_of_lt (by omega), List.getD_eq_getElem?_getD, List.getElem?_eq_getElem (by omega)]
    rfl
theorem dAt_lt {ds : List Int} {i : Nat} (hi : i < ds.length) : ds[i]? = some (dAt ds i) := by
  unfold dAt
  rw [Nat.mod_eq_of_lt hi, List.getD_eq_getElem?_getD, List.getElem?_eq_getElem hi]
  rfl
theorem rot_iff {ds : List Int} {t : Nat} (hn : ds ≠ []) (h12 : ds.length ≤ 12) (ht : t ≤ ds.length) : (rot ds t = ds) ↔ turnOk ds t = true := by
  have hp : 0 < ds.length := List.length_pos_iff.mpr hn
  have hl : (rot ds t).length = ds.length := by
    unfold rot
    rw [List.length_append, List.length_drop, List.length_take]
    omega
  unfold turnOk
  rw [List.all_eq_true]
  constructor
  · intro h i _
    refine decide_eq_true ?_
    have hi := Nat.mod_lt i hp
    have h1 := rot_get ht hi
    rw [h, dAt_lt hi] at h1
    have h2 := Option.some.inj h1
    have e : dAt ds (i % ds.length + t) = dAt ds (i + t) := by
      unfold dAt
      rw [Nat.mod_add_mod]
    rw [dAt_mod, e] at h2
    exact h2
  · intro h
    apply List.ext_getElem?
    intro i
    by_cases hi : i < ds.length
    · rw [rot_get ht hi, dAt_lt hi]
      have := of_decide_eq_true (h i (List.mem_range.mpr (by omega)))
      rw [this]
    · rw [List.getElem?_eq_none (by omega), List.getElem?_eq_none (by omega)]
theorem rot_full (ds : List Int) : rot ds ds.length = ds := by
  unfold rot
  rw [List.drop_length, List.take_length]
  rfl
theorem turn_eq {ds : List Int} (hn : ds ≠ []) (h12 : ds.length ≤ 12) : turnP ds = turnL ds := by
  have hp : 0 < ds.length := List.length_pos_iff.mpr hn
  have key : ∀ i, i < ds.length → decide (rot ds (1 + i) = ds) = turnOk ds (1 + i) := fun i hi => by
    have h := rot_iff (t := 1 + i) hn h12 (by omega)
    by_cases z : rot ds (1 + i) = ds
    · rw [decide_eq_true z, h.mp z]
    · rw [decide_eq_false z]
      cases z2 : turnOk ds (1 + i) with
      | false => rfl
      | true => exact absurd (h.mpr z2) z
  unfold turnP turnL
  rcases find_cases (fun i => decide (rot ds (1 + i) = ds)) ds.length with ⟨e, hw⟩ | ⟨i, hi, h1, h2, e⟩
  · have := hw (ds.length - 1) (by omega)
    rw [show 1 + (ds.length - 1) = ds.length by omega, rot_full, decide_eq_true rfl] at this
    cases this
  · rw [e, find_s (p := fun i => turnOk ds (1 + i)) (i := i) (by omega) (by rw [← key i hi]; exact h1) (fun w hw => by rw [← key w (by omega)]; exact h2 w hw)]
end K4

set_option Elab.async false
set_option linter.all false
set_option maxRecDepth 100000
set_option maxHeartbeats 4000000
namespace K4
open PySem PySem.Spec PyProof.Rows L2 Evl Tw
section
variable {P : Program} {w : World} {K : PySem.W.Frag} {mg : Str → Option Value} {base : Heap} {k : Nat}
/-! the defs -/
def R_next : List PyData → PyData → Prop := fun as d => ∃ ds rest c, ∃ h : Nat, as = [Hb ds rest, .int c, .int h] ∧ ds ≠ [] ∧ ds.length ≤ 100 ∧ d = optD (nextP ds c h)
theorem ok_next_passing (T : Tx K mg) : FnOk P w K mg base CX0 (k + 3) T.f_next_passing T.d_next_passing ["harbour", "draught", "hour"] (spF K R_next) := by
  refine T.F_next_passing.ok scnext_passing (spF_len ?_) (fun cdv A outer s H vs Q E hr h => ?_)
  · rintro ds d ⟨_, _, _, _, rfl, _⟩
    rfl
  obtain ⟨G, as, d, x, g, ⟨ds, rest, c, h, rfl, hn, h100, rfl⟩, q⟩ := h
  obtain ⟨v0, r, rfl, g0, g⟩ := daa_inv g
  obtain ⟨v1, r, rfl, g1, g⟩ := daa_inv g
  obtain ⟨v2, r, rfl, g2, g⟩ := daa_inv g
  cases daa_inv0 g
  refine ⟨_, (pss_cons (ps_for PassesOwn.never rfl (pi_range1 (by rfl) T.m_range (pa_cons (pe_callB (lenK K) (by rfl) T.m_len (by decide +kernel) (pa_cons (pe_ix (ixt K) (pv 0) pe_int (fun _ _ => rfl)) pa_nil)) pa_nil)) (pg_name (i := 3) scnext_passing.nd rfl (.inl rfl))
      (pss_one (ps_if (pt_val (pe_call (ok_can_pass T) hr (by rfl) T.g_can_pass T.F_can_pass.kp T.b_can_pass .nil pass0 (pa_cons (pv 0) (pa_cons (pv 1) (pa_cons (pe_op op_add (pv 2) (pv 3)) pa_nil))))) (pss_one (ps_ret (pe_op op_add (pv 2) (pv 3)))) pss_nil)))
    (pss_one (ps_ret pe_non))), ?_⟩
  refine d_range (n := (ds.length : Int)) (ed_is (ed_len (ed_ixT (n := 0) (ed_var rfl g0) (fun _ _ => ed_int) rfl rfl)) (by rw [List.length_map])) x (by omega)
    (fun i σ' H' => ∃ x3, σ' = [some v0, some v1, some v2, x3] ∧ Ex H H' ∧ ∀ w, w < i → pass ds c (h + w) = false) ?_ ?_ ?_
  · intro H1 e1
    exact ⟨_, rfl, e1, fun w hw => absurd hw (Nat.not_lt_zero w)⟩
  · rintro i σ' H' hi ⟨x3, rfl, e, hw⟩
    have hi' : i < ds.length := by omega
    have sum : ∀ {σ : L2.St} {G2 : Hp}, σ[2]? = some (some v2) → σ[3]? = some (some (.int (i : Int))) → Ex G G2 → ED K (tOp (rI0 fun i j => .int (i + j)) (tVar 2) (tVar 3)) σ G2 (.int ((h + i : Nat) : Int)) := fun h2 h3 x2 =>
      ed_is (ed_add (ed_var h2 (da_ex x2 g2)) (ed_var h3 (.int (i : Int)))) (congrArg PyData.int (by omega))
    refine d_if1 (b := pass ds c (h + i)) (et_bool (ed_call (eda_cons (ed_var rfl g0) fun G2 x2 => eda_cons (ed_var rfl (da_ex x2 g1)) fun G3 x3 => eda_cons (sum rfl rfl (x2.trans x3)) fun _ _ => eda_nil) ⟨ds, rest, c, h + i, rfl, hn, rfl⟩)) (x.trans e) (fun hb H1 e1 => ?_) (fun hb H1 e1 => ?_)
    · refine d_ret (sum rfl rfl (Ex.refl G)) ((x.trans e).trans e1) fun v H2 G2 s2 a2 => q v H2 G2 ((Sep.stay x (e.trans e1)).trans s2) ?_
      unfold nextP
      rw [find_s (p := fun w => pass ds c (h + w)) hi' hb hw]
      exact a2
    · refine ⟨_, rfl, e.trans e1, fun w hw2 => ?_⟩
      by_cases z : w = i
      · rw [z]
        exact hb
      · exact hw w (by omega)
  · rintro σ' H' ⟨x3, rfl, e, hw⟩
    refine d_ret (K := K) (d := .none) ed_non (x.trans e) fun v H2 G2 s2 a2 => q v H2 G2 ((Sep.stay x e).trans s2) ?_
    unfold nextP
    rw [find_n (fun w hw2 => hw w (by omega))]
    exact a2
def R_great : List PyData → PyData → Prop := fun as d => ∃ ds rest c, as = [Hb ds rest, .int c] ∧ ds ≠ [] ∧ ds.length ≤ 100 ∧ d = optI (gw ds c)
theorem ok_greatest_wait (T : Tx K mg) : FnOk P w K mg base CX0 (k + 4) T.f_greatest_wait T.d_greatest_wait ["harbour", "draught"] (spF K R_great) := by
  refine T.F_greatest_wait.ok scgreatest_wait (spF_len ?_) (fun cdv A outer s H vs Q E hr h => ?_)
  · rintro ds d ⟨_, _, _, rfl, _⟩
    rfl
  obtain ⟨G, as, d, x, g, ⟨ds, rest, c, rfl, hn, h100, rfl⟩, q⟩ := h
  obtain ⟨v0, r, rfl, g0, g⟩ := daa_inv g
  obtain ⟨v1, r, rfl, g1, g⟩ := daa_inv g
  cases daa_inv0 g
  have hp : 0 < ds.length := List.length_pos_iff.mpr hn
  refine ⟨_, (pss_cons (ps_if (pt_cmpR op_isN (pe_call (ok_next_passing T) hr (by rfl) T.g_next_passing T.F_next_passing.kp T.b_next_passing .nil pass0 (pa_cons (pv 0) (pa_cons (pv 1) (pa_cons pe_int pa_nil)))) pe_non (nomark _)) (pss_one (ps_ret pe_non)) pss_nil)
    (pss_one (ps_ret (pe_callB (maxK K rfl) (by rfl) T.m_max (by decide +kernel) (pa_cons (pe_lc (own := [("hour", 2)]) (g := gName 2) (tt := tYes) rfl scgreatest_wait.nd (pi_range1 (by rfl) T.m_range (pa_cons (pe_callB (lenK K) (by rfl) T.m_len (by decide +kernel) (pa_cons (pe_ix (ixt K) (pv 0) pe_int (fun _ _ => rfl)) pa_nil)) pa_nil)) (blkOk_by (N := N_greatest_wait) (sc := defScope s_greatest_wait) (by decide +kernel)) (fun _ _ _ _ _ => (pg_name (i := 2) scgreatest_wait.nd rfl (.inl rfl))) (fun _ _ _ _ _ => pts_nil) (fun _ _ _ _ _ => (pe_op op_sub (pe_call (ok_next_passing T) hr (by rfl) T.g_next_passing T.F_next_passing.kp T.b_next_passing .nil pass0 (pa_cons (pv 0) (pa_cons (pv 1) (pa_cons (pv 2) pa_nil)))) (pv 2)))) pa_nil))))), ?_⟩
  refine d_if (b := isN (optD (nextP ds c 0))) (et_isN (ed_call (eda_cons (ed_var rfl g0) fun G2 x2 => eda_cons (ed_var rfl (da_ex x2 g1)) fun G3 x3 => eda_cons ed_int fun _ _ => eda_nil) ⟨ds, rest, c, 0, rfl, hn, h100, rfl⟩)) x (fun hb H1 e1 => ?_) (fun hb H1 e1 => ?_)
  · have hz : nextP ds c 0 = none := by
      cases z : nextP ds c 0 with
      | none => rfl
      | some i =>
        rw [z] at hb
        cases hb
    refine d_ret (K := K) (d := .none) ed_non (x.trans e1) fun v H2 G2 s2 a2 => q v H2 G2 ((Sep.stay x e1).trans s2) ?_
    unfold gw
    rw [if_pos hz]
    exact a2
  · have hz : nextP ds c 0 ≠ none := fun z => by
      rw [z] at hb
      cases hb
    have hs : ∀ h, nextP ds c h ≠ none := fun h z => hz ((nextP_none' hn).mp z)
    refine d_ret (d := .int (mxI ((List.range ds.length).map (waitP ds c)))) (ed_max (ed_is (ed_lcR (n := (ds.length : Int)) (fun h => .int (waitP ds c h)) (ed_is (ed_len (ed_ixT (n := 0) (ed_var rfl g0) (fun _ _ => ed_int) rfl rfl)) (by rw [List.length_map])) (by omega) (fun _ => rfl) ?_) ?_) (range_ne hp)) (x.trans e1) fun v H2 G2 s2 a2 => q v H2 G2 ((Sep.stay x e1).trans s2) ?_
    · intro h G2 x2 hi
      have e0 : optD (nextP ds c h) = .int ((nextP ds c h).getD 0 : Nat) := by
        cases z : nextP ds c h with
        | none => exact absurd z (hs h)
        | some i => rfl
      exact ed_sub (ed_call (eda_cons (ed_var rfl (da_ex x2 g0)) fun G3 x3 => eda_cons (ed_var rfl (da_ex (x2.trans x3) g1)) fun G4 x4 => eda_cons (ed_var rfl (.int (h : Int))) fun _ _ => eda_nil) ⟨ds, rest, c, h, rfl, hn, h100, e0.symm⟩) (ed_var rfl (.int (h : Int)))
    · rw [Int.toNat_natCast, List.map_map]
      rfl
    · unfold gw
      rw [if_neg hz]
      exact a2
def R_lnext : List PyData → PyData → Prop := fun as d => ∃ (bs : List Bool) (h : Nat), as = [.list (bs.map .bool), .int h] ∧ bs.length ≤ 1000 ∧ h ≤ 1000 ∧ d = optD (nextL (fun i => bs.getD i false) bs.length h)
theorem bool_ix {bs : List Bool} {i : Nat} (hi : i < bs.length) : (bs.map PyData.bool)[i]? = some (.bool (bs.getD i false)) := by
  rw [List.getElem?_map, List.getD_eq_getElem?_getD, List.getElem?_eq_getElem hi]
  rfl
theorem ok__law_next (T : Tx K mg) : FnOk P w K mg base CX0 (k + 1) T.f__law_next T.d__law_next ["deep", "hour"] (spF K R_lnext) := by
  refine T.F__law_next.ok sc_law_next (spF_len ?_) (fun cdv A outer s H vs Q E hr h => ?_)
  · rintro ds d ⟨_, _, rfl, _⟩
    rfl
  obtain ⟨G, as, d, x, g, ⟨bs, h, rfl, hb, h1000, rfl⟩, q⟩ := h
  obtain ⟨v0, r, rfl, g0, g⟩ := daa_inv g
  obtain ⟨v1, r, rfl, g1, g⟩ := daa_inv g
  cases daa_inv0 g
  generalize hf : (fun i => bs.getD i false) = f at q
  have fi : ∀ i, bs.getD i false = f i := fun i => by rw [← hf]
  refine ⟨_, (pss_cons (ps_for PassesOwn.never rfl (pi_range2 (by rfl) T.m_range (pa_cons (pv 1) (pa_cons (pe_callB (lenK K) (by rfl) T.m_len (by decide +kernel) (pa_cons (pv 0) pa_nil)) pa_nil))) (pg_name (i := 2) sc_law_next.nd rfl (.inl rfl))
      (pss_one (ps_if (pt_val (pe_ix (ixl K) (pv 0) (pv 2) (fun _ _ => rfl))) (pss_one (ps_ret (pv 2))) pss_nil)))
    (pss_one (ps_ret pe_non))), ?_⟩
  refine d_range2 (lo := (h : Int)) (n := (bs.length : Int)) (ed_var rfl g1) (ed_is (ed_len (ed_var rfl g0)) (by rw [List.length_map])) x (by omega)
    (fun i σ' H' => ∃ x2, σ' = [some v0, some v1, x2] ∧ Ex H H' ∧ ∀ w, w < i → f (h + w) = false) ?_ ?_ ?_
  · intro H1 e1
    exact ⟨_, rfl, e1, fun w hw => absurd hw (Nat.not_lt_zero w)⟩
  · rintro i σ' H' hi ⟨x2, rfl, e, hw⟩
    have hi' : i < bs.length - h := by omega
    have ec : (h : Int) + (i : Int) = ((h + i : Nat) : Int) := by omega
    rw [ec]
    refine d_if1 (b := f (h + i)) (et_bool (ed_is (ed_ix (ed_var rfl g0) (fun G2 x2 => ed_var (v := .int ((h + i : Nat) : Int)) rfl (.int _)) rfl (bool_ix (by omega))) (by rw [fi]))) (x.trans e) (fun hb2 H1 e1 => ?_) (fun hb2 H1 e1 => ?_)
    · refine d_ret (ed_var (K := K) (v := .int ((h + i : Nat) : Int)) rfl (.int _)) ((x.trans e).trans e1) fun v H2 G2 s2 a2 => q v H2 G2 ((Sep.stay x (e.trans e1)).trans s2) ?_
      unfold nextL
      rw [find_s (p := fun w => f (h + w)) hi' hb2 hw]
      exact a2
    · refine ⟨_, rfl, e.trans e1, fun w hw2 => ?_⟩
      by_cases z : w = i
      · rw [z]
        exact hb2
      · exact hw w (by omega)
  · rintro σ' H' ⟨x2, rfl, e, hw⟩
    refine d_ret (K := K) (d := .none) ed_non (x.trans e) fun v H2 G2 s2 a2 => q v H2 G2 ((Sep.stay x e).trans s2) ?_
    unfold nextL
    rw [find_n (fun w hw2 => hw w (by omega))]
    exact a2
def R_lwaits : List PyData → PyData → Prop := fun as d => ∃ (bs : List Bool), as = [.list (bs.map .bool)] ∧ bs.length ≤ 1000 ∧ d = optI (lw (fun i => bs.getD i false) bs.length)
theorem ok__law_waits (T : Tx K mg) : FnOk P w K mg base CX0 (k + 2) T.f__law_waits T.d__law_waits ["deep"] (spF K R_lwaits) := by
  refine T.F__law_waits.ok sc_law_waits (spF_len ?_) (fun cdv A outer s H vs Q E hr h => ?_)
  · rintro ds d ⟨_, rfl, _⟩
    rfl
  obtain ⟨G, as, d, x, g, ⟨bs, rfl, hb, rfl⟩, q⟩ := h
  obtain ⟨v0, r, rfl, g0, g⟩ := daa_inv g
  cases daa_inv0 g
  refine ⟨_, (pss_cons (ps_set (i := 1) sc_law_waits.nd rfl (.inl rfl) (pe_lst pa_nil))
    (pss_cons (ps_for PassesOwn.never rfl (pi_range1 (by rfl) T.m_range (pa_cons pe_int pa_nil)) (pg_name (i := 2) sc_law_waits.nd rfl (.inl rfl))
      (pss_cons (ps_set (i := 3) sc_law_waits.nd rfl (.inl rfl) (pe_call (ok__law_next T) hr (by rfl) T.g__law_next T.F__law_next.kp T.b__law_next .nil pass0 (pa_cons (pv 0) (pa_cons (pv 2) pa_nil))))
      (pss_cons (ps_if (pt_cmpR op_isN (pv 3) pe_non (nomark _)) (pss_one (ps_ret pe_non)) pss_nil)
      (pss_one (ps_expr (pe_bm PySem.F.plainAttrs_list PySem.F.slot_list_append PySem.F.type_list_append mt_append (pv 1) (pa_cons (pe_op op_sub (pv 3) (pv 2)) pa_nil)))))))
    (pss_one (ps_ret (pe_callB (maxK K rfl) (by rfl) T.m_max (by decide +kernel) (pa_cons (pv 1) pa_nil)))))), ?_⟩
  refine d_new x fun L nL gL xL yL => ?_
  generalize hf : (fun i => bs.getD i false) = f at q
  refine d_range (K := K) (n := 12) (G := G) ed_int xL (by decide)
    (fun i σ' H' => ∃ x2 x3, σ' = [some v0, some (.ref L), x2, x3] ∧ Ex H H' ∧ Ex G H' ∧ H' L = some (.lst (((List.range i).map (waitL f bs.length)).map V.int)) ∧ ∀ h, h < i → (nextL f bs.length h).isSome = true) ?_ ?_ ?_
  · intro H1 e1
    exact ⟨_, _, rfl, (Ex.new nL).trans e1, xL.trans e1, e1 _ _ upd_same, fun h hh => absurd hh (Nat.not_lt_zero h)⟩
  · rintro i σ' H' hi ⟨x2, x3, rfl, e, xg, hL', hs⟩
    have hi' : i < 12 := by omega
    refine d_asg (d := optD (nextL f bs.length i)) (ed_call (eda_cons (ed_var rfl g0) fun G2 x2 => eda_cons (ed_var (v := .int (i : Int)) rfl (.int (i : Int))) fun _ _ => eda_nil) ⟨bs, i, rfl, hb, by omega, by rw [hf]⟩) xg fun v3 H3 G3 s3 a3 => ?_
    refine d_if (b := isN (optD (nextL f bs.length i))) (et_isN (ed_var rfl a3)) s3.inn (fun hb2 H4 e4 => ?_) (fun hb2 H4 e4 => ?_)
    · have hz : nextL f bs.length i = none := by
        cases z : nextL f bs.length i with
        | none => rfl
        | some j =>
          rw [z] at hb2
          cases hb2
      refine d_ret (K := K) (d := .none) ed_non ((xg.trans s3.up).trans e4) fun v H2 G2 s2 a2 => q v H2 G2 ((Sep.stay x ((e.trans s3.up).trans e4)).trans s2) ?_
      unfold lw
      rw [if_neg]
      · exact a2
      · intro z
        rw [List.all_eq_true] at z
        have := z i (List.mem_range.mpr hi')
        rw [hz] at this
        cases this
    · obtain ⟨j, hz⟩ : ∃ j, nextL f bs.length i = some j := by
        cases z : nextL f bs.length i with
        | none =>
          rw [z] at hb2
          cases hb2
        | some j => exact ⟨j, rfl⟩
      rw [hz] at a3
      cases a3
      have hL4 := e4 _ _ (s3.up _ _ hL')
      refine s_app (xs := ((List.range i).map (waitL f bs.length)).map V.int) hL4 (ev_var rfl) (ev_op (ev_var (v := .int (j : Int)) rfl) (ev_var (v := .int (i : Int)) rfl) rv_I0) (by rw [List.length_map, List.length_map, List.length_range]; omega) fun H5 e5 => ?_
      have x5 := (s3.up.trans e4).trans e5
      refine ⟨_, _, rfl, Ex.mut (e.trans x5) nL, Ex.mut (xg.trans x5) gL, ?_, fun h hh => ?_⟩
      · rw [upd_same, List.range_succ, List.map_append, List.map_append]
        have ew : waitL f bs.length i = (j : Int) - (i : Int) := by
          unfold waitL
          rw [hz]
          rfl
        rw [← ew]
        rfl
      · by_cases z : h = i
        · rw [z, hz]
          rfl
        · exact hs h (by omega)
  · rintro σ' H' ⟨x2, x3, rfl, e, xg, hL', hs⟩
    obtain ⟨S', aL⟩ := (Sep.stay x e).seal nL gL hL' (daa_ints _)
    refine d_ret (ed_max (ed_var rfl aL) (range_ne (by decide))) S'.inn fun v H8 G8 s8 a8 => q v H8 G8 (S'.trans s8) ?_
    unfold lw
    rw [if_pos]
    · exact a8
    · rw [List.all_eq_true]
      intro h hh
      exact hs h (List.mem_range.mp hh)
end
end K4

set_option Elab.async false
set_option linter.all false
set_option maxRecDepth 100000
set_option maxHeartbeats 4000000
namespace K4
open PySem PySem.Spec PyProof.Rows L2 Evl Tw
section
variable {P : Program} {w : World} {K : PySem.W.Frag} {mg : Str → Option Value} {base : Heap} {k : Nat}
theorem ok_ints {ns : List Int} {m : Nat} (h : ∀ n ∈ ns, 0 ≤ n ∧ n < 1000) (hm : ns.length * 18 ≤ m) : Ok 1 m (.list (ns.map .int)) := by
  refine ok_list (n := 0) (w := 17) (fun d hd => ?_) (by rw [List.length_map]; exact hm)
  obtain ⟨n, hn, rfl⟩ := List.mem_map.mp hd
  have := h n hn
  exact ok_int (by omega) (by omega)
theorem cut_from {ns : List Int} {t : Nat} (ht : t ≤ ns.length) : cutD (ns.map PyData.int) (some (t : Int)) none = (ns.drop t).map .int := by
  unfold Tw.cutD
  rw [sIx_nat', HT.sIx_none, List.length_map, Nat.min_eq_left ht, List.map_drop]
  exact List.take_of_length_le (by rw [List.length_drop, List.length_map]; exact Nat.le_refl _)
theorem cut_to {α : Type} (f : α → PyData) {ns : List α} {t : Nat} (ht : t ≤ ns.length) : cutD (ns.map f) none (some (t : Int)) = (ns.take t).map f := by
  unfold Tw.cutD
  rw [sIx_nat', HT.sIx_none, List.length_map, Nat.min_eq_left ht, List.map_take]
  rfl
def R_turn : List PyData → PyData → Prop := fun as d => ∃ ds rest, as = [Hb ds rest] ∧ ds ≠ [] ∧ ds.length ≤ 12 ∧ (∀ n ∈ ds, 0 ≤ n ∧ n < 1000) ∧ d = .int (turnP ds)
theorem ok_turn_of (T : Tx K mg) : FnOk P w K mg base CX0 (k + 1) T.f_turn_of T.d_turn_of ["harbour"] (spF K R_turn) := by
  refine T.F_turn_of.ok scturn_of (spF_len ?_) (fun cdv A outer s H vs Q E hr h => ?_)
  · rintro ds d ⟨_, _, rfl, _⟩
    rfl
  have hu := hr.units
  obtain ⟨G, as, d, x, g, ⟨ds, rest, rfl, hn, h12, hb, rfl⟩, q⟩ := h
  obtain ⟨v0, r, rfl, g0, g⟩ := daa_inv g
  cases daa_inv0 g
  have hp : 0 < ds.length := List.length_pos_iff.mpr hn
  refine ⟨_, (pss_cons (ps_set (i := 1) scturn_of.nd rfl (.inl rfl) (pe_ix (ixt K) (pv 0) pe_int (fun _ _ => rfl)))
    (pss_cons (ps_set (i := 2) scturn_of.nd rfl (.inl rfl) pe_int)
    (pss_cons (ps_while PassesOwn.never (pt_cmpR (neDK K hu) (pe_op op_cat (pe_slice (slL K) (pv 1) (po_some (pv 2)) po_none) (pe_slice (slL K) (pv 1) po_none (po_some (pv 2)))) (pv 1) (nomark _))
      (pss_one (ps_aug (i := 2) scturn_of.nd rfl (.inl rfl) pe_int ip_add)))
    (pss_one (ps_ret (pv 2)))))), ?_⟩
  refine d_asg (ed_ixT (n := 0) (ed_var rfl g0) (fun _ _ => ed_int) rfl rfl) x fun v1 H1 G1 s1 a1 => ?_
  refine q_asg ev_c fun H2 e2 => ?_
  refine q_while (fun m σ' H' => ∃ t : Nat, σ' = [some v0, some v1, some (.int (t : Int))] ∧ Ex H1 H' ∧ t + m = ds.length ∧ 1 ≤ t ∧ ∀ i, 1 + i < t → rot ds (1 + i) ≠ ds) (ds.length - 1) ?_ ?_
  · exact ⟨1, rfl, e2, by omega, Nat.le_refl 1, fun i hi => absurd hi (by omega)⟩
  · rintro m σ' H' ⟨t, rfl, e, hm, h1, hw⟩
    have xG : Ex G1 H' := s1.inn.trans e
    have ht : t ≤ ds.length := by omega
    have tst : EvT (tTest (tOp (rNeD K) (tOp rCat (tSl (rSlL K) (tVar 1) (tPart (tVar 2)) tNoPart) (tSl (rSlL K) (tVar 1) tNoPart (tPart (tVar 2)))) (tVar 1))) [some v0, some v1, some (.int (t : Int))] G1 (!decide (rot ds t = ds)) := by
      have hc : ED K (tOp rCat (tSl (rSlL K) (tVar 1) (tPart (tVar 2)) tNoPart) (tSl (rSlL K) (tVar 1) tNoPart (tPart (tVar 2)))) [some v0, some v1, some (.int (t : Int))] G1 (.list ((rot ds t).map .int)) := by
        refine ed_is (ed_cat (ed_is (ed_cut (lo := some (t : Int)) (hi := none) (ed_var rfl a1) (fun G2 x2 => eo_some (ev_var rfl)) (fun G2 x2 => eo_none)) (by rw [cut_from ht])) (fun G2 x2 => ed_is (ed_cut (lo := none) (hi := some (t : Int)) (ed_var rfl (da_ex x2 a1)) (fun G2 x2 => eo_none) (fun G2 x2 => eo_some (ev_var rfl))) (by rw [cut_to _ ht])) ?_) ?_
        · rw [List.length_map, List.length_map, List.length_drop, List.length_take]
          omega
        · rw [← List.map_append]
          rfl
      have hr1 : ∀ n ∈ rot ds t, 0 ≤ n ∧ n < 1000 := fun n hn => by
        rcases List.mem_append.mp hn with h | h
        · exact hb n (List.mem_of_mem_drop h)
        · exact hb n (List.mem_of_mem_take h)
      have hl : (rot ds t).length = ds.length := by
        unfold rot
        rw [List.length_append, List.length_drop, List.length_take]
        omega
      refine et_is (et_neD hc (fun G2 x2 => ed_var rfl (da_ex x2 a1)) (ok_ints (m := 1000) hr1 (by omega)) (by decide) (ok_ints (m := 1000) hb (by omega)) (by decide)) ?_
      rw [eqv_ints]
    refine ⟨_, EvT.mono xG tst, fun hb2 H3 e3 => ?_, fun hb2 H3 e3 => ?_⟩
    · have hne : rot ds t ≠ ds := fun z => by
        rw [decide_eq_true z] at hb2
        cases hb2
      have htl : t < ds.length := by
        rcases Nat.lt_or_eq_of_le ht with h | h
        · exact h
        · rw [h, rot_full] at hne
          exact absurd rfl hne
      refine ⟨fun σ2 H2 => ∃ t2 : Nat, t2 = t + 1 ∧ σ2 = [some v0, some v1, some (.int (t2 : Int))] ∧ Ex H1 H2, fun σ2 H2 ⟨t2, et, es, ex⟩ => ⟨m - 1, by omega, t2, es, ex, by omega, by omega, fun i hi => ?_⟩, ?_⟩
      · by_cases z : 1 + i = t
        · rw [z]
          exact hne
        · exact hw i (by omega)
      · refine s_aug (a := (t : Int)) (b := 1) rfl ev_c fun H4 e4 => ⟨t + 1, rfl, ?_, (e.trans e3).trans e4⟩
        show [some v0, some v1, some (V.int ((t : Int) + 1))] = _
        rw [show (t : Int) + 1 = ((t + 1 : Nat) : Int) by omega]
    · have heq : rot ds t = ds := by
        by_cases z : rot ds t = ds
        · exact z
        · rw [decide_eq_false z] at hb2
          cases hb2
      refine d_ret (ed_var (K := K) (v := .int (t : Int)) rfl (.int _)) (xG.trans e3) fun v H4 G4 s4 a4 => q v H4 G4 ((s1.trans (Sep.stay s1.inn (e.trans e3))).trans s4) ?_
      have et : turnP ds = t := by
        unfold turnP
        rw [find_s (p := fun i => decide (rot ds (1 + i) = ds)) (i := t - 1) (by omega) (by rw [show 1 + (t - 1) = t by omega]; exact decide_eq_true heq) (fun i hi => decide_eq_false (hw i (by omega)))]
        show 1 + (t - 1) = t
        omega
      rw [et]
      exact a4
theorem rep_get {α : Type} (l : List α) : ∀ (n j : Nat), j < n * l.length → ((List.replicate n l).flatten)[j]? = l[j % l.length]?
  | 0, j, h => by
    rw [Nat.zero_mul] at h
    exact absurd h (Nat.not_lt_zero j)
  | n + 1, j, h => by
    rw [List.replicate_succ, List.flatten_cons]
    rw [Nat.succ_mul] at h
    by_cases hj : j < l.length
    · rw [List.getElem?_append_left hj, Nat.mod_eq_of_lt hj]
    · rw [List.getElem?_append_right (by omega), rep_get l n (j - l.length) (by omega)]
      congr 1
      rw [← Nat.add_mod_right, Nat.sub_add_cancel (by omega)]
theorem rep_len {α : Type} (l : List α) : ∀ n, ((List.replicate n l).flatten).length = n * l.length
  | 0 => by rw [Nat.zero_mul]; rfl
  | n + 1 => by
    rw [List.replicate_succ, List.flatten_cons, List.length_append, rep_len l n, Nat.succ_mul]
    omega
def R_lturn : List PyData → PyData → Prop := fun as d => ∃ ds : List Int, as = [.list (ds.map .int)] ∧ ds ≠ [] ∧ ds.length ≤ 12 ∧ d = .int (turnL ds)
theorem ok__law_turn (T : Tx K mg) : FnOk P w K mg base CX0 (k + 1) T.f__law_turn T.d__law_turn ["depths"] (spF K R_lturn) := by
  refine T.F__law_turn.ok sc_law_turn (spF_len ?_) (fun cdv A outer s H vs Q E hr h => ?_)
  · rintro ds d ⟨_, rfl, _⟩
    rfl
  obtain ⟨G, as, d, x, g, ⟨ds, rfl, hn, h12, rfl⟩, q⟩ := h
  obtain ⟨v0, r, rfl, g0, g⟩ := daa_inv g
  cases daa_inv0 g
  have hp : 0 < ds.length := List.length_pos_iff.mpr hn
  refine ⟨_, (pss_cons (ps_set (i := 1) sc_law_turn.nd rfl (.inr rfl) (pe_op op_rep (pv 0) pe_int))
    (pss_cons (ps_for PassesOwn.never rfl (pi_range2 (by rfl) T.m_range (pa_cons pe_int (pa_cons pe_int pa_nil))) (pg_name (i := 2) sc_law_turn.nd rfl (.inr rfl))
      (pss_one (ps_if (pt_val (pe_callB (allK K rfl) (by rfl) T.m_all (by decide +kernel) (pa_cons (pe_lc (own := [("hour", 3)]) (g := gName 3) (tt := tYes) rfl sc_law_turn.nd (pi_range1 (by rfl) T.m_range (pa_cons pe_int pa_nil)) (blkOk_by (N := N__law_turn) (sc := defScope s__law_turn) (by decide +kernel)) (fun _ _ _ _ _ => (pg_name (i := 3) sc_law_turn.nd rfl (.inl rfl))) (fun _ _ _ _ _ => pts_nil) (fun _ _ _ _ _ => (pe_cmpR op_eq (pe_ix (ixl K) (pv 1) (pv 3) (fun _ _ => rfl)) (pe_ix (ixl K) (pv 1) (pe_op op_add (pv 3) (pv 2)) (fun _ _ => rfl)) (nomark _)))) pa_nil))) (pss_one (ps_ret (pv 2))) pss_nil)))
    (pss_one (ps_ret pe_int)))), ?_⟩
  refine d_asg (ed_rep (ed_var rfl g0) (fun G2 x2 => ed_int (i := 24)) (by decide) (by decide) (by rw [List.length_map]; show ds.length * 24 ≤ 100000; omega)) x fun v1 H1 G1 s1 a1 => ?_
  have rix : ∀ {j : Nat}, j < 24 → ((List.replicate (24 : Int).toNat (ds.map PyData.int)).flatten)[j]? = some (.int (dAt ds j)) := fun {j} hj => by
    rw [rep_get _ _ _ (by rw [List.length_map]; show j < 24 * ds.length; omega), List.length_map]
    exact dAt_get j hn
  refine d_range2 (K := K) (G := G1) (lo := 1) (n := 13) ed_int ed_int s1.inn (by decide)
    (fun i σ' H' => ∃ x2 x3, σ' = [some v0, some v1, x2, x3] ∧ Ex H1 H' ∧ ∀ w, w < i → turnOk ds (1 + w) = false) ?_ ?_ ?_
  · intro H2 e2
    exact ⟨_, _, rfl, e2, fun w hw => absurd hw (Nat.not_lt_zero w)⟩
  · rintro i σ' H' hi ⟨x2, x3, rfl, e, hw⟩
    have hi' : i < 12 := by omega
    have ec : (1 : Int) + (i : Int) = ((1 + i : Nat) : Int) := by omega
    rw [ec]
    refine d_if1 (b := turnOk ds (1 + i)) (et_bool (ed_is (ed_all (bs := (List.range 12).map fun h => decide (dAt ds h = dAt ds (h + (1 + i)))) (ed_is (ed_lcR (n := 12) (fun h => .bool (decide (dAt ds h = dAt ds (h + (1 + i))))) ed_int (by decide) (fun _ => rfl) ?_) ?_)) ?_)) (s1.inn.trans e) (fun hb2 H3 e3 => ?_) (fun hb2 H3 e3 => ?_)
    · intro h G2 x2 hh
      exact ed_eqI (ed_ix (ed_var rfl (da_ex x2 a1)) (fun G3 x3 => ed_var (v := .int (h : Int)) rfl (.int _)) rfl (rix (by omega))) (ed_ix (ed_var rfl (da_ex x2 a1)) (fun G3 x3 => ed_add (ed_var (v := .int (h : Int)) rfl (.int _)) (ed_var (v := .int ((1 + i : Nat) : Int)) rfl (.int _))) (by omega) (rix (by omega)))
    · rw [List.map_map]
      rfl
    · unfold turnOk
      rw [List.all_map]
      rfl
    · refine d_ret (ed_var (K := K) (v := .int ((1 + i : Nat) : Int)) rfl (.int _)) ((s1.inn.trans e).trans e3) fun v H4 G4 s4 a4 => q v H4 G4 ((s1.trans (Sep.stay s1.inn (e.trans e3))).trans s4) ?_
      unfold turnL
      rw [find_s (p := fun i => turnOk ds (1 + i)) hi' hb2 hw]
      exact a4
    · refine ⟨_, _, rfl, e.trans e3, fun w hw2 => ?_⟩
      by_cases z : w = i
      · rw [z]
        exact hb2
      · exact hw w (by omega)
  · rintro σ' H' ⟨x2, x3, rfl, e, hw⟩
    refine d_ret (K := K) (d := .int 0) ed_int (s1.inn.trans e) fun v H4 G4 s4 a4 => q v H4 G4 ((s1.trans (Sep.stay s1.inn e)).trans s4) ?_
    unfold turnL
    rw [find_n (n := 12) (p := fun i => turnOk ds (1 + i)) (fun w hw2 => hw w hw2)]
    exact a4
/-! the drawn depths -/
def pick2 (a b x : Int) : Int := if x % 2 = 0 then a else b
def turnN (D : Nat → Int) : Int := 1 + D 0 % pick2 6 12 (D 20)
def rowD (D : Nat → Int) : List Int := (List.range (turnN D).toNat).map fun i => D (1 + i) % pick2 9 4 (D 21)
def depD (D : Nat → Int) : List Int := if turnN D > 6 ∨ D 13 % 2 = 0 then rowD D else rowD D ++ rowD D
theorem pick_pos {a b x : Int} (ha : 0 < a) (hb : 0 < b) : 0 < pick2 a b x := by
  unfold pick2
  split <;> assumption
theorem pick_ix (a b x : Int) : [PyData.int a, PyData.int b][(x % 2).toNat]? = some (.int (pick2 a b x)) := by
  unfold pick2
  have h0 := Int.emod_nonneg x (b := 2) (by decide)
  have h1 := Int.emod_lt_of_pos x (b := 2) (by decide)
  by_cases z : x % 2 = 0
  · rw [if_pos z, z]
    rfl
  · rw [if_neg z, show x % 2 = 1 by omega]
    rfl
theorem turnN_le (D : Nat → Int) : 1 ≤ turnN D ∧ turnN D ≤ 12 := by
  unfold turnN
  have h0 := Int.emod_nonneg (D 0) (b := pick2 6 12 (D 20)) (by have := pick_pos (a := 6) (b := 12) (x := D 20) (by decide) (by decide); omega)
  have h1 := Int.emod_lt_of_pos (D 0) (pick_pos (a := 6) (b := 12) (x := D 20) (by decide) (by decide))
  have h2 : pick2 6 12 (D 20) ≤ 12 := by
    unfold pick2
    split <;> decide
  omega
theorem row_len (D : Nat → Int) : (rowD D).length = (turnN D).toNat := by
  unfold rowD
  rw [List.length_map, List.length_range]
theorem dep_len (D : Nat → Int) : 1 ≤ (depD D).length ∧ (depD D).length ≤ 12 := by
  have h := turnN_le D
  have hr := row_len D
  unfold depD
  by_cases z : turnN D > 6 ∨ D 13 % 2 = 0
  · rw [if_pos z]
    omega
  · rw [if_neg z, List.length_append]
    have : ¬ turnN D > 6 := fun y => z (.inl y)
    omega
theorem row_ok (D : Nat → Int) : ∀ n ∈ rowD D, 0 ≤ n ∧ n < 1000 := by
  intro n hn
  obtain ⟨i, _, rfl⟩ := List.mem_map.mp hn
  have hp := pick_pos (a := 9) (b := 4) (x := D 21) (by decide) (by decide)
  have h0 := Int.emod_nonneg (D (1 + i)) (b := pick2 9 4 (D 21)) (by omega)
  have h1 := Int.emod_lt_of_pos (D (1 + i)) hp
  have h2 : pick2 9 4 (D 21) ≤ 9 := by
    unfold pick2
    split <;> decide
  omega
theorem dep_ok (D : Nat → Int) : ∀ n ∈ depD D, 0 ≤ n ∧ n < 1000 := by
  intro n hn
  unfold depD at hn
  split at hn
  · exact row_ok D n hn
  · rcases List.mem_append.mp hn with h | h <;> exact row_ok D n h
def R_ldep : List PyData → PyData → Prop := fun ds d => ∃ draws : List Int, Drawn 25 draws ∧ ds = [.list (draws.map .int)] ∧ d = .list ((depD fun i => draws.getD i 0).map .int)
theorem ok__law_depths (T : Tx K mg) : FnOk P w K mg base CX0 (k + 1) T.f__law_depths T.d__law_depths ["draws"] (spF K R_ldep) := by
  refine T.F__law_depths.ok sc_law_depths (spF_len ?_) (fun cdv A outer s H vs Q E hr h => ?_)
  · rintro ds d ⟨_, _, rfl, _⟩
    rfl
  obtain ⟨G, ds, d, x, g, ⟨draws, dr, rfl, rfl⟩, q⟩ := h
  obtain ⟨v0, r, rfl, g0, g⟩ := daa_inv g
  cases daa_inv0 g
  generalize hD : (fun i => draws.getD i 0) = D at q
  have ix : ∀ {n : Nat}, n < 25 → (draws.map PyData.int)[n]? = some (.int (D n)) := fun {n} hn => by rw [← hD]; exact dr_ix dr hn
  have at0 : ∀ {σ : L2.St} {G' : Hp} {te : TE} {i : Int} (n : Nat), σ[0]? = some (some v0) → Ex G G' → (∀ G2, Ex G' G2 → ED K te σ G2 (.int i)) → i = (n : Int) → n < 25 → ED K (tOp (rIxL K) (tVar 0) te) σ G' (.int (D n)) := fun n h0 xg hb hi hn =>
    ed_ix (ed_var h0 (da_ex xg g0)) hb hi (ix hn)
  have m2 : ∀ x : Int, x % 2 = (((x % 2).toNat : Nat) : Int) := fun x => by
    have := Int.emod_nonneg x (b := 2) (by decide)
    omega
  -- [a, b][int(draws[n]) % 2]
  have pick : ∀ {σ : L2.St} {G' : Hp} {a b : Int} (n : Nat) {m : Int}, σ[0]? = some (some v0) → Ex G G' → m = (n : Int) → n < 25 →
      ED K (tOp (rIxL K) (tLst (tCons (tC (.int a)) (tCons (tC (.int b)) tNil))) (tOp (rI (fun _ j => 0 < j) fun i j => .int (i % j)) (tCB (fun xs H Q => (∃ i, xs = [V.int i] ∧ Q (.int i) H) ∨ ∃ k, xs = [.bl k] ∧ Q (.int (if k then 1 else 0)) H) (tCons (tOp (rIxL K) (tVar 0) (tC (.int m))) tNil)) (tC (.int 2)))) σ G' (.int (pick2 a b (D n))) := fun {σ G' a b} n {m} h0 xg hm hn =>
    ed_ix (ed_lst (eda_cons ed_int fun _ _ => eda_cons ed_int fun _ _ => eda_nil) (by show 2 ≤ 100000; decide)) (fun G2 x2 => ed_mod (ed_toInt (at0 n h0 (xg.trans x2) (fun _ _ => ed_int) hm hn)) ed_int (by decide)) (m2 _) (pick_ix a b (D n))
  refine ⟨_, (pss_cons (ps_set (i := 1) sc_law_depths.nd rfl (.inl rfl) (pe_op op_add pe_int (pe_op op_modN (pe_callTy call_int1 (by rfl) T.m_int (by decide +kernel) (pa_cons (pe_ix (ixl K) (pv 0) pe_int (fun _ _ => rfl)) pa_nil)) (pe_ix (ixl K) (pe_lst (pa_cons pe_int (pa_cons pe_int pa_nil))) (pe_op op_mod (pe_callTy call_int1 (by rfl) T.m_int (by decide +kernel) (pa_cons (pe_ix (ixl K) (pv 0) pe_int (fun _ _ => rfl)) pa_nil)) pe_int) (fun _ _ => rfl)))))
    (pss_cons (ps_setLc (i := 2) (own := [("k", 3)]) (g := gName 3) (tt := tYes) rfl sc_law_depths.nd rfl rfl (sw_true rfl rfl rfl (by decide +kernel)) (pi_range1 (by rfl) T.m_range (pa_cons (pv 1) pa_nil)) (blkOk_by (N := N__law_depths) (sc := defScope s__law_depths) (by decide +kernel)) (fun _ _ _ _ _ => (pg_name (i := 3) sc_law_depths.nd rfl (.inl rfl))) (fun _ _ _ _ _ => pts_nil) (fun _ _ _ _ _ => (pe_op op_modN (pe_callTy call_int1 (by rfl) T.m_int (by decide +kernel) (pa_cons (pe_ix (ixl K) (pv 0) (pe_op op_add pe_int (pv 3)) (fun _ _ => rfl)) pa_nil)) (pe_ix (ixl K) (pe_lst (pa_cons pe_int (pa_cons pe_int pa_nil))) (pe_op op_mod (pe_callTy call_int1 (by rfl) T.m_int (by decide +kernel) (pa_cons (pe_ix (ixl K) (pv 0) pe_int (fun _ _ => rfl)) pa_nil)) pe_int) (fun _ _ => rfl)))))
    (pss_cons (ps_if (PW.pt (pw_or (pt_cmpR op_gt (pv 1) pe_int (nomark _)) (pw_or1 (pt_cmpR op_eq (pe_op op_mod (pe_callTy call_int1 (by rfl) T.m_int (by decide +kernel) (pa_cons (pe_ix (ixl K) (pv 0) pe_int (fun _ _ => rfl)) pa_nil)) pe_int) pe_int (nomark _))))) (pss_one (ps_ret (pv 2))) pss_nil)
    (pss_one (ps_ret (pe_op op_cat (pv 2) (pv 2))))))), ?_⟩
  have hm6 := pick_pos (a := 6) (b := 12) (x := D 20) (by decide) (by decide)
  have hm9 := pick_pos (a := 9) (b := 4) (x := D 21) (by decide) (by decide)
  have ht := turnN_le D
  refine d_asg (d := .int (turnN D)) (ed_add ed_int (ed_modN (ed_toInt (at0 0 rfl (Ex.refl G) (fun _ _ => ed_int) rfl (by decide))) (pick 20 rfl (Ex.refl G) rfl (by decide)) hm6)) x fun v1 H1 G1 s1 a1 => ?_
  cases a1
  refine d_asg (K := K) (d := .list ((rowD D).map .int)) (ed_is (ed_lcR (n := turnN D) (fun i => .int (D (1 + i) % pick2 9 4 (D 21))) (ed_var rfl (.int _)) (by omega) (fun _ => rfl) ?_) (by unfold rowD; rw [List.map_map]; rfl)) s1.inn fun v2 H2 G2 s2 a2 => ?_
  · intro i G2 x2 hi
    exact ed_modN (ed_toInt (at0 (1 + i) rfl (s1.an.trans x2) (fun G3 x3 => ed_add ed_int (ed_var rfl (.int (i : Int)))) (by omega) (by omega))) (pick 21 rfl (s1.an.trans x2) rfl (by decide)) hm9
  refine d_if (b := decide (6 < turnN D) || decide (D 13 % 2 = 0)) (et_or (et_cmp0 (K := K) (p := fun i j => decide (j < i)) (ed_var rfl (.int _)) ed_int) (fun _ => et_eqI (ed_mod (ed_toInt (at0 13 rfl (s1.an.trans s2.an) (fun _ _ => ed_int) rfl (by decide))) ed_int (by decide)) ed_int)) s2.inn (fun hb H3 e3 => ?_) (fun hb H3 e3 => ?_)
  · refine d_ret (ed_var rfl a2) (s2.inn.trans e3) fun v H4 G4 s4 a4 => q v H4 G4 (((s1.trans s2).trans (Sep.stay s2.inn e3)).trans s4) ?_
    unfold depD
    rw [if_pos]
    · exact a4
    · simpa only [Bool.or_eq_true, decide_eq_true_eq] using hb
  · refine d_ret (ed_cat (ed_var rfl a2) (fun G5 x5 => ed_var rfl (da_ex x5 a2)) (by rw [List.length_map, row_len]; omega)) (s2.inn.trans e3) fun v H4 G4 s4 a4 => q v H4 G4 (((s1.trans s2).trans (Sep.stay s2.inn e3)).trans s4) ?_
    unfold depD
    rw [if_neg]
    · rw [List.map_append]
      exact a4
    · intro z
      rw [Bool.or_eq_false_iff, decide_eq_false_iff_not, decide_eq_false_iff_not] at hb
      rcases z with z | z
      · exact hb.1 z
      · exact hb.2 z
end
end K4

set_option Elab.async false
set_option linter.all false
set_option maxRecDepth 100000
set_option maxHeartbeats 4000000
namespace K4
open PySem PySem.Spec PyProof.Rows L2 Evl Tw
section
variable {P : Program} {w : World} {K : PySem.W.Frag} {mg : Str → Option Value} {base : Heap}
/-! the law -/
theorem tides_in (f : Nat → Bool) : ∀ n, ∀ p ∈ tidesF f n, 0 ≤ p.1 ∧ p.1 ≤ (n : Int) ∧ 0 ≤ p.2 ∧ p.2 ≤ (n : Int)
  | 0, p, h => absurd h List.not_mem_nil
  | n + 1, p, h => by
    have ih := tides_in f n
    unfold tidesF at h
    split at h
    · split at h
      · rename_i h1 h2
        have hpos : 0 < (tidesF f n).length := by
          have e : n - 1 + 1 = n := by omega
          have hp := tides_pos f (n - 1) h2.2
          rw [e] at hp
          exact hp
        have hl : (tidesF f n).getLastD (0, 0) ∈ tidesF f n := by
          rw [List.getLastD_eq_getLast?, List.getLast?_eq_getElem?, List.getElem?_eq_getElem (by omega)]
          exact List.getElem_mem _
        rcases List.mem_or_eq_of_mem_set h with h | h
        · have := ih p h
          omega
        · have := ih _ hl
          rw [h]
          show 0 ≤ ((tidesF f n).getLastD (0, 0)).1 ∧ ((tidesF f n).getLastD (0, 0)).1 ≤ ((n + 1 : Nat) : Int) ∧ 0 ≤ (n : Int) ∧ (n : Int) ≤ ((n + 1 : Nat) : Int)
          omega
      · rcases List.mem_append.mp h with h | h
        · have := ih p h
          omega
        · cases List.mem_singleton.mp h
          show 0 ≤ (n : Int) ∧ (n : Int) ≤ ((n + 1 : Nat) : Int) ∧ 0 ≤ (n : Int) ∧ (n : Int) ≤ ((n + 1 : Nat) : Int)
          omega
    · have := ih p h
      omega
theorem ok_tidesD (f : Nat → Bool) {n : Nat} (hn : n ≤ 1000) : Ok 2 40000 (tidesD f n) := by
  have hl := tides_len f n
  refine ok_list (n := 1) (w := 36) (fun d hd => ?_) (by rw [List.length_map]; omega)
  obtain ⟨p, hp, rfl⟩ := List.mem_map.mp hd
  have := tides_in f n p hp
  exact ok_tup (mem2 (ok_int (by omega) (by omega)) (ok_int (by omega) (by omega))) (by show 2 * 18 ≤ 36; decide)
def rowL (ds : List Int) : List Int := ((List.replicate 100 ds).flatten).take 100
theorem row_get {ds : List Int} (hn : ds ≠ []) {i : Nat} (hi : i < 100) : (rowL ds)[i]? = some (dAt ds i) := by
  have hp : 0 < ds.length := List.length_pos_iff.mpr hn
  unfold rowL
  rw [List.getElem?_take_of_lt hi, rep_get _ _ _ (by omega)]
  have := dAt_lt (ds := ds) (Nat.mod_lt i hp)
  rw [dAt_mod] at this
  exact this
theorem rowL_len {ds : List Int} (hn : ds ≠ []) : (rowL ds).length = 100 := by
  have hp : 0 < ds.length := List.length_pos_iff.mpr hn
  unfold rowL
  rw [List.length_take, rep_len]
  omega
def deepL (ds : List Int) (c : Int) : List Bool := (rowL ds).map fun x => decide (c ≤ x)
theorem deep_len {ds : List Int} {c : Int} (hn : ds ≠ []) : (deepL ds c).length = 100 := by
  unfold deepL
  rw [List.length_map, rowL_len hn]
theorem deep_get {ds : List Int} {c : Int} (hn : ds ≠ []) {i : Nat} (hi : i < 100) : (deepL ds c).getD i false = pass ds c i := by
  unfold deepL
  rw [List.getD_eq_getElem?_getD, List.getElem?_map, row_get hn hi]
  rfl
def geD (c : Int) : PyData → PyData
  | .int i => .bool (decide (c ≤ i))
  | d => d
theorem sc_optD (o : Option Nat) : sc (optD o) = true ∧ scal (vOf (optD o)) (vOf (optD o)) = true := by cases o <;> exact ⟨rfl, rfl⟩
theorem sc_optI (o : Option Int) : sc (optI o) = true ∧ scal (vOf (optI o)) (vOf (optI o)) = true := by cases o <;> exact ⟨rfl, rfl⟩
theorem et_twice {σ : L2.St} {G : Hp} {ta tb tc td : TE} {d : PyData} (hs : sc d = true ∧ scal (vOf d) (vOf d) = true) (ha : ED K ta σ G d) (hb : ED K tb σ G d) (hc : ED K tc σ G d) (hd : ED K td σ G d) :
    EvT (tOr (tTest (tOp rNe ta tb)) (tTest (tOp rNe (tOp (fun x y H Q => y = V.non ∧ Q (.bl (decide (x = .non))) H) tc (tC .non)) (tOp (fun x y H Q => y = V.non ∧ Q (.bl (decide (x = .non))) H) td (tC .non))))) σ G false :=
  et_is (et_or (et_neSc ha hb hs.1 hs.1 hs.2) (fun _ => et_neSc (ed_isN hc) (ed_isN hd) rfl rfl rfl)) (by rw [decide_eq_true rfl, decide_eq_true rfl]; rfl)
def lawLevel : Nat := 5
theorem ok_law (T : Tx K mg) : FnG P w K mg base lawLevel T.f_law T.d_law ["script"] (spLaw K) := by
  refine fnG_of T.F_law sclaw spLaw_len (fun cdv A outer s H vs Q E gg hr h => ?_)
  have hu := hr.units
  obtain ⟨a, ns, rfl, hS, hl, q⟩ := h
  refine ⟨_, (pss_cons (ps_set (i := 1) sclaw.nd rfl (.inl rfl) (pe_call (ok_draws T) hr (by rfl) T.g__law_draws T.F__law_draws.kp T.b__law_draws .nil pass0 (pa_cons (pv 0) (pa_cons pe_int pa_nil))))
    (pss_cons (ps_set (i := 2) sclaw.nd rfl (.inl rfl) (pe_call (ok__law_depths T) hr (by rfl) T.g__law_depths T.F__law_depths.kp T.b__law_depths .nil pass0 (pa_cons (pv 1) pa_nil)))
    (pss_cons (ps_set (i := 3) sclaw.nd rfl (.inl rfl) (pe_tup (pa_cons (pv 2) (pa_cons (pe_lst (pa_cons pe_int pa_nil)) (pa_cons pe_int (pa_cons pe_int (pa_cons pe_int pa_nil)))))))
    (pss_cons (ps_set (i := 4) sclaw.nd rfl (.inl rfl) (pe_callB (reprK K gg hu) (by rfl) T.m_repr (by decide +kernel) (pa_cons (pv 3) pa_nil)))
    (pss_cons (ps_set (i := 5) sclaw.nd rfl (.inr rfl) (pe_op op_mod (pe_callTy call_int1 (by rfl) T.m_int (by decide +kernel) (pa_cons (pe_ix (ixl K) (pv 1) pe_int (fun _ _ => rfl)) pa_nil)) pe_int))
    (pss_cons (ps_set (i := 6) sclaw.nd rfl (.inl rfl) (pe_op op_mod (pe_callTy call_int1 (by rfl) T.m_int (by decide +kernel) (pa_cons (pe_ix (ixl K) (pv 1) pe_int (fun _ _ => rfl)) pa_nil)) pe_int))
    (pss_cons (ps_set (i := 7) sclaw.nd rfl (.inl rfl) (pe_slice (slL K) (pe_op op_rep (pv 2) pe_int) po_none (po_some pe_int)))
    (pss_cons (ps_setLc (i := 8) (own := [("depth", 9)]) (g := gName 9) (tt := tYes) rfl sclaw.nd rfl rfl (sw_true rfl rfl rfl (by decide +kernel)) (pi_listK K (pv 7)) (blkOk_by (N := N_law) (sc := defScope s_law) (by decide +kernel)) (fun _ _ _ _ _ => (pg_name (i := 9) sclaw.nd rfl (.inl rfl))) (fun _ _ _ _ _ => pts_nil) (fun _ _ _ _ _ => (pe_cmpR op_ge (pv 9) (pv 5) (nomark _))))
    (pss_cons (ps_if (PW.pt (pw_or (pt_cmpR op_ne (pe_call (ok_turn_of T) hr (by rfl) T.g_turn_of T.F_turn_of.kp T.b_turn_of .nil pass0 (pa_cons (pv 3) pa_nil)) (pe_call (ok__law_turn T) hr (by rfl) T.g__law_turn T.F__law_turn.kp T.b__law_turn .nil pass0 (pa_cons (pv 2) pa_nil)) (nomark _)) (pw_or1 (pt_cmpR (neDK K hu) (pe_callN (ok_tides T) hr (by rfl) T.g_tides T.F_tides.kp T.b_tides pass0 (pa_cons (pv 3) (pa_cons (pv 5) pa_nil)) (pk_cons (pv 6) pk_nil)) (pe_call (ok__law_tides T) hr (by rfl) T.g__law_tides T.F__law_tides.kp T.b__law_tides .nil pass0 (pa_cons (pe_slice (slL K) (pv 8) po_none (po_some (pe_op op_add (pv 6) pe_int))) pa_nil)) (nomark _))))) (pss_one (ps_ret pe_bl)) pss_nil)
    (pss_cons (ps_for PassesOwn.never rfl (pi_range1 (by rfl) T.m_range (pa_cons pe_int pa_nil)) (pg_name (i := 10) sclaw.nd rfl (.inl rfl))
      (pss_cons (ps_set (i := 11) sclaw.nd rfl (.inl rfl) (pe_call (ok_can_pass T) hr (by rfl) T.g_can_pass T.F_can_pass.kp T.b_can_pass .nil pass0 (pa_cons (pv 3) (pa_cons (pv 5) (pa_cons (pv 10) pa_nil)))))
      (pss_cons (ps_if (PW.pt (pw_or (pt_not (pt_val (pe_callB (isiK K) (by rfl) T.m_isinstance (by decide +kernel) (pa_cons (pv 11) (pa_cons (pe_bltn (v := .ty "bool") (by rfl) T.m_bool (by decide +kernel) rfl) pa_nil))))) (pw_or1 (pt_cmpR op_ne (pv 11) (pe_ix (ixl K) (pv 8) (pv 10) (fun _ _ => rfl)) (nomark _))))) (pss_one (ps_ret pe_bl)) pss_nil)
      (pss_cons (ps_set (i := 12) sclaw.nd rfl (.inl rfl) (pe_call (ok_next_passing T) hr (by rfl) T.g_next_passing T.F_next_passing.kp T.b_next_passing .nil pass0 (pa_cons (pv 3) (pa_cons (pv 5) (pa_cons (pv 10) pa_nil)))))
      (pss_cons (ps_set (i := 13) sclaw.nd rfl (.inl rfl) (pe_call (ok__law_next T) hr (by rfl) T.g__law_next T.F__law_next.kp T.b__law_next .nil pass0 (pa_cons (pv 8) (pa_cons (pv 10) pa_nil))))
      (pss_one (ps_if (PW.pt (pw_or (pt_cmpR op_ne (pv 12) (pv 13) (nomark _)) (pw_or1 (pt_cmpR op_ne (pe_cmpR op_isN (pv 12) pe_non (nomark _)) (pe_cmpR op_isN (pv 13) pe_non (nomark _)) (nomark _))))) (pss_one (ps_ret pe_bl)) pss_nil)))))))
    (pss_cons (ps_set (i := 14) sclaw.nd rfl (.inl rfl) (pe_call (ok_greatest_wait T) hr (by rfl) T.g_greatest_wait T.F_greatest_wait.kp T.b_greatest_wait .nil pass0 (pa_cons (pv 3) (pa_cons (pv 5) pa_nil))))
    (pss_cons (ps_set (i := 13) sclaw.nd rfl (.inl rfl) (pe_call (ok__law_waits T) hr (by rfl) T.g__law_waits T.F__law_waits.kp T.b__law_waits .nil pass0 (pa_cons (pv 8) pa_nil)))
    (pss_cons (ps_if (PW.pt (pw_or (pt_cmpR op_ne (pv 14) (pv 13) (nomark _)) (pw_or1 (pt_cmpR op_ne (pe_cmpR op_isN (pv 14) pe_non (nomark _)) (pe_cmpR op_isN (pv 13) pe_non (nomark _)) (nomark _))))) (pss_one (ps_ret pe_bl)) pss_nil)
    (pss_cons (ps_set (i := 15) sclaw.nd rfl (.inl rfl) (pe_call (ok_greatest_wait T) hr (by rfl) T.g_greatest_wait T.F_greatest_wait.kp T.b_greatest_wait .nil pass0 (pa_cons (pv 3) (pa_cons (pe_op op_add (pv 5) pe_int) pa_nil))))
    (pss_cons (ps_if (PW.pt (pw_and (pt_cmpR op_isN (pv 14) pe_non (nomark _)) (pw_and1 (pt_cmpR op_notN (pv 15) pe_non (nomark _))))) (pss_one (ps_ret pe_bl)) pss_nil)
    (pss_cons (ps_if (PW.pt (pw_and (pt_cmpR op_notN (pv 14) pe_non (nomark _)) (pw_and (pt_cmpR op_notN (pv 15) pe_non (nomark _)) (pw_and1 (pt_cmpR op_lt (pv 15) (pv 14) (nomark _)))))) (pss_one (ps_ret pe_bl)) pss_nil)
    (pss_one (ps_ret (pe_cmpR op_eq (pe_callB (reprK K gg hu) (by rfl) T.m_repr (by decide +kernel) (pa_cons (pv 3) pa_nil)) (pv 4) (nomark _)))))))))))))))))))), ?_⟩
  refine d_draws (n := 25) rfl rfl hS hl (by decide) fun draws p1 H1 dr e1 a1 => ?_
  refine d_asg (ed_call (eda_cons (ed_var rfl a1) fun _ _ => eda_nil) ⟨draws, dr, rfl, rfl⟩) (Ex.refl H1) fun v2 H2 G2 s2 a2 => ?_
  generalize hD : (fun i => draws.getD i 0) = D at a2
  have ix : ∀ {n : Nat}, n < 25 → (draws.map PyData.int)[n]? = some (.int (D n)) := fun {n} hn => by rw [← hD]; exact dr_ix dr hn
  have hlen := dep_len D
  have hok := dep_ok D
  generalize depD D = ds at a2 hlen hok
  have hn : ds ≠ [] := fun z => by
    rw [z] at hlen
    exact absurd hlen.1 (by decide)
  -- the harbour
  refine d_asg (d := Hb ds [.list [.int 5], .int 2, .int 1, .int 20]) (ed_tup (eda_cons (ed_var rfl a2) fun G3 x3 => eda_cons (ed_lst (eda_cons ed_int fun _ _ => eda_nil) (by show 1 ≤ 100000; decide)) fun _ _ => eda_cons ed_int fun _ _ => eda_cons ed_int fun _ _ => eda_cons ed_int fun _ _ => eda_nil) (by show 5 ≤ 100000; decide)) s2.inn fun v3 H3 G3 s3 a3 => ?_
  generalize hrest : [PyData.list [PyData.int 5], PyData.int 2, PyData.int 1, PyData.int 20] = rest at a3
  have okH : Ok 2 2000 (Hb ds rest) := by
    subst hrest
    refine ok_tup (n := 1) (w := 300) (fun d hm => ?_) (by show 5 * 301 ≤ 2000; decide)
    simp only [List.mem_cons, List.not_mem_nil, or_false] at hm
    rcases hm with rfl | rfl | rfl | rfl | rfl
    · exact ok_ints hok (by omega)
    · exact ok_list (n := 0) (w := 17) (fun d hd => by cases List.mem_singleton.mp hd; exact ok_int (by decide) (by decide)) (by decide)
    · exact (ok_int (by decide) (by decide)).mono (by decide) (by decide)
    · exact (ok_int (by decide) (by decide)).mono (by decide) (by decide)
    · exact (ok_int (by decide) (by decide)).mono (by decide) (by decide)
  have rep : ∀ {σ : L2.St} {G : Hp}, σ[3]? = some (some v3) → Ex G3 G → ED K (tCB (rRepr K) (tCons (tVar 3) tNil)) σ G (.str (Hb ds rest).shown) := fun h3 x =>
    ed_reprO (ed_var h3 (da_ex x a3)) ⟨_, .inr rfl⟩ okH (by decide) (by decide)
  refine d_asg (rep rfl (Ex.refl _)) s3.inn fun v4 H4 G4 s4 a4 => ?_
  have m81 : 0 ≤ D 15 % 81 ∧ D 15 % 81 < 81 := ⟨Int.emod_nonneg _ (by decide), Int.emod_lt_of_pos _ (by decide)⟩
  generalize hc : D 14 % 11 = c
  obtain ⟨u, hu1⟩ : ∃ u : Nat, D 15 % 81 = (u : Int) := ⟨(D 15 % 81).toNat, by omega⟩
  have hu81 : u < 81 := by omega
  have x14 : Ex H1 G4 := (s2.an.trans s3.an).trans s4.an
  refine d_asg (d := .int c) (ed_is (ed_mod (ed_toInt (ed_ix (n := 14) (ed_var rfl (da_ex x14 a1)) (fun _ _ => ed_int) rfl (ix (by decide)))) ed_int (by decide)) (by rw [hc])) s4.inn fun v5 H5 G5 s5 a5 => ?_
  cases a5
  refine d_asg (d := .int (u : Int)) (ed_is (ed_mod (ed_toInt (ed_ix (n := 15) (ed_var rfl (da_ex (x14.trans s5.an) a1)) (fun _ _ => ed_int) rfl (ix (by decide)))) ed_int (by decide)) (by rw [hu1])) s5.inn fun v6 H6 G6 s6 a6 => ?_
  cases a6
  have x26 : Ex G2 G6 := ((s3.an.trans s4.an).trans s5.an).trans s6.an
  refine d_asg (d := .list ((rowL ds).map .int)) (ed_is (ed_cut (lo := none) (hi := some ((100 : Nat) : Int)) (ed_rep (ed_var rfl (da_ex x26 a2)) (fun G7 x7 => ed_int (i := 100)) (by decide) (by decide) (by rw [List.length_map]; show ds.length * 100 ≤ 100000; omega)) (fun _ _ => eo_none) (fun _ _ => eo_some ev_c)) ?_) s6.inn fun v7 H7 G7 s7 a7 => ?_
  · have er : (List.replicate (100 : Int).toNat (ds.map PyData.int)).flatten = ((List.replicate 100 ds).flatten).map .int := by
      rw [List.map_flatten, List.map_replicate]
      rfl
    rw [er, cut_to _ (by rw [rep_len]; omega)]
    rfl
  refine d_asg (d := .list ((deepL ds c).map .bool)) (ed_is (ed_lcL (geD c) (ed_var rfl a7) (by rw [List.length_map, rowL_len hn]; decide) (fun _ => rfl) ?_) ?_) s7.inn fun v8 H8 G8 s8 a8 => ?_
  · intro d v G9 hd x9 gd
    obtain ⟨i, _, rfl⟩ := List.mem_map.mp hd
    exact ed_cmp0 (p := fun i j => decide (j ≤ i)) (ed_var rfl gd) (ed_var (v := .int c) rfl (.int _))
  · unfold deepL
    rw [List.map_map, List.map_map]
    rfl
  have hdl := deep_len (c := c) hn
  have x38 : Ex G3 G8 := (((s4.an.trans s5.an).trans s6.an).trans s7.an).trans s8.an
  have x28 : Ex G2 G8 := s3.an.trans x38
  have b2 := da_ex x28 a2
  have b3 := da_ex x38 a3
  have b4 := da_ex (((s5.an.trans s6.an).trans s7.an).trans s8.an) a4
  refine d_if (b := false) (et_is (et_or (et_neSc (ed_call (eda_cons (ed_var rfl b3) fun _ _ => eda_nil) ⟨ds, rest, rfl, hn, hlen.2, hok, rfl⟩) (ed_call (eda_cons (ed_var rfl b2) fun _ _ => eda_nil) ⟨ds, rfl, hn, hlen.2, rfl⟩) rfl rfl rfl) (fun _ =>
    et_neD (ed_callN (eda_cons (ed_var rfl b3) fun _ _ => eda_cons (ed_var (v := .int c) rfl (.int _)) fun _ _ => eda_nil) (fun _ _ => eda_cons (ed_var (v := .int (u : Int)) rfl (.int _)) fun _ _ => eda_nil) rfl rfl ⟨ds, rest, c, u, rfl, hn, by omega, rfl⟩)
      (fun G9 x9 => ed_call (eda_cons (ed_is (ed_cut (lo := none) (hi := some ((u + 1 : Nat) : Int)) (ed_var rfl (da_ex x9 a8)) (fun _ _ => eo_none) (fun _ _ => eo_some (ev_is (ev_int (K := K) (ed_add (ed_var (v := .int (u : Int)) rfl (.int _)) ed_int)) (congrArg V.int (by omega))))) (by rw [cut_to _ (by rw [hdl]; omega)])) fun _ _ => eda_nil) ⟨(deepL ds c).take (u + 1), rfl, by rw [List.length_take]; omega, rfl⟩)
      (ok_tidesD _ (by omega)) (by decide) (ok_tidesD _ (by rw [List.length_take]; omega)) (by decide))) ?_) s8.inn (fun z => nomatch z) fun _ H9 e9 => ?_
  · have et : tidesD (fun i => ((deepL ds c).take (u + 1)).getD i false) ((deepL ds c).take (u + 1)).length = tidesD (pass ds c) (u + 1) := by
      have el : ((deepL ds c).take (u + 1)).length = u + 1 := by
        rw [List.length_take]
        omega
      unfold tidesD
      rw [el]
      congr 2
      apply tides_congr
      intro i hi
      rw [List.getD_eq_getElem?_getD, List.getElem?_take_of_lt hi, ← List.getD_eq_getElem?_getD, deep_get hn (by omega)]
    rw [turn_eq hn hlen.2, et, eqv_same (ok_tidesD (pass ds c) (n := u + 1) (by omega)), decide_eq_true rfl]
    rfl
  have nx : ∀ i, i < 100 → (fun i => (deepL ds c).getD i false) i = pass ds c i := fun i hi => deep_get hn hi
  have x89 := s8.inn.trans e9
  refine d_range (K := K) (n := 60) (G := G8) ed_int x89 (by decide) (fun i σ' H' => ∃ x0 x1 x6 x7 x9 x10 x11 x12 x13 x14 x15, σ' = [x0, x1, some v2, some v3, some v4, some (.int c), x6, x7, some v8, x9, x10, x11, x12, x13, x14, x15] ∧ Ex G8 H') ?_ ?_ ?_
  · intro H10 e10
    exact ⟨_, _, _, _, _, _, _, _, _, _, _, rfl, x89.trans e10⟩
  · rintro i σ' H' hi ⟨x0, x1, x6, x7, x9, x10, x11, x12, x13, x14, x15, rfl, x⟩
    have hi' : i < 60 := by omega
    refine d_asg (ed_call (eda_cons (ed_var rfl b3) fun _ _ => eda_cons (ed_var (v := .int c) rfl (.int _)) fun _ _ => eda_cons (ed_var (v := .int (i : Int)) rfl (.int _)) fun _ _ => eda_nil) ⟨ds, rest, c, i, rfl, hn, rfl⟩) x fun v11 H11 G11 s11 a11 => ?_
    refine d_if (b := false) (et_is (et_or (et_not (et_bool (ed_isi (b := true) (ed_var rfl a11) (show kitB "bool" "bool" = some true by decide +kernel)))) (fun _ => et_neSc (ed_var rfl a11) (ed_ix (ed_var rfl (da_ex s11.an a8)) (fun _ _ => ed_var (v := .int (i : Int)) rfl (.int _)) rfl (bool_ix (by omega))) rfl rfl rfl)) ?_) s11.inn (fun z => nomatch z) fun _ H12 e12 => ?_
    · rw [deep_get hn (by omega), decide_eq_true rfl]
      rfl
    have y12 := s11.inn.trans e12
    refine d_asg (ed_call (eda_cons (ed_var rfl (da_ex s11.an b3)) fun _ _ => eda_cons (ed_var (v := .int c) rfl (.int _)) fun _ _ => eda_cons (ed_var (v := .int (i : Int)) rfl (.int _)) fun _ _ => eda_nil) ⟨ds, rest, c, i, rfl, hn, by omega, rfl⟩) y12 fun v12 H13 G13 s13 a13 => ?_
    refine d_asg (d := optD (nextP ds c i)) (ed_call (eda_cons (ed_var rfl (da_ex (s11.an.trans s13.an) a8)) fun _ _ => eda_cons (ed_var (v := .int (i : Int)) rfl (.int _)) fun _ _ => eda_nil) ⟨deepL ds c, i, rfl, by omega, by omega, by rw [hdl, nextP_eq hn nx (by omega)]⟩) s13.inn fun v13 H14 G14 s14 a14 => ?_
    have c13 := da_ex s14.an a13
    refine d_if1 (b := false) (et_twice (sc_optD _) (ed_var rfl c13) (ed_var rfl a14) (ed_var rfl c13) (ed_var rfl a14)) s14.inn (fun z => nomatch z) fun _ H15 e15 => ?_
    exact ⟨_, _, _, _, _, _, _, _, _, _, _, rfl, (((x.trans s11.up).trans (e12.trans s13.up)).trans s14.up).trans e15⟩
  · rintro σ' H' ⟨x0, x1, x6, x7, x9, x10, x11, x12, x13, x14, x15, rfl, x⟩
    refine d_asg (ed_call (eda_cons (ed_var rfl b3) fun _ _ => eda_cons (ed_var (v := .int c) rfl (.int _)) fun _ _ => eda_nil) ⟨ds, rest, c, rfl, hn, by omega, rfl⟩) x fun v14 H10 G10 s10 a10 => ?_
    refine d_asg (d := optI (gw ds c)) (ed_call (eda_cons (ed_var rfl (da_ex s10.an a8)) fun _ _ => eda_nil) ⟨deepL ds c, rfl, by omega, by rw [hdl, gw_lw hn hlen.2 nx (by decide)]⟩) s10.inn fun v13 H11 G11 s11 a11 => ?_
    have c10 := da_ex s11.an a10
    refine d_if (b := false) (et_twice (sc_optI _) (ed_var rfl c10) (ed_var rfl a11) (ed_var rfl c10) (ed_var rfl a11)) s11.inn (fun z => nomatch z) fun _ H12 e12 => ?_
    have y12 := s11.inn.trans e12
    have x811 := s10.an.trans s11.an
    refine d_asg (ed_call (eda_cons (ed_var rfl (da_ex x811 b3)) fun _ _ => eda_cons (ed_add (ed_var (v := .int c) rfl (.int _)) ed_int) fun _ _ => eda_nil) ⟨ds, rest, c + 1, rfl, hn, by omega, rfl⟩) y12 fun v15 H13 G13 s13 a13 => ?_
    have d10 := da_ex s13.an c10
    have d3 := da_ex (x811.trans s13.an) b3
    have d4 := da_ex (x811.trans s13.an) b4
    refine d_if (b := false) (et_is (et_and (et_isN (ed_var rfl d10)) (fun _ => et_notN (ed_var rfl a13))) ?_) s13.inn (fun z => nomatch z) fun _ H14 e14 => ?_
    · cases hg : gw ds c with
      | none =>
        rw [gw_none hn (by omega) hg]
        rfl
      | some _ => rfl
    have y14 := s13.inn.trans e14
    refine d_if (b := false) (et_is (et_and (b := !isN (optI (gw ds (c + 1))) && false) (et_notN (ed_var rfl d10)) (fun h1 => et_and (b := false) (et_notN (ed_var rfl a13)) (fun h2 => ?_))) ?_) y14 (fun z => nomatch z) fun _ H15 e15 => ?_
    · cases hg : gw ds c with
      | none =>
        rw [hg] at h1
        cases h1
      | some a' =>
        cases hg' : gw ds (c + 1) with
        | none =>
          rw [hg'] at h2
          cases h2
        | some b' =>
          rw [hg] at d10
          rw [hg'] at a13
          have hle := gw_le hn (by omega) hg hg'
          exact et_is (et_cmp0 (p := fun i j => decide (i < j)) (ed_var rfl a13) (ed_var rfl d10)) (decide_eq_false (by omega))
    · rw [Bool.and_false, Bool.and_false]
    refine d_ret (ed_eqS (rep rfl ((x38.trans x811).trans s13.an)) (ed_var rfl d4)) (y14.trans e15) fun v H16 G16 s16 a16 => ?_
    rw [decide_eq_true rfl] at a16
    cases a16
    exact q H16
theorem all_ok {fa : Addr} (T : Tx K mg) (hfa : mg "law" = some (.ref fa)) : ∃ fd : FuncData, (∀ (s : Shared) (v : Value), BindsTo s fd ⟨[v], []⟩ [("script", v)]) ∧ ∀ base : Heap, K.In base → base.Ns mainGlobals mg → FnG P w K mg base lawLevel fa fd ["script"] (spLaw K) := by
  have e := hfa.symm.trans T.g_law
  cases e
  refine ⟨T.d_law, fun s v => ?_, fun base _ _ => ok_law T⟩
  obtain ⟨_, _, _, _, _, _, _, _, _, h, _⟩ := T.F_law.ex
  rw [h]
  exact .of_eq rfl
end
def tx_mk {K : PySem.W.Frag} {h : Heap} {mg : Str → Option Value} (X : K.In h) (G : h.Ns mainGlobals mg)
    {f0 : Addr} {od0 an0 : Option Addr} {sl0 : Array (Option Value)} {oc0 kV0 dc0 pm0 cd0 ct0 : Value}
    (a0 : PySem.W.nsIn K mainGlobals "depth_at" = some (some (.ref f0))) (l0 : K.lookup f0 = some ⟨oc0, od0, .func (PySem.W.fnOf "depth_at" "depth_at" (defArgs s_depth_at) (defBody s_depth_at) (defScope s_depth_at) .none kV0 dc0 pm0 an0 cd0 ct0), sl0⟩) (c0 : PySem.W.codeIn K cd0 "depth_at" = true) (k0 : PySem.W.keepIn K (.ref f0) = true)
    {f1 : Addr} {od1 an1 : Option Addr} {sl1 : Array (Option Value)} {oc1 kV1 dc1 pm1 cd1 ct1 : Value}
    (a1 : PySem.W.nsIn K mainGlobals "can_pass" = some (some (.ref f1))) (l1 : K.lookup f1 = some ⟨oc1, od1, .func (PySem.W.fnOf "can_pass" "can_pass" (defArgs s_can_pass) (defBody s_can_pass) (defScope s_can_pass) .none kV1 dc1 pm1 an1 cd1 ct1), sl1⟩) (c1 : PySem.W.codeIn K cd1 "can_pass" = true) (k1 : PySem.W.keepIn K (.ref f1) = true)
    {f2 : Addr} {od2 an2 : Option Addr} {sl2 : Array (Option Value)} {oc2 kV2 dc2 pm2 cd2 ct2 : Value}
    (a2 : PySem.W.nsIn K mainGlobals "tides" = some (some (.ref f2))) (l2 : K.lookup f2 = some ⟨oc2, od2, .func (PySem.W.fnOf "tides" "tides" (defArgs s_tides) (defBody s_tides) (defScope s_tides) .none kV2 dc2 pm2 an2 cd2 ct2), sl2⟩) (c2 : PySem.W.codeIn K cd2 "tides" = true) (k2 : PySem.W.keepIn K (.ref f2) = true)
    {f3 : Addr} {od3 an3 : Option Addr} {sl3 : Array (Option Value)} {oc3 kV3 dc3 pm3 cd3 ct3 : Value}
    (a3 : PySem.W.nsIn K mainGlobals "next_passing" = some (some (.ref f3))) (l3 : K.lookup f3 = some ⟨oc3, od3, .func (PySem.W.fnOf "next_passing" "next_passing" (defArgs s_next_passing) (defBody s_next_passing) (defScope s_next_passing) .none kV3 dc3 pm3 an3 cd3 ct3), sl3⟩) (c3 : PySem.W.codeIn K cd3 "next_passing" = true) (k3 : PySem.W.keepIn K (.ref f3) = true)
    {f4 : Addr} {od4 an4 : Option Addr} {sl4 : Array (Option Value)} {oc4 kV4 dc4 pm4 cd4 ct4 : Value}
    (a4 : PySem.W.nsIn K mainGlobals "turn_of" = some (some (.ref f4))) (l4 : K.lookup f4 = some ⟨oc4, od4, .func (PySem.W.fnOf "turn_of" "turn_of" (defArgs s_turn_of) (defBody s_turn_of) (defScope s_turn_of) .none kV4 dc4 pm4 an4 cd4 ct4), sl4⟩) (c4 : PySem.W.codeIn K cd4 "turn_of" = true) (k4 : PySem.W.keepIn K (.ref f4) = true)
    {f5 : Addr} {od5 an5 : Option Addr} {sl5 : Array (Option Value)} {oc5 kV5 dc5 pm5 cd5 ct5 : Value}
    (a5 : PySem.W.nsIn K mainGlobals "greatest_wait" = some (some (.ref f5))) (l5 : K.lookup f5 = some ⟨oc5, od5, .func (PySem.W.fnOf "greatest_wait" "greatest_wait" (defArgs s_greatest_wait) (defBody s_greatest_wait) (defScope s_greatest_wait) .none kV5 dc5 pm5 an5 cd5 ct5), sl5⟩) (c5 : PySem.W.codeIn K cd5 "greatest_wait" = true) (k5 : PySem.W.keepIn K (.ref f5) = true)
    {f6 : Addr} {od6 an6 : Option Addr} {sl6 : Array (Option Value)} {oc6 kV6 dc6 pm6 cd6 ct6 : Value}
    (a6 : PySem.W.nsIn K mainGlobals "_law_draws" = some (some (.ref f6))) (l6 : K.lookup f6 = some ⟨oc6, od6, .func (PySem.W.fnOf "_law_draws" "_law_draws" (defArgs s__law_draws) (defBody s__law_draws) (defScope s__law_draws) .none kV6 dc6 pm6 an6 cd6 ct6), sl6⟩) (c6 : PySem.W.codeIn K cd6 "_law_draws" = true) (k6 : PySem.W.keepIn K (.ref f6) = true)
    {f7 : Addr} {od7 an7 : Option Addr} {sl7 : Array (Option Value)} {oc7 kV7 dc7 pm7 cd7 ct7 : Value}
    (a7 : PySem.W.nsIn K mainGlobals "_law_depths" = some (some (.ref f7))) (l7 : K.lookup f7 = some ⟨oc7, od7, .func (PySem.W.fnOf "_law_depths" "_law_depths" (defArgs s__law_depths) (defBody s__law_depths) (defScope s__law_depths) .none kV7 dc7 pm7 an7 cd7 ct7), sl7⟩) (c7 : PySem.W.codeIn K cd7 "_law_depths" = true) (k7 : PySem.W.keepIn K (.ref f7) = true)
    {f8 : Addr} {od8 an8 : Option Addr} {sl8 : Array (Option Value)} {oc8 kV8 dc8 pm8 cd8 ct8 : Value}
    (a8 : PySem.W.nsIn K mainGlobals "_law_next" = some (some (.ref f8))) (l8 : K.lookup f8 = some ⟨oc8, od8, .func (PySem.W.fnOf "_law_next" "_law_next" (defArgs s__law_next) (defBody s__law_next) (defScope s__law_next) .none kV8 dc8 pm8 an8 cd8 ct8), sl8⟩) (c8 : PySem.W.codeIn K cd8 "_law_next" = true) (k8 : PySem.W.keepIn K (.ref f8) = true)
    {f9 : Addr} {od9 an9 : Option Addr} {sl9 : Array (Option Value)} {oc9 kV9 dc9 pm9 cd9 ct9 : Value}
    (a9 : PySem.W.nsIn K mainGlobals "_law_tides" = some (some (.ref f9))) (l9 : K.lookup f9 = some ⟨oc9, od9, .func (PySem.W.fnOf "_law_tides" "_law_tides" (defArgs s__law_tides) (defBody s__law_tides) (defScope s__law_tides) .none kV9 dc9 pm9 an9 cd9 ct9), sl9⟩) (c9 : PySem.W.codeIn K cd9 "_law_tides" = true) (k9 : PySem.W.keepIn K (.ref f9) = true)
    {f10 : Addr} {od10 an10 : Option Addr} {sl10 : Array (Option Value)} {oc10 kV10 dc10 pm10 cd10 ct10 : Value}
    (a10 : PySem.W.nsIn K mainGlobals "_law_waits" = some (some (.ref f10))) (l10 : K.lookup f10 = some ⟨oc10, od10, .func (PySem.W.fnOf "_law_waits" "_law_waits" (defArgs s__law_waits) (defBody s__law_waits) (defScope s__law_waits) .none kV10 dc10 pm10 an10 cd10 ct10), sl10⟩) (c10 : PySem.W.codeIn K cd10 "_law_waits" = true) (k10 : PySem.W.keepIn K (.ref f10) = true)
    {f11 : Addr} {od11 an11 : Option Addr} {sl11 : Array (Option Value)} {oc11 kV11 dc11 pm11 cd11 ct11 : Value}
    (a11 : PySem.W.nsIn K mainGlobals "_law_turn" = some (some (.ref f11))) (l11 : K.lookup f11 = some ⟨oc11, od11, .func (PySem.W.fnOf "_law_turn" "_law_turn" (defArgs s__law_turn) (defBody s__law_turn) (defScope s__law_turn) .none kV11 dc11 pm11 an11 cd11 ct11), sl11⟩) (c11 : PySem.W.codeIn K cd11 "_law_turn" = true) (k11 : PySem.W.keepIn K (.ref f11) = true)
    {f12 : Addr} {od12 an12 : Option Addr} {sl12 : Array (Option Value)} {oc12 kV12 dc12 pm12 cd12 ct12 : Value}
    (a12 : PySem.W.nsIn K mainGlobals "law" = some (some (.ref f12))) (l12 : K.lookup f12 = some ⟨oc12, od12, .func (PySem.W.fnOf "law" "law" (defArgs s_law) (defBody s_law) (defScope s_law) .none kV12 dc12 pm12 an12 cd12 ct12), sl12⟩) (c12 : PySem.W.codeIn K cd12 "law" = true) (k12 : PySem.W.keepIn K (.ref f12) = true)
    (z0 : PySem.W.nsIn K mainGlobals "len" = some none)
    (z1 : PySem.W.nsIn K mainGlobals "int" = some none)
    (z2 : PySem.W.nsIn K mainGlobals "range" = some none)
    (z3 : PySem.W.nsIn K mainGlobals "repr" = some none)
    (z4 : PySem.W.nsIn K mainGlobals "isinstance" = some none)
    (z5 : PySem.W.nsIn K mainGlobals "max" = some none)
    (z6 : PySem.W.nsIn K mainGlobals "all" = some none)
    (z7 : PySem.W.nsIn K mainGlobals "bool" = some none) : Tx K mg where
  f_depth_at := _
  d_depth_at := _
  F_depth_at := fun_mk (st := s_depth_at) l0 c0 k0
  g_depth_at := PySem.W.mg_of X G a0
  b_depth_at := (fun_mk (st := s_depth_at) l0 c0 k0).binds fun _ _ _ _ _ _ us hl => match us, hl with | [_, _], _ => rfl
  f_can_pass := _
  d_can_pass := _
  F_can_pass := fun_mk (st := s_can_pass) l1 c1 k1
  g_can_pass := PySem.W.mg_of X G a1
  b_can_pass := (fun_mk (st := s_can_pass) l1 c1 k1).binds fun _ _ _ _ _ _ us hl => match us, hl with | [_, _, _], _ => rfl
  f_tides := _
  d_tides := _
  F_tides := fun_mk (st := s_tides) l2 c2 k2
  g_tides := PySem.W.mg_of X G a2
  b_tides := Tw.kbn_mk (fun_mk (st := s_tides) l2 c2 k2) fun _ _ _ _ _ _ us ws h1 h2 => match us, ws, h1, h2 with | [_, _], [_], _, _ => rfl
  f_next_passing := _
  d_next_passing := _
  F_next_passing := fun_mk (st := s_next_passing) l3 c3 k3
  g_next_passing := PySem.W.mg_of X G a3
  b_next_passing := (fun_mk (st := s_next_passing) l3 c3 k3).binds fun _ _ _ _ _ _ us hl => match us, hl with | [_, _, _], _ => rfl
  f_turn_of := _
  d_turn_of := _
  F_turn_of := fun_mk (st := s_turn_of) l4 c4 k4
  g_turn_of := PySem.W.mg_of X G a4
  b_turn_of := (fun_mk (st := s_turn_of) l4 c4 k4).binds fun _ _ _ _ _ _ us hl => match us, hl with | [_], _ => rfl
  f_greatest_wait := _
  d_greatest_wait := _
  F_greatest_wait := fun_mk (st := s_greatest_wait) l5 c5 k5
  g_greatest_wait := PySem.W.mg_of X G a5
  b_greatest_wait := (fun_mk (st := s_greatest_wait) l5 c5 k5).binds fun _ _ _ _ _ _ us hl => match us, hl with | [_, _], _ => rfl
  f__law_draws := _
  d__law_draws := _
  F__law_draws := fun_mk (st := s__law_draws) l6 c6 k6
  g__law_draws := PySem.W.mg_of X G a6
  b__law_draws := (fun_mk (st := s__law_draws) l6 c6 k6).binds fun _ _ _ _ _ _ us hl => match us, hl with | [_, _], _ => rfl
  f__law_depths := _
  d__law_depths := _
  F__law_depths := fun_mk (st := s__law_depths) l7 c7 k7
  g__law_depths := PySem.W.mg_of X G a7
  b__law_depths := (fun_mk (st := s__law_depths) l7 c7 k7).binds fun _ _ _ _ _ _ us hl => match us, hl with | [_], _ => rfl
  f__law_next := _
  d__law_next := _
  F__law_next := fun_mk (st := s__law_next) l8 c8 k8
  g__law_next := PySem.W.mg_of X G a8
  b__law_next := (fun_mk (st := s__law_next) l8 c8 k8).binds fun _ _ _ _ _ _ us hl => match us, hl with | [_, _], _ => rfl
  f__law_tides := _
  d__law_tides := _
  F__law_tides := fun_mk (st := s__law_tides) l9 c9 k9
  g__law_tides := PySem.W.mg_of X G a9
  b__law_tides := (fun_mk (st := s__law_tides) l9 c9 k9).binds fun _ _ _ _ _ _ us hl => match us, hl with | [_], _ => rfl
  f__law_waits := _
  d__law_waits := _
  F__law_waits := fun_mk (st := s__law_waits) l10 c10 k10
  g__law_waits := PySem.W.mg_of X G a10
  b__law_waits := (fun_mk (st := s__law_waits) l10 c10 k10).binds fun _ _ _ _ _ _ us hl => match us, hl with | [_], _ => rfl
  f__law_turn := _
  d__law_turn := _
  F__law_turn := fun_mk (st := s__law_turn) l11 c11 k11
  g__law_turn := PySem.W.mg_of X G a11
  b__law_turn := (fun_mk (st := s__law_turn) l11 c11 k11).binds fun _ _ _ _ _ _ us hl => match us, hl with | [_], _ => rfl
  f_law := _
  d_law := _
  F_law := fun_mk (st := s_law) l12 c12 k12
  g_law := PySem.W.mg_of X G a12
  b_law := (fun_mk (st := s_law) l12 c12 k12).binds fun _ _ _ _ _ _ us hl => match us, hl with | [_], _ => rfl
  m_len := PySem.W.mg_none_of X G z0
  m_int := PySem.W.mg_none_of X G z1
  m_range := PySem.W.mg_none_of X G z2
  m_repr := PySem.W.mg_none_of X G z3
  m_isinstance := PySem.W.mg_none_of X G z4
  m_max := PySem.W.mg_none_of X G z5
  m_all := PySem.W.mg_none_of X G z6
  m_bool := PySem.W.mg_none_of X G z7
end K4
open PySem PySem.W PyProof.Rows
set_option maxHeartbeats 0 in
theorem PySem.Challenge.cw_tidewaits_k04_tides_and_passings_holds : PySem.Challenge.rw_tidewaits_k04_tides_and_passings.Holds := by
  w_on; o_law; k_head; (case hw => w_witness2)
  k_fill
  refine Tw.walk_G (l := PySem.Challenge.rw_tidewaits_k04_tides_and_passings) (n := 63) (k := K4.lawLevel) (x := "script") (sp := Tw.spLaw) rfl (by decide) rfl ⟨rfl, by decide, by decide⟩ (fun w h Y => PySem.W.kIn_of Y) ?F (fun _ _ _ _ hl hS => ⟨_, _, rfl, hS, hl, fun _ => rfl⟩)
  case F =>
    intro w mg fa h KX G hmg
    refine' K4.all_ok (K4.tx_mk KX G ?a0 ?l0 ?c0 ?k0 ?a1 ?l1 ?c1 ?k1 ?a2 ?l2 ?c2 ?k2 ?a3 ?l3 ?c3 ?k3 ?a4 ?l4 ?c4 ?k4 ?a5 ?l5 ?c5 ?k5 ?a6 ?l6 ?c6 ?k6 ?a7 ?l7 ?c7 ?k7 ?a8 ?l8 ?c8 ?k8 ?a9 ?l9 ?c9 ?k9 ?a10 ?l10 ?c10 ?k10 ?a11 ?l11 ?c11 ?k11 ?a12 ?l12 ?c12 ?k12 ?z0 ?z1 ?z2 ?z3 ?z4 ?z5 ?z6 ?z7) hmg
    (case a0 => k_is); (case l0 => k_is); (case c0 => k_is); (case k0 => k_is); (case a1 => k_is); (case l1 => k_is); (case c1 => k_is); (case k1 => k_is); (case a2 => k_is); (case l2 => k_is); (case c2 => k_is); (case k2 => k_is); (case a3 => k_is); (case l3 => k_is); (case c3 => k_is); (case k3 => k_is); (case a4 => k_is); (case l4 => k_is); (case c4 => k_is); (case k4 => k_is); (case a5 => k_is); (case l5 => k_is); (case c5 => k_is); (case k5 => k_is); (case a6 => k_is); (case l6 => k_is); (case c6 => k_is); (case k6 => k_is); (case a7 => k_is); (case l7 => k_is); (case c7 => k_is); (case k7 => k_is); (case a8 => k_is); (case l8 => k_is); (case c8 => k_is); (case k8 => k_is); (case a9 => k_is); (case l9 => k_is); (case c9 => k_is); (case k9 => k_is); (case a10 => k_is); (case l10 => k_is); (case c10 => k_is); (case k10 => k_is); (case a11 => k_is); (case l11 => k_is); (case c11 => k_is); (case k11 => k_is); (case a12 => k_is); (case l12 => k_is); (case c12 => k_is); (case k12 => k_is); (case z0 => k_is); (case z1 => k_is); (case z2 => k_is); (case z3 => k_is); (case z4 => k_is); (case z5 => k_is); (case z6 => k_is); (case z7 => k_is)

