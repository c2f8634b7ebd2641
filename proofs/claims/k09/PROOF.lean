import PyProof.Rows.All
import Wide.All
import OpenK.AllK
import Wide.FinOn
import HandS.ForMost
import HandS.Evl
import HandS.Zip
import HandS.RaiseMore
import PyProof.ReprRoads
import PySem.Challenge.RW_tidewaits_k09_harbours_are_written
set_option Elab.async false
set_option linter.all false
set_option maxRecDepth 100000
set_option maxHeartbeats 4000000
namespace Tw
open PySem PySem.Spec PyProof.Rows L2 Evl
/-! data that stays -/
mutual
theorem dp_ex {K : PySem.W.Frag} {H H' : Hp} (e : Ex H H') : ∀ {v : V} {d : PyData}, Dp K H v d → Dp K H' v d
  | _, _, .non => .non
  | _, _, .bl b => .bl b
  | _, _, .int i => .int i
  | _, _, .str x => .str x
  | _, _, .lst h a => .lst (ex_l e h) (dpa_ex e a)
  | _, _, .tup h a => .tup (ex_t e h) (dpa_ex e a)
theorem dpa_ex {K : PySem.W.Frag} {H H' : Hp} (e : Ex H H') : ∀ {vs : List V} {ds : List PyData}, DpAll K H vs ds → DpAll K H' vs ds
  | _, _, .nil => .nil
  | _, _, .cons h a => .cons (dp_ex e h) (dpa_ex e a)
end
/-! repr of data -/
section
variable {X : Cx}
def rRepr (K : PySem.W.Frag) : List V → Hp → VK → Prop := fun xs H Q => ∃ (a : Addr) (d : PyData), xs = [.ref a] ∧ Dp K H (.ref a) d ∧ d.showable = true ∧ d.hasDict = false ∧ d.depth ≤ 60 ∧ d.shown.length ≤ sizeLine ∧ Q (.str d.shown) H
theorem call_repr (hg : X.A.guards = some []) (hu : X.A.units + 64 < cLine) : CallR X (.builtin "repr") (rRepr X.K) := by
  intro pins s σ H xs us Q I r h
  obtain ⟨a, d, rfl, hd, hs, hn, hz, hl, q⟩ := h
  cases r with
  | cons r1 r2 =>
    cases r2
    cases r1
    obtain ⟨as, rd⟩ := Dp.reads I d _ _ hd rfl
    exact repr_of_reads' rd hs (PyData.noDict_hsm hn) hg (by omega) (fun _ _ e => e) (fun h' u tk hk => ⟨.str d.shown, H, I.kept hk, ⟨u, rfl⟩, q⟩) hl
end
end Tw

set_option Elab.async false
set_option linter.all false
set_option maxRecDepth 100000
set_option maxHeartbeats 4000000
namespace Tw
open PySem PySem.Spec PyProof.Rows L2 Evl
/-! a def's promise where no repr is under way -/
structure FnG (P : Program) (w : World) (K : PySem.W.Frag) (mg : Str → Option Value) (base : Heap) (k : Nat) (f : Addr) (fd : FuncData) (ps : List Str) (sp : Sp) : Prop where
  len : ∀ vs H Q E, sp vs H Q E → vs.length = ps.length
  run : ∀ (A : Around) (outer : List Env) (s : Shared) (H : Hp) (args : Args) (us : List Value) (vs : List V) (Q : VK) (E : XK), A.guards = some [] → Room k A →
    Env0 P w K mg base A outer s H → BindsTo s fd args (ps.zip us) → Vals vs us → sp vs H Q E →
    codeAny (model P w) A (.call (.ref f) args) (CR CX0 outer P w H s Q E) s
theorem fnG_of {P : Program} {w : World} {K : PySem.W.Frag} {mg : Str → Option Value} {base : Heap} {x qual : Str} {st : Stmt} {f : Addr} {fd : FuncData} {N ps : List Str} {k : Nat} {sp : Sp}
    (F : Fun K x qual st f fd) (S : FnScope N ps (defScope st)) (len : ∀ vs H Q E, sp vs H Q E → vs.length = ps.length)
    (body : ∀ (cdv : Value) (A : Around) (outer : List Env) (s : Shared) (H : Hp) (vs : List V) (Q : VK) (E : XK), A.guards = some [] → Room k (A.deeper (envOfC qual (defScope st) s.heap.objs.size f cdv)) → sp vs H Q E →
      ∃ t, PSs (cxOf CX0 P w K mg base N qual (defScope st) f cdv A outer s H E).nox (defBody st) t ∧ t { nx := fun _ H' => Q .non H', rt := Q } (start N vs) H) :
    FnG P w K mg base (k + 1) f fd ps sp := by
  obtain ⟨_, _, _, _, _, _, cdv, _, _, rfl, lk, hcd⟩ := F.ex
  constructor
  · exact len
  intro A outer s H args us vs Q E gd room e0 bt rv hq
  have lenV := len _ _ _ _ hq
  have kin : K.In s.heap := by
    have h := e0.mod.kin
    exact h.keeps fun c u z => (e0.bs c u z).1
  have nol : s.heap.NoLimit := by
    have h := e0.mod.nolimit
    exact h.keeps fun c u z => (e0.bs c u z).1
  have kinds : ∀ y ∈ ps.zip us, (defScope st).names.lookup y.1 = some .local ∨
      ((defScope st).names.lookup y.1 = some .cell ∧ ((cellsFrom (s.heap.objs.size + 1) (defScope st).names []).lookup y.1).isSome = true) := by
    rintro ⟨n, u⟩ hy
    have hn := (List.of_mem_zip hy).1
    cases S.par n hn with
    | inl h => exact .inl h
    | inr h => exact .inr ⟨h, PySem.W.cellsFrom_some _ _ _ (.inl h)⟩
  refine codeAny_call_function room.depth (kin _ _ lk) rfl S.co S.gen rfl
    (PySem.W.codeRec_of kin hcd) (bt _ _ _ _ ?_)
  refine wpAny_newFunctionEnv_cells S.kind kinds ?_
  intro env he s1 inc
  cases he
  refine ⟨nol.keeps inc.toInCall.keep, codeAny_func ?_⟩
  obtain ⟨t, ht', hb⟩ := body cdv A outer s H vs Q E gd (room.deeper _) hq
  have ht := ht'.nox
  have J := inv_start (CX := CX0) (E := E) S room.hd e0 lenV rv inc
  have goal := ht.run [] s1 (start N vs) H _ J hb
  refine wpAny_mono goal ?_ ?_
  · intro fl s' hs
    cases fl with
    | ret u =>
      obtain ⟨v, σ', H', I, r, q⟩ := hs
      exact ⟨v, H', I.os, I.bare, I.base, I.hok, r, q⟩
    | next =>
      obtain ⟨σ', H', I, q⟩ := hs
      exact ⟨.non, H', I.os, I.bare, I.base, I.hok, rfl, q⟩
    | brk =>
      obtain ⟨_, _, _, q⟩ := hs
      exact q.elim
    | cont =>
      obtain ⟨_, _, _, q⟩ := hs
      exact q.elim
  · intro e s' hs
    exact hs
theorem law_callG {P : Program} {w : World} {K : PySem.W.Frag} {mg mb : Str → Option Value} {k : Nat} {fa a : Addr} {fd : FuncData} {x : Str} {sp : Sp} {s₁ : Shared} {vs : List Value} {ns : List Int}
    (KX : K.In s₁.heap) (gl : s₁.heap.Ns mainGlobals mg) (bl : s₁.heap.Ns builtinsNs mb) (bb : ∀ x : Str, x ≠ "__name__" → mb x = bootBuiltins x) (nl : s₁.heap.NoLimit) (ng : s₁.gens = #[])
    (ha : s₁.heap.get? a = some { cls := .type "list", data := .seq vs.toArray }) (hi : IntsAre vs ns) (hl : ns.length ≤ sizeLine) (room : Room k callerA)
    (F : ∀ base : Heap, K.In base → base.Ns mainGlobals mg → FnG P w K mg base k fa fd [x] sp) (bt : ∀ (s : Shared) (u : Value), BindsTo s fd ⟨[u], []⟩ [(x, u)])
    (hsp : ∀ H : Hp, SqL K H a (ns.map V.int) → sp [.ref a] H (fun v _ => v = .bl true) fun _ _ _ => False) :
    codeAny (model P w) callerA (.call (.ref fa) ⟨[.ref a], []⟩) (fun r s' => r = .ok (.ret (.bool true)) ∧ OldK s₁.heap s'.heap ∧ s'.os = s₁.os ∧ AllBare s'.gens) s₁ := by
  have rv := vals_ints hi
  have lenV := hi.length
  have main : ∀ H : Hp, Only H → SqL K H a (ns.map V.int) → HOk P w H s₁.heap → (∀ b, H b ≠ none → b = a) → (H a ≠ none → K.lookup a = none) →
      codeAny (model P w) callerA (.call (.ref fa) ⟨[.ref a], []⟩) (fun r s' => r = .ok (.ret (.bool true)) ∧ OldK s₁.heap s'.heap ∧ s'.os = s₁.os ∧ AllBare s'.gens) s₁ := by
    intro H only sq hok onlyA notK
    have hide : ∀ {b : Addr} {m : Str → Option Value}, s₁.heap.Ns b m → (hidT s₁.heap H).Ns b m := by
      rintro b m ⟨o, es, ep, e1, e2, r⟩
      refine ⟨o, es, ep, hidT_get e1 ?_, e2, r⟩
      cases q : H b with
      | none => rfl
      | some u =>
        have eb : b = a := onlyA b (by rw [q]; exact Option.some_ne_none u)
        subst eb
        rw [ha] at e1
        cases e1
        cases e2
    have kinB : K.In (hidT s₁.heap H) := by
      intro b o e
      refine hidT_get (KX b o e) ?_
      cases q : H b with
      | none => rfl
      | some u =>
        have eb : b = a := onlyA b (by rw [q]; exact Option.some_ne_none u)
        subst eb
        have := notK (by rw [q]; exact Option.some_ne_none u)
        rw [this] at e
        cases e
    obtain ⟨mc, c1, c2⟩ := nl
    have md : Mod K mg (hidT s₁.heap H) := ⟨kinB, hide gl, ⟨mb, hide bl, bb⟩, ⟨mc, hide c1, c2⟩⟩
    have env : Env0 P w K mg (hidT s₁.heap H) callerA [] s₁ H := by
      refine ⟨rfl, md, fun b o e => of_hidT e, Nat.le_of_eq (hidT_size _ _), trivial, ?_, hok, .of_eq ng⟩
      intro b hb
      exact absurd (show b ∈ ([] : List Addr) from hb) List.not_mem_nil
    have FF := F _ kinB (hide gl)
    have go := FF.run callerA [] s₁ H ⟨[.ref a], []⟩ [.ref a] [.ref a] _ _ rfl room env (bt s₁ (.ref a)) (.cons rfl .nil) (hsp H sq)
    refine codeAny_mono go ?_
    intro r s' hr
    match r, hr with
    | .error e, hr => exact False.elim hr
    | .ok .next, hr => exact False.elim hr
    | .ok .brk, hr => exact False.elim hr
    | .ok .cont, hr => exact False.elim hr
    | .ok (.ret u), hr =>
      obtain ⟨v, H', os, bare, un, hok', r', q⟩ := hr
      cases (show v = .bl true from q)
      cases (show u = Value.bool true from r')
      refine ⟨rfl, OldK.of_keep ?_, os, bare⟩
      intro b o e
      cases q : H b with
      | none => exact un.keep b o e q (fun z => absurd (show b ∈ ([] : List Addr) from z) List.not_mem_nil) (fun z => absurd z List.not_mem_nil)
      | some u =>
        rcases only b with z | ⟨ob, xs, z⟩
        · rw [q] at z
          cases z
        · obtain ⟨e1, _⟩ := hok b _ z
          obtain ⟨e2, _⟩ := hok' b _ (un.frzs b ob _ z)
          rw [e] at e1
          cases e1
          exact e2
  cases hk : K.lookup a with
  | some o =>
    have e := KX a o hk
    rw [ha] at e
    cases e
    refine main (fun _ => none) (fun _ => .inl rfl) (.inr ⟨_, vs.toArray, _, hk, rfl, rfl, rfl, ?_, by simpa using rv⟩) (fun b u z => by cases z) (fun b z => absurd rfl z) fun z => absurd rfl z
    rw [List.size_toArray, lenV]
    exact hl
  | none =>
    let Ha : Hp := fun b => if b = a then some (.frz { cls := .type "list", data := .seq vs.toArray } (.lst (ns.map V.int))) else none
    have at_a : Ha a = some (.frz { cls := .type "list", data := .seq vs.toArray } (.lst (ns.map V.int))) := if_pos rfl
    have off : ∀ b, b ≠ a → Ha b = none := fun b hb => if_neg hb
    refine main Ha ?_ (.inl (.inr ⟨_, at_a⟩)) ?_ ?_ fun _ => hk
    · intro b
      by_cases hb : b = a
      · subst hb
        exact .inr ⟨_, _, at_a⟩
      · exact .inl (off b hb)
    · intro b u z
      by_cases hb : b = a
      · subst hb
        rw [at_a] at z
        cases z
        exact ⟨ha, by rw [List.length_map]; exact hl, vs, _, rv, ha⟩
      · rw [off b hb] at z
        cases z
    · intro b z
      by_cases hb : b = a
      · exact hb
      · exact absurd (off b hb) z
theorem walk_G {l : PySem.W.OpenLaw} {n k : Nat} {q : Program} {loose : List Str} {XP : (Str → Option Value) → Heap → Prop} {YP : World → Heap → Prop} {d : DefRec} {K : Params → PySem.W.Frag} {sp : PySem.W.Frag → Sp} {x : Str}
    (hn : l.most = some n) (hn2 : n ≤ sizeLine) (hdf : d.params.defaults = []) (room : Room k callerA) (hY : ∀ (w : World) (h : Heap), YP w h → (K w.params).In h)
    (F : ∀ (w : World) (mg : Str → Option Value) (fa : Addr) (h : Heap), (K w.params).In h → h.Ns mainGlobals mg → mg d.name = some (.ref fa) →
      ∃ fd : FuncData, (∀ (s : Shared) (u : Value), BindsTo s fd ⟨[u], []⟩ [(x, u)]) ∧
        ∀ base : Heap, (K w.params).In base → base.Ns mainGlobals mg → FnG l.prog w (K w.params) mg base k fa fd [x] (sp (K w.params)))
    (hsp : ∀ (K : PySem.W.Frag) (H : Hp) (a : Addr) (ns : List Int), ns.length ≤ n → SqL K H a (ns.map V.int) → sp K [.ref a] H (fun v _ => v = .bl true) fun _ _ _ => False) :
    PySem.W.WalkO q loose XP YP l.row.toRowW d [] (fun f vs => PySem.call f vs) := by
  refine Att.attach_call hn hdf ?_
  intro w s₀ s₁ mg mb fa o pm cd doc a vs ns G Y ho hd hcd hmg hobj hints hlen hg
  have KX := hY w _ Y
  obtain ⟨fd, hb, hF⟩ := F w mg fa _ KX G.T.g hmg
  exact law_callG KX G.T.g G.T.b G.T.builtins G.T.nolimit hg hobj hints (Nat.le_trans hlen hn2) room hF hb fun H hS => hsp _ H a ns hlen hS
end Tw

set_option Elab.async false
set_option linter.all false
set_option maxRecDepth 100000
set_option maxHeartbeats 4000000
namespace Tw
open PySem PySem.Spec PyProof.Rows L2 Evl
/-! data, its lists plain -/
mutual
inductive Da (K : PySem.W.Frag) (H : Hp) : V → PyData → Prop
  | non : Da K H .non .none
  | bl (b : Bool) : Da K H (.bl b) (.bool b)
  | int (i : Int) : Da K H (.int i) (.int i)
  | str (x : Str) : Da K H (.str x) (.str x)
  | lst {a : Addr} {xs : List V} {ds : List PyData} : H a = some (.lst xs) → DaAll K H xs ds → Da K H (.ref a) (.list ds)
  | tup {a : Addr} {xs : List V} {ds : List PyData} : SqT K H a xs → DaAll K H xs ds → Da K H (.ref a) (.tuple ds)
inductive DaAll (K : PySem.W.Frag) (H : Hp) : List V → List PyData → Prop
  | nil : DaAll K H [] []
  | cons {v : V} {vs : List V} {d : PyData} {ds : List PyData} : Da K H v d → DaAll K H vs ds → DaAll K H (v :: vs) (d :: ds)
end
section
variable {K : PySem.W.Frag} {H H' : Hp}
mutual
theorem da_ex (e : Ex H H') : ∀ {v : V} {d : PyData}, Da K H v d → Da K H' v d
  | _, _, .non => .non
  | _, _, .bl b => .bl b
  | _, _, .int i => .int i
  | _, _, .str x => .str x
  | _, _, .lst h a => .lst (e _ _ h) (daa_ex e a)
  | _, _, .tup h a => .tup (ex_t e h) (daa_ex e a)
theorem daa_ex (e : Ex H H') : ∀ {vs : List V} {ds : List PyData}, DaAll K H vs ds → DaAll K H' vs ds
  | _, _, .nil => .nil
  | _, _, .cons h a => .cons (da_ex e h) (daa_ex e a)
end
mutual
theorem da_dp : ∀ {v : V} {d : PyData}, Da K H v d → Dp K H v d
  | _, _, .non => .non
  | _, _, .bl b => .bl b
  | _, _, .int i => .int i
  | _, _, .str x => .str x
  | _, _, .lst h a => .lst (sq_of h) (daa_dp a)
  | _, _, .tup h a => .tup h (daa_dp a)
theorem daa_dp : ∀ {vs : List V} {ds : List PyData}, DaAll K H vs ds → DpAll K H vs ds
  | _, _, .nil => .nil
  | _, _, .cons h a => .cons (da_dp h) (daa_dp a)
end
theorem daa_len : ∀ {vs : List V} {ds : List PyData}, DaAll K H vs ds → vs.length = ds.length
  | _, _, .nil => rfl
  | _, _, .cons _ a => by rw [List.length_cons, List.length_cons, daa_len a]
theorem daa_get : ∀ {vs : List V} {ds : List PyData}, DaAll K H vs ds → ∀ (i : Nat) (d : PyData), ds[i]? = some d → ∃ v, vs[i]? = some v ∧ Da K H v d
  | _, _, .nil, i, d, h => by simp at h
  | _, _, .cons (v := v) h a, 0, d, e => ⟨v, rfl, by
      have e' := Option.some.inj e
      rw [← e']
      exact h⟩
  | _, _, .cons h a, i + 1, d, e => daa_get a i d e
theorem daa_getV : ∀ {vs : List V} {ds : List PyData}, DaAll K H vs ds → ∀ (i : Nat) (v : V), vs[i]? = some v → ∃ d, ds[i]? = some d ∧ Da K H v d
  | _, _, .nil, i, d, h => by simp at h
  | _, _, .cons (d := d) h a, 0, v, e => ⟨d, rfl, by
      have e' := Option.some.inj e
      rw [← e']
      exact h⟩
  | _, _, .cons h a, i + 1, v, e => daa_getV a i v e
theorem daa_app : ∀ {vs ws : List V} {ds es : List PyData}, DaAll K H vs ds → DaAll K H ws es → DaAll K H (vs ++ ws) (ds ++ es)
  | _, _, _, _, .nil, b => b
  | _, _, _, _, .cons h a, b => .cons h (daa_app a b)
theorem daa_drop : ∀ {vs : List V} {ds : List PyData} (n : Nat), DaAll K H vs ds → DaAll K H (vs.drop n) (ds.drop n)
  | _, _, 0, h => h
  | _, _, n + 1, .nil => .nil
  | _, _, n + 1, .cons _ a => daa_drop n a
theorem daa_take : ∀ {vs : List V} {ds : List PyData} (n : Nat), DaAll K H vs ds → DaAll K H (vs.take n) (ds.take n)
  | _, _, 0, h => .nil
  | _, _, n + 1, .nil => .nil
  | _, _, n + 1, .cons h a => .cons h (daa_take n a)
theorem daa_ints : ∀ (ns : List Int), DaAll K H (ns.map V.int) (ns.map PyData.int)
  | [] => .nil
  | n :: r => .cons (.int n) (daa_ints r)
theorem daa_intsV : ∀ {ns : List Int} {vs : List V}, DaAll K H vs (ns.map PyData.int) → vs = ns.map V.int
  | [], _, .nil => rfl
  | n :: r, _, .cons (.int _) a => by rw [daa_intsV a]; rfl
theorem daa_strsV : ∀ {ns : List Str} {vs : List V}, DaAll K H vs (ns.map PyData.str) → vs = ns.map V.str
  | [], _, .nil => rfl
  | n :: r, _, .cons (.str _) a => by rw [daa_strsV a]; rfl
end
/-! what is had behind an evaluation: v tells d, by old things of the anchor H and new ones alone -/
structure Sep (H H1 H2 G : Hp) : Prop where
  up : Ex H1 H2
  an : Ex H G
  inn : Ex G H2
  sep : ∀ b, H b = none → H1 b ≠ none → G b = none
theorem Sep.refl {H H1 : Hp} (e : Ex H H1) : Sep H H1 H1 H := ⟨Ex.refl _, Ex.refl _, e, fun _ h _ => h⟩
theorem Sep.trans {H H1 H2 H3 G G2 : Hp} (a : Sep H H1 H2 G) (b : Sep G H2 H3 G2) : Sep H H1 H3 G2 :=
  ⟨a.up.trans b.up, a.an.trans b.an, b.inn, fun c h h1 => b.sep c (a.sep c h h1) fun z => by
    cases q : H1 c with
    | none => exact h1 q
    | some o =>
      rw [a.up c o q] at z
      cases z⟩
theorem Sep.new {H H1 : Hp} {p : Addr} {o : HO} (e : Ex H H1) (h : H1 p = none) : Sep H H1 (upd H1 p o) (upd H p o) := by
  have hp : H p = none := fresh_back e h
  refine ⟨Ex.new h, Ex.new hp, fun b u hb => ?_, fun b hb h1 => ?_⟩
  · by_cases q : b = p
    · subst q
      rw [upd_same] at hb ⊢
      exact hb
    · rw [upd_ne q] at hb ⊢
      exact e b u hb
  · have q : b ≠ p := fun z => by
      rw [z] at h1
      exact h1 h
    rw [upd_ne q]
    exact hb
/-- a place outside the anchor stays outside, and stays -/
theorem Sep.out {H H1 H2 G : Hp} (a : Sep H H1 H2 G) {p : Addr} {o : HO} (h : H p = none) (h1 : H1 p = some o) : G p = none ∧ H2 p = some o :=
  ⟨a.sep p h (by rw [h1]; exact Option.some_ne_none o), a.up p o h1⟩
/-- the place changes; the anchor stands -/
theorem ex_chg {G H : Hp} {p : Addr} {o : HO} (e : Ex G H) (h : G p = none) : Ex G (upd H p o) := Ex.mut e h

def ED (K : PySem.W.Frag) (te : TE) (σ : L2.St) (H : Hp) (d : PyData) : Prop :=
  ∀ H1, Ex H H1 → ∀ Q : VK, (∀ v H2 G, Sep H H1 H2 G → Da K G v d → Q v H2) → te σ H1 Q
def EDA (K : PySem.W.Frag) (ta : TA) (σ : L2.St) (H : Hp) (ds : List PyData) : Prop :=
  ∀ H1, Ex H H1 → ∀ Q : List V → Hp → Prop, (∀ vs H2 G, Sep H H1 H2 G → DaAll K G vs ds → Q vs H2) → ta σ H1 Q
section
variable {K : PySem.W.Frag} {σ : L2.St} {H H' : Hp} {ta tb te : TE} {d e : PyData} {ds es : List PyData}
theorem ED.mono (x : Ex H H') (h : ED K te σ H d) : ED K te σ H' d := fun H1 a Q q => h H1 (x.trans a) Q fun v H2 G s g => by
  -- the anchor grows: what is new stands beside it
  refine q v H2 (fun b => if (H' b).isSome then H' b else G b) ⟨s.up, fun b o hb => ?_, fun b o hb => ?_, fun b hb hb1 => ?_⟩ (da_ex (fun b o hb => ?_) g)
  · show (if (H' b).isSome then H' b else G b) = some o
    rw [hb]
    rfl
  · have hb' : (if (H' b).isSome then H' b else G b) = some o := hb
    cases z : H' b with
    | none =>
      rw [z] at hb'
      exact s.inn b o hb'
    | some u =>
      rw [z] at hb'
      have : u = o := Option.some.inj hb'
      subst this
      exact s.up b u (a b u z)
  · show (if (H' b).isSome then H' b else G b) = none
    rw [hb]
    exact s.sep b (fresh_back x hb) hb1
  · show (if (H' b).isSome then H' b else G b) = some o
    cases z : H' b with
    | none => exact hb
    | some u =>
      have h2 := s.up b u (a b u z)
      rw [s.inn b o hb] at h2
      exact h2.symm
theorem ed_is (h : ED K te σ H d) (x : d = e) : ED K te σ H e := x ▸ h
theorem ed_ev {v : V} (h : Ev te σ H v) (g : Da K H v d) : ED K te σ H d := fun H1 x Q q => h H1 x Q fun H2 x2 =>
  q v H2 H ⟨x2, Ex.refl H, x.trans x2, fun _ h _ => h⟩ g
theorem ev_int {i : Int} (h : ED K te σ H (.int i)) : Ev te σ H (.int i) := fun H1 x Q q => h H1 x Q fun v H2 G s g => by
  cases g
  exact q H2 s.up
theorem ev_bool {b : Bool} (h : ED K te σ H (.bool b)) : Ev te σ H (.bl b) := fun H1 x Q q => h H1 x Q fun v H2 G s g => by
  cases g
  exact q H2 s.up
theorem ev_str {x : Str} (h : ED K te σ H (.str x)) : Ev te σ H (.str x) := fun H1 x Q q => h H1 x Q fun v H2 G s g => by
  cases g
  exact q H2 s.up
theorem ev_non (h : ED K te σ H .none) : Ev te σ H .non := fun H1 x Q q => h H1 x Q fun v H2 G s g => by
  cases g
  exact q H2 s.up
theorem ed_var {i : Nat} {v : V} (h : σ[i]? = some (some v)) (g : Da K H v d) : ED K (tVar i) σ H d := ed_ev (ev_var h) g
theorem ed_int {i : Int} : ED K (tC (.int i)) σ H (.int i) := ed_ev ev_c (.int i)
theorem ed_str {x : Str} : ED K (tC (.str x)) σ H (.str x) := ed_ev ev_c (.str x)
theorem ed_bl {b : Bool} : ED K (tC (.bl b)) σ H (.bool b) := ed_ev ev_c (.bl b)
theorem ed_non : ED K (tC .non) σ H .none := ed_ev ev_c .non
theorem ed_op0 {g : Int → Int → V} {i j k : Int} (ha : ED K ta σ H (.int i)) (hb : ED K tb σ H (.int j)) (hg : g i j = .int k) : ED K (tOp (rI0 g) ta tb) σ H (.int k) :=
  ed_ev (ev_op (ev_int ha) (ev_int hb) rv_I0) (by rw [hg]; exact .int k)
theorem ed_opC {C : Int → Int → Prop} {g : Int → Int → V} {i j k : Int} (ha : ED K ta σ H (.int i)) (hb : ED K tb σ H (.int j)) (hc : C i j) (hg : g i j = .int k) : ED K (tOp (rI C g) ta tb) σ H (.int k) :=
  ed_ev (ev_op (ev_int ha) (ev_int hb) (rv_I hc)) (by rw [hg]; exact .int k)
theorem ed_add {i j : Int} (ha : ED K ta σ H (.int i)) (hb : ED K tb σ H (.int j)) : ED K (tOp (rI0 fun i j => .int (i + j)) ta tb) σ H (.int (i + j)) := ed_op0 ha hb rfl
theorem ed_sub {i j : Int} (ha : ED K ta σ H (.int i)) (hb : ED K tb σ H (.int j)) : ED K (tOp (rI0 fun i j => .int (i - j)) ta tb) σ H (.int (i - j)) := ed_op0 ha hb rfl
theorem ed_mul {i j : Int} (ha : ED K ta σ H (.int i)) (hb : ED K tb σ H (.int j)) (hc : CMul i j) : ED K (tOp (rI CMul fun i j => .int (i * j)) ta tb) σ H (.int (i * j)) := ed_opC ha hb hc rfl
theorem ed_mod {i j : Int} (ha : ED K ta σ H (.int i)) (hb : ED K tb σ H (.int j)) (hc : 0 < j) : ED K (tOp (rI (fun _ j => 0 < j) fun i j => .int (i % j)) ta tb) σ H (.int (i % j)) := ed_opC ha hb hc rfl
theorem ed_fdiv {i j : Int} (ha : ED K ta σ H (.int i)) (hb : ED K tb σ H (.int j)) (hc : CDiv i j) : ED K (tOp (rI CDiv fun i j => .int (i / j)) ta tb) σ H (.int (i / j)) := ed_opC ha hb hc rfl
/-- arguments -/
theorem eda_nil : EDA K tNil σ H [] := fun H1 x Q q => q [] H1 H (Sep.refl x) .nil
theorem EDA.mono' {tr : TA} : True := trivial
theorem eda_cons {tr : TA} (h : ED K te σ H d) (hr : ∀ G, Ex H G → EDA K tr σ G ds) : EDA K (tCons te tr) σ H (d :: ds) := fun H1 x Q q =>
  h H1 x _ fun v H2 G s g => hr G s.an H2 s.inn _ fun vs H3 G2 s2 g2 => q (v :: vs) H3 G2 (s.trans s2) (.cons (da_ex s2.an g) g2)
theorem ed_lst {t : TA} (h : EDA K t σ H ds) (hl : ds.length ≤ 100000) : ED K (tLst t) σ H (.list ds) := fun H1 x Q q =>
  h H1 x _ fun vs H2 G s g => ⟨by rw [daa_len g]; exact sz_of hl, fun p hp => by
    refine q (.ref p) _ (upd G p (.lst vs)) (s.trans (Sep.new s.inn hp)) (.lst upd_same (daa_ex (Ex.new (fresh_back s.inn hp)) g))⟩
theorem ed_tup {t : TA} (h : EDA K t σ H ds) (hl : ds.length ≤ 100000) : ED K (tTup t) σ H (.tuple ds) := fun H1 x Q q =>
  h H1 x _ fun vs H2 G s g => ⟨by rw [daa_len g]; exact sz_of hl, fun p hp => by
    refine q (.ref p) _ (upd G p (.tup vs)) (s.trans (Sep.new s.inn hp)) (.tup (st_of upd_same) (daa_ex (Ex.new (fresh_back s.inn hp)) g))⟩
/-- int(n) -/
theorem ed_toInt {i : Int} (h : ED K ta σ H (.int i)) : ED K (tCB (fun xs H Q => (∃ i, xs = [V.int i] ∧ Q (.int i) H) ∨ ∃ k, xs = [.bl k] ∧ Q (.int (if k then 1 else 0)) H) (tCons ta tNil)) σ H (.int i) := fun H1 x Q q =>
  ev_int h H1 x _ fun H2 x2 => .inl ⟨i, rfl, q (.int i) H2 H ⟨x2, Ex.refl H, x.trans x2, fun _ h _ => h⟩ (.int i)⟩
/-- xs[i], t[i] -/
theorem at_of {vs : List V} (g : DaAll K H vs ds) {n : Nat} (hd : ds[n]? = some d) : ∃ v, atI vs (n : Int) = some v ∧ Da K H v d := by
  obtain ⟨v, hv, gv⟩ := daa_get g n d hd
  exact ⟨v, atI_nat hv, gv⟩
theorem ed_ix {i : Int} {n : Nat} (ha : ED K ta σ H (.list ds)) (hb : ∀ G, Ex H G → ED K tb σ G (.int i)) (hi : i = n) (hd : ds[n]? = some d) : ED K (tOp (rIxL K) ta tb) σ H d := fun H1 x Q q =>
  ha H1 x _ fun v H2 G s g => ev_int (hb G s.an) H2 s.inn _ fun H3 x3 => by
    cases g with
    | @lst a xs _ e g =>
      obtain ⟨v, hv, gv⟩ := at_of g hd
      subst hi
      exact ⟨a, xs, n, v, rfl, rfl, sq_of (x3 _ _ (s.inn _ _ e)), hv, q v H3 G ⟨s.up.trans x3, s.an, s.inn.trans x3, s.sep⟩ gv⟩
theorem ed_ixT {i : Int} {n : Nat} (ha : ED K ta σ H (.tuple ds)) (hb : ∀ G, Ex H G → ED K tb σ G (.int i)) (hi : i = n) (hd : ds[n]? = some d) : ED K (tOp (rIxT K) ta tb) σ H d := fun H1 x Q q =>
  ha H1 x _ fun v H2 G s g => ev_int (hb G s.an) H2 s.inn _ fun H3 x3 => by
    cases g with
    | @tup a xs _ e g =>
      obtain ⟨v, hv, gv⟩ := at_of g hd
      subst hi
      exact ⟨a, xs, n, v, rfl, rfl, ex_t (s.inn.trans x3) e, hv, q v H3 G ⟨s.up.trans x3, s.an, s.inn.trans x3, s.sep⟩ gv⟩
/-- xs + ys -/
theorem ed_cat (ha : ED K ta σ H (.list ds)) (hb : ∀ G, Ex H G → ED K tb σ G (.list es)) (hl : ds.length + es.length ≤ 100000) : ED K (tOp rCat ta tb) σ H (.list (ds ++ es)) := fun H1 x Q q =>
  ha H1 x _ fun v H2 G s g => hb G s.an H2 s.inn _ fun w H3 G2 s2 g2 => by
    cases g with
    | @lst a xs _ e g =>
      cases g2 with
      | @lst b ys _ e2 g2 =>
        refine ⟨a, b, xs, ys, rfl, rfl, s2.up _ _ (s.inn _ _ e), s2.inn _ _ e2, by rw [daa_len g, daa_len g2]; exact sz_of hl, fun p hp => ?_⟩
        have np : G2 p = none := fresh_back s2.inn hp
        exact q (.ref p) _ (upd G2 p (.lst (xs ++ ys))) ((s.trans s2).trans (Sep.new s2.inn hp)) (.lst upd_same (daa_app (daa_ex (s2.an.trans (Ex.new np)) g) (daa_ex (Ex.new np) g2)))
/-- xs[a:b] -/
def cutD (ds : List PyData) (lo hi : Option Int) : List PyData := (ds.drop (HT.sIx ds.length 0 lo)).take (HT.sIx ds.length ds.length hi - HT.sIx ds.length 0 lo)
theorem daa_cut {vs : List V} (g : DaAll K H vs ds) (lo hi : Option Int) : DaAll K H (cutV vs lo hi) (cutD ds lo hi) := by
  unfold cutV cutD
  rw [daa_len g]
  exact daa_take _ (daa_drop _ g)
theorem ed_cut {tl th : TO} {lo hi : Option Int} (ha : ED K ta σ H (.list ds)) (h1 : ∀ G, Ex H G → EvO tl σ G lo) (h2 : ∀ G, Ex H G → EvO th σ G hi) : ED K (tSl (rSlL K) ta tl th) σ H (.list (cutD ds lo hi)) := fun H1 x Q q =>
  ha H1 x _ fun v H2 G s g => h1 G s.an H2 s.inn _ fun H3 x3 => h2 G s.an H3 (s.inn.trans x3) _ fun H4 x4 => by
    cases g with
    | @lst a xs _ e g =>
      have x34 := x3.trans x4
      refine ⟨a, xs, rfl, sq_of (x34 _ _ (s.inn _ _ e)), fun p hp => ?_⟩
      have s' : Sep H H1 H4 G := ⟨s.up.trans x34, s.an, s.inn.trans x34, s.sep⟩
      exact q (.ref p) _ (upd G p (.lst (cutV xs lo hi))) (s'.trans (Sep.new s'.inn hp)) (.lst upd_same (daa_ex (Ex.new (fresh_back s'.inn hp)) (daa_cut g lo hi)))
/-- tuple(xs) of a list -/
theorem ed_tuple (ha : ED K ta σ H (.list ds)) : ED K (tCB (fun xs H Q => ∃ p ys, xs = [V.ref p] ∧ ((SqL K H p ys ∧ ∀ l, H l = none → Q (.ref l) (upd H l (.tup ys))) ∨ (SqT K H p ys ∧ Q (.ref p) H))) (tCons ta tNil)) σ H (.tuple ds) := fun H1 x Q q =>
  ha H1 x _ fun v H2 G s g => by
    cases g with
    | @lst a xs _ e g =>
      refine ⟨a, xs, rfl, .inl ⟨sq_of (s.inn _ _ e), fun p hp => ?_⟩⟩
      exact q (.ref p) _ (upd G p (.tup xs)) (s.trans (Sep.new s.inn hp)) (.tup (st_of upd_same) (daa_ex (Ex.new (fresh_back s.inn hp)) g))
/-- s + t -/
theorem ed_adds {x y : Str} (ha : ED K ta σ H (.str x)) (hb : ED K tb σ H (.str y)) (hl : x.length + y.length ≤ sizeLine) :
    ED K (tOp (fun x y H Q => ∃ i j, x = V.str i ∧ y = V.str j ∧ i.length + j.length ≤ sizeLine ∧ Q (.str (i ++ j)) H) ta tb) σ H (.str (x ++ y)) := fun H1 x1 Q q =>
  ev_str ha H1 x1 _ fun H2 x2 => ev_str hb H2 (x1.trans x2) _ fun H3 x3 => ⟨x, y, rfl, rfl, hl, q _ H3 H ⟨x2.trans x3, Ex.refl H, (x1.trans x2).trans x3, fun _ h _ => h⟩ (.str _)⟩
/-- sep.join(xs) -/
theorem ed_join {z : Str} {ys : List Str} (ha : ED K ta σ H (.str z)) (hb : ∀ G, Ex H G → ED K tb σ G (.list (ys.map .str))) (hl : (ys.map (·.length)).sum + ys.length * z.length ≤ 16777216) :
    ED K (tM1 (fun x xs H Q => ∃ a p, ∃ ys : List Str, x = V.str a ∧ xs = [V.ref p] ∧ (SqL K H p (ys.map V.str) ∨ SqT K H p (ys.map V.str)) ∧ (ys.map (·.length)).sum + ys.length * a.length ≤ 16777216 ∧ Q (.str (Txt.join a ys)) H) ta tb) σ H (.str (Txt.join z ys)) := fun H1 x1 Q q =>
  ev_str ha H1 x1 _ fun H2 x2 => ⟨⟨z, rfl⟩, hb H (Ex.refl H) H2 (x1.trans x2) _ fun v H3 G s g => by
    cases g with
    | @lst a xs _ e g =>
      have ex := daa_strsV g
      subst ex
      exact ⟨z, a, ys, rfl, rfl, .inl (sq_of (s.inn _ _ e)), hl, q _ H3 G ⟨x2.trans s.up, s.an, s.inn, fun b h h1 => s.sep b h fun zz => by
        cases qq : H1 b with
        | none => exact h1 qq
        | some o =>
          rw [x2 b o qq] at zz
          cases zz⟩ (.str _)⟩⟩
/-- len(xs) -/
def rLenS2 (K : PySem.W.Frag) : List V → Hp → VK → Prop := fun xs H Q => ∃ p ys, xs = [.ref p] ∧ (SqL K H p ys ∨ SqT K H p ys) ∧ Q (.int ys.length) H
theorem ed_len (ha : ED K ta σ H (.list ds)) : ED K (tCB (fun xs H Q => ∃ p ys, xs = [V.ref p] ∧ (SqL K H p ys ∨ SqT K H p ys) ∧ Q (.int ys.length) H) (tCons ta tNil)) σ H (.int ds.length) := fun H1 x Q q =>
  ha H1 x _ fun v H2 G s g => by
    cases g with
    | @lst a xs _ e g =>
      refine ⟨a, xs, rfl, .inl (sq_of (s.inn _ _ e)), ?_⟩
      rw [daa_len g]
      exact q _ H2 G s (.int _)
/-- a def's promise -/
def spF (K : PySem.W.Frag) (R : List PyData → PyData → Prop) : Sp := fun vs H1 Q _ => ∃ G0 ds d, Ex G0 H1 ∧ DaAll K G0 vs ds ∧ R ds d ∧ ∀ v H2 G, Sep G0 H1 H2 G → Da K G v d → Q v H2
theorem ed_call {R : List PyData → PyData → Prop} {E : XK} {t : TA} (h : EDA K t σ H ds) (hr : R ds d) : ED K (tCall (spF K R) [] E t) σ H d := fun H1 x Q q =>
  h H1 x _ fun vs H2 G s g => ⟨G, ds, d, s.inn, by rw [List.append_nil]; exact g, hr, fun v H3 G2 s2 g2 => q v H3 G2 (s.trans s2) g2⟩
theorem spF_len {R : List PyData → PyData → Prop} {n : Nat} (h : ∀ ds d, R ds d → ds.length = n) : ∀ vs H Q E, spF K R vs H Q E → vs.length = n := by
  rintro vs H Q E ⟨G0, ds, d, _, g, hr, _⟩
  rw [daa_len g]
  exact h ds d hr
end
/-! statements: the anchor G, the heap H over it -/
section
variable {K : PySem.W.Frag} {σ : L2.St} {G H : Hp} {ta tb te : TE} {d : PyData} {ds : List PyData} {D : Ends} {tu tz : TS}
theorem d_asg {i : Nat} (h : ED K te σ G d) (x : Ex G H) (k : ∀ v H2 G2, Sep G H H2 G2 → Da K G2 v d → tz D (σ.set i (some v)) H2) : tSeq (tAsg te (gName i)) tz D σ H := h H x _ k
theorem d_asg1 {i : Nat} (h : ED K te σ G d) (x : Ex G H) (k : ∀ v H2 G2, Sep G H H2 G2 → Da K G2 v d → D.nx (σ.set i (some v)) H2) : tAsg te (gName i) D σ H := h H x _ k
theorem d_ret (h : ED K te σ G d) (x : Ex G H) (k : ∀ v H2 G2, Sep G H H2 G2 → Da K G2 v d → D.rt v H2) : tRet te D σ H := h H x _ k
/-- xs.append(e), xs outside the anchor, its items within -/
theorem d_app {l : Addr} {xs : List V} {i : Nat} (hG : G l = none) (hl : H l = some (.lst xs)) (hx : DaAll K G xs ds) (hi : σ[i]? = some (some (.ref l))) (h : ED K te σ G d) (x : Ex G H) (hz : xs.length < 100000)
    (k : ∀ v H2 G2, Sep G H H2 G2 → G2 l = none → Da K G2 v d → DaAll K G2 (xs ++ [v]) (ds ++ [d]) → Ex G2 (upd H2 l (.lst (xs ++ [v]))) → tz D σ (upd H2 l (.lst (xs ++ [v])))) :
    tSeq (tDrop (tBM K "list" rAppend (tVar i) (tCons te tNil))) tz D σ H :=
  ⟨_, hi, .inl ⟨rfl, xs, sq_of hl⟩, h H x _ fun v H2 G2 s g => by
    obtain ⟨o1, o2⟩ := s.out hG hl
    exact ⟨l, xs, v, rfl, rfl, o2, sz_lt hz, k v H2 G2 s o1 g (daa_app (daa_ex s.an hx) (.cons g .nil)) (Ex.mut s.inn o1)⟩⟩
theorem d_app1 {l : Addr} {xs : List V} {i : Nat} (hG : G l = none) (hl : H l = some (.lst xs)) (hx : DaAll K G xs ds) (hi : σ[i]? = some (some (.ref l))) (h : ED K te σ G d) (x : Ex G H) (hz : xs.length < 100000)
    (k : ∀ v H2 G2, Sep G H H2 G2 → G2 l = none → Da K G2 v d → DaAll K G2 (xs ++ [v]) (ds ++ [d]) → Ex G2 (upd H2 l (.lst (xs ++ [v]))) → D.nx σ (upd H2 l (.lst (xs ++ [v])))) :
    tDrop (tBM K "list" rAppend (tVar i) (tCons te tNil)) D σ H := d_app (tz := tNext) hG hl hx hi h x hz k
/-- a new empty list, kept outside the anchor -/
theorem d_new {i : Nat} (x : Ex G H) (k : ∀ p, H p = none → G p = none → Ex G (upd H p (.lst [])) → Ex H (upd H p (.lst [])) → tz D (σ.set i (some (.ref p))) (upd H p (.lst []))) : tSeq (tAsg (tLst tNil) (gName i)) tz D σ H :=
  ⟨Nat.zero_le _, fun p hp => k p hp (fresh_back x hp) (Ex.mut x (fresh_back x hp)) (Ex.new hp)⟩
/-- if -/
theorem d_if {t : TT} {tw : TS} {b : Bool} (h : EvT t σ G b) (x : Ex G H) (h1 : b = true → ∀ H1, Ex H H1 → tu { D with nx := tz D } σ H1) (h2 : b = false → ∀ H1, Ex H H1 → tw { D with nx := tz D } σ H1) : tSeq (tIfS t tu tw) tz D σ H := h H x _ fun H1 e => by
  cases b with
  | true => exact h1 rfl H1 e
  | false => exact h2 rfl H1 e
theorem d_if1 {t : TT} {tw : TS} {b : Bool} (h : EvT t σ G b) (x : Ex G H) (h1 : b = true → ∀ H1, Ex H H1 → tu D σ H1) (h2 : b = false → ∀ H1, Ex H H1 → tw D σ H1) : tIfS t tu tw D σ H := h H x _ fun H1 e => by
  cases b with
  | true => exact h1 rfl H1 e
  | false => exact h2 rfl H1 e
/-- for i in range(n) -/
theorem d_range {j : Nat} {n : Int} (h : ED K te σ G (.int n)) (x : Ex G H) (hn : 0 ≤ n ∧ n ≤ 100000) (Pv : Nat → L2.St → Hp → Prop) (h0 : ∀ H1, Ex H H1 → Pv 0 σ H1)
    (hs : ∀ (i : Nat) σ' H', (i : Int) < n → Pv i σ' H' → tu { D with nx := Pv (i + 1), ct := Pv (i + 1), bk := tz D } (σ'.set j (some (.int (i : Int)))) H') (hd : ∀ σ' H', Pv n.toNat σ' H' → tz D σ' H') : tSeq (tFor (iRng1 (tCons te tNil)) (gName j) tu) tz D σ H := by
  have e : EvA (tCons te tNil) σ G [.int n] := ea_cons (ev_int h) ea_nil
  exact q_forR1 (EvA.mono x e) hn Pv h0 hs hd
end
end Tw

set_option Elab.async false
set_option linter.all false
set_option maxRecDepth 100000
set_option maxHeartbeats 4000000
namespace Tw
open PySem PySem.Spec PyProof.Rows L2 Evl
/-! comprehensions -/
theorem et_yes {σ : L2.St} {H : Hp} : EvT tYes σ H true := fun H1 _ Q q => q H1 (Ex.refl H1)
def Lw (K : PySem.W.Frag) (A H2 : Hp) (D : Addr) (out : Nat → List PyData) (i : Nat) (H' : Hp) : Prop :=
  H2 D = none ∧ ∃ G acc, Sep A H2 H' G ∧ G D = none ∧ H' D = some (.lst acc) ∧ DaAll K G acc (out i) ∧ acc.length ≤ i
theorem Lw.start {K : PySem.W.Frag} {A H2 : Hp} {D : Addr} {out : Nat → List PyData} (x : Ex A H2) (hD : H2 D = none) (h0 : out 0 = []) : Lw K A H2 D out 0 (upd H2 D (.lst [])) :=
  ⟨hD, A, [], ⟨Ex.new hD, Ex.refl A, Ex.mut x (fresh_back x hD), fun _ h _ => h⟩, fresh_back x hD, upd_same, by rw [h0]; exact .nil, Nat.le_refl 0⟩
theorem Lw.turn {K : PySem.W.Frag} {A H2 H' : Hp} {D : Addr} {out : Nat → List PyData} {i : Nat} {t : TT} {te : TE} {σ2 : L2.St} {f : Bool} {e : PyData} (p : Lw K A H2 D out i H') (hi : i < 50000)
    (ht : ∀ G, Ex A G → EvT t σ2 G f) (he : f = true → ∀ G, Ex A G → ED K te σ2 G e) (ho : out (i + 1) = if f = true then out i ++ [e] else out i) :
    t σ2 H' fun b H3 => if b = true then te σ2 H3 fun y H4 => ∃ acc, H4 D = some (.lst acc) ∧ acc.length < sizeLine ∧ Lw K A H2 D out (i + 1) (upd H4 D (.lst (acc ++ [y]))) else Lw K A H2 D out (i + 1) H3 := by
  obtain ⟨hD, G, acc, s, gD, hacc, ga, la⟩ := p
  refine ht G s.an H' s.inn _ fun H3 x3 => ?_
  cases f with
  | true =>
    rw [if_pos rfl] at ho
    show te σ2 H3 fun y H4 => ∃ acc, H4 D = some (.lst acc) ∧ acc.length < sizeLine ∧ Lw K A H2 D out (i + 1) (upd H4 D (.lst (acc ++ [y])))
    refine he rfl G s.an H3 (s.inn.trans x3) _ fun v H4 G4 s4 g4 => ?_
    obtain ⟨o1, o2⟩ := s4.out gD (x3 _ _ hacc)
    refine ⟨acc, o2, sz_lt (by omega), hD, G4, acc ++ [v], ⟨Ex.mut ((s.up.trans x3).trans s4.up) hD, s.an.trans s4.an, Ex.mut s4.inn o1, fun b h h1 => ?_⟩, o1, upd_same, ?_, by rw [List.length_append]; exact Nat.add_le_add_right la 1⟩
    · refine s4.sep b (s.sep b h h1) fun z => ?_
      cases q : H2 b with
      | none => exact h1 q
      | some o =>
        rw [(s.up.trans x3) b o q] at z
        cases z
    · rw [ho]
      exact daa_app (daa_ex s4.an ga) (.cons g4 .nil)
  | false =>
    rw [if_neg Bool.false_ne_true] at ho
    show Lw K A H2 D out (i + 1) H3
    refine ⟨hD, G, acc, ⟨s.up.trans x3, s.an, s.inn.trans x3, s.sep⟩, gD, x3 _ _ hacc, ?_, Nat.le_succ_of_le la⟩
    rw [ho]
    exact ga
theorem Lw.stop {K : PySem.W.Frag} {A H2 H' : Hp} {D : Addr} {out : Nat → List PyData} {n : Nat} (p : Lw K A H2 D out n H') : ∃ G, Sep A H2 H' G ∧ Da K G (.ref D) (.list (out n)) := by
  obtain ⟨hD, G, acc, s, gD, hacc, ga, _⟩ := p
  refine ⟨upd G D (.lst acc), ⟨s.up, s.an.trans (Ex.new gD), fun b u hb => ?_, fun b h h1 => ?_⟩, .lst upd_same (daa_ex (Ex.new gD) ga)⟩
  · by_cases q : b = D
    · subst q
      rw [upd_same] at hb
      rw [← hb]
      exact hacc
    · rw [upd_ne q] at hb
      exact s.inn b u hb
  · have q : b ≠ D := fun z => by
      rw [z] at h1
      exact h1 hD
    rw [upd_ne q]
    exact s.sep b h h1
theorem take_one {α : Type} {l : List α} {i : Nat} {x : α} (h : l[i]? = some x) : l.take (i + 1) = l.take i ++ [x] := by
  rw [List.take_add_one, h]
  rfl
theorem filt_step {l : List PyData} {p : PyData → Bool} {g : PyData → PyData} {i : Nat} {x : PyData} (h : l[i]? = some x) :
    ((l.take (i + 1)).filter p).map g = if p x = true then ((l.take i).filter p).map g ++ [g x] else ((l.take i).filter p).map g := by
  rw [take_one h, List.filter_append, List.map_append]
  by_cases q : p x = true
  · rw [if_pos q, List.filter_cons, if_pos q]
    rfl
  · rw [if_neg q, List.filter_cons, if_neg q]
    show _ ++ [] = _
    rw [List.append_nil]
section
variable {K : PySem.W.Frag} {σ : L2.St} {H : Hp} {ta te tl : TE} {t : TT} {ds : List PyData} {j : Nat} {vs : List Nat}
theorem lc_fin {A H2 H1 : Hp} {D : Addr} {out : Nat → List PyData} {n : Nat} {Q : VK} {H' : Hp} (s : Sep H H1 H2 A) (q : ∀ v H2 G, Sep H H1 H2 G → Da K G v (.list (out n)) → Q v H2) (p : Lw K A H2 D out n H') : Q (.ref D) H' := by
  obtain ⟨G, s2, g⟩ := p.stop
  exact q _ _ G (s.trans s2) g
/-- [e for i in range(n) if t] -/
theorem ed_lcRf {n : Int} (f : Nat → Bool) (g : Nat → PyData) (h : ED K ta σ H (.int n)) (hn : 0 ≤ n ∧ n ≤ 40000) (hw : ∀ x, wipe ((wipe σ vs).set j (some x)) vs = wipe σ vs)
    (ht : ∀ (i : Nat) G, Ex H G → (i : Int) < n → EvT t ((wipe σ vs).set j (some (.int (i : Int)))) G (f i)) (he : ∀ (i : Nat) G, Ex H G → (i : Int) < n → f i = true → ED K te ((wipe σ vs).set j (some (.int (i : Int)))) G (g i)) :
    ED K (tLc (iRng1 (tCons ta tNil)) (gName j) t te vs) σ H (.list (((List.range n.toNat).filter f).map g)) := fun H1 x Q q =>
  ev_int h H1 x _ fun H2 x2 => ⟨n, rfl, by omega, by omega, fun D hD => by
    have s0 : Sep H H1 H2 H := ⟨x2, Ex.refl H, x.trans x2, fun _ h _ => h⟩
    refine lc_range (lo := 0) (n := n.toNat) (Lw K H H2 D fun i => ((List.range i).filter f).map g) (Lw.start (x.trans x2) hD rfl) (fun i H' hi p => ?_) fun H' p => lc_fin s0 q p
    have e0 : (0 : Int) + (i : Int) = (i : Int) := Int.zero_add _
    show wipe ((wipe σ vs).set j (some (.int ((0 : Int) + (i : Int))))) vs = wipe σ vs ∧ t ((wipe σ vs).set j (some (.int ((0 : Int) + (i : Int))))) H' fun b H3 => if b = true then te ((wipe σ vs).set j (some (.int ((0 : Int) + (i : Int))))) H3 fun y H4 => ∃ acc, H4 D = some (.lst acc) ∧ acc.length < sizeLine ∧ Lw K H H2 D (fun i => ((List.range i).filter f).map g) (i + 1) (upd H4 D (.lst (acc ++ [y]))) else Lw K H H2 D (fun i => ((List.range i).filter f).map g) (i + 1) H3
    rw [e0]
    refine ⟨hw _, p.turn (by omega) (fun G xg => ht i G xg (by omega)) (fun hf G xg => he i G xg (by omega) hf) ?_⟩
    show ((List.range (i + 1)).filter f).map g = _
    rw [List.range_succ, List.filter_append, List.map_append]
    by_cases z : f i = true
    · rw [if_pos z, List.filter_cons, if_pos z]
      rfl
    · rw [if_neg z, List.filter_cons, if_neg z]
      show _ ++ [] = _
      rw [List.append_nil]⟩
theorem ed_lcR {n : Int} (g : Nat → PyData) (h : ED K ta σ H (.int n)) (hn : 0 ≤ n ∧ n ≤ 40000) (hw : ∀ x, wipe ((wipe σ vs).set j (some x)) vs = wipe σ vs)
    (he : ∀ (i : Nat) G, Ex H G → (i : Int) < n → ED K te ((wipe σ vs).set j (some (.int (i : Int)))) G (g i)) :
    ED K (tLc (iRng1 (tCons ta tNil)) (gName j) tYes te vs) σ H (.list ((List.range n.toNat).map g)) := by
  have h1 := ed_lcRf (t := tYes) (fun _ => true) g h hn hw (fun _ _ _ _ => et_yes) (fun i G x hi _ => he i G x hi)
  rw [List.filter_eq_self.mpr fun _ _ => rfl] at h1
  exact h1
/-- [e for x in xs if t] -/
theorem ed_lcLf (p : PyData → Bool) (g : PyData → PyData) (h : ED K tl σ H (.list ds)) (hz : ds.length ≤ 40000) (hw : ∀ x, wipe ((wipe σ vs).set j (some x)) vs = wipe σ vs)
    (ht : ∀ d v G, d ∈ ds → Ex H G → Da K G v d → EvT t ((wipe σ vs).set j (some v)) G (p d)) (he : ∀ d v G, d ∈ ds → Ex H G → Da K G v d → p d = true → ED K te ((wipe σ vs).set j (some v)) G (g d)) :
    ED K (tLc (iList K tl) (gName j) t te vs) σ H (.list ((ds.filter p).map g)) := fun H1 x Q q =>
  h H1 x _ fun v H2 A s gv => by
    cases gv with
    | @lst a xs _ ea ga =>
      refine ⟨a, rfl, ⟨xs, sq_of (s.inn _ _ ea)⟩, fun D hD => ?_⟩
      have hlen := daa_len ga
      refine lc_list (K := K) (a := a) (xs := xs) (Lw K A H2 D fun i => ((ds.take i).filter p).map g) (Lw.start s.inn hD (by rw [List.take_zero]; rfl)) (fun i H' _ pw => ?_) (fun i y H' hi pw => ?_) fun H' pw => ?_
      · obtain ⟨_, G, acc, s2, _⟩ := pw
        exact sq_of (s2.up _ _ (s.inn _ _ ea))
      · obtain ⟨d, hd, gd⟩ := daa_getV ga i y hi
        have hm : d ∈ ds := List.mem_of_getElem? hd
        have hlt := (List.getElem?_eq_some_iff.mp hi).1
        refine ⟨hw y, pw.turn (by omega) (fun G xg => ht d y G hm (s.an.trans xg) (da_ex xg gd)) (fun hf G xg => he d y G hm (s.an.trans xg) (da_ex xg gd) hf) ?_⟩
        exact filt_step hd
      · have e : ds.take xs.length = ds := List.take_of_length_le (by omega)
        refine lc_fin (out := fun i => ((ds.take i).filter p).map g) s (fun v H2 G s2 g2 => q v H2 G s2 ?_) pw
        have g3 : Da K G v (.list (((ds.take xs.length).filter p).map g)) := g2
        rw [e] at g3
        exact g3
theorem ed_lcL (g : PyData → PyData) (h : ED K tl σ H (.list ds)) (hz : ds.length ≤ 40000) (hw : ∀ x, wipe ((wipe σ vs).set j (some x)) vs = wipe σ vs)
    (he : ∀ d v G, d ∈ ds → Ex H G → Da K G v d → ED K te ((wipe σ vs).set j (some v)) G (g d)) :
    ED K (tLc (iList K tl) (gName j) tYes te vs) σ H (.list (ds.map g)) := by
  have h1 := ed_lcLf (t := tYes) (fun _ => true) g h hz hw (fun _ _ _ _ _ _ => et_yes) (fun d v G hm x gd _ => he d v G hm x gd)
  rw [List.filter_eq_self.mpr fun _ _ => rfl] at h1
  exact h1
theorem ed_lcT (g : PyData → PyData) (h : ED K tl σ H (.tuple ds)) (hz : ds.length ≤ 40000) (hw : ∀ x, wipe ((wipe σ vs).set j (some x)) vs = wipe σ vs)
    (he : ∀ d v G, d ∈ ds → Ex H G → Da K G v d → ED K te ((wipe σ vs).set j (some v)) G (g d)) :
    ED K (tLc (iTup K tl) (gName j) tYes te vs) σ H (.list (ds.map g)) := fun H1 x Q q =>
  h H1 x _ fun v H2 A s gv => by
    cases gv with
    | @tup a xs _ ea ga =>
      refine ⟨a, rfl, ⟨xs, ex_t s.inn ea⟩, fun D hD => ?_⟩
      have hlen := daa_len ga
      refine lc_tup (K := K) (a := a) (xs := xs) (Lw K A H2 D fun i => (ds.take i).map g) (Lw.start s.inn hD (by rw [List.take_zero]; rfl)) (fun i H' _ pw => ?_) (fun i y H' hi pw => ?_) fun H' pw => ?_
      · obtain ⟨_, G, acc, s2, _⟩ := pw
        exact ex_t (s.inn.trans s2.up) ea
      · obtain ⟨d, hd, gd⟩ := daa_getV ga i y hi
        have hm : d ∈ ds := List.mem_of_getElem? hd
        have hlt := (List.getElem?_eq_some_iff.mp hi).1
        refine ⟨hw y, pw.turn (f := true) (e := g d) (by omega) (fun G xg => et_yes) (fun hf G xg => he d y G hm (s.an.trans xg) (da_ex xg gd)) ?_⟩
        show (ds.take (i + 1)).map g = if true = true then (ds.take i).map g ++ [g d] else (ds.take i).map g
        rw [if_pos rfl, take_one hd, List.map_append]
        rfl
      · have e : ds.take xs.length = ds := List.take_of_length_le (by omega)
        refine lc_fin (out := fun i => (ds.take i).map g) s (fun v H2 G s2 g2 => q v H2 G s2 ?_) pw
        have g3 : Da K G v (.list ((ds.take xs.length).map g)) := g2
        rw [e] at g3
        exact g3
end
/-! a list or a tuple walked -/
def iSeq (K : PySem.W.Frag) (tl : TE) : TI := fun σ H R => tl σ H fun x H1 => ∃ a, x = .ref a ∧ (((∃ xs, SqL K H1 a xs) ∧ R (Itl K a) H1) ∨ ((∃ xs, SqT K H1 a xs) ∧ R (Itt K a) H1))
theorem pi_seq {X : Cx} {tg l : Expr} {tl : TE} (hl : PE X l tl) : PI X tg l (iSeq X.K tl) := by
  constructor
  intro pn s σ H R I h
  refine thn (hl.run pn s σ H _ I h) ?_
  rintro v s1 ⟨x, H1, J, rx, a, ex, q⟩
  cases ex
  cases rx
  have fresh : ∀ b ∈ [s1.heap.objs.size], FpOk X pn H1 b := by
    intro b hb
    cases List.mem_singleton.mp hb
    exact J.fpOk (Nat.le_refl _) (J.hok.fresh (Nat.le_refl _))
  rcases q with ⟨⟨xs, hx⟩, q⟩ | ⟨⟨xs, hx⟩, q⟩
  · obtain ⟨its, rv, pl, _⟩ := J.list hx
    refine wpAny_pyIter_list pl.isList ⟨_, _, _, _, H1, rfl, ?_, turn_list a s1.heap.objs.size, ?_, fresh, q⟩
    · exact J.kept (t' := s1.toks) fun c u z => Heap.get?_push_of_some _ z
    · exact ⟨_, Heap.get?_push_size _ rfl, rfl, rfl⟩
  · obtain ⟨its, rv, pl, _⟩ := J.tuple hx
    refine wpAny_pyIter_tuple (show s1.heap.IsTuple a its.toArray from pl) ⟨_, _, _, _, H1, rfl, ?_, turn_tuple a s1.heap.objs.size, ?_, fresh, q⟩
    · exact J.kept (t' := s1.toks) fun c u z => Heap.get?_push_of_some _ z
    · exact ⟨_, Heap.get?_push_size _ rfl, rfl, rfl⟩
section
variable {K : PySem.W.Frag} {σ : L2.St} {H : Hp} {te tl : TE} {d : PyData} {ds : List PyData} {j : Nat} {vs : List Nat}
theorem ed_lcS (g : PyData → PyData) (h : ED K tl σ H d) (hd : d = .list ds ∨ d = .tuple ds) (hz : ds.length ≤ 40000) (hw : ∀ x, wipe ((wipe σ vs).set j (some x)) vs = wipe σ vs)
    (he : ∀ d v G, d ∈ ds → Ex H G → Da K G v d → ED K te ((wipe σ vs).set j (some v)) G (g d)) :
    ED K (tLc (iSeq K tl) (gName j) tYes te vs) σ H (.list (ds.map g)) := fun H1 x Q q => by
  rcases hd with rfl | rfl
  · have h2 : ED K (tLc (iList K tl) (gName j) tYes te vs) σ H (.list (ds.map g)) := ed_lcL g h hz hw he
    -- the value first, then the walk of a list
    refine h H1 x _ fun v H2 A s gv => ?_
    cases gv with
    | @lst a xs _ ea ga =>
      have h3 : ED K (tLc (iList K (tC (.ref a))) (gName j) tYes te vs) σ A (.list (ds.map g)) := ed_lcL g (ed_ev ev_c (.lst ea ga)) hz hw fun d v G hm xg gd => he d v G hm (s.an.trans xg) gd
      have h4 := h3 H2 s.inn Q fun v H3 G s3 g3 => q v H3 G (s.trans s3) g3
      obtain ⟨b, eb, hx, r⟩ := h4
      cases eb
      exact ⟨a, rfl, .inl ⟨hx, r⟩⟩
  · refine h H1 x _ fun v H2 A s gv => ?_
    cases gv with
    | @tup a xs _ ea ga =>
      have h3 : ED K (tLc (iTup K (tC (.ref a))) (gName j) tYes te vs) σ A (.list (ds.map g)) := ed_lcT g (ed_ev ev_c (.tup ea ga)) hz hw fun d v G hm xg gd => he d v G hm (s.an.trans xg) gd
      have h4 := h3 H2 s.inn Q fun v H3 G s3 g3 => q v H3 G (s.trans s3) g3
      obtain ⟨b, eb, hx, r⟩ := h4
      cases eb
      exact ⟨a, rfl, .inr ⟨hx, r⟩⟩
end
/-! str(x) of an int or a text -/
def rStrX : List V → Hp → VK → Prop := fun xs H Q => (∃ i, xs = [.int i] ∧ i.natAbs.log2 < 1920 ∧ Q (.str (toString i)) H) ∨ ∃ a, xs = [.str a] ∧ Q (.str a) H
theorem call_strX {X : Cx} : CallR X (.type "str") rStrX := by
  intro pins s σ H xs us Q I r h
  rcases h with ⟨i, h1, h2, q⟩ | ⟨a, h1, q⟩
  · exact call_str_int pins s σ H xs us Q I r ⟨i, h1, h2, q⟩
  · exact SkE.call_str_str pins s σ H xs us Q I r ⟨a, h1, q⟩
section
variable {K : PySem.W.Frag} {σ : L2.St} {H : Hp} {ta : TE}
theorem ed_strI {i : Int} (h : ED K ta σ H (.int i)) (hi : i.natAbs.log2 < 1920) : ED K (tCB rStrX (tCons ta tNil)) σ H (.str (toString i)) := fun H1 x Q q =>
  ev_int h H1 x _ fun H2 x2 => .inl ⟨i, rfl, hi, q _ H2 H ⟨x2, Ex.refl H, x.trans x2, fun _ h _ => h⟩ (.str _)⟩
theorem ed_strS {a : Str} (h : ED K ta σ H (.str a)) : ED K (tCB rStrX (tCons ta tNil)) σ H (.str a) := fun H1 x Q q =>
  ev_str h H1 x _ fun H2 x2 => .inr ⟨a, rfl, q _ H2 H ⟨x2, Ex.refl H, x.trans x2, fun _ h _ => h⟩ (.str _)⟩
end
end Tw

set_option Elab.async false
set_option linter.all false
set_option maxRecDepth 100000
set_option maxHeartbeats 4000000
namespace Tw
open PySem PySem.Spec PyProof.Rows L2 Evl
/-! the law's own promise; the drawn numbers -/
def spLaw (K : PySem.W.Frag) : Sp := fun vs H Q _ => ∃ (a : Addr) (ns : List Int), vs = [.ref a] ∧ SqL K H a (ns.map V.int) ∧ ns.length ≤ 63 ∧ ∀ H', Q (.bl true) H'
theorem spLaw_len {K : PySem.W.Frag} : ∀ vs H Q E, spLaw K vs H Q E → vs.length = 1 := by
  rintro vs H Q E ⟨a, ns, rfl, _⟩
  rfl
/-- so many, from 0 to 999 -/
def Drawn (n : Nat) (ds : List Int) : Prop := ds.length = n ∧ ∀ d ∈ ds, 0 ≤ d ∧ d < 1000
theorem Drawn.get {n : Nat} {ds : List Int} (h : Drawn n ds) {i : Nat} (hi : i < n) : ∃ d, ds[i]? = some d ∧ 0 ≤ d ∧ d < 1000 := by
  have hl : i < ds.length := by rw [h.1]; exact hi
  exact ⟨ds[i], List.getElem?_eq_getElem hl, h.2 _ (List.getElem_mem hl)⟩
theorem Drawn.getD {n : Nat} {ds : List Int} (h : Drawn n ds) {i : Nat} (hi : i < n) : ds[i]? = some (ds.getD i 0) ∧ 0 ≤ ds.getD i 0 ∧ ds.getD i 0 < 1000 := by
  obtain ⟨d, hd, h0, h1⟩ := h.get hi
  have e : ds.getD i 0 = d := by rw [List.getD_eq_getElem?_getD, hd]; rfl
  rw [e]
  exact ⟨hd, h0, h1⟩
def spDraws (K : PySem.W.Frag) : Sp := fun vs H Q _ => ∃ (a : Addr) (ns : List Int) (n : Nat), vs = [.ref a, .int (n : Int)] ∧ SqL K H a (ns.map V.int) ∧ ns.length ≤ 63 ∧ n ≤ 1000 ∧
  ∀ ds p H2, Drawn n ds → H p = none → Ex H H2 → H2 p = some (.lst (ds.map V.int)) → Q (.ref p) H2
def WD (H : Hp) (a : Addr) (n m : Nat) (R L : Addr) (i : Nat) (σ' : L2.St) (H' : Hp) : Prop := ∃ (x3 x5 x6 x7 x8 : Option V) (rs ds : List Int), σ' = [some (.ref a), some (.int (n : Int)), some (.ref R), x3, some (.ref L), x5, x6, x7, x8] ∧
  Ex H H' ∧ H' R = some (.lst (rs.map V.int)) ∧ H' L = some (.lst (ds.map V.int)) ∧ rs.length = m ∧ Drawn i ds
theorem ev_toInt {te : TE} {σ : L2.St} {H : Hp} {i : Int} (h : Ev te σ H (.int i)) : Ev (tCB (fun xs H Q => (∃ i, xs = [V.int i] ∧ Q (.int i) H) ∨ ∃ k, xs = [.bl k] ∧ Q (.int (if k then 1 else 0)) H) (tCons te tNil)) σ H (.int i) := fun H1 x Q q =>
  h H1 x _ fun H2 x2 => .inl ⟨i, rfl, q H2 x2⟩
theorem mod1000 (x : Int) : 0 ≤ x % 1000 ∧ x % 1000 < 1000 := ⟨Int.emod_nonneg x (by decide), Int.emod_lt_of_pos x (by decide)⟩
theorem at_int {rs : List Int} {j : Nat} (h : j < rs.length) : atI (rs.map V.int) (j : Int) = some (.int rs[j]) := atI_nat (by rw [List.getElem?_map, List.getElem?_eq_getElem h]; rfl)
theorem given_all (l : List V) : given l.length (fun _ => true) (fun i => l.getD i .non) = l := by
  unfold given
  rw [List.filter_eq_self.mpr fun _ _ => rfl]
  apply List.ext_getElem?
  intro i
  rw [List.getElem?_map]
  by_cases hi : i < l.length
  · rw [List.getElem?_range hi, List.getElem?_eq_getElem hi]
    show some (l.getD i .non) = _
    rw [List.getD_eq_getElem?_getD, List.getElem?_eq_getElem hi]
    rfl
  · rw [List.getElem?_eq_none (by rw [List.length_range]; omega), List.getElem?_eq_none (by omega)]
    rfl
section
variable {K : PySem.W.Frag} {σ : L2.St} {G H : Hp} {ta tb te : TE} {d : PyData} {ds : List PyData} {D : Ends} {tu tz : TS}
/-- draws = _law_draws(script, n) -/
theorem d_draws {a : Addr} {ns : List Int} {n : Nat} {i : Nat} {m : Int} {E : XK} (hm : m = (n : Int)) (h0 : σ[0]? = some (some (.ref a))) (hS : SqL K H a (ns.map V.int)) (hl : ns.length ≤ 63) (hn : n ≤ 1000)
    (k : ∀ ds p H2, Drawn n ds → Ex H H2 → Da K H2 (.ref p) (.list (ds.map .int)) → tz D (σ.set i (some (.ref p))) H2) : tSeq (tAsg (tCall (spDraws K) [] E (tCons (tVar 0) (tCons (tC (.int m)) tNil))) (gName i)) tz D σ H := by
  subst hm
  exact ⟨_, h0, a, ns, n, rfl, hS, hl, hn, fun ds p H2 dr hp e h2 => k ds p H2 dr e (.lst h2 (daa_ints ds))⟩
/-- a, b, .. = e -/
theorem d_unp {n : Nat} {gs : TGs} (h : ED K te σ G (.tuple ds)) (x : Ex G H) (hn : ds.length = n) (k : ∀ vs H2 G2, Sep G H H2 G2 → DaAll K G2 vs ds → gs vs σ H2 (tz D)) : tSeq (tAsg te (gTup K n gs)) tz D σ H := h H x _ fun v H2 G2 s g => by
  cases g with
  | @tup a xs _ e g =>
    exact ⟨a, xs, rfl, ex_t s.inn e, by rw [daa_len g]; exact hn, k xs H2 G2 s g⟩
/-- repr(e) -/
theorem ed_repr (h : ED K te σ G d) (hc : ∃ es, d = .list es ∨ d = .tuple es) (h1 : d.showable = true) (h2 : d.hasDict = false) (h3 : d.depth ≤ 60) (h4 : d.shown.length ≤ sizeLine) : ED K (tCB (rRepr K) (tCons te tNil)) σ G (.str d.shown) := fun H1 x Q q =>
  h H1 x _ fun v H2 G2 s g => by
    obtain ⟨es, hc⟩ := hc
    have hv : ∃ a, v = .ref a := by
      rcases hc with rfl | rfl
      · cases g
        exact ⟨_, rfl⟩
      · cases g
        exact ⟨_, rfl⟩
    obtain ⟨a, rfl⟩ := hv
    exact ⟨a, d, rfl, da_dp (da_ex s.inn g), h1, h2, h3, h4, q _ H2 G2 s (.str _)⟩
end
/-! numbers as texts, and their lengths -/
def nS (i : Int) : Str := Str.ofString (toString i)
theorem small_log {i : Int} (h0 : 0 ≤ i) (h1 : i < 100000) : i.natAbs.log2 < 1920 := by
  by_cases z : i.natAbs = 0
  · rw [z]
    decide
  · refine (Nat.log2_lt z).mpr (Nat.lt_of_lt_of_le (show i.natAbs < 2 ^ 17 by omega) (Nat.pow_le_pow_right (by decide) (by decide)))
theorem nS_len {i : Int} (h0 : 0 ≤ i) (h1 : i < 1000) : (nS i).length ≤ 4 := by
  unfold nS
  rw [PySem.ofString_length]
  exact int_text_length_le10 (k := 3) (by decide) (by omega)
theorem join_le {sep : Str} {ts : List Str} {m b c : Nat} (hm : ts.length ≤ m) (hb : ∀ t ∈ ts, t.length ≤ b) (hc : sep.length ≤ c) : (ts.map (·.length)).sum + ts.length * sep.length ≤ m * (b + c) := by
  have h : (ts.map (·.length)).sum + ts.length * sep.length ≤ ts.length * (b + c) := by
    clear hm
    induction ts with
    | nil => simp
    | cons t r ih =>
      have i := ih fun t ht => hb t (List.mem_cons_of_mem _ ht)
      have ht := hb t List.mem_cons_self
      simp only [List.map_cons, List.sum_cons, List.length_cons, Nat.succ_mul]
      omega
  exact Nat.le_trans h (Nat.mul_le_mul_right _ hm)
theorem join_len {sep : Str} {ts : List Str} {m b c : Nat} (hm : ts.length ≤ m) (hb : ∀ t ∈ ts, t.length ≤ b) (hc : sep.length ≤ c) : (Txt.join sep ts).length ≤ m * (b + c) := by
  have e : Txt.join sep ts = Str.join sep ts := StrLaws.glued_eq_join sep ts
  rw [e]
  exact Nat.le_trans (StrLaws.join_length_le sep ts) (join_le hm hb hc)
end Tw
namespace Tw
open PySem PySem.Spec PyProof.Rows L2 Evl
section
variable {K : PySem.W.Frag}
theorem daa_inv {H : Hp} {vs : List V} {d : PyData} {ds : List PyData} (h : DaAll K H vs (d :: ds)) : ∃ v r, vs = v :: r ∧ Da K H v d ∧ DaAll K H r ds := by
  cases h with
  | cons a b => exact ⟨_, _, rfl, a, b⟩
theorem daa_inv0 {H : Hp} {vs : List V} (h : DaAll K H vs []) : vs = [] := by
  cases h
  rfl
theorem Sep.mut {A B C G : Hp} {p : Addr} {o : HO} (s : Sep A B C G) (hB : B p = none) (hG : G p = none) : Sep A B (upd C p o) G := ⟨Ex.mut s.up hB, s.an, Ex.mut s.inn hG, s.sep⟩
/-- a list of one's own becomes data -/
theorem Sep.seal {A B C G : Hp} {p : Addr} {xs : List V} {ds : List PyData} (s : Sep A B C G) (hB : B p = none) (hG : G p = none) (hC : C p = some (.lst xs)) (g : DaAll K G xs ds) :
    Sep A B C (upd G p (.lst xs)) ∧ Da K (upd G p (.lst xs)) (.ref p) (.list ds) := by
  refine ⟨⟨s.up, s.an.trans (Ex.new hG), fun b u hb => ?_, fun b h h1 => ?_⟩, .lst upd_same (daa_ex (Ex.new hG) g)⟩
  · by_cases q : b = p
    · subst q
      rw [upd_same] at hb
      rw [← hb]
      exact hC
    · rw [upd_ne q] at hb
      exact s.inn b u hb
  · have q : b ≠ p := fun z => by
      rw [z] at h1
      exact h1 hB
    rw [upd_ne q]
    exact s.sep b h h1
end
theorem dr_ix {n : Nat} {ds : List Int} (h : Drawn n ds) {i : Nat} (hi : i < n) : (ds.map PyData.int)[i]? = some (.int (ds.getD i 0)) := by
  rw [List.getElem?_map, (h.getD hi).1]
  rfl
theorem sIx_nat' (n : Nat) (d : Nat) (i : Nat) : HT.sIx n d (some (i : Int)) = min i n := HT.sIx_nat n d i
theorem cut_ix {l : List PyData} {a b j : Nat} (hj : a + j < b) (hb : b ≤ l.length) : (cutD l (some (a : Int)) (some (b : Int)))[j]? = l[a + j]? := by
  unfold cutD
  rw [sIx_nat', sIx_nat', List.getElem?_take_of_lt (by omega), List.getElem?_drop]
  congr 1
  omega
def intsOf : PyData → List Int
  | .tuple ds => ds.filterMap fun d => match d with | .int i => some i | _ => none
  | .list ds => ds.filterMap fun d => match d with | .int i => some i | _ => none
  | _ => []
theorem intsOf_fm (s : List Int) : (s.map PyData.int).filterMap (fun d => match d with | .int i => some i | _ => none) = s := by
  induction s with
  | nil => rfl
  | cons a r ih =>
    rw [List.map_cons, List.filterMap_cons]
    show a :: _ = _
    rw [ih]
theorem intsOf_tup (s : List Int) : intsOf (.tuple (s.map .int)) = s := intsOf_fm s
theorem intsOf_lst (s : List Int) : intsOf (.list (s.map .int)) = s := intsOf_fm s
end Tw
namespace Tw
open PySem PySem.Spec PyProof.Rows L2 Evl
/-! the rules with the written part said (within a comprehension's block the context is not the reading's) -/
section
variable {X : Cx} (K : PySem.W.Frag)
theorem ixl (e : X.K = K := by rfl) : IxR X (rIxL K) := e ▸ ix_list
theorem ixt (e : X.K = K := by rfl) : IxR X (rIxT K) := e ▸ ix_tup
theorem slL (e : X.K = K := by rfl) : SlR X (rSlL K) := e ▸ sl_list
theorem lenK (e : X.K = K := by rfl) : CallR X (.builtin "len") (fun xs H Q => ∃ p ys, xs = [V.ref p] ∧ (SqL K H p ys ∨ SqT K H p ys) ∧ Q (.int ys.length) H) := e ▸ call_len_seq
theorem tupK (e : X.K = K := by rfl) : CallR X (.type "tuple") (fun xs H Q => ∃ p ys, xs = [V.ref p] ∧ ((SqL K H p ys ∧ ∀ l, H l = none → Q (.ref l) (upd H l (.tup ys))) ∨ (SqT K H p ys ∧ Q (.ref p) H))) := e ▸ call_tuple_of
theorem pi_listK {tg l : Expr} {tl : TE} (hl : PE X l tl) (e : X.K = K := by rfl) : PI X tg l (iList K tl) := e ▸ pi_list hl
theorem pi_tupK {tg l : Expr} {tl : TE} (hl : PE X l tl) (e : X.K = K := by rfl) : PI X tg l (iTup K tl) := e ▸ pi_tup hl
theorem pi_seqK {tg l : Expr} {tl : TE} (hl : PE X l tl) (e : X.K = K := by rfl) : PI X tg l (iSeq K tl) := e ▸ pi_seq hl
theorem joinK (e : X.K = K := by rfl) : MtR X "str.join" (fun x xs H Q => ∃ a p, ∃ ys : List Str, x = .str a ∧ xs = [.ref p] ∧ (SqL K H p (ys.map V.str) ∨ SqT K H p (ys.map V.str)) ∧ (ys.map (·.length)).sum + ys.length * a.length ≤ 16777216 ∧ Q (.str (Txt.join a ys)) H) := e ▸ mt_join
theorem pe_joinK {o e : Expr} {to te : TE} {apos pos : Pos} (ho : PE X o to) (he : PE X e te) (hK : X.K = K := by rfl) (hs : starEach [e] X.env = [(false, eval e X.env)] := by rfl) (hbase : attributeBase o "join" X.env (eval o X.env) = eval o X.env := by rfl) (hline : (apos.endLine == pos.line) = true := by rfl) :
    PE X (.Call (.Attribute o "join" apos) [e] [] pos) (tM1 (fun x xs H Q => ∃ a p, ∃ ys : List Str, x = .str a ∧ xs = [.ref p] ∧ (SqL K H p (ys.map V.str) ∨ SqT K H p (ys.map V.str)) ∧
      (ys.map (·.length)).sum + ys.length * a.length ≤ 16777216 ∧ Q (.str (Txt.join a ys)) H) to te) :=
  pe_m1 PySem.F.slot_str_join PySem.F.type_str_join (joinK K hK) ho he hs hbase hline
theorem reprK (hg : X.A.guards = some []) (hu : X.A.units + 64 < cLine) (e : X.K = K := by rfl) : CallR X (.builtin "repr") (rRepr K) := e ▸ call_repr hg hu
theorem appendK : MtM X "list.append" rAppend := mt_append
end
end Tw
namespace Tw
open PySem PySem.Spec PyProof.Rows L2 Evl
/-! data of a small size: what repr and == ask -/
structure Ok (n w : Nat) (d : PyData) : Prop where
  sh : d.showable = true
  nd : d.hasDict = false
  dp : d.depth ≤ n
  ls : d.leavesShort 20 = true
  cl : d.canLay0 = true
  wt : d.weight ≤ w
theorem Ok.mono {n w n' w' : Nat} {d : PyData} (h : Ok n w d) (hn : n ≤ n') (hw : w ≤ w') : Ok n' w' d := ⟨h.sh, h.nd, Nat.le_trans h.dp hn, h.ls, h.cl, Nat.le_trans h.wt hw⟩
theorem ok_int {i : Int} (h0 : -100000 < i) (h1 : i < 100000) : Ok 0 17 (.int i) := by
  have hl : i.natAbs.log2 < 17 := by
    by_cases z : i.natAbs = 0
    · rw [z]
      decide
    · exact (Nat.log2_lt z).mpr (show i.natAbs < 2 ^ 17 by omega)
  refine ⟨decide_eq_true (by omega), rfl, Nat.le_refl 0, decide_eq_true ?_, rfl, ?_⟩
  · show (Str.ofString (toString i)).length ≤ 20
    rw [PySem.ofString_length]
    have := int_text_length_le10 (a := i) (k := 5) (by decide) (by omega)
    omega
  · show (if i == 0 then 0 else i.natAbs.log2 + 1) ≤ 17
    split <;> omega
theorem ok_none : Ok 0 17 .none := ⟨rfl, rfl, Nat.le_refl 0, rfl, rfl, Nat.zero_le _⟩
theorem ok_bool (b : Bool) : Ok 0 17 (.bool b) := ⟨rfl, rfl, Nat.le_refl 0, rfl, rfl, Nat.zero_le _⟩
theorem ok_all {n w : Nat} : ∀ {ds : List PyData}, (∀ d ∈ ds, Ok n w d) → PyData.showableAll ds = true ∧ PyData.hasDictAll ds = false ∧ PyData.depthAll ds ≤ n ∧ PyData.leavesShortAll 20 ds = true ∧ PyData.canLayAll0 ds = true ∧ PyData.weightAll ds ≤ ds.length * (w + 1)
  | [], _ => ⟨rfl, rfl, Nat.zero_le _, rfl, rfl, Nat.zero_le _⟩
  | d :: r, h => by
    have hd := h d List.mem_cons_self
    obtain ⟨a1, a2, a3, a4, a5, a6⟩ := ok_all (ds := r) fun x hx => h x (List.mem_cons_of_mem _ hx)
    refine ⟨?_, ?_, ?_, ?_, ?_, ?_⟩
    · show (d.showable && PyData.showableAll r) = true
      rw [hd.sh, a1]
      rfl
    · show (d.hasDict || PyData.hasDictAll r) = false
      rw [hd.nd, a2]
      rfl
    · show max d.depth (PyData.depthAll r) ≤ n
      have := hd.dp
      omega
    · show (d.leavesShort 20 && PyData.leavesShortAll 20 r) = true
      rw [hd.ls, a4]
      rfl
    · show (d.canLay0 && PyData.canLayAll0 r) = true
      rw [hd.cl, a5]
      rfl
    · show d.weight + 1 + PyData.weightAll r ≤ (r.length + 1) * (w + 1)
      have := hd.wt
      rw [Nat.succ_mul]
      omega
theorem ok_list {n w m : Nat} {ds : List PyData} (h : ∀ d ∈ ds, Ok n w d) (hm : ds.length * (w + 1) ≤ m) : Ok (n + 1) m (.list ds) := by
  obtain ⟨a1, a2, a3, a4, a5, a6⟩ := ok_all h
  exact ⟨a1, a2, Nat.succ_le_succ a3, a4, a5, Nat.le_trans a6 hm⟩
theorem ok_tup {n w m : Nat} {ds : List PyData} (h : ∀ d ∈ ds, Ok n w d) (hm : ds.length * (w + 1) ≤ m) : Ok (n + 1) m (.tuple ds) := by
  obtain ⟨a1, a2, a3, a4, a5, a6⟩ := ok_all h
  exact ⟨a1, a2, Nat.succ_le_succ a3, a4, a5, Nat.le_trans a6 hm⟩
theorem Ok.fits {n w : Nat} {d : PyData} (h : Ok n w d) (hw : w ≤ 700000) : d.shown.length ≤ sizeLine := by
  have h1 := PyData.shown_le 20 (by decide) d h.ls
  have h2 := h.wt
  have e : sizeLine = 16777216 := by decide
  rw [e]
  omega
theorem Ok.shaped {n w : Nat} {d : PyData} (h : Ok n w d) (hn : n ≤ 60) : SeqAt.shaped d = true := by
  show (d.canLay0 && decide (d.depth ≤ 64)) = true
  have := h.dp
  rw [h.cl, Bool.true_and, decide_eq_true_eq]
  omega
theorem mem2 {P : PyData → Prop} {a b : PyData} (ha : P a) (hb : P b) : ∀ d ∈ [a, b], P d := by
  intro d hd
  simp only [List.mem_cons, List.not_mem_nil, or_false] at hd
  rcases hd with rfl | rfl <;> assumption
section
variable {K : PySem.W.Frag} {σ : L2.St} {G H : Hp} {te : TE} {d : PyData}
theorem ed_reprO {n w : Nat} (h : ED K te σ G d) (hc : ∃ es, d = .list es ∨ d = .tuple es) (ho : Ok n w d) (hn : n ≤ 60) (hw : w ≤ 700000) : ED K (tCB (rRepr K) (tCons te tNil)) σ G (.str d.shown) :=
  ed_repr h hc ho.sh ho.nd (Nat.le_trans ho.dp hn) (ho.fits hw)
/-- isinstance(x, str) of a text -/
theorem et_isStr {x : Str} (h : ED K te σ G (.str x)) : EvT (tB (tCB RZ.rIsTy (tCons te (tCons (tC (.ty "str")) tNil)))) σ G true := fun H1 e Q q =>
  ev_str h H1 e _ fun H2 e2 => ⟨.str x, "str", rfl, .str x, true, rfl, q H2 e2⟩
theorem et_neS {ta tb : TE} {x y : Str} (ha : ED K ta σ G (.str x)) (hb : ED K tb σ G (.str y)) : EvT (tTest (tOp rNe ta tb)) σ G (!decide (V.str x = V.str y)) := et_test (ev_op (ev_str ha) (ev_str hb) (rv_ne rfl))
theorem ed_eqS {ta tb : TE} {x y : Str} (ha : ED K ta σ G (.str x)) (hb : ED K tb σ G (.str y)) : ED K (tOp rEq ta tb) σ G (.bool (decide (V.str x = V.str y))) := ed_ev (ev_op (ev_str ha) (ev_str hb) (rv_eq rfl)) (.bl _)
end
end Tw

set_option Elab.async false
set_option linter.all false
set_option maxRecDepth 100000
set_option maxHeartbeats 4000000
namespace K9
open PySem PySem.Spec PyProof.Rows L2 Evl Tw
def topS (i : Nat) : Stmt := PySem.Challenge.pw_tidewaits_k09_harbours_are_written.main.body.getD i (.Pass ⟨0, 0, 0, 0⟩)
abbrev s__line_of : Stmt := topS 1
abbrev N__line_of : List Str := ["word", "numbers", "number"]
theorem sc_line_of : FnScope N__line_of ["word", "numbers"] (defScope s__line_of) := ⟨rfl, rfl, rfl, by decide +kernel, rfl, by decide +kernel, by decide +kernel⟩
abbrev s_write_harbour : Stmt := topS 2
abbrev N_write_harbour : List Str := ["harbour", "ships", "depths", "berths", "tugs", "pilots", "last", "lines", "ship"]
theorem scwrite_harbour : FnScope N_write_harbour ["harbour", "ships"] (defScope s_write_harbour) := ⟨rfl, rfl, rfl, by decide +kernel, rfl, by decide +kernel, by decide +kernel⟩
abbrev s__law_draws : Stmt := topS 4
abbrev N__law_draws : List Str := ["script", "count", "rests", "cell", "draws", "k", "value", "at", "mixed"]
theorem sc_law_draws : FnScope N__law_draws ["script", "count"] (defScope s__law_draws) := ⟨rfl, rfl, rfl, by decide +kernel, rfl, by decide +kernel, by decide +kernel⟩
abbrev s__law_port : Stmt := topS 5
abbrev N__law_port : List Str := ["draws", "depths", "k", "berths", "ships", "part", "own"]
theorem sc_law_port : FnScope N__law_port ["draws"] (defScope s__law_port) := ⟨rfl, rfl, rfl, by decide +kernel, rfl, by decide +kernel, by decide +kernel⟩
abbrev s__law_lines : Stmt := topS 6
abbrev N__law_lines : List Str := ["harbour", "ships", "depths", "berths", "tugs", "pilots", "last", "found", "number", "ship", "word", "words"]
theorem sc_law_lines : FnScope N__law_lines ["harbour", "ships"] (defScope s__law_lines) := ⟨rfl, rfl, rfl, by decide +kernel, rfl, by decide +kernel, by decide +kernel⟩
abbrev s__law_text : Stmt := topS 7
abbrev N__law_text : List Str := ["lines", "words"]
theorem sc_law_text : FnScope N__law_text ["lines"] (defScope s__law_text) := ⟨rfl, rfl, rfl, by decide +kernel, rfl, by decide +kernel, by decide +kernel⟩
abbrev s_law : Stmt := topS 8
abbrev N_law : List Str := ["script", "draws", "harbour", "ships", "kept", "turn", "told"]
theorem sclaw : FnScope N_law ["script"] (defScope s_law) := ⟨rfl, rfl, rfl, by decide +kernel, rfl, by decide +kernel, by decide +kernel⟩
structure Tx (K : PySem.W.Frag) (mg : Str → Option Value) where
  f__line_of : Addr
  d__line_of : FuncData
  F__line_of : Fun K "_line_of" "_line_of" s__line_of f__line_of d__line_of
  g__line_of : mg "_line_of" = some (.ref f__line_of)
  b__line_of : Binds K d__line_of ["word", "numbers"] []
  f_write_harbour : Addr
  d_write_harbour : FuncData
  F_write_harbour : Fun K "write_harbour" "write_harbour" s_write_harbour f_write_harbour d_write_harbour
  g_write_harbour : mg "write_harbour" = some (.ref f_write_harbour)
  b_write_harbour : Binds K d_write_harbour ["harbour", "ships"] []
  f__law_draws : Addr
  d__law_draws : FuncData
  F__law_draws : Fun K "_law_draws" "_law_draws" s__law_draws f__law_draws d__law_draws
  g__law_draws : mg "_law_draws" = some (.ref f__law_draws)
  b__law_draws : Binds K d__law_draws ["script", "count"] []
  f__law_port : Addr
  d__law_port : FuncData
  F__law_port : Fun K "_law_port" "_law_port" s__law_port f__law_port d__law_port
  g__law_port : mg "_law_port" = some (.ref f__law_port)
  b__law_port : Binds K d__law_port ["draws"] []
  f__law_lines : Addr
  d__law_lines : FuncData
  F__law_lines : Fun K "_law_lines" "_law_lines" s__law_lines f__law_lines d__law_lines
  g__law_lines : mg "_law_lines" = some (.ref f__law_lines)
  b__law_lines : Binds K d__law_lines ["harbour", "ships"] []
  f__law_text : Addr
  d__law_text : FuncData
  F__law_text : Fun K "_law_text" "_law_text" s__law_text f__law_text d__law_text
  g__law_text : mg "_law_text" = some (.ref f__law_text)
  b__law_text : Binds K d__law_text ["lines"] []
  f_law : Addr
  d_law : FuncData
  F_law : Fun K "law" "law" s_law f_law d_law
  g_law : mg "law" = some (.ref f_law)
  b_law : Binds K d_law ["script"] []
  m_len : mg "len" = none
  m_int : mg "int" = none
  m_range : mg "range" = none
  m_str : mg "str" = none
  m_tuple : mg "tuple" = none
  m_repr : mg "repr" = none
  m_isinstance : mg "isinstance" = none

/-! the mathematics: what is written -/
def lineD (w : Str) (ns : List Int) : Str := Txt.join " " (w :: ns.map nS) ++ "\n"
def Small (ns : List Int) : Prop := ∀ n ∈ ns, 0 ≤ n ∧ n < 1000
def strD : PyData → PyData
  | .int i => .str (nS i)
  | d => d
theorem strs_of (ns : List Int) : (ns.map PyData.int).map strD = (ns.map nS).map PyData.str := by
  rw [List.map_map, List.map_map]
  rfl
theorem line_parts {w : Str} {ns : List Int} (hw : w.length ≤ 10) (hs : Small ns) : ∀ t ∈ w :: ns.map nS, t.length ≤ 10 := by
  intro t ht
  rcases List.mem_cons.mp ht with h | h
  · rw [h]
    exact hw
  · obtain ⟨n, hn, rfl⟩ := List.mem_map.mp h
    have := nS_len (hs n hn).1 (hs n hn).2
    omega
theorem line_len {w : Str} {ns : List Int} (hw : w.length ≤ 10) (hl : ns.length ≤ 20) (hs : Small ns) : (lineD w ns).length ≤ 300 := by
  unfold lineD
  rw [strLen_append]
  have h := join_len (sep := " ") (ts := w :: ns.map nS) (m := 21) (b := 10) (c := 1) (by rw [List.length_cons, List.length_map]; omega) (line_parts hw hs) (by decide)
  have e : ((("\n" : String) : Str)).length = 1 := rfl
  omega
def encH (dp be : List Int) (t p l : Int) : PyData := .tuple [.list (dp.map .int), .list (be.map .int), .int t, .int p, .int l]
def encS (ss : List (List Int)) : PyData := .list (ss.map fun s => .tuple (s.map .int))
structure Port (dp be : List Int) (t p l : Int) (ss : List (List Int)) : Prop where
  ldp : dp.length ≤ 12
  lbe : be.length ≤ 2
  lss : ss.length ≤ 3
  sdp : Small dp
  sbe : Small be
  st : Small [t]
  sp : Small [p]
  sl : Small [l]
  sss : ∀ s ∈ ss, s.length ≤ 7 ∧ Small s
def textD (dp be : List Int) (t p l : Int) (ss : List (List Int)) : Str := Txt.join "" ([lineD "tide" dp, lineD "berths" be, lineD "tugs" [t], lineD "pilots" [p], lineD "last" [l]] ++ ss.map (lineD "ship"))
section
variable {P : Program} {w : World} {K : PySem.W.Frag} {mg : Str → Option Value} {base : Heap} {k : Nat}
/-! the defs -/
theorem ok_draws (T : Tx K mg) : FnOk P w K mg base CX0 (k + 1) T.f__law_draws T.d__law_draws ["script", "count"] (spDraws K) := by
  refine T.F__law_draws.ok sc_law_draws (fun vs H Q E h => ?_) (fun cdv A outer s H vs Q E hr h => ?_)
  · obtain ⟨a, ns, n, rfl, _⟩ := h
    rfl
  obtain ⟨a, ns, n, rfl, hS, hlen, hn, q⟩ := h
  refine ⟨_, (pss_cons (ps_setLc (i := 2) (own := [("cell", 3)]) (g := gName 3) (tt := tYes) rfl sc_law_draws.nd rfl rfl (sw_true rfl rfl rfl (by decide +kernel)) (pi_list (pv 0)) (blkOk_by (N := N__law_draws) (sc := defScope s__law_draws) (by decide +kernel)) (fun _ _ _ _ _ => (pg_name (i := 3) sc_law_draws.nd rfl (.inl rfl))) (fun _ _ _ _ _ => pts_nil) (fun _ _ _ _ _ => (pv 3)))
    (pss_cons (ps_set (i := 4) sc_law_draws.nd rfl (.inl rfl) (pe_lst pa_nil))
    (pss_cons (ps_for PassesOwn.never rfl (pi_range1 (by rfl) T.m_range (pa_cons (pv 1) pa_nil)) (pg_name (i := 5) sc_law_draws.nd rfl (.inl rfl))
      (pss_cons (ps_set (i := 6) sc_law_draws.nd rfl (.inl rfl) pe_int)
      (pss_cons (ps_if (pt_cmpR op_gt (pe_callB call_len_seq (by rfl) T.m_len (by decide +kernel) (pa_cons (pv 2) pa_nil)) pe_int (nomark _)) (pss_cons (ps_set (i := 7) sc_law_draws.nd rfl (.inl rfl) (pe_op op_modN (pe_callTy call_int1 (by rfl) T.m_int (by decide +kernel) (pa_cons (pv 5) pa_nil)) (pe_callB call_len_seq (by rfl) T.m_len (by decide +kernel) (pa_cons (pv 2) pa_nil))))
        (pss_one (ps_if (pt_cmpR op_ge (pe_ix ix_list (pv 2) (pv 7) (fun _ _ => rfl)) (pe_op op_pow pe_int pe_int) (nomark _)) (pss_cons (ps_set (i := 6) sc_law_draws.nd rfl (.inl rfl) (pe_op op_mod (pe_callTy call_int1 (by rfl) T.m_int (by decide +kernel) (pa_cons (pe_ix ix_list (pv 2) (pv 7) (fun _ _ => rfl)) pa_nil)) pe_int))
          (pss_one (ps_asg (pe_op op_fdiv (pe_ix ix_list (pv 2) (pv 7) (fun _ _ => rfl)) pe_int) (pg_sub (pv 2) (pv 7) set_list)))) (pss_cons (ps_set (i := 8) sc_law_draws.nd rfl (.inl rfl) (pe_op op_mod (pe_callTy call_int1 (by rfl) T.m_int (by decide +kernel) (pa_cons (pe_op op_add (pe_op op_add (pe_op op_mul (pe_ix ix_list (pv 2) (pv 7) (fun _ _ => rfl)) pe_int) (pe_op op_mul (pv 5) pe_int)) pe_int) pa_nil)) pe_int))
          (pss_cons (ps_set (i := 8) sc_law_draws.nd rfl (.inl rfl) (pe_op op_mod (pe_callTy call_int1 (by rfl) T.m_int (by decide +kernel) (pa_cons (pe_op op_add (pe_op op_mul (pv 8) pe_int) (pv 7)) pa_nil)) pe_int))
          (pss_one (ps_set (i := 6) sc_law_draws.nd rfl (.inl rfl) (pe_op op_mod (pe_callTy call_int1 (by rfl) T.m_int (by decide +kernel) (pa_cons (pe_op op_fdiv (pv 8) pe_int) pa_nil)) pe_int)))))))) pss_nil)
      (pss_one (ps_expr (pe_bm PySem.F.plainAttrs_list PySem.F.slot_list_append PySem.F.type_list_append mt_append (pv 4) (pa_cons (pv 6) pa_nil)))))))
    (pss_one (ps_ret (pv 4)))))), ?_⟩
  have hz : (ns.map V.int).length = ns.length := List.length_map ..
  -- rests
  refine q_asgL (xs := ns.map V.int) (fun H1 e Q2 q2 => ?_) fun R H1 nR e1 hR => ?_
  · have h1 := el_lcL (K := K) (a := a) (xs := ns.map V.int) (tl := tVar 0) (j := 3) (vs := [3]) (t := tYes) (te := tVar 3) (σ := start N__law_draws [.ref a, .int (n : Int)]) (H := H) (fun _ => true) (fun i => ((ns.map V.int).getD i .non)) (ev_var rfl) hS (by omega) (fun _ => rfl) (fun _ _ _ _ _ => et_yes)
      (fun i x H1 _ hi _ => by
        have hx : (ns.map V.int).getD i .non = x := by rw [List.getD_eq_getElem?_getD, hi]; rfl
        rw [hx]
        exact ev_var rfl)
    have hg : ∀ l : List V, given l.length (fun _ => true) (fun i => l.getD i .non) = l := by
      intro l
      unfold given
      rw [List.filter_eq_self.mpr fun _ _ => rfl]
      apply List.ext_getElem?
      intro i
      rw [List.getElem?_map]
      by_cases hi : i < l.length
      · rw [List.getElem?_range hi, List.getElem?_eq_getElem hi]
        show some (l.getD i .non) = _
        rw [List.getD_eq_getElem?_getD, List.getElem?_eq_getElem hi]
        rfl
      · rw [List.getElem?_eq_none (by rw [List.length_range]; omega), List.getElem?_eq_none (by omega)]
        rfl
    rw [hg] at h1
    exact h1 H1 e Q2 q2
  -- draws
  refine q_asgL (xs := []) (el_lst ea_nil (by decide)) fun L H2 nL e2 hL => ?_
  have nRL : R ≠ L := ne_of_none hR nL
  have nLH : H L = none := fresh_back e1 nL
  -- the loop
  refine q_forR1 (ea_cons (ev_var (v := .int (n : Int)) rfl) ea_nil) (by omega) (WD H a n ns.length R L) ?_ ?_ ?_
  · intro H3 e3
    exact ⟨none, none, none, none, none, ns, [], rfl, (e1.trans e2).trans e3, e3 _ _ (e2 _ _ hR), e3 _ _ hL, rfl, rfl, fun d hd => absurd hd List.not_mem_nil⟩
  · rintro i σ' H' hi ⟨x3, x5, x6, x7, x8, rs, ds, rfl, ex, hR', hL', lr, ld, bd⟩
    have hi' : i < n := by omega
    -- the turn's end
    have fin : ∀ (v : Int) (rs' : List Int) (y7 y8 : Option V) (H3 : Hp) (D : Ends), D.nx = WD H a n ns.length R L (i + 1) → 0 ≤ v → v < 1000 → rs'.length = ns.length → Ex H H3 → H3 R = some (.lst (rs'.map V.int)) → H3 L = some (.lst (ds.map V.int)) →
        tDrop (tBM K "list" rAppend (tVar 4) (tCons (tVar 6) tNil)) D [some (.ref a), some (.int (n : Int)), some (.ref R), x3, some (.ref L), some (.int (i : Int)), some (.int v), y7, y8] H3 := fun v rs' y7 y8 H3 D hD h0 h1 hl' hx hR3 hL3 => by
      refine s_app (xs := ds.map V.int) hL3 (ev_var rfl) (ev_var (v := .int v) rfl) (by rw [List.length_map]; omega) fun H4 e4 => ?_
      rw [hD]
      refine ⟨x3, _, _, y7, y8, rs', ds ++ [v], rfl, Ex.mut (hx.trans e4) nLH, ?_, ?_, hl', ?_, ?_⟩
      · rw [upd_ne nRL]
        exact e4 _ _ hR3
      · rw [upd_same, List.map_append]
        rfl
      · rw [List.length_append, ld]
        rfl
      · intro d hd
        rcases List.mem_append.mp hd with h | h
        · exact bd d h
        · cases List.mem_singleton.mp h
          exact ⟨h0, h1⟩
    refine q_asg ev_c fun H3 e3 => ?_
    refine q_when (et_test (ev_op (ev_len (K := K) (ev_var (v := .ref R) rfl) (sq_of (e3 _ _ hR'))) ev_c rv_I0)) (fun hb H4 e4 => ?_) (fun hb H4 e4 => ?_)
    · have hpos : 0 < rs.length := by
        have := of_decide_eq_true hb
        rw [List.length_map] at this
        omega
      have hR4 : H4 R = some (.lst (rs.map V.int)) := e4 _ _ (e3 _ _ hR')
      have hL4 : H4 L = some (.lst (ds.map V.int)) := e4 _ _ (e3 _ _ hL')
      have x4 : Ex H H4 := (ex.trans e3).trans e4
      have hj : i % rs.length < rs.length := Nat.mod_lt _ hpos
      have em : ((i : Int)).fmod (((rs.map V.int).length : Nat) : Int) = ((i % rs.length : Nat) : Int) := by
        rw [List.length_map, Int.fmod_eq_emod_of_nonneg _ (by omega)]
        rfl
      refine q_asg (v := .int ((i % rs.length : Nat) : Int)) (ev_is (ev_op (ev_toInt (ev_var (v := .int (i : Int)) rfl)) (ev_len (K := K) (ev_var (v := .ref R) rfl) (sq_of hR4)) (rv_I (show (((rs.map V.int).length : Nat) : Int) ≠ 0 by rw [List.length_map]; omega))) (by rw [em])) fun H5 e5 => ?_
      have hR5 := e5 _ _ hR4
      have hL5 := e5 _ _ hL4
      have x5' := x4.trans e5
      have ix : ∀ {σ : L2.St} {G : Hp}, σ[2]? = some (some (.ref R)) → σ[7]? = some (some (.int ((i % rs.length : Nat) : Int))) → G R = some (.lst (rs.map V.int)) → Ev (tOp (rIxL K) (tVar 2) (tVar 7)) σ G (.int rs[i % rs.length]) := fun s1 s2 hg =>
        ev_op (ev_var s1) (ev_var s2) (rv_ixL (sq_of hg) (at_int hj))
      refine s_if (et_test (ev_op (ix rfl rfl hR5) (ev_op ev_c ev_c (rv_I ⟨by decide, by decide, by decide⟩)) rv_I0)) (fun hc H6 e6 => ?_) (fun hc H6 e6 => ?_)
      · have hR6 := e6 _ _ hR5
        refine q_asg (ev_op (ev_toInt (ix rfl rfl hR6)) ev_c (rv_I (show (0 : Int) < 1000 by decide))) fun H7 e7 => ?_
        have hR7 := e7 _ _ hR6
        refine s_setL hR7 (ev_op (ix rfl rfl hR7) ev_c (rv_I (show CDiv _ 1000 from ⟨by decide, by decide⟩))) (ev_var rfl) (ev_var rfl) (by rw [List.length_map]; exact hj) fun H8 e8 => ?_
        have hL8 := e8 _ _ (e7 _ _ (e6 _ _ hL5))
        have nRH : H R = none := nR
        refine fin _ (rs.set (i % rs.length) (rs[i % rs.length] / 1000)) _ _ _ _ rfl (mod1000 _).1 (mod1000 _).2 (by rw [List.length_set]; exact lr) (Ex.mut (((x5'.trans e6).trans e7).trans e8) nRH) ?_ ?_
        · rw [upd_same, List.map_set]
        · rw [upd_ne nRL.symm]
          exact hL8
      · have hR6 := e6 _ _ hR5
        refine q_asg (ev_op (ev_toInt (ev_op (ev_op (ev_op (ix rfl rfl hR6) ev_c (rv_I (.inr ⟨by decide, by decide⟩))) (ev_op (ev_var (v := .int (i : Int)) rfl) ev_c (rv_I (.inr ⟨by decide, by decide⟩))) rv_I0) ev_c rv_I0)) ev_c (rv_I (show (0 : Int) < 2147483647 by decide))) fun H7 e7 => ?_
        refine q_asg (ev_op (ev_toInt (ev_op (ev_op (ev_var rfl) ev_c (rv_I (.inr ⟨by decide, by decide⟩))) (ev_var (v := .int ((i % rs.length : Nat) : Int)) rfl) rv_I0)) ev_c (rv_I (show (0 : Int) < 2147483629 by decide))) fun H8 e8 => ?_
        refine s_asg (ev_op (ev_toInt (ev_op (ev_var rfl) ev_c (rv_I (show CDiv _ 7 from ⟨by decide, by decide⟩)))) ev_c (rv_I (show (0 : Int) < 1000 by decide))) fun H9 e9 => ?_
        have x9 := ((e6.trans e7).trans e8).trans e9
        exact fin _ rs _ _ _ _ rfl (mod1000 _).1 (mod1000 _).2 lr (x5'.trans x9) (x9 _ _ hR5) (x9 _ _ hL5)
    · have x4 := e3.trans e4
      exact fin 0 rs _ _ _ _ rfl (by decide) (by decide) lr (ex.trans x4) (x4 _ _ hR') (x4 _ _ hL')
  · rintro σ' H' ⟨x3, x5, x6, x7, x8, rs, ds, rfl, ex, hR', hL', lr, dr⟩
    refine s_ret (ev_var rfl) fun H3 e3 => ?_
    have dr' : Drawn n ds := by
      have : ((n : Int)).toNat = n := by omega
      rw [this] at dr
      exact dr
    exact q ds L H3 dr' nLH (ex.trans e3) (e3 _ _ hL')

def R_line : List PyData → PyData → Prop := fun ds d => ∃ (w : Str) (ns : List Int) (c : PyData), ds = [.str w, c] ∧ (c = .list (ns.map .int) ∨ c = .tuple (ns.map .int)) ∧ w.length ≤ 10 ∧ ns.length ≤ 20 ∧ Small ns ∧ d = .str (lineD w ns)
theorem ok__line_of (T : Tx K mg) : FnOk P w K mg base CX0 (k + 1) T.f__line_of T.d__line_of ["word", "numbers"] (spF K R_line) := by
  refine T.F__line_of.ok sc_line_of (spF_len ?_) (fun cdv A outer s H vs Q E hr h => ?_)
  · rintro ds d ⟨w, ns, c, rfl, _⟩
    rfl
  obtain ⟨G, ds, d, x, g, ⟨w, ns, c, rfl, hc, hw, hl, hs, rfl⟩, q⟩ := h
  obtain ⟨v0, v1, rfl⟩ : ∃ v0 v1, vs = [v0, v1] := by
    cases g with
    | cons _ g => cases g with
      | cons _ g => cases g; exact ⟨_, _, rfl⟩
  have g0 : Da K G v0 (.str w) := by cases g; assumption
  have g1 : Da K G v1 c := by cases g with | cons _ g => cases g; assumption
  refine ⟨_, (pss_one (ps_ret (pe_op op_add_str (pe_join pe_str (pe_op op_cat (pe_lst (pa_cons (pv 0) pa_nil)) (pe_lc (own := [("number", 2)]) (g := gName 2) (tt := tYes) rfl sc_line_of.nd (pi_seq (pv 1)) (blkOk_by (N := N__line_of) (sc := defScope s__line_of) (by decide +kernel)) (fun _ _ _ _ _ => (pg_name (i := 2) sc_line_of.nd rfl (.inl rfl))) (fun _ _ _ _ _ => pts_nil) (fun _ _ _ _ _ => (pe_callTy call_strX (by rfl) T.m_str (by decide +kernel) (pa_cons (pv 2) pa_nil)))))) pe_str))), ?_⟩
  refine d_ret (ed_adds (ed_join ed_str (fun G1 x1 => ed_is (ed_cat (ed_lst (eda_cons (ed_var rfl (da_ex x1 g0)) fun _ _ => eda_nil) (by show 1 ≤ 100000; decide)) (fun G2 x2 => ed_lcS strD (ed_var rfl (da_ex (x1.trans x2) g1)) hc (by rw [List.length_map]; omega) (fun _ => rfl) ?_) ?_) ?_) ?_) ed_str ?_) x q
  · intro d v G3 hd x3 gd
    obtain ⟨n, hn, rfl⟩ := List.mem_map.mp hd
    exact ed_strI (ed_var rfl gd) (small_log (hs n hn).1 (by have := (hs n hn).2; omega))
  · rw [List.length_map, List.length_map]
    show 1 + ns.length ≤ 100000
    omega
  · rw [strs_of]
    rfl
  · exact Nat.le_trans (join_le (m := 21) (b := 10) (c := 1) (by rw [List.length_cons, List.length_map]; omega) (line_parts hw hs) (by decide)) (by decide)
  · have h := join_len (sep := " ") (ts := w :: ns.map nS) (m := 21) (b := 10) (c := 1) (by rw [List.length_cons, List.length_map]; omega) (line_parts hw hs) (by decide)
    have e : ((("\n" : String) : Str)).length = 1 := rfl
    have e2 : sizeLine = 16777216 := by decide
    rw [e, e2]
    omega
end
end K9

set_option Elab.async false
set_option linter.all false
set_option maxRecDepth 100000
set_option maxHeartbeats 4000000
namespace K9
open PySem PySem.Spec PyProof.Rows L2 Evl Tw
section
variable {P : Program} {w : World} {K : PySem.W.Frag} {mg : Str → Option Value} {base : Heap} {k : Nat}
theorem small1 {i : Int} (h0 : 0 ≤ i) (h1 : i < 1000) : Small [i] := fun n hn => by
  cases List.mem_singleton.mp hn
  exact ⟨h0, h1⟩
def shipLine : PyData → PyData := fun d => .str (lineD "ship" (intsOf d))
theorem ship_lines (ss : List (List Int)) : (ss.map fun s => PyData.tuple (s.map .int)).map shipLine = (ss.map (lineD "ship")).map .str := by
  rw [List.map_map, List.map_map]
  apply List.map_congr_left
  intro s _
  show PyData.str (lineD "ship" (intsOf (.tuple (s.map .int)))) = _
  rw [intsOf_tup]
  rfl
theorem Port.parts {dp be : List Int} {t p l : Int} {ss : List (List Int)} (h : Port dp be t p l ss) : ∀ x ∈ [lineD "tide" dp, lineD "berths" be, lineD "tugs" [t], lineD "pilots" [p], lineD "last" [l]] ++ ss.map (lineD "ship"), x.length ≤ 300 := by
  intro x hx
  rcases List.mem_append.mp hx with hx | hx
  · have h1 := line_len (w := "tide") (by decide) (by have := h.ldp; omega) h.sdp
    have h2 := line_len (w := "berths") (by decide) (by have := h.lbe; omega) h.sbe
    have h3 := line_len (w := "tugs") (ns := [t]) (by decide) (by show 1 ≤ 20; decide) h.st
    have h4 := line_len (w := "pilots") (ns := [p]) (by decide) (by show 1 ≤ 20; decide) h.sp
    have h5 := line_len (w := "last") (ns := [l]) (by decide) (by show 1 ≤ 20; decide) h.sl
    simp only [List.mem_cons, List.not_mem_nil, or_false] at hx
    rcases hx with rfl | rfl | rfl | rfl | rfl <;> assumption
  · obtain ⟨s, hs, rfl⟩ := List.mem_map.mp hx
    exact line_len (by decide) (by have := (h.sss s hs).1; omega) (h.sss s hs).2
theorem Port.fits {dp be : List Int} {t p l : Int} {ss : List (List Int)} (h : Port dp be t p l ss) :
    (([lineD "tide" dp, lineD "berths" be, lineD "tugs" [t], lineD "pilots" [p], lineD "last" [l]] ++ ss.map (lineD "ship")).map (·.length)).sum + ([lineD "tide" dp, lineD "berths" be, lineD "tugs" [t], lineD "pilots" [p], lineD "last" [l]] ++ ss.map (lineD "ship")).length * ("" : Str).length ≤ 16777216 :=
  Nat.le_trans (join_le (m := 8) (b := 300) (c := 0) (by rw [List.length_append, List.length_map]; have := h.lss; show 5 + _ ≤ 8; omega) h.parts (by decide)) (by decide)
def R_write : List PyData → PyData → Prop := fun ds d => ∃ dp be t p l ss, ds = [encH dp be t p l, encS ss] ∧ Port dp be t p l ss ∧ d = .str (textD dp be t p l ss)
theorem ok_write_harbour (T : Tx K mg) : FnOk P w K mg base CX0 (k + 2) T.f_write_harbour T.d_write_harbour ["harbour", "ships"] (spF K R_write) := by
  refine T.F_write_harbour.ok scwrite_harbour (spF_len ?_) (fun cdv A outer s H vs Q E hr h => ?_)
  · rintro ds d ⟨_, _, _, _, _, _, rfl, _⟩
    rfl
  obtain ⟨G, ds, d, x, g, ⟨dp, be, t, p, l, ss, rfl, hp, rfl⟩, q⟩ := h
  obtain ⟨v0, r, rfl, g0, g⟩ := daa_inv g
  obtain ⟨v1, r, rfl, g1, g⟩ := daa_inv g
  cases daa_inv0 g
  refine ⟨_, (pss_cons (ps_asg (pv 0) (pg_tup (by rfl) (pgs_cons (pg_name (i := 2) scwrite_harbour.nd rfl (.inl rfl)) (pgs_cons (pg_name (i := 3) scwrite_harbour.nd rfl (.inl rfl)) (pgs_cons (pg_name (i := 4) scwrite_harbour.nd rfl (.inl rfl)) (pgs_cons (pg_name (i := 5) scwrite_harbour.nd rfl (.inl rfl)) (pgs_cons (pg_name (i := 6) scwrite_harbour.nd rfl (.inl rfl)) pgs_nil)))))))
    (pss_cons (ps_set (i := 7) scwrite_harbour.nd rfl (.inl rfl) (pe_lst (pa_cons (pe_call (ok__line_of T) hr (by rfl) T.g__line_of T.F__line_of.kp T.b__line_of .nil pass0 (pa_cons pe_str (pa_cons (pv 2) pa_nil))) (pa_cons (pe_call (ok__line_of T) hr (by rfl) T.g__line_of T.F__line_of.kp T.b__line_of .nil pass0 (pa_cons pe_str (pa_cons (pv 3) pa_nil))) (pa_cons (pe_call (ok__line_of T) hr (by rfl) T.g__line_of T.F__line_of.kp T.b__line_of .nil pass0 (pa_cons pe_str (pa_cons (pe_lst (pa_cons (pv 4) pa_nil)) pa_nil))) (pa_cons (pe_call (ok__line_of T) hr (by rfl) T.g__line_of T.F__line_of.kp T.b__line_of .nil pass0 (pa_cons pe_str (pa_cons (pe_lst (pa_cons (pv 5) pa_nil)) pa_nil))) (pa_cons (pe_call (ok__line_of T) hr (by rfl) T.g__line_of T.F__line_of.kp T.b__line_of .nil pass0 (pa_cons pe_str (pa_cons (pe_lst (pa_cons (pv 6) pa_nil)) pa_nil))) pa_nil)))))))
    (pss_one (ps_ret (pe_join pe_str (pe_op op_cat (pv 7) (pe_lc (own := [("ship", 8)]) (g := gName 8) (tt := tYes) rfl scwrite_harbour.nd (pi_list (pv 1)) (blkOk_by (N := N_write_harbour) (sc := defScope s_write_harbour) (by decide +kernel)) (fun _ _ _ _ _ => (pg_name (i := 8) scwrite_harbour.nd rfl (.inl rfl))) (fun _ _ _ _ _ => pts_nil) (fun _ _ _ _ _ => (pe_call (ok__line_of T) hr (by rfl) T.g__line_of T.F__line_of.kp T.b__line_of .nil pass0 (pa_cons pe_str (pa_cons (pv 8) pa_nil))))))))))), ?_⟩
  refine d_unp (ed_var rfl g0) x rfl fun vs H1 G1 s1 a => ?_
  obtain ⟨w0, r, rfl, a0, a⟩ := daa_inv a
  obtain ⟨w1, r, rfl, a1, a⟩ := daa_inv a
  obtain ⟨w2, r, rfl, a2, a⟩ := daa_inv a
  obtain ⟨w3, r, rfl, a3, a⟩ := daa_inv a
  obtain ⟨w4, r, rfl, a4, a⟩ := daa_inv a
  cases daa_inv0 a
  refine ⟨_, _, rfl, _, _, rfl, _, _, rfl, _, _, rfl, _, _, rfl, rfl, ?_⟩
  refine d_asg (ed_lst (eda_cons (ed_call (eda_cons ed_str fun G x => eda_cons (ed_var rfl (da_ex x a0)) fun _ _ => eda_nil) ⟨"tide", dp, _, rfl, .inl rfl, by decide, by have := hp.ldp; omega, hp.sdp, rfl⟩) fun G2 x2 =>
    eda_cons (ed_call (eda_cons ed_str fun G x => eda_cons (ed_var rfl (da_ex (x2.trans x) a1)) fun _ _ => eda_nil) ⟨"berths", be, _, rfl, .inl rfl, by decide, by have := hp.lbe; omega, hp.sbe, rfl⟩) fun G3 x3 =>
    eda_cons (ed_call (eda_cons ed_str fun G x => eda_cons (ed_lst (eda_cons (ed_var rfl (da_ex ((x2.trans x3).trans x) a2)) fun _ _ => eda_nil) (by show 1 ≤ 100000; decide)) fun _ _ => eda_nil) ⟨"tugs", [t], _, rfl, .inl rfl, by decide, by show 1 ≤ 20; decide, hp.st, rfl⟩) fun G4 x4 =>
    eda_cons (ed_call (eda_cons ed_str fun G x => eda_cons (ed_lst (eda_cons (ed_var rfl (da_ex (((x2.trans x3).trans x4).trans x) a3)) fun _ _ => eda_nil) (by show 1 ≤ 100000; decide)) fun _ _ => eda_nil) ⟨"pilots", [p], _, rfl, .inl rfl, by decide, by show 1 ≤ 20; decide, hp.sp, rfl⟩) fun G5 x5 =>
    eda_cons (ed_call (eda_cons ed_str fun G x => eda_cons (ed_lst (eda_cons (ed_var rfl (da_ex ((((x2.trans x3).trans x4).trans x5).trans x) a4)) fun _ _ => eda_nil) (by show 1 ≤ 100000; decide)) fun _ _ => eda_nil) ⟨"last", [l], _, rfl, .inl rfl, by decide, by show 1 ≤ 20; decide, hp.sl, rfl⟩) fun G6 x6 => eda_nil) (by show 5 ≤ 100000; decide)) s1.inn fun v2 H2 G2 s2 b => ?_
  refine d_ret (ed_join ed_str (fun G x => ed_is (ed_cat (ed_var rfl (da_ex x b)) (fun G3 x3 => ed_lcL shipLine (ed_var rfl (da_ex ((s1.an.trans s2.an).trans (x.trans x3)) g1)) ?_ (fun _ => rfl) ?_) ?_) ?_) hp.fits) s2.inn fun v H3 G3 s3 c => q v H3 G3 ((s1.trans s2).trans s3) c
  · rw [List.length_map]
    have := hp.lss
    omega
  · intro d v G4 hd x4 gd
    obtain ⟨s, hs, rfl⟩ := List.mem_map.mp hd
    refine ed_call (eda_cons ed_str fun G x => eda_cons (ed_var rfl (da_ex x gd)) fun _ _ => eda_nil) ⟨"ship", s, _, rfl, .inr rfl, by decide, by have := (hp.sss s hs).1; omega, (hp.sss s hs).2, ?_⟩
    show PyData.str (lineD "ship" (intsOf (.tuple (s.map .int)))) = _
    rw [intsOf_tup]
  · rw [List.length_map, List.length_map]
    have := hp.lss
    show 5 + ss.length ≤ 100000
    omega
  · rw [ship_lines, List.map_append]
    rfl
end
end K9

set_option Elab.async false
set_option linter.all false
set_option maxRecDepth 100000
set_option maxHeartbeats 4000000
namespace K9
open PySem PySem.Spec PyProof.Rows L2 Evl Tw
section
variable {P : Program} {w : World} {K : PySem.W.Frag} {mg : Str → Option Value} {base : Heap} {k : Nat}
/-! what is drawn -/
def dps (D : Nat → Int) : List Int := (List.range (1 + D 0 % 12).toNat).map fun i => D (1 + i) % 41
def bes (D : Nat → Int) : List Int := (List.range (1 + D 13 % 2).toNat).map fun i => 1 + D (14 + i) % 9
def shipN (D : Nat → Int) (i : Nat) : List Int := [D (20 + 8 * i + 0) % 21, 1 + D (20 + 8 * i + 1) % 9, D (20 + 8 * i + 2) % 41, 1 + D (20 + 8 * i + 3) % 4, D (20 + 8 * i + 4) % 4, D (20 + 8 * i + 5) % 10, D (20 + 8 * i + 6) % 10]
def sss (D : Nat → Int) : List (List Int) := (List.range (1 + D 19 % 3).toNat).map (shipN D)
def portD (D : Nat → Int) : PyData := .tuple [encH (dps D) (bes D) (D 16 % 7) (1 + D 17 % 3) (1 + D 18 % 40), encS (sss D)]
theorem md {x m : Int} (hm : 0 < m) : 0 ≤ x % m ∧ x % m < m := ⟨Int.emod_nonneg x (by omega), Int.emod_lt_of_pos x hm⟩
theorem small_md {x m : Int} (h0 : 0 < m) (h1 : m ≤ 900) : 0 ≤ x % m ∧ x % m < 1000 := by
  have := md (x := x) h0
  omega
theorem small_md1 {x m : Int} (h0 : 0 < m) (h1 : m ≤ 900) : 0 ≤ 1 + x % m ∧ 1 + x % m < 1000 := by
  have := md (x := x) h0
  omega
theorem port_ok (D : Nat → Int) : Port (dps D) (bes D) (D 16 % 7) (1 + D 17 % 3) (1 + D 18 % 40) (sss D) := by
  constructor
  · unfold dps
    rw [List.length_map, List.length_range]
    have := md (x := D 0) (m := 12) (by decide)
    omega
  · unfold bes
    rw [List.length_map, List.length_range]
    have := md (x := D 13) (m := 2) (by decide)
    omega
  · unfold sss
    rw [List.length_map, List.length_range]
    have := md (x := D 19) (m := 3) (by decide)
    omega
  · intro n hn
    obtain ⟨i, _, rfl⟩ := List.mem_map.mp hn
    exact small_md (by decide) (by decide)
  · intro n hn
    obtain ⟨i, _, rfl⟩ := List.mem_map.mp hn
    exact small_md1 (by decide) (by decide)
  · exact small1 (small_md (by decide) (by decide)).1 (small_md (by decide) (by decide)).2
  · exact small1 (small_md1 (by decide) (by decide)).1 (small_md1 (by decide) (by decide)).2
  · exact small1 (small_md1 (by decide) (by decide)).1 (small_md1 (by decide) (by decide)).2
  · intro s hs
    obtain ⟨i, _, rfl⟩ := List.mem_map.mp hs
    refine ⟨by show 7 ≤ 7; decide, fun n hn => ?_⟩
    simp only [shipN, List.mem_cons, List.not_mem_nil, or_false] at hn
    rcases hn with rfl | rfl | rfl | rfl | rfl | rfl | rfl
    · exact small_md (by decide) (by decide)
    · exact small_md1 (by decide) (by decide)
    · exact small_md (by decide) (by decide)
    · exact small_md1 (by decide) (by decide)
    · exact small_md (by decide) (by decide)
    · exact small_md (by decide) (by decide)
    · exact small_md (by decide) (by decide)
def R_port : List PyData → PyData → Prop := fun ds d => ∃ draws : List Int, Drawn 45 draws ∧ ds = [.list (draws.map .int)] ∧ d = portD fun i => draws.getD i 0
theorem ok__law_port (T : Tx K mg) : FnOk P w K mg base CX0 (k + 1) T.f__law_port T.d__law_port ["draws"] (spF K R_port) := by
  refine T.F__law_port.ok sc_law_port (spF_len ?_) (fun cdv A outer s H vs Q E hr h => ?_)
  · rintro ds d ⟨_, _, rfl, _⟩
    rfl
  obtain ⟨G, ds, d, x, g, ⟨draws, dr, rfl, rfl⟩, q⟩ := h
  obtain ⟨v0, r, rfl, g0, g⟩ := daa_inv g
  cases daa_inv0 g
  generalize hD : (fun i => draws.getD i 0) = D at q
  have ix : ∀ {n : Nat}, n < 45 → (draws.map PyData.int)[n]? = some (.int (D n)) := fun {n} hn => by rw [← hD]; exact dr_ix dr hn
  -- draws[n]
  have at0 : ∀ {σ : L2.St} {G' : Hp} {te : TE} {i : Int} (n : Nat), σ[0]? = some (some v0) → Ex G G' → (∀ G2, Ex G' G2 → ED K te σ G2 (.int i)) → i = (n : Int) → n < 45 → ED K (tOp (rIxL K) (tVar 0) te) σ G' (.int (D n)) := fun n h0 xg hb hi hn =>
    ed_ix (ed_var h0 (da_ex xg g0)) hb hi (ix hn)
  have len : (draws.map PyData.int).length = 45 := by rw [List.length_map]; exact dr.1
  refine ⟨_, (pss_cons (ps_setLc (i := 1) (own := [("k", 2)]) (g := gName 2) (tt := tYes) rfl sc_law_port.nd rfl rfl (sw_true rfl rfl rfl (by decide +kernel)) (pi_range1 (by rfl) T.m_range (pa_cons (pe_op op_add pe_int (pe_op op_mod (pe_callTy call_int1 (by rfl) T.m_int (by decide +kernel) (pa_cons (pe_ix (ixl K) (pv 0) pe_int (fun _ _ => rfl)) pa_nil)) pe_int)) pa_nil)) (blkOk_by (N := N__law_port) (sc := defScope s__law_port) (by decide +kernel)) (fun _ _ _ _ _ => (pg_name (i := 2) sc_law_port.nd rfl (.inl rfl))) (fun _ _ _ _ _ => pts_nil) (fun _ _ _ _ _ => (pe_op op_mod (pe_callTy call_int1 (by rfl) T.m_int (by decide +kernel) (pa_cons (pe_ix (ixl K) (pv 0) (pe_op op_add pe_int (pv 2)) (fun _ _ => rfl)) pa_nil)) pe_int)))
    (pss_cons (ps_setLc (i := 3) (own := [("k", 2)]) (g := gName 2) (tt := tYes) rfl sc_law_port.nd rfl rfl (sw_true rfl rfl rfl (by decide +kernel)) (pi_range1 (by rfl) T.m_range (pa_cons (pe_op op_add pe_int (pe_op op_mod (pe_callTy call_int1 (by rfl) T.m_int (by decide +kernel) (pa_cons (pe_ix (ixl K) (pv 0) pe_int (fun _ _ => rfl)) pa_nil)) pe_int)) pa_nil)) (blkOk_by (N := N__law_port) (sc := defScope s__law_port) (by decide +kernel)) (fun _ _ _ _ _ => (pg_name (i := 2) sc_law_port.nd rfl (.inl rfl))) (fun _ _ _ _ _ => pts_nil) (fun _ _ _ _ _ => (pe_op op_add pe_int (pe_op op_mod (pe_callTy call_int1 (by rfl) T.m_int (by decide +kernel) (pa_cons (pe_ix (ixl K) (pv 0) (pe_op op_add pe_int (pv 2)) (fun _ _ => rfl)) pa_nil)) pe_int))))
    (pss_cons (ps_set (i := 4) sc_law_port.nd rfl (.inl rfl) (pe_lst pa_nil))
    (pss_cons (ps_for PassesOwn.never rfl (pi_range1 (by rfl) T.m_range (pa_cons (pe_op op_add pe_int (pe_op op_mod (pe_callTy call_int1 (by rfl) T.m_int (by decide +kernel) (pa_cons (pe_ix (ixl K) (pv 0) pe_int (fun _ _ => rfl)) pa_nil)) pe_int)) pa_nil)) (pg_name (i := 2) sc_law_port.nd rfl (.inl rfl))
      (pss_cons (ps_set (i := 5) sc_law_port.nd rfl (.inl rfl) (pe_slice (slL K) (pv 0) (po_some (pe_op op_add pe_int (pe_op op_mul pe_int (pv 2)))) (po_some (pe_op op_add pe_int (pe_op op_mul pe_int (pv 2))))))
      (pss_cons (ps_set (i := 6) sc_law_port.nd rfl (.inl rfl) (pe_lst (pa_cons (pe_op op_mod (pe_callTy call_int1 (by rfl) T.m_int (by decide +kernel) (pa_cons (pe_ix (ixl K) (pv 5) pe_int (fun _ _ => rfl)) pa_nil)) pe_int) (pa_cons (pe_op op_add pe_int (pe_op op_mod (pe_callTy call_int1 (by rfl) T.m_int (by decide +kernel) (pa_cons (pe_ix (ixl K) (pv 5) pe_int (fun _ _ => rfl)) pa_nil)) pe_int)) (pa_cons (pe_op op_mod (pe_callTy call_int1 (by rfl) T.m_int (by decide +kernel) (pa_cons (pe_ix (ixl K) (pv 5) pe_int (fun _ _ => rfl)) pa_nil)) pe_int) (pa_cons (pe_op op_add pe_int (pe_op op_mod (pe_callTy call_int1 (by rfl) T.m_int (by decide +kernel) (pa_cons (pe_ix (ixl K) (pv 5) pe_int (fun _ _ => rfl)) pa_nil)) pe_int)) pa_nil))))))
      (pss_one (ps_expr (pe_bm PySem.F.plainAttrs_list PySem.F.slot_list_append PySem.F.type_list_append mt_append (pv 4) (pa_cons (pe_callTy (tupK K) (by rfl) T.m_tuple (by decide +kernel) (pa_cons (pe_op op_cat (pv 6) (pe_lst (pa_cons (pe_op op_mod (pe_callTy call_int1 (by rfl) T.m_int (by decide +kernel) (pa_cons (pe_ix (ixl K) (pv 5) pe_int (fun _ _ => rfl)) pa_nil)) pe_int) (pa_cons (pe_op op_mod (pe_callTy call_int1 (by rfl) T.m_int (by decide +kernel) (pa_cons (pe_ix (ixl K) (pv 5) pe_int (fun _ _ => rfl)) pa_nil)) pe_int) (pa_cons (pe_op op_mod (pe_callTy call_int1 (by rfl) T.m_int (by decide +kernel) (pa_cons (pe_ix (ixl K) (pv 5) pe_int (fun _ _ => rfl)) pa_nil)) pe_int) pa_nil))))) pa_nil)) pa_nil)))))))
    (pss_one (ps_ret (pe_tup (pa_cons (pe_tup (pa_cons (pv 1) (pa_cons (pv 3) (pa_cons (pe_op op_mod (pe_callTy call_int1 (by rfl) T.m_int (by decide +kernel) (pa_cons (pe_ix (ixl K) (pv 0) pe_int (fun _ _ => rfl)) pa_nil)) pe_int) (pa_cons (pe_op op_add pe_int (pe_op op_mod (pe_callTy call_int1 (by rfl) T.m_int (by decide +kernel) (pa_cons (pe_ix (ixl K) (pv 0) pe_int (fun _ _ => rfl)) pa_nil)) pe_int)) (pa_cons (pe_op op_add pe_int (pe_op op_mod (pe_callTy call_int1 (by rfl) T.m_int (by decide +kernel) (pa_cons (pe_ix (ixl K) (pv 0) pe_int (fun _ _ => rfl)) pa_nil)) pe_int)) pa_nil)))))) (pa_cons (pv 4) pa_nil))))))))), ?_⟩
  -- depths
  refine d_asg (ed_lcR (n := 1 + D 0 % 12) (fun i => .int (D (1 + i) % 41)) (ed_add ed_int (ed_mod (ed_toInt (at0 0 rfl (Ex.refl G) (fun _ _ => ed_int) rfl (by decide))) ed_int (by decide))) (by have := md (x := D 0) (m := 12) (by decide); omega) (fun _ => rfl) ?_) x fun v1 H1 G1 s1 a1 => ?_
  · intro i G2 x2 hi
    have := md (x := D 0) (m := 12) (by decide)
    exact ed_mod (ed_toInt (at0 (1 + i) rfl x2 (fun G3 x3 => ed_add ed_int (ed_var rfl (.int (i : Int)))) (by omega) (by omega))) ed_int (by decide)
  -- berths
  refine d_asg (ed_lcR (n := 1 + D 13 % 2) (fun i => .int (1 + D (14 + i) % 9)) (ed_add ed_int (ed_mod (ed_toInt (at0 13 rfl s1.an (fun _ _ => ed_int) rfl (by decide))) ed_int (by decide))) (by have := md (x := D 13) (m := 2) (by decide); omega) (fun _ => rfl) ?_) s1.inn fun v3 H3 G3 s3 a3 => ?_
  · intro i G2 x2 hi
    have := md (x := D 13) (m := 2) (by decide)
    exact ed_add ed_int (ed_mod (ed_toInt (at0 (14 + i) rfl (s1.an.trans x2) (fun G3 x3 => ed_add ed_int (ed_var rfl (.int (i : Int)))) (by omega) (by omega))) ed_int (by decide))
  have S3 := s1.trans s3
  -- ships
  refine d_new S3.inn fun L nL3 gL xL yL => ?_
  · have nLH : H L = none := fresh_back S3.up nL3
    refine d_range (n := 1 + D 19 % 3) (G := G3) (ed_add ed_int (ed_mod (ed_toInt (at0 19 rfl S3.an (fun _ _ => ed_int) rfl (by decide))) ed_int (by decide))) xL (by have := md (x := D 19) (m := 3) (by decide); omega)
      (fun i σ' H' => ∃ x2 x5 x6 xs G', σ' = [some v0, some v1, x2, some v3, some (.ref L), x5, x6] ∧ Sep G H H' G' ∧ Ex G3 G' ∧ G' L = none ∧ H' L = some (.lst xs) ∧ xs.length = i ∧ DaAll K G' xs ((List.range i).map fun j => .tuple ((shipN D j).map .int))) ?_ ?_ ?_
    · intro H4 e4
      exact ⟨_, _, _, [], G3, rfl, ⟨S3.up.trans (yL.trans e4), S3.an, xL.trans e4, S3.sep⟩, Ex.refl _, gL, e4 _ _ upd_same, rfl, .nil⟩
    · rintro i σ' H' hi ⟨x2, x5, x6, xs, G', rfl, S, x3, gL', hL', lx, gx⟩
      have hm := md (x := D 19) (m := 3) (by decide)
      have hi3 : i < 3 := by omega
      -- part
      refine d_asg (ed_cut (lo := some ((20 + 8 * i : Nat) : Int)) (hi := some ((28 + 8 * i : Nat) : Int)) (ed_var rfl (da_ex S.an g0))
        (fun G2 x2 => eo_some (ev_is (ev_int (K := K) (ed_add ed_int (ed_mul ed_int (ed_var (v := .int (i : Int)) rfl (.int (i : Int))) (.inl ⟨by decide, by decide⟩)))) (congrArg V.int (by omega))))
        (fun G2 x2 => eo_some (ev_is (ev_int (K := K) (ed_add ed_int (ed_mul ed_int (ed_var (v := .int (i : Int)) rfl (.int (i : Int))) (.inl ⟨by decide, by decide⟩)))) (congrArg V.int (by omega))))) S.inn fun v5 H5 G5 s5 a5 => ?_
      have pix : ∀ {j : Nat}, j < 7 → (cutD (draws.map PyData.int) (some ((20 + 8 * i : Nat) : Int)) (some ((28 + 8 * i : Nat) : Int)))[j]? = some (.int (D (20 + 8 * i + j))) := fun {j} hj => by
        rw [cut_ix (by omega) (by rw [len]; omega)]
        exact ix (by omega)
      have at5 : ∀ {σ : L2.St} {G' : Hp} {te : TE} {m : Int} (j : Nat), σ[5]? = some (some v5) → Ex G5 G' → (∀ G2, Ex G' G2 → ED K te σ G2 (.int m)) → m = (j : Int) → j < 7 → ED K (tOp (rIxL K) (tVar 5) te) σ G' (.int (D (20 + 8 * i + j))) := fun j h0 xg hb hi hj =>
        ed_ix (ed_var h0 (da_ex xg a5)) hb hi (pix hj)
      -- own
      refine d_asg (ed_lst (eda_cons (ed_mod (ed_toInt (at5 0 rfl (Ex.refl _) (fun _ _ => ed_int) rfl (by decide))) ed_int (by decide)) fun G6 x6 => eda_cons (ed_add ed_int (ed_mod (ed_toInt (at5 1 rfl x6 (fun _ _ => ed_int) rfl (by decide))) ed_int (by decide))) fun G7 x7 =>
        eda_cons (ed_mod (ed_toInt (at5 2 rfl (x6.trans x7) (fun _ _ => ed_int) rfl (by decide))) ed_int (by decide)) fun G8 x8 => eda_cons (ed_add ed_int (ed_mod (ed_toInt (at5 3 rfl ((x6.trans x7).trans x8) (fun _ _ => ed_int) rfl (by decide))) ed_int (by decide))) fun _ _ => eda_nil) (by show 4 ≤ 100000; decide)) s5.inn fun v6 H6 G6 s6 a6 => ?_
      have S6 := (S.trans s5).trans s6
      obtain ⟨o1, o2⟩ := (s5.trans s6).out gL' hL'
      refine d_app1 o1 o2 (daa_ex (s5.an.trans s6.an) gx) rfl (ed_tuple (ed_cat (ed_var rfl a6) (fun G7 x7 => ed_lst (eda_cons (ed_mod (ed_toInt (at5 4 rfl (s6.an.trans x7) (fun _ _ => ed_int) rfl (by decide))) ed_int (by decide)) fun G8 x8 =>
        eda_cons (ed_mod (ed_toInt (at5 5 rfl ((s6.an.trans x7).trans x8) (fun _ _ => ed_int) rfl (by decide))) ed_int (by decide)) fun G9 x9 => eda_cons (ed_mod (ed_toInt (at5 6 rfl (((s6.an.trans x7).trans x8).trans x9) (fun _ _ => ed_int) rfl (by decide))) ed_int (by decide)) fun _ _ => eda_nil) (by show 3 ≤ 100000; decide)) (by show 4 + 3 ≤ 100000; decide))) s6.inn (by omega) ?_
      intro v7 H7 G7 s7 o7 a7 g7 e7
      refine ⟨_, _, _, xs ++ [v7], G7, rfl, (S6.trans s7).mut nLH o7, ((x3.trans s5.an).trans s6.an).trans s7.an, o7, upd_same, by rw [List.length_append, lx]; rfl, ?_⟩
      rw [List.range_succ, List.map_append]
      exact g7
    · rintro σ' H' ⟨x2, x5, x6, xs, G', rfl, S, x3, gL', hL', lx, gx⟩
      obtain ⟨S', aL⟩ := S.seal nLH gL' hL' gx
      have xG : Ex G3 (upd G' L (.lst xs)) := x3.trans (Ex.new gL')
      have b1 := da_ex (s3.an.trans xG) a1
      have b3 := da_ex xG a3
      have xx : Ex G (upd G' L (.lst xs)) := S'.an
      refine d_ret (d := portD D) (ed_is (ed_tup (eda_cons (ed_tup (eda_cons (ed_var rfl b1) fun G4 x4 => eda_cons (ed_var rfl (da_ex x4 b3)) fun G5 x5 =>
        eda_cons (ed_mod (ed_toInt (at0 16 rfl (xx.trans (x4.trans x5)) (fun _ _ => ed_int) rfl (by decide))) ed_int (by decide)) fun G6 x6 =>
        eda_cons (ed_add ed_int (ed_mod (ed_toInt (at0 17 rfl (xx.trans ((x4.trans x5).trans x6)) (fun _ _ => ed_int) rfl (by decide))) ed_int (by decide))) fun G7 x7 =>
        eda_cons (ed_add ed_int (ed_mod (ed_toInt (at0 18 rfl (xx.trans (((x4.trans x5).trans x6).trans x7)) (fun _ _ => ed_int) rfl (by decide))) ed_int (by decide))) fun _ _ => eda_nil) (by show 5 ≤ 100000; decide)) fun G4 x4 => eda_cons (ed_var rfl (da_ex x4 aL)) fun _ _ => eda_nil) (by show 2 ≤ 100000; decide)) ?_) S'.inn fun v H8 G8 s8 a8 => q v H8 G8 (S'.trans s8) a8
      show PyData.tuple _ = PyData.tuple _
      unfold encH encS dps bes sss
      rw [List.map_map, List.map_map, List.map_map]
      rfl
end
end K9

set_option Elab.async false
set_option linter.all false
set_option maxRecDepth 100000
set_option maxHeartbeats 4000000
namespace K9
open PySem PySem.Spec PyProof.Rows L2 Evl Tw
section
variable {P : Program} {w : World} {K : PySem.W.Frag} {mg : Str → Option Value} {base : Heap} {k : Nat}
/-! the law's own lines -/
def mixD (wd : Str) (ns : List Int) : PyData := .list (.str wd :: ns.map .int)
def wordsD (wd : Str) (ns : List Int) : List Str := wd :: ns.map nS
def strsD : PyData → PyData
  | .list ds => .list (ds.map strD)
  | d => d
def foundL (dp be : List Int) (t p l : Int) (ss : List (List Int)) : List (Str × List Int) := [((("tide" : String) : Str), dp), ((("berths" : String) : Str), be), ((("tugs" : String) : Str), [t]), ((("pilots" : String) : Str), [p]), ((("last" : String) : Str), [l])] ++ ss.map fun s => ((("ship" : String) : Str), s)
def shipMix : PyData → PyData := fun d => mixD "ship" (intsOf d)
def linesD (fs : List (Str × List Int)) : PyData := .list (fs.map fun f => .list ((wordsD f.1 f.2).map .str))
theorem Port.found {dp be : List Int} {t p l : Int} {ss : List (List Int)} (h : Port dp be t p l ss) : ∀ f ∈ foundL dp be t p l ss, f.1.length ≤ 10 ∧ f.2.length ≤ 20 ∧ Small f.2 := by
  intro f hf
  rcases List.mem_append.mp hf with hf | hf
  · simp only [List.mem_cons, List.not_mem_nil, or_false] at hf
    rcases hf with rfl | rfl | rfl | rfl | rfl
    · exact ⟨by show (Str.ofString "tide").length ≤ 10; decide, by have := h.ldp; show dp.length ≤ 20; omega, h.sdp⟩
    · exact ⟨by show (Str.ofString "berths").length ≤ 10; decide, by have := h.lbe; show be.length ≤ 20; omega, h.sbe⟩
    · exact ⟨by show (Str.ofString "tugs").length ≤ 10; decide, by show 1 ≤ 20; decide, h.st⟩
    · exact ⟨by show (Str.ofString "pilots").length ≤ 10; decide, by show 1 ≤ 20; decide, h.sp⟩
    · exact ⟨by show (Str.ofString "last").length ≤ 10; decide, by show 1 ≤ 20; decide, h.sl⟩
  · obtain ⟨s, hs, rfl⟩ := List.mem_map.mp hf
    exact ⟨by show (Str.ofString "ship").length ≤ 10; decide, by have := (h.sss s hs).1; show s.length ≤ 20; omega, (h.sss s hs).2⟩
theorem found_len {dp be : List Int} {t p l : Int} {ss : List (List Int)} (h : Port dp be t p l ss) : (foundL dp be t p l ss).length ≤ 8 := by
  unfold foundL
  rw [List.length_append, List.length_map]
  have := h.lss
  show 5 + ss.length ≤ 8
  omega
def R_lines : List PyData → PyData → Prop := fun ds d => ∃ dp be t p l ss, ds = [encH dp be t p l, encS ss] ∧ Port dp be t p l ss ∧ d = linesD (foundL dp be t p l ss)
theorem ok__law_lines (T : Tx K mg) : FnOk P w K mg base CX0 (k + 1) T.f__law_lines T.d__law_lines ["harbour", "ships"] (spF K R_lines) := by
  refine T.F__law_lines.ok sc_law_lines (spF_len ?_) (fun cdv A outer s H vs Q E hr h => ?_)
  · rintro ds d ⟨_, _, _, _, _, _, rfl, _⟩
    rfl
  obtain ⟨G, ds, d, x, g, ⟨dp, be, t, p, l, ss, rfl, hp, rfl⟩, q⟩ := h
  obtain ⟨v0, r, rfl, g0, g⟩ := daa_inv g
  obtain ⟨v1, r, rfl, g1, g⟩ := daa_inv g
  cases daa_inv0 g
  refine ⟨_, (pss_cons (ps_asg (pv 0) (pg_tup (by rfl) (pgs_cons (pg_name (i := 2) sc_law_lines.nd rfl (.inl rfl)) (pgs_cons (pg_name (i := 3) sc_law_lines.nd rfl (.inl rfl)) (pgs_cons (pg_name (i := 4) sc_law_lines.nd rfl (.inl rfl)) (pgs_cons (pg_name (i := 5) sc_law_lines.nd rfl (.inl rfl)) (pgs_cons (pg_name (i := 6) sc_law_lines.nd rfl (.inl rfl)) pgs_nil)))))))
    (pss_cons (ps_set (i := 7) sc_law_lines.nd rfl (.inl rfl) (pe_lst (pa_cons (pe_op op_cat (pe_lst (pa_cons pe_str pa_nil)) (pv 2)) (pa_cons (pe_op op_cat (pe_lst (pa_cons pe_str pa_nil)) (pv 3)) (pa_cons (pe_lst (pa_cons pe_str (pa_cons (pv 4) pa_nil))) (pa_cons (pe_lst (pa_cons pe_str (pa_cons (pv 5) pa_nil))) (pa_cons (pe_lst (pa_cons pe_str (pa_cons (pv 6) pa_nil))) pa_nil)))))))
    (pss_cons (ps_set (i := 7) sc_law_lines.nd rfl (.inl rfl) (pe_op op_cat (pv 7) (pe_lc (own := [("ship", 9)]) (g := gName 9) (tt := tYes) rfl sc_law_lines.nd (pi_listK K (pv 1)) (blkOk_by (N := N__law_lines) (sc := defScope s__law_lines) (by decide +kernel)) (fun _ _ _ _ _ => (pg_name (i := 9) sc_law_lines.nd rfl (.inl rfl))) (fun _ _ _ _ _ => pts_nil) (fun _ _ _ _ _ => (pe_op op_cat (pe_lst (pa_cons pe_str pa_nil)) (pe_lc (own := [("number", 8)]) (g := gName 8) (tt := tYes) rfl sc_law_lines.nd (pi_tupK K (pv 9)) (blkOk_by (by kernel_rfl)) (fun _ _ _ _ _ => (pg_name (i := 8) sc_law_lines.nd rfl (.inl rfl))) (fun _ _ _ _ _ => pts_nil) (fun _ _ _ _ _ => (pv 8))))))))
    (pss_one (ps_ret (pe_lc (own := [("words", 11)]) (g := gName 11) (tt := tYes) rfl sc_law_lines.nd (pi_listK K (pv 7)) (blkOk_by (N := N__law_lines) (sc := defScope s__law_lines) (by decide +kernel)) (fun _ _ _ _ _ => (pg_name (i := 11) sc_law_lines.nd rfl (.inl rfl))) (fun _ _ _ _ _ => pts_nil) (fun _ _ _ _ _ => (pe_lc (own := [("word", 10)]) (g := gName 10) (tt := tYes) rfl sc_law_lines.nd (pi_listK K (pv 11)) (blkOk_by (by kernel_rfl)) (fun _ _ _ _ _ => (pg_name (i := 10) sc_law_lines.nd rfl (.inl rfl))) (fun _ _ _ _ _ => pts_nil) (fun _ _ _ _ _ => (pe_callTy call_strX (by rfl) T.m_str (by decide +kernel) (pa_cons (pv 10) pa_nil))))))))))), ?_⟩
  refine d_unp (ed_var rfl g0) x rfl fun vs H1 G1 s1 a => ?_
  obtain ⟨w0, r, rfl, a0, a⟩ := daa_inv a
  obtain ⟨w1, r, rfl, a1, a⟩ := daa_inv a
  obtain ⟨w2, r, rfl, a2, a⟩ := daa_inv a
  obtain ⟨w3, r, rfl, a3, a⟩ := daa_inv a
  obtain ⟨w4, r, rfl, a4, a⟩ := daa_inv a
  cases daa_inv0 a
  refine ⟨_, _, rfl, _, _, rfl, _, _, rfl, _, _, rfl, _, _, rfl, rfl, ?_⟩
  have one : ∀ (wd : Str) (G : Hp) (σ : L2.St), ED K (tLst (tCons (tC (.str wd)) tNil)) σ G (.list [.str wd]) := fun wd G σ => ed_lst (eda_cons ed_str fun _ _ => eda_nil) (by show 1 ≤ 100000; decide)
  refine d_asg (ed_lst (eda_cons (ed_cat (one _ _ _) (fun G x => ed_var rfl (da_ex x a0)) (by rw [List.length_map]; have := hp.ldp; show 1 + dp.length ≤ 100000; omega)) fun G2 x2 =>
    eda_cons (ed_cat (one _ _ _) (fun G x => ed_var rfl (da_ex (x2.trans x) a1)) (by rw [List.length_map]; have := hp.lbe; show 1 + be.length ≤ 100000; omega)) fun G3 x3 =>
    eda_cons (ed_lst (eda_cons ed_str fun G x => eda_cons (ed_var rfl (da_ex ((x2.trans x3).trans x) a2)) fun _ _ => eda_nil) (by show 2 ≤ 100000; decide)) fun G4 x4 =>
    eda_cons (ed_lst (eda_cons ed_str fun G x => eda_cons (ed_var rfl (da_ex (((x2.trans x3).trans x4).trans x) a3)) fun _ _ => eda_nil) (by show 2 ≤ 100000; decide)) fun G5 x5 =>
    eda_cons (ed_lst (eda_cons ed_str fun G x => eda_cons (ed_var rfl (da_ex ((((x2.trans x3).trans x4).trans x5).trans x) a4)) fun _ _ => eda_nil) (by show 2 ≤ 100000; decide)) fun G6 x6 => eda_nil) (by show 5 ≤ 100000; decide)) s1.inn fun v2 H2 G2 s2 b => ?_
  refine d_asg (ed_is (e := .list ((foundL dp be t p l ss).map fun f => mixD f.1 f.2)) (ed_cat (ed_var rfl b) (fun G3 x3 => ed_lcL shipMix (ed_var rfl (da_ex ((s1.an.trans s2.an).trans x3) g1)) ?_ (fun _ => rfl) ?_) ?_) ?_) s2.inn fun v3 H3 G3 s3 c => ?_
  · rw [List.length_map]
    have := hp.lss
    omega
  · intro d v G4 hd x4 gd
    obtain ⟨s, hs, rfl⟩ := List.mem_map.mp hd
    refine ed_is (ed_cat (one _ _ _) (fun G5 x5 => ed_lcT (fun d => d) (ed_var rfl (da_ex x5 gd)) ?_ (fun _ => rfl) ?_) ?_) ?_
    · rw [List.length_map]
      have := (hp.sss s hs).1
      omega
    · intro d v G6 _ x6 g6
      exact ed_var rfl g6
    · rw [List.length_map, List.length_map]
      have := (hp.sss s hs).1
      show 1 + s.length ≤ 100000
      omega
    · show PyData.list _ = mixD "ship" (intsOf (.tuple (s.map .int)))
      rw [intsOf_tup, List.map_id']
      rfl
  · rw [List.length_map, List.length_map]
    have := hp.lss
    show 5 + ss.length ≤ 100000
    omega
  · unfold foundL
    rw [List.map_append, List.map_map, List.map_map]
    congr 2
    apply List.map_congr_left
    intro s _
    show mixD "ship" (intsOf (.tuple (s.map .int))) = mixD "ship" s
    rw [intsOf_tup]
  refine d_ret (ed_is (ed_lcL strsD (ed_var rfl c) ?_ (fun _ => rfl) ?_) ?_) s3.inn fun v H4 G4 s4 c4 => q v H4 G4 (((s1.trans s2).trans s3).trans s4) c4
  · rw [List.length_map]
    have := found_len hp
    omega
  · intro d v G4 hd x4 gd
    obtain ⟨f, hf, rfl⟩ := List.mem_map.mp hd
    obtain ⟨_, f2, f3⟩ := hp.found f hf
    refine ed_lcL strD (ed_var rfl gd) ?_ (fun _ => rfl) ?_
    · rw [List.length_cons, List.length_map]
      omega
    · intro d v G5 hd x5 g5
      rcases List.mem_cons.mp hd with rfl | hd
      · exact ed_strS (ed_var rfl g5)
      · obtain ⟨n, hn, rfl⟩ := List.mem_map.mp hd
        exact ed_strI (ed_var rfl g5) (small_log (f3 n hn).1 (by have := (f3 n hn).2; omega))
  · show PyData.list _ = PyData.list _
    rw [List.map_map]
    congr 1
    apply List.map_congr_left
    intro f _
    show PyData.list ((PyData.str f.1 :: f.2.map .int).map strD) = PyData.list ((f.1 :: f.2.map nS).map .str)
    rw [List.map_cons, List.map_cons, strs_of]
    rfl
def strsOf : PyData → List Str
  | .list ds => ds.filterMap fun d => match d with | .str i => some i | _ => none
  | _ => []
theorem strsOf_lst (s : List Str) : strsOf (.list (s.map .str)) = s := by
  show (s.map PyData.str).filterMap (fun d => match d with | .str i => some i | _ => none) = s
  induction s with
  | nil => rfl
  | cons a r ih =>
    rw [List.map_cons, List.filterMap_cons]
    show a :: _ = _
    rw [ih]
def R_text : List PyData → PyData → Prop := fun ds d => ∃ fs : List (Str × List Int), ds = [linesD fs] ∧ fs.length ≤ 8 ∧ (∀ f ∈ fs, f.1.length ≤ 10 ∧ f.2.length ≤ 20 ∧ Small f.2) ∧ d = .str (Txt.join "" (fs.map fun f => lineD f.1 f.2))
theorem ok__law_text (T : Tx K mg) : FnOk P w K mg base CX0 (k + 1) T.f__law_text T.d__law_text ["lines"] (spF K R_text) := by
  refine T.F__law_text.ok sc_law_text (spF_len ?_) (fun cdv A outer s H vs Q E hr h => ?_)
  · rintro ds d ⟨_, rfl, _⟩
    rfl
  obtain ⟨G, ds, d, x, g, ⟨fs, rfl, hl, hf, rfl⟩, q⟩ := h
  obtain ⟨v0, r, rfl, g0, g⟩ := daa_inv g
  cases daa_inv0 g
  refine ⟨_, (pss_one (ps_ret (pe_joinK K pe_str (pe_lc (own := [("words", 1)]) (g := gName 1) (tt := tYes) rfl sc_law_text.nd (pi_listK K (pv 0)) (blkOk_by (N := N__law_text) (sc := defScope s__law_text) (by decide +kernel)) (fun _ _ _ _ _ => (pg_name (i := 1) sc_law_text.nd rfl (.inl rfl))) (fun _ _ _ _ _ => pts_nil) (fun _ _ _ _ _ => (pe_op op_add_str (pe_joinK K pe_str (pv 1)) pe_str)))))), ?_⟩
  refine d_ret (ed_join ed_str (fun G1 x1 => ed_is (ed_lcL (fun d => .str (Txt.join " " (strsOf d) ++ "\n")) (ed_var rfl (da_ex x1 g0)) ?_ (fun _ => rfl) ?_) ?_) ?_) x q
  · rw [List.length_map]
    omega
  · intro d v G4 hd x4 gd
    obtain ⟨f, hm, rfl⟩ := List.mem_map.mp hd
    obtain ⟨f1, f2, f3⟩ := hf f hm
    have e1 : strsOf (.list ((wordsD f.1 f.2).map .str)) = wordsD f.1 f.2 := strsOf_lst _
    rw [e1]
    refine ed_adds (ed_join ed_str (fun G5 x5 => ed_var rfl (da_ex x5 gd)) ?_) ed_str ?_
    · exact Nat.le_trans (join_le (m := 21) (b := 10) (c := 1) (by show (f.1 :: f.2.map nS).length ≤ 21; rw [List.length_cons, List.length_map]; omega) (line_parts f1 f3) (by decide)) (by decide)
    · have h := join_len (sep := " ") (ts := wordsD f.1 f.2) (m := 21) (b := 10) (c := 1) (by show (f.1 :: f.2.map nS).length ≤ 21; rw [List.length_cons, List.length_map]; omega) (line_parts f1 f3) (by decide)
      have e : ((("\n" : String) : Str)).length = 1 := rfl
      have e2 : sizeLine = 16777216 := by decide
      rw [e, e2]
      omega
  · rw [List.map_map]
    show PyData.list (fs.map fun f => PyData.str (Txt.join " " (strsOf (.list ((wordsD f.1 f.2).map .str))) ++ "\n")) = PyData.list ((fs.map fun f => lineD f.1 f.2).map .str)
    rw [List.map_map]
    congr 1
    apply List.map_congr_left
    intro f _
    rw [strsOf_lst]
    rfl
  · refine Nat.le_trans (join_le (m := 8) (b := 300) (c := 0) (by rw [List.length_map]; exact hl) (fun t ht => ?_) (by decide)) (by decide)
    obtain ⟨f, hm, rfl⟩ := List.mem_map.mp ht
    obtain ⟨f1, f2, f3⟩ := hf f hm
    exact line_len f1 f2 f3
end
end K9

set_option Elab.async false
set_option linter.all false
set_option maxRecDepth 100000
set_option maxHeartbeats 4000000
namespace K9
open PySem PySem.Spec PyProof.Rows L2 Evl Tw
section
variable {P : Program} {w : World} {K : PySem.W.Frag} {mg : Str → Option Value} {base : Heap}
/-! the law -/
theorem port_lines (dp be : List Int) (t p l : Int) (ss : List (List Int)) : Txt.join "" ((foundL dp be t p l ss).map fun f => lineD f.1 f.2) = textD dp be t p l ss := by
  unfold foundL textD
  rw [List.map_append, List.map_map]
  rfl
theorem ok_small {i : Int} (h : 0 ≤ i ∧ i < 1000) : Ok 0 17 (.int i) := ok_int (by omega) (by omega)
theorem ok_smalls {ns : List Int} (h : Small ns) : ∀ d ∈ ns.map PyData.int, Ok 0 17 d := by
  intro d hd
  obtain ⟨n, hn, rfl⟩ := List.mem_map.mp hd
  exact ok_small (h n hn)
theorem ok_port {dp be : List Int} {t p l : Int} {ss : List (List Int)} (h : Port dp be t p l ss) : Ok 3 10000 (.tuple [encH dp be t p l, encS ss]) := by
  have hd := h.ldp
  have hb := h.lbe
  have hs := h.lss
  have h1 : Ok 2 2000 (encH dp be t p l) := by
    refine ok_tup (n := 1) (w := 300) (fun d hm => ?_) (by show 5 * 301 ≤ 2000; decide)
    simp only [List.mem_cons, List.not_mem_nil, or_false] at hm
    rcases hm with rfl | rfl | rfl | rfl | rfl
    · exact ok_list (ok_smalls h.sdp) (by rw [List.length_map]; omega)
    · exact ok_list (ok_smalls h.sbe) (by rw [List.length_map]; omega)
    · exact (ok_small (h.st t List.mem_cons_self)).mono (by decide) (by decide)
    · exact (ok_small (h.sp p List.mem_cons_self)).mono (by decide) (by decide)
    · exact (ok_small (h.sl l List.mem_cons_self)).mono (by decide) (by decide)
  have h2 : Ok 2 2000 (encS ss) := by
    refine ok_list (n := 1) (w := 200) (fun d hm => ?_) (by rw [List.length_map]; omega)
    obtain ⟨s, hs, rfl⟩ := List.mem_map.mp hm
    exact ok_tup (ok_smalls (h.sss s hs).2) (by rw [List.length_map]; have := (h.sss s hs).1; omega)
  exact ok_tup (mem2 h1 h2) (by show 2 * 2001 ≤ 10000; decide)
def lawLevel : Nat := 3
theorem ok_law (T : Tx K mg) : FnG P w K mg base lawLevel T.f_law T.d_law ["script"] (spLaw K) := by
  refine fnG_of T.F_law sclaw spLaw_len (fun cdv A outer s H vs Q E gg hr h => ?_)
  have hu := hr.units
  obtain ⟨a, ns, rfl, hS, hl, q⟩ := h
  refine ⟨_, (pss_cons (ps_set (i := 1) sclaw.nd rfl (.inl rfl) (pe_call (ok_draws T) hr (by rfl) T.g__law_draws T.F__law_draws.kp T.b__law_draws .nil pass0 (pa_cons (pv 0) (pa_cons pe_int pa_nil))))
    (pss_cons (ps_asg (pe_call (ok__law_port T) hr (by rfl) T.g__law_port T.F__law_port.kp T.b__law_port .nil pass0 (pa_cons (pv 1) pa_nil)) (pg_tup (by rfl) (pgs_cons (pg_name (i := 2) sclaw.nd rfl (.inl rfl)) (pgs_cons (pg_name (i := 3) sclaw.nd rfl (.inl rfl)) pgs_nil))))
    (pss_cons (ps_set (i := 4) sclaw.nd rfl (.inl rfl) (pe_callB (reprK K gg hu) (by rfl) T.m_repr (by decide +kernel) (pa_cons (pe_tup (pa_cons (pv 2) (pa_cons (pv 3) pa_nil))) pa_nil)))
    (pss_cons (ps_for PassesOwn.never rfl (pi_range1 (by rfl) T.m_range (pa_cons pe_int pa_nil)) (pg_name (i := 5) sclaw.nd rfl (.inl rfl))
      (pss_cons (ps_set (i := 6) sclaw.nd rfl (.inl rfl) (pe_call (ok_write_harbour T) hr (by rfl) T.g_write_harbour T.F_write_harbour.kp T.b_write_harbour .nil pass0 (pa_cons (pv 2) (pa_cons (pv 3) pa_nil))))
      (pss_one (ps_if (PW.pt (pw_or (pt_not (pt_val (pe_callB RZ.call_isTy (by rfl) T.m_isinstance (by decide +kernel) (pa_cons (pv 6) (pa_cons (pe_bltn (v := .ty "str") (by rfl) T.m_str (by decide +kernel) rfl) pa_nil))))) (pw_or1 (pt_cmpR op_ne (pv 6) (pe_call (ok__law_text T) hr (by rfl) T.g__law_text T.F__law_text.kp T.b__law_text .nil pass0 (pa_cons (pe_call (ok__law_lines T) hr (by rfl) T.g__law_lines T.F__law_lines.kp T.b__law_lines .nil pass0 (pa_cons (pv 2) (pa_cons (pv 3) pa_nil))) pa_nil)) (nomark _))))) (pss_one (ps_ret pe_bl)) pss_nil))))
    (pss_one (ps_ret (pe_cmpR op_eq (pe_callB (reprK K gg hu) (by rfl) T.m_repr (by decide +kernel) (pa_cons (pe_tup (pa_cons (pv 2) (pa_cons (pv 3) pa_nil))) pa_nil)) (pv 4) (nomark _)))))))), ?_⟩
  refine d_draws (n := 45) rfl rfl hS hl (by decide) fun ds p H1 dr e1 a1 => ?_
  have hp := port_ok fun i => ds.getD i 0
  refine d_unp (ed_call (d := portD fun i => ds.getD i 0) (eda_cons (ed_var rfl a1) fun _ _ => eda_nil) ⟨ds, dr, rfl, rfl⟩) (Ex.refl H1) rfl fun vs H2 G2 s2 a => ?_
  obtain ⟨v2, r, rfl, a2, a⟩ := daa_inv a
  obtain ⟨v3, r, rfl, a3, a⟩ := daa_inv a
  cases daa_inv0 a
  refine ⟨_, _, rfl, _, _, rfl, rfl, ?_⟩
  generalize dps (fun i => ds.getD i 0) = dp at hp a2
  generalize bes (fun i => ds.getD i 0) = be at hp a2
  generalize sss (fun i => ds.getD i 0) = ss at hp a3
  generalize ((fun i => ds.getD i 0) 16 % 7 : Int) = t at hp a2
  generalize (1 + (fun i => ds.getD i 0) 17 % 3 : Int) = p at hp a2
  generalize (1 + (fun i => ds.getD i 0) 18 % 40 : Int) = l at hp a2
  have rep : ∀ {σ : L2.St} {G : Hp}, σ[2]? = some (some v2) → σ[3]? = some (some v3) → Ex G2 G → ED K (tCB (rRepr K) (tCons (tTup (tCons (tVar 2) (tCons (tVar 3) tNil))) tNil)) σ G (.str (PyData.tuple [encH dp be t p l, encS ss]).shown) := fun h2 h3 x =>
    ed_reprO (ed_tup (eda_cons (ed_var h2 (da_ex x a2)) fun G x2 => eda_cons (ed_var h3 (da_ex (x.trans x2) a3)) fun _ _ => eda_nil) (by show 2 ≤ 100000; decide)) ⟨_, .inr rfl⟩ (ok_port hp) (by decide) (by decide)
  refine d_asg (rep rfl rfl (Ex.refl _)) s2.inn fun v4 H4 G4 s4 a4 => ?_
  refine d_range (K := K) (n := 2) (G := G4) ed_int s4.inn (by decide) (fun i σ' H' => ∃ x0 x1 x5 x6, σ' = [x0, x1, some v2, some v3, some v4, x5, x6] ∧ Ex G4 H') ?_ ?_ ?_
  · intro H5 e5
    exact ⟨_, _, _, _, rfl, s4.inn.trans e5⟩
  · rintro i σ' H' hi ⟨x0, x1, x5, x6, rfl, x⟩
    refine d_asg (ed_call (eda_cons (ed_var rfl (da_ex s4.an a2)) fun G x2 => eda_cons (ed_var rfl (da_ex (s4.an.trans x2) a3)) fun _ _ => eda_nil) ⟨dp, be, t, p, l, ss, rfl, hp, rfl⟩) x fun v6 H6 G6 s6 a6 => ?_
    refine d_if1 (b := false) (et_is (et_or (et_not (et_isStr (ed_var rfl a6))) (fun _ => et_neS (ed_var rfl a6) (ed_call (eda_cons (ed_call (eda_cons (ed_var rfl (da_ex (s4.an.trans s6.an) a2)) fun G x2 => eda_cons (ed_var rfl (da_ex ((s4.an.trans s6.an).trans x2) a3)) fun _ _ => eda_nil) ⟨dp, be, t, p, l, ss, rfl, hp, rfl⟩) fun _ _ => eda_nil) ⟨foundL dp be t p l ss, rfl, found_len hp, hp.found, rfl⟩))) ?_) s6.inn (fun z => nomatch z) fun _ H7 e7 => ?_
    · rw [port_lines, decide_eq_true rfl]
      rfl
    · exact ⟨_, _, _, _, rfl, (s6.an.trans s6.inn).trans e7⟩
  · rintro σ' H' ⟨x0, x1, x5, x6, rfl, x⟩
    refine d_ret (ed_eqS (rep rfl rfl s4.an) (ed_var rfl a4)) x fun v H8 G8 s8 a8 => ?_
    rw [decide_eq_true rfl] at a8
    cases a8
    exact q H8
theorem all_ok {fa : Addr} (T : Tx K mg) (hfa : mg "law" = some (.ref fa)) : ∃ fd : FuncData, (∀ (s : Shared) (v : Value), BindsTo s fd ⟨[v], []⟩ [("script", v)]) ∧ ∀ base : Heap, K.In base → base.Ns mainGlobals mg → FnG P w K mg base lawLevel fa fd ["script"] (spLaw K) := by
  have e := hfa.symm.trans T.g_law
  cases e
  refine ⟨T.d_law, fun s v => ?_, fun base _ _ => ok_law T⟩
  obtain ⟨_, _, _, _, _, _, _, _, _, h, _⟩ := T.F_law.ex
  rw [h]
  exact .of_eq rfl
end
def tx_mk {K : PySem.W.Frag} {h : Heap} {mg : Str → Option Value} (X : K.In h) (G : h.Ns mainGlobals mg)
    {f0 : Addr} {od0 an0 : Option Addr} {sl0 : Array (Option Value)} {oc0 kV0 dc0 pm0 cd0 ct0 : Value}
    (a0 : PySem.W.nsIn K mainGlobals "_line_of" = some (some (.ref f0))) (l0 : K.lookup f0 = some ⟨oc0, od0, .func (PySem.W.fnOf "_line_of" "_line_of" (defArgs s__line_of) (defBody s__line_of) (defScope s__line_of) .none kV0 dc0 pm0 an0 cd0 ct0), sl0⟩) (c0 : PySem.W.codeIn K cd0 "_line_of" = true) (k0 : PySem.W.keepIn K (.ref f0) = true)
    {f1 : Addr} {od1 an1 : Option Addr} {sl1 : Array (Option Value)} {oc1 kV1 dc1 pm1 cd1 ct1 : Value}
    (a1 : PySem.W.nsIn K mainGlobals "write_harbour" = some (some (.ref f1))) (l1 : K.lookup f1 = some ⟨oc1, od1, .func (PySem.W.fnOf "write_harbour" "write_harbour" (defArgs s_write_harbour) (defBody s_write_harbour) (defScope s_write_harbour) .none kV1 dc1 pm1 an1 cd1 ct1), sl1⟩) (c1 : PySem.W.codeIn K cd1 "write_harbour" = true) (k1 : PySem.W.keepIn K (.ref f1) = true)
    {f2 : Addr} {od2 an2 : Option Addr} {sl2 : Array (Option Value)} {oc2 kV2 dc2 pm2 cd2 ct2 : Value}
    (a2 : PySem.W.nsIn K mainGlobals "_law_draws" = some (some (.ref f2))) (l2 : K.lookup f2 = some ⟨oc2, od2, .func (PySem.W.fnOf "_law_draws" "_law_draws" (defArgs s__law_draws) (defBody s__law_draws) (defScope s__law_draws) .none kV2 dc2 pm2 an2 cd2 ct2), sl2⟩) (c2 : PySem.W.codeIn K cd2 "_law_draws" = true) (k2 : PySem.W.keepIn K (.ref f2) = true)
    {f3 : Addr} {od3 an3 : Option Addr} {sl3 : Array (Option Value)} {oc3 kV3 dc3 pm3 cd3 ct3 : Value}
    (a3 : PySem.W.nsIn K mainGlobals "_law_port" = some (some (.ref f3))) (l3 : K.lookup f3 = some ⟨oc3, od3, .func (PySem.W.fnOf "_law_port" "_law_port" (defArgs s__law_port) (defBody s__law_port) (defScope s__law_port) .none kV3 dc3 pm3 an3 cd3 ct3), sl3⟩) (c3 : PySem.W.codeIn K cd3 "_law_port" = true) (k3 : PySem.W.keepIn K (.ref f3) = true)
    {f4 : Addr} {od4 an4 : Option Addr} {sl4 : Array (Option Value)} {oc4 kV4 dc4 pm4 cd4 ct4 : Value}
    (a4 : PySem.W.nsIn K mainGlobals "_law_lines" = some (some (.ref f4))) (l4 : K.lookup f4 = some ⟨oc4, od4, .func (PySem.W.fnOf "_law_lines" "_law_lines" (defArgs s__law_lines) (defBody s__law_lines) (defScope s__law_lines) .none kV4 dc4 pm4 an4 cd4 ct4), sl4⟩) (c4 : PySem.W.codeIn K cd4 "_law_lines" = true) (k4 : PySem.W.keepIn K (.ref f4) = true)
    {f5 : Addr} {od5 an5 : Option Addr} {sl5 : Array (Option Value)} {oc5 kV5 dc5 pm5 cd5 ct5 : Value}
    (a5 : PySem.W.nsIn K mainGlobals "_law_text" = some (some (.ref f5))) (l5 : K.lookup f5 = some ⟨oc5, od5, .func (PySem.W.fnOf "_law_text" "_law_text" (defArgs s__law_text) (defBody s__law_text) (defScope s__law_text) .none kV5 dc5 pm5 an5 cd5 ct5), sl5⟩) (c5 : PySem.W.codeIn K cd5 "_law_text" = true) (k5 : PySem.W.keepIn K (.ref f5) = true)
    {f6 : Addr} {od6 an6 : Option Addr} {sl6 : Array (Option Value)} {oc6 kV6 dc6 pm6 cd6 ct6 : Value}
    (a6 : PySem.W.nsIn K mainGlobals "law" = some (some (.ref f6))) (l6 : K.lookup f6 = some ⟨oc6, od6, .func (PySem.W.fnOf "law" "law" (defArgs s_law) (defBody s_law) (defScope s_law) .none kV6 dc6 pm6 an6 cd6 ct6), sl6⟩) (c6 : PySem.W.codeIn K cd6 "law" = true) (k6 : PySem.W.keepIn K (.ref f6) = true)
    (z0 : PySem.W.nsIn K mainGlobals "len" = some none)
    (z1 : PySem.W.nsIn K mainGlobals "int" = some none)
    (z2 : PySem.W.nsIn K mainGlobals "range" = some none)
    (z3 : PySem.W.nsIn K mainGlobals "str" = some none)
    (z4 : PySem.W.nsIn K mainGlobals "tuple" = some none)
    (z5 : PySem.W.nsIn K mainGlobals "repr" = some none)
    (z6 : PySem.W.nsIn K mainGlobals "isinstance" = some none) : Tx K mg where
  f__line_of := _
  d__line_of := _
  F__line_of := fun_mk (st := s__line_of) l0 c0 k0
  g__line_of := PySem.W.mg_of X G a0
  b__line_of := (fun_mk (st := s__line_of) l0 c0 k0).binds fun _ _ _ _ _ _ us hl => match us, hl with | [_, _], _ => rfl
  f_write_harbour := _
  d_write_harbour := _
  F_write_harbour := fun_mk (st := s_write_harbour) l1 c1 k1
  g_write_harbour := PySem.W.mg_of X G a1
  b_write_harbour := (fun_mk (st := s_write_harbour) l1 c1 k1).binds fun _ _ _ _ _ _ us hl => match us, hl with | [_, _], _ => rfl
  f__law_draws := _
  d__law_draws := _
  F__law_draws := fun_mk (st := s__law_draws) l2 c2 k2
  g__law_draws := PySem.W.mg_of X G a2
  b__law_draws := (fun_mk (st := s__law_draws) l2 c2 k2).binds fun _ _ _ _ _ _ us hl => match us, hl with | [_, _], _ => rfl
  f__law_port := _
  d__law_port := _
  F__law_port := fun_mk (st := s__law_port) l3 c3 k3
  g__law_port := PySem.W.mg_of X G a3
  b__law_port := (fun_mk (st := s__law_port) l3 c3 k3).binds fun _ _ _ _ _ _ us hl => match us, hl with | [_], _ => rfl
  f__law_lines := _
  d__law_lines := _
  F__law_lines := fun_mk (st := s__law_lines) l4 c4 k4
  g__law_lines := PySem.W.mg_of X G a4
  b__law_lines := (fun_mk (st := s__law_lines) l4 c4 k4).binds fun _ _ _ _ _ _ us hl => match us, hl with | [_, _], _ => rfl
  f__law_text := _
  d__law_text := _
  F__law_text := fun_mk (st := s__law_text) l5 c5 k5
  g__law_text := PySem.W.mg_of X G a5
  b__law_text := (fun_mk (st := s__law_text) l5 c5 k5).binds fun _ _ _ _ _ _ us hl => match us, hl with | [_], _ => rfl
  f_law := _
  d_law := _
  F_law := fun_mk (st := s_law) l6 c6 k6
  g_law := PySem.W.mg_of X G a6
  b_law := (fun_mk (st := s_law) l6 c6 k6).binds fun _ _ _ _ _ _ us hl => match us, hl with | [_], _ => rfl
  m_len := PySem.W.mg_none_of X G z0
  m_int := PySem.W.mg_none_of X G z1
  m_range := PySem.W.mg_none_of X G z2
  m_str := PySem.W.mg_none_of X G z3
  m_tuple := PySem.W.mg_none_of X G z4
  m_repr := PySem.W.mg_none_of X G z5
  m_isinstance := PySem.W.mg_none_of X G z6
end K9
open PySem PySem.W PyProof.Rows
set_option maxHeartbeats 0 in
theorem PySem.Challenge.cw_tidewaits_k09_harbours_are_written_holds : PySem.Challenge.rw_tidewaits_k09_harbours_are_written.Holds := by
  w_on; o_law; k_head; (case hw => w_witness2)
  k_fill
  refine Tw.walk_G (l := PySem.Challenge.rw_tidewaits_k09_harbours_are_written) (n := 63) (k := K9.lawLevel) (x := "script") (sp := Tw.spLaw) rfl (by decide) rfl ⟨rfl, by decide, by decide⟩ (fun w h Y => PySem.W.kIn_of Y) ?F (fun _ _ _ _ hl hS => ⟨_, _, rfl, hS, hl, fun _ => rfl⟩)
  case F =>
    intro w mg fa h KX G hmg
    refine' K9.all_ok (K9.tx_mk KX G ?a0 ?l0 ?c0 ?k0 ?a1 ?l1 ?c1 ?k1 ?a2 ?l2 ?c2 ?k2 ?a3 ?l3 ?c3 ?k3 ?a4 ?l4 ?c4 ?k4 ?a5 ?l5 ?c5 ?k5 ?a6 ?l6 ?c6 ?k6 ?z0 ?z1 ?z2 ?z3 ?z4 ?z5 ?z6) hmg
    (case a0 => k_is); (case l0 => k_is); (case c0 => k_is); (case k0 => k_is); (case a1 => k_is); (case l1 => k_is); (case c1 => k_is); (case k1 => k_is); (case a2 => k_is); (case l2 => k_is); (case c2 => k_is); (case k2 => k_is); (case a3 => k_is); (case l3 => k_is); (case c3 => k_is); (case k3 => k_is); (case a4 => k_is); (case l4 => k_is); (case c4 => k_is); (case k4 => k_is); (case a5 => k_is); (case l5 => k_is); (case c5 => k_is); (case k5 => k_is); (case a6 => k_is); (case l6 => k_is); (case c6 => k_is); (case k6 => k_is); (case z0 => k_is); (case z1 => k_is); (case z2 => k_is); (case z3 => k_is); (case z4 => k_is); (case z5 => k_is); (case z6 => k_is)

