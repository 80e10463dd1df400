import PyProof.Rows.All
import Wide.All
import OpenK.AllK
import Wide.FinOn
import HandS.Base
import HandS.Call
import HandS.Ends
import HandS.Words
import HandS.List
import HandS.Comp
import HandS.Dict
import HandS.Iter
import HandS.Text
import HandS.IsInst
import HandS.TupAny
import HandS.Deep
import HandS.Style
import HandS.Zip
import HandS.SortRule
import PyProof.Rows.SortKeyStr
import KE.KRevSl
import PyProof.SliceStr2
import PyProof.StrOps2
import KE.GoesZip
import KE.KDictZip
import PyProof.Draws
import PySem.Challenge.RW_solvedplay_k07_places_of_texts
set_option Elab.async false
set_option maxRecDepth 100000
set_option maxHeartbeats 4000000
set_option linter.all false
namespace Wq
open PySem L2 PySem.Spec PyProof.Rows

/-! ### a def's promise where no repr is under way -/
structure FnG (P : Program) (w : World) (K : PySem.W.Frag) (mg : Str → Option Value) (base : Heap)
    (k : Nat) (f : Addr) (fd : FuncData) (ps : List Str) (sp : Sp) : Prop where
  len : ∀ vs H Q E, sp vs H Q E → vs.length = ps.length
  run : ∀ (A : Around) (outer : List Env) (s : Shared) (H : Hp) (args : Args) (us : List Value) (vs : List V) (Q : VK) (E : XK),
    Room k A → A.guards = some [] → Env0 P w K mg base A outer s H → BindsTo s fd args (ps.zip us) → Vals vs us →
    sp vs H Q E → codeAny (model P w) A (.call (.ref f) args) (CR CX0 outer P w H s Q E) s
theorem FnG.mono {P : Program} {w : World} {K : PySem.W.Frag} {mg : Str → Option Value} {base : Heap} {j k : Nat} {f : Addr} {fd : FuncData} {ps : List Str} {sp : Sp}
    (G : FnG P w K mg base j f fd ps sp) (h : j ≤ k) : FnG P w K mg base k f fd ps sp :=
  { len := G.len, run := fun A o s H args us vs Q E hr => G.run A o s H args us vs Q E (hr.mono h) }
section
variable {P : Program} {w : World} {K : PySem.W.Frag} {mg : Str → Option Value} {base : Heap}
theorem fng_of {x qual : Str} {st : Stmt} {f : Addr} {fd : FuncData} {N ps : List Str} {k : Nat} {sp : Sp} (F : Fun K x qual st f fd)
    (Sc : FnScope N ps (defScope st)) (len : ∀ vs H Q E, sp vs H Q E → vs.length = ps.length)
    (body : ∀ (cdv : Value) (A : Around) (outer : List Env) (s : Shared) (H : Hp) (vs : List V) (Q : VK) (E : XK),
      Room k (A.deeper (envOfC qual (defScope st) s.heap.objs.size f cdv)) → A.guards = some [] → sp vs H Q E →
      ∃ t, PSs (cxOf CX0 P w K mg base N qual (defScope st) f cdv A outer s H E).nox (defBody st) t ∧
        t { nx := fun _ H' => Q .non H', rt := Q } (L2.start N vs) H) : FnG P w K mg base (k + 1) f fd ps sp := by
  obtain ⟨oc, od, kV, doc, pm, an, cdv, ct, osl, rfl, lk, hcd⟩ := F.ex
  constructor
  · exact len
  intro A outer s H args us vs Q E hr gr e0 hb r hsp
  have KX : K.In s.heap := e0.mod.kin.keeps fun b o e => (e0.bs b o e).1
  have hkd : ∀ y ∈ ps.zip us, (defScope st).names.lookup y.1 = some .local ∨
      ((defScope st).names.lookup y.1 = some .cell ∧ ((cellsFrom (s.heap.objs.size + 1) (defScope st).names []).lookup y.1).isSome = true) := by
    rintro ⟨n, v⟩ hy
    have hn := (List.of_mem_zip hy).1
    rcases Sc.par n hn with q | q
    · left; exact q
    · right; exact ⟨q, PySem.W.cellsFrom_some _ _ _ (.inl q)⟩
  refine codeAny_call_function hr.depth (KX _ _ lk) rfl Sc.co Sc.gen rfl (PySem.W.codeRec_of KX hcd) ?_
  refine hb _ _ _ _ (wpAny_newFunctionEnv_cells Sc.kind hkd ?_)
  intro env he s1 x1
  subst he
  have lim : s.heap.NoLimit := e0.mod.nolimit.keeps fun b o e => (e0.bs b o e).1
  refine ⟨lim.keeps x1.toInCall.keep, ?_⟩
  apply codeAny_func
  obtain ⟨t, ht, hq⟩ := body cdv A outer s H vs Q E (hr.deeper _) gr hsp
  have J0 := inv_start (CX := CX0) (E := E) Sc hr.hd e0 (len _ _ _ _ hsp) r x1
  have run := ht.nox.run [] s1 (L2.start N vs) H _ J0 hq
  refine wpAny_mono run ?_ fun _ _ z => z
  intro fl s2 hs
  cases fl with
  | brk =>
    obtain ⟨_, _, _, z⟩ := hs
    exact z.elim
  | cont =>
    obtain ⟨_, _, _, z⟩ := hs
    exact z.elim
  | next =>
    obtain ⟨_, H2, J, z⟩ := hs
    show CE outer P w H s Q Value.none s2
    exact ⟨V.non, H2, J.os, J.bare, J.base, J.hok, rfl, z⟩
  | ret u =>
    obtain ⟨v, _, H2, J, rv, z⟩ := hs
    show CE outer P w H s Q u s2
    exact ⟨v, H2, J.os, J.bare, J.base, J.hok, rv, z⟩
end
/-- f(e, ..) -/
theorem peg_call {X : Cx} {k : Nat} {f : Addr} {fd : FuncData} {ps : List Str} {sp : Sp} {x : Str} {p pos : Pos} {e : Expr} {es : List Expr} {t : TA}
    (G : FnG X.prog X.w X.K X.mg X.base k f fd ps sp) (hr : Room k X.A) (gr : X.A.guards = some []) (hg : Gl X x) (hm : X.mg x = some (.ref f))
    (hk : PySem.W.keepIn X.K (.ref f) = true) (hb : Binds X.K fd ps []) (ha : PA X (e :: es) t) (hdb : (x == ("__debug__" : Str)) = false)
    (he : starEach (e :: es) X.env = (false, eval e X.env) :: starEach es X.env)
    (hpl : (backTo pos (starEach es X.env)).any (·.1) = false) : PE X (.Call (.Name x p) (e :: es) [] pos) (tCall sp [] E0 t) := by
  constructor
  intro pins s σ H Q I h
  refine wpAny_Call_Name_kw (ld_glob I hg hm ?_ hdb)
  refine PySem.W.callWith_K (h₀ := X.base) I.ok.mod.kin hk ?_ he hpl
  refine thn (ha.run pos pins s σ H _ I h) ?_
  rintro us s1 ⟨vs, H1, I1, r, q⟩
  refine ⟨I1.kIn, ?_⟩
  have q' : sp vs H1 Q E0 := by
    have q0 : sp (vs ++ []) H1 Q E0 := q
    rwa [List.append_nil] at q0
  have hl : (us ++ []).length = ps.length := by
    rw [List.append_nil, ← r.length]
    exact G.len _ _ _ _ q'
  have hb1 := hb s1 us I1.kIn hl
  rw [List.append_nil] at hb1
  apply wpAny_call
  refine codeAny_mono (G.run X.A X.stack s1 H1 ⟨us, []⟩ us vs Q E0 hr gr I1.env0 hb1 r q') ?_
  intro res s2 hq
  match res, hq with
  | .ok (.ret u), hq => exact I1.after hq
/-- the law itself, called by the claim's caller -/
theorem law_by {P : Program} {w : World} {K : PySem.W.Frag} {mg mb : Str → Option Value} {k : Nat} {fa a : Addr} {fd : FuncData} {x : Str} {sp : Sp}
    {s1 : Shared} {vs : List Value} {ns : List Int} (KX : K.In s1.heap) (hns : s1.heap.Ns mainGlobals mg) (hb : s1.heap.Ns builtinsNs mb)
    (hbb : ∀ x : Str, x ≠ "__name__" → mb x = bootBuiltins x) (hlim : s1.heap.NoLimit) (hg : s1.gens = #[])
    (ha : s1.heap.get? a = some { cls := .type "list", data := .seq vs.toArray }) (hi : IntsAre vs ns) (hl : ns.length ≤ sizeLine)
    (hr : Room k callerA) (F : ∀ base : Heap, K.In base → base.Ns mainGlobals mg → FnG P w K mg base k fa fd [x] sp)
    (hbind : ∀ (s : Shared) (u : Value), BindsTo s fd ⟨[u], []⟩ [(x, u)])
    (hsp : ∀ H : Hp, Only H → SqL K H a (ns.map V.int) → sp [.ref a] H (fun v _ => v = .bl true) fun _ _ _ => False) :
    codeAny (model P w) callerA (.call (.ref fa) ⟨[.ref a], []⟩)
      (fun r s' => r = .ok (.ret (.bool true)) ∧ OldK s1.heap s'.heap ∧ s'.os = s1.os ∧ AllBare s'.gens) s1 := by
  have rv := vals_ints hi
  suffices main : ∀ H : Hp, Only H → SqL K H a (ns.map V.int) → HOk P w H s1.heap → (∀ b, H b ≠ none → b = a) → (H a ≠ none → K.lookup a = none) →
      codeAny (model P w) callerA (.call (.ref fa) ⟨[.ref a], []⟩)
        (fun r s' => r = .ok (.ret (.bool true)) ∧ OldK s1.heap s'.heap ∧ s'.os = s1.os ∧ AllBare s'.gens) s1 by
    cases hk : K.lookup a with
    | none =>
      let ob : Obj := { cls := .type "list", data := .seq vs.toArray }
      let H0 : Hp := fun b => if b = a then some (.frz ob (.lst (ns.map V.int))) else none
      have hin : H0 a = some (.frz ob (.lst (ns.map V.int))) := if_pos rfl
      have hout : ∀ b, b ≠ a → H0 b = none := fun b n => if_neg n
      refine main H0 ?_ (.inl (.inr ⟨ob, hin⟩)) ?_ ?_ fun _ => hk
      · intro b
        by_cases e : b = a
        · subst e; exact .inr ⟨_, _, hin⟩
        · exact .inl (hout b e)
      · intro b u z
        by_cases e : b = a
        · subst e
          rw [hin] at z
          cases z
          exact ⟨ha, by rw [List.length_map]; exact hl, vs, _, rv, ha⟩
        · rw [hout b e] at z
          cases z
      · intro b z
        by_cases e : b = a
        · exact e
        · exact absurd (hout b e) z
    | some o =>
      have e := KX a o hk
      rw [ha] at e
      cases e
      have lv : vs.length ≤ sizeLine := by rw [hi.length]; exact hl
      refine main (fun _ => none) (fun _ => .inl rfl) (.inr ⟨_, vs.toArray, _, hk, rfl, rfl, rfl, ?_, ?_⟩) ?_ (fun _ z => (z rfl).elim) fun z => (z rfl).elim
      · rw [List.size_toArray]; exact lv
      · simpa using rv
      · intro b u z
        cases z
  intro H hO hS hok hA hK
  have isDict : ∀ {b : Addr} {o : Obj} {es : Array DictEntry} {ep : Nat}, s1.heap.get? b = some o → o.data = .dict es ep → H b = none := by
    intro b o es ep e d
    apply Classical.byContradiction
    intro z
    have e' := hA b z
    subst e'
    rw [ha] at e
    cases e
    cases d
  have nsB : ∀ {b : Addr} {m : Str → Option Value}, s1.heap.Ns b m → (hidT s1.heap H).Ns b m := by
    rintro b m ⟨o, es, ep, e, d, r⟩
    exact ⟨o, es, ep, hidT_get e (isDict e d), d, r⟩
  have KB : K.In (hidT s1.heap H) := by
    intro b o e
    refine hidT_get (KX b o e) ?_
    apply Classical.byContradiction
    intro z
    have e' := hA b z
    subst e'
    rw [hK z] at e
    cases e
  have hM : Mod K mg (hidT s1.heap H) := by
    obtain ⟨mc, h1, h2⟩ := hlim
    exact ⟨KB, nsB hns, ⟨mb, nsB hb, hbb⟩, ⟨mc, nsB h1, h2⟩⟩
  have e0 : Env0 P w K mg (hidT s1.heap H) callerA [] s1 H :=
    { frames := rfl, mod := hM, bs := fun b o e => of_hidT e, bsz := Nat.le_of_eq (hidT_size _ _), funs := trivial,
      frf := fun b hb => (nomatch hb), hok := hok, bare := .of_eq hg }
  have run := (F _ KB (nsB hns)).run callerA [] s1 H ⟨[.ref a], []⟩ [.ref a] [.ref a] _ _ hr rfl e0 (hbind s1 (.ref a)) (.cons rfl .nil) (hsp H hO hS)
  refine codeAny_mono run ?_
  intro res s2 h
  match res, h with
  | .ok (.ret u), h =>
    obtain ⟨v, H2, os, bare, un, hok2, r2, q⟩ := h
    have q2 : v = .bl true := q
    subst q2
    have r3 : u = Value.bool true := r2
    subst r3
    refine ⟨rfl, OldK.of_keep ?_, os, bare⟩
    intro b o e
    rcases hO b with z | ⟨ob, xs, z⟩
    · exact un.keep b o e z (fun y => by cases y) (by simp)
    · have e1 := (hok b _ z).1
      have e2 := (hok2 b _ (un.frzs b ob _ z)).1
      rw [e] at e1
      cases e1
      exact e2
theorem walk_by {l : PySem.W.OpenLaw} {n k : Nat} {q : Program} {loose : List Str} {XP : (Str → Option Value) → Heap → Prop} {YP : World → Heap → Prop}
    {d : DefRec} {K : Params → PySem.W.Frag} {sp : World → Sp} {x : Str} (hn : l.most = some n) (hn2 : n ≤ sizeLine) (hdf : d.params.defaults = [])
    (hr : Room k callerA) (hY : ∀ (w : World) (h : Heap), YP w h → (K w.params).In h)
    (F : ∀ (w : World) (mg : Str → Option Value) (fa : Addr) (h : Heap), (K w.params).In h → h.Ns mainGlobals mg → mg d.name = some (.ref fa) →
      ∃ fd : FuncData, (∀ (s : Shared) (u : Value), BindsTo s fd ⟨[u], []⟩ [(x, u)]) ∧
        ∀ base : Heap, (K w.params).In base → base.Ns mainGlobals mg → FnG l.prog w (K w.params) mg base k fa fd [x] (sp w))
    (hsp : ∀ (w : World) (H : Hp) (a : Addr) (ns : List Int), ns.length ≤ n → Only H → SqL (K w.params) H a (ns.map V.int) →
      sp w [.ref a] H (fun v _ => v = .bl true) fun _ _ _ => False) : PySem.W.WalkO q loose XP YP l.row.toRowW d [] (fun f vs => PySem.call f vs) := by
  apply Att.attach_call hn hdf
  intro w s0 s1 mg mb fa o pm cd doc a vs ns G Y ho hd hcd hmg hobj hints hlen hg
  have KX := hY w _ Y
  obtain ⟨fd, hbd, hF⟩ := F w mg fa _ KX G.T.g hmg
  exact law_by KX G.T.g G.T.b G.T.builtins G.T.nolimit hg hobj hints (Nat.le_trans hlen hn2) hr hF hbd fun H hO hS => hsp w H a ns hlen hO hS
end Wq

namespace Wq
open PySem L2

abbrev D := PyData

/-! ### data in a region of the heap -/
theorem same_t {K : PySem.W.Frag} {H H' : Hp} {a : Addr} {xs : List V} (e : Same H H') (h : SqT K H a xs) : SqT K H' a xs := by
  rcases h with (h | ⟨o, h⟩) | h
  · exact .inl (.inl (e _ _ h))
  · exact .inl (.inr ⟨o, e _ _ h⟩)
  · exact .inr h
mutual
theorem dp_mono {K : PySem.W.Frag} {R R' : Hp} (e : Same R R') : ∀ (d : D) (v : V), Dp K R v d → Dp K R' v d
  | .none, _, h => by cases h; exact .non
  | .bool _, _, h => by cases h; exact .bl _
  | .int _, _, h => by cases h; exact .int _
  | .str _, _, h => by cases h; exact .str _
  | .list ds, _, h => by
    cases h with
    | lst h1 h2 => exact .lst (e.seq h1) (dpAll_mono e ds _ h2)
  | .tuple ds, _, h => by
    cases h with
    | tup h1 h2 => exact .tup (same_t e h1) (dpAll_mono e ds _ h2)
  | .dict _, _, h => by cases h
theorem dpAll_mono {K : PySem.W.Frag} {R R' : Hp} (e : Same R R') : ∀ (ds : List D) (vs : List V), DpAll K R vs ds → DpAll K R' vs ds
  | [], _, h => by cases h; exact .nil
  | d :: ds, _, h => by
    cases h with
    | cons h1 h2 => exact .cons (dp_mono e d _ h1) (dpAll_mono e ds _ h2)
end
theorem dpAll_len {K : PySem.W.Frag} {R : Hp} : ∀ {vs : List V} {ds : List D}, DpAll K R vs ds → vs.length = ds.length
  | _, _, .nil => rfl
  | _, _, .cons _ h => by rw [List.length_cons, List.length_cons, dpAll_len h]
theorem dpAll_get {K : PySem.W.Frag} {R : Hp} : ∀ {vs : List V} {ds : List D} {i : Nat} {d : D}, DpAll K R vs ds → ds[i]? = some d → ∃ v, vs[i]? = some v ∧ Dp K R v d
  | _, _, _, _, .nil, e => by simp at e
  | _, _, 0, _, .cons h _, e => by simp at e; subst e; exact ⟨_, rfl, h⟩
  | _, _, i + 1, d, .cons _ h, e => by
    obtain ⟨v, h1, h2⟩ := dpAll_get (i := i) (d := d) h (by simpa using e)
    exact ⟨v, by simpa using h1, h2⟩
theorem dpAll_get' {K : PySem.W.Frag} {R : Hp} : ∀ {vs : List V} {ds : List D} {i : Nat} {v : V}, DpAll K R vs ds → vs[i]? = some v → ∃ d, ds[i]? = some d ∧ Dp K R v d
  | _, _, _, _, .nil, e => by simp at e
  | _, _, 0, _, .cons h _, e => by simp at e; subst e; exact ⟨_, rfl, h⟩
  | _, _, i + 1, d, .cons _ h, e => by
    obtain ⟨v, h1, h2⟩ := dpAll_get' (i := i) (v := d) h (by simpa using e)
    exact ⟨v, by simpa using h1, h2⟩
theorem dpAll_app {K : PySem.W.Frag} {R : Hp} : ∀ {vs us : List V} {ds es : List D}, DpAll K R vs ds → DpAll K R us es → DpAll K R (vs ++ us) (ds ++ es)
  | _, _, _, _, .nil, h => h
  | _, _, _, _, .cons h1 h2, h => .cons h1 (dpAll_app h2 h)
theorem dpAll_one {K : PySem.W.Frag} {R : Hp} {v : V} {d : D} (h : Dp K R v d) : DpAll K R [v] [d] := .cons h .nil
theorem dpAll_set {K : PySem.W.Frag} {R : Hp} {v : V} {d : D} (hv : Dp K R v d) : ∀ {vs : List V} {ds : List D} (i : Nat), DpAll K R vs ds → DpAll K R (vs.set i v) (ds.set i d)
  | _, _, _, .nil => .nil
  | _, _, 0, .cons _ h => .cons hv h
  | _, _, i + 1, .cons h1 h => .cons h1 (dpAll_set hv i h)

/-! ### slots -/
inductive Sl where
  | no
  | dat (d : D)
  | own (d : D)
abbrev En := List Sl
def Sl.d : Sl → D
  | .no => .none
  | .dat d => d
  | .own d => d
/-- an owned list stands at a -/
def OwnAt (K : PySem.W.Frag) (R H : Hp) (a : Addr) : D → Prop
  | .list ds => ∃ vs, H a = some (.lst vs) ∧ DpAll K R vs ds
  | _ => False
theorem OwnAt.some {K : PySem.W.Frag} {R H : Hp} {a : Addr} {d : D} (h : OwnAt K R H a d) : ∃ o, H a = some o := by
  cases d with
  | list ds => obtain ⟨vs, h, _⟩ := h; exact ⟨_, h⟩
  | _ => exact h.elim
theorem OwnAt.mono {K : PySem.W.Frag} {R H R' H' : Hp} {a : Addr} {d : D} (h : OwnAt K R H a d) (hR : Same R R') (hH : H' a = H a) : OwnAt K R' H' a d := by
  cases d with
  | list ds => obtain ⟨vs, h, q⟩ := h; exact ⟨vs, by rw [hH]; exact h, dpAll_mono hR _ _ q⟩
  | _ => exact h.elim

structure Fx where
  H0 : Hp
  R0 : Hp
  g : List (Nat × Addr)
structure Rel (K : PySem.W.Frag) (F : Fx) (s : St) (E : En) (R H : Hp) : Prop where
  len : E.length = s.length
  sub : Same R H
  sub0 : Same F.R0 R
  keep : ∀ a o, F.H0 a = some o → (∀ p ∈ F.g, p.2 ≠ a) → H a = some o
  new : ∀ a o, R a = some o → (∃ o', F.R0 a = some o') ∨ F.H0 a = none
  giv : ∀ p ∈ F.g, s[p.1]? = some (some (.ref p.2)) ∧ ∃ d, E[p.1]? = some (.own d)
  dat : ∀ (i : Nat) (d : D), E[i]? = some (Sl.dat d) → ∃ v, s[i]? = some (some v) ∧ Dp K R v d
  own : ∀ (i : Nat) (d : D), E[i]? = some (Sl.own d) → ∃ a : Addr, s[i]? = some (some (V.ref a)) ∧ R a = none ∧ OwnAt K R H a d ∧ (F.H0 a = none ∨ (i, a) ∈ F.g)
  inj : ∀ (i j : Nat) (d d' : D) (a : Addr), E[i]? = some (Sl.own d) → E[j]? = some (Sl.own d') → s[i]? = some (some (V.ref a)) → s[j]? = some (some (V.ref a)) → i = j

section
variable {K : PySem.W.Frag} {F : Fx} {s : St} {E : En} {R H : Hp}
/-- what is free now was free at the start -/
theorem Rel.free0 (r : Rel K F s E R H) {p : Addr} (h : H p = none) : F.H0 p = none := by
  cases q : F.H0 p with
  | none => rfl
  | some o =>
    by_cases hg : ∃ x ∈ F.g, x.2 = p
    · obtain ⟨x, hx, e⟩ := hg
      obtain ⟨h1, d, h2⟩ := r.giv x hx
      obtain ⟨a, h3, _, h4, _⟩ := r.own _ _ h2
      rw [h1] at h3
      cases h3
      obtain ⟨o, h5⟩ := h4.some
      rw [e, h] at h5
      cases h5
    · have := r.keep p o q fun x hx e => hg ⟨x, hx, e⟩
      rw [h] at this
      cases this
theorem Rel.freeR (r : Rel K F s E R H) {p : Addr} (h : H p = none) : R p = none := by
  cases q : R p with
  | none => rfl
  | some o => rw [r.sub p o q] at h; cases h
theorem same_upd {H : Hp} {p : Addr} {o : HO} (h : H p = none) : Same H (upd H p o) := fun a u e => by
  rw [upd_ne (ne_of_none e h)]; exact e
theorem same_updB {R H : Hp} {p : Addr} {o : HO} (e : Same R H) (h : H p = none) : Same (upd R p o) (upd H p o) := fun a u q => by
  by_cases ha : a = p
  · subst ha; rw [upd_same] at q ⊢; exact q
  · rw [upd_ne ha] at q ⊢; exact e a u q
/-- a new object, not in the region -/
theorem Rel.grow (r : Rel K F s E R H) {p : Addr} {o : HO} (h : H p = none) : Rel K F s E R (upd H p o) where
  len := r.len
  sub := r.sub.trans (same_upd h)
  sub0 := r.sub0
  keep := fun a u e hg => same_upd h a u (r.keep a u e hg)
  new := r.new
  giv := r.giv
  dat := r.dat
  own := fun i d e => by
    obtain ⟨a, h1, h2, h3, h4⟩ := r.own i d e
    refine ⟨a, h1, h2, h3.mono (Same.refl _) ?_, h4⟩
    obtain ⟨o', ho⟩ := h3.some
    exact upd_ne (ne_of_none ho h)
  inj := r.inj
/-- an object that no slot owns and that was free at the start goes to the region -/
theorem Rel.into (r : Rel K F s E R H) {p : Addr} {o : HO} (h : H p = some o) (h0 : F.H0 p = none) (hn : ∀ (i : Nat) (d : D), E[i]? = some (Sl.own d) → s[i]? ≠ some (some (V.ref p))) (hR : R p = none) : Rel K F s E (upd R p o) H where
  len := r.len
  sub := fun a u q => by
    by_cases ha : a = p
    · subst ha; rw [upd_same] at q; cases q; exact h
    · rw [upd_ne ha] at q; exact r.sub a u q
  sub0 := r.sub0.trans (same_upd hR)
  keep := r.keep
  new := fun a u q => by
    by_cases ha : a = p
    · subst ha; exact .inr h0
    · rw [upd_ne ha] at q; exact r.new a u q
  giv := r.giv
  dat := fun i d e => by
    obtain ⟨v, h1, h2⟩ := r.dat i d e
    exact ⟨v, h1, dp_mono (same_upd hR) _ _ h2⟩
  own := fun i d e => by
    obtain ⟨a, h1, h2, h3, h4⟩ := r.own i d e
    have ha : a ≠ p := fun z => hn i d e (by rw [h1, z])
    exact ⟨a, h1, by rw [upd_ne ha]; exact h2, h3.mono (same_upd hR) rfl, h4⟩
  inj := r.inj
/-- a new object that is data at once -/
theorem Rel.growR (r : Rel K F s E R H) {p : Addr} {o : HO} (h : H p = none) : Rel K F s E (upd R p o) (upd H p o) := by
  refine (r.grow (o := o) h).into upd_same (r.free0 h) (fun i d e z => ?_) (r.freeR h)
  obtain ⟨a, h1, h2, h3, h4⟩ := r.own i d e
  rw [h1] at z
  cases z
  obtain ⟨o', ho⟩ := h3.some
  rw [h] at ho
  cases ho
end

/-! ### what comes of an expression -/
def RsOk (K : PySem.W.Frag) (F : Fx) (s : St) (E : En) (R H : Hp) (v : V) : Sl → Prop
  | .no => False
  | .dat d => Dp K R v d
  | .own d => ∃ a, v = .ref a ∧ R a = none ∧ OwnAt K R H a d ∧ F.H0 a = none ∧ ∀ (i : Nat) (d' : D), E[i]? = some (Sl.own d') → s[i]? ≠ some (some (V.ref a))

/-! ### the static side -/
structure Sx where
  P : Program
  w : World
  K : PySem.W.Frag
  mg : Str → Option Value
  base : Heap
  N : List Str
  sc : Scope
  k : Nat
  asg : Str → Bool
structure Has (S : Sx) (X : Cx) : Prop where
  prog : X.prog = S.P
  w : X.w = S.w
  K : X.K = S.K
  mg : X.mg = S.mg
  base : X.base = S.base
  N : X.N = S.N
  sc : X.env.scope = S.sc
  calm : X.calm = true
  room : Room S.k X.A
  xe : X.xe = fun _ _ => False
  grd : X.A.guards = some []
  nd : X.N.Nodup
  fnl : ∀ x, S.asg x = true → X.fn x = true ∨ X.env.scope.names.lookup x = some .local

def RdE (X : Cx) (e : Expr) : TE := fun s H Q => ∃ t, PE X e t ∧ t s H Q
def RdT (X : Cx) (e : Expr) : TT := fun s H Q => ∃ t, PT X e t ∧ t s H Q
def RdA (X : Cx) (es : List Expr) : TA := fun s H Q => ∃ t, PA X es t ∧ t s H Q
def RdS (X : Cx) (st : Stmt) : TS := fun D s H => ∃ t, PS X st t ∧ t D s H
def RdSs (X : Cx) (st : List Stmt) : TS := fun D s H => ∃ t, PSs X st t ∧ t D s H
theorem pe_rd {X : Cx} {e : Expr} : PE X e (RdE X e) := ⟨fun pins s σ H Q I ⟨_, ht, q⟩ => ht.run pins s σ H Q I q⟩
theorem pt_rd {X : Cx} {e : Expr} : PT X e (RdT X e) := ⟨fun pins s σ H Q I ⟨_, ht, q⟩ => ht.run pins s σ H Q I q⟩
theorem pa_rd {X : Cx} {e : List Expr} : PA X e (RdA X e) := ⟨fun pos pins s σ H Q I ⟨_, ht, q⟩ => ht.run pos pins s σ H Q I q⟩
theorem ps_rd {X : Cx} {e : Stmt} : PS X e (RdS X e) := ⟨fun pins s σ H Q I ⟨_, ht, q⟩ => ht.run pins s σ H Q I q⟩
theorem pss_rd {X : Cx} {e : List Stmt} : PSs X e (RdSs X e) := ⟨fun pins s σ H Q I ⟨_, ht, q⟩ => ht.run pins s σ H Q I q⟩

/-! ### the calculus: expressions -/
def Wp (S : Sx) (e : Expr) (E : En) (P : Sl → En → Prop) : Prop :=
  ∀ X, Has S X → ∀ F s R H, Rel S.K F s E R H → ∀ Q : VK,
    (∀ v r E' R' H', Same R R' → Rel S.K F s E' R' H' → RsOk S.K F s E' R' H' v r → P r E' → Q v H') → RdE X e s H Q
def WpD (S : Sx) (e : Expr) (E : En) (P : D → En → Prop) : Prop :=
  ∀ X, Has S X → ∀ F s R H, Rel S.K F s E R H → ∀ Q : VK,
    (∀ v d E' R' H', Same R R' → Rel S.K F s E' R' H' → Dp S.K R' v d → P d E' → Q v H') → RdE X e s H Q
def WpT (S : Sx) (e : Expr) (E : En) (P : Bool → En → Prop) : Prop :=
  ∀ X, Has S X → ∀ F s R H, Rel S.K F s E R H → ∀ Q : Bool → Hp → Prop,
    (∀ b E' R' H', Same R R' → Rel S.K F s E' R' H' → P b E' → Q b H') → RdT X e s H Q
def WpA (S : Sx) (es : List Expr) (E : En) (P : List D → En → Prop) : Prop :=
  ∀ X, Has S X → ∀ F s R H, Rel S.K F s E R H → ∀ Q : List V → Hp → Prop,
    (∀ vs ds E' R' H', Same R R' → Rel S.K F s E' R' H' → DpAll S.K R' vs ds → P ds E' → Q vs H') → RdA X es s H Q

section
variable {S : Sx} {e : Expr} {es : List Expr} {E : En} {a b c : Expr} {pos : Pos}
theorem Wp.mono {P P' : Sl → En → Prop} (h : Wp S e E P) (f : ∀ r E', P r E' → P' r E') : Wp S e E P' := fun X hX F s R H r Q k => h X hX F s R H r Q fun v r E' R' H' h1 h2 h3 h4 => k v r E' R' H' h1 h2 h3 (f _ _ h4)
theorem WpD.mono {P P' : D → En → Prop} (h : WpD S e E P) (f : ∀ r E', P r E' → P' r E') : WpD S e E P' := fun X hX F s R H r Q k => h X hX F s R H r Q fun v r E' R' H' h1 h2 h3 h4 => k v r E' R' H' h1 h2 h3 (f _ _ h4)
theorem WpT.mono {P P' : Bool → En → Prop} (h : WpT S e E P) (f : ∀ r E', P r E' → P' r E') : WpT S e E P' := fun X hX F s R H r Q k => h X hX F s R H r Q fun b E' R' H' h1 h2 h4 => k b E' R' H' h1 h2 (f _ _ h4)
/-- data is a result -/
theorem WpD.wp {P : Sl → En → Prop} (h : WpD S e E fun d E' => P (.dat d) E') : Wp S e E P := fun X hX F s R H r Q k => h X hX F s R H r Q fun v d E' R' H' h1 h2 h3 h4 => k v (.dat d) E' R' H' h1 h2 h3 h4
/-- a result is data: a new list goes to the region -/
theorem Wp.d {P : D → En → Prop} (h : Wp S e E fun r E' => P r.d E') : WpD S e E P := fun X hX F s R H r Q k => h X hX F s R H r Q fun v r E' R' H' h1 h2 h3 h4 => by
  cases r with
  | no => exact h3.elim
  | dat d => exact k v d E' R' H' h1 h2 h3 h4
  | own d =>
    obtain ⟨p, rfl, hp, ho, h0, hn⟩ := h3
    cases d with
    | list ds =>
      obtain ⟨vs, hH, hd⟩ := ho
      refine k _ _ _ (upd R' p (.lst vs)) H' (h1.trans (same_upd hp)) (h2.into hH h0 hn hp) (.lst (SqL.of upd_same) (dpAll_mono (same_upd hp) _ _ hd)) h4
    | _ => exact ho.elim
theorem wa_nil {P : List D → En → Prop} (h : P [] E) : WpA S [] E P := fun X hX F s R H r Q k => ⟨_, pa_nil, k [] [] E R H (Same.refl _) r .nil h⟩
theorem wa_cons {P : List D → En → Prop} (h : WpD S e E fun d E1 => WpA S es E1 fun ds E2 => P (d :: ds) E2) (hst : ∀ env : Env, starEach (e :: es) env = (false, eval e env) :: starEach es env := by intro _; rfl) : WpA S (e :: es) E P := fun X hX F s R H r Q k => by
  refine ⟨_, pa_cons pe_rd pa_rd (hst _), ?_⟩
  refine h X hX F s R H r _ fun v d E1 R1 H1 s1 r1 d1 h1 => ?_
  refine h1 X hX F s R1 H1 r1 _ fun vs ds E2 R2 H2 s2 r2 d2 h2 => ?_
  exact k (v :: vs) (d :: ds) E2 R2 H2 (s1.trans s2) r2 (.cons (dp_mono s2 _ _ d1) d2) h2
/-- names, constants -/
theorem wd_name {P : D → En → Prop} {x : Str} {i : Nat} {d : D} (hN : S.N[i]? = some x) (hv : Vis S.sc x) (hE : E[i]? = some (.dat d)) (h : P d E) (hd : (x == ("__debug__" : Str)) = false := by decide) (hcd : (x == ("__classdict__" : Str)) = false := by decide) : WpD S (.Name x pos) E P := fun X hX F s R H r Q k => by
  refine ⟨_, pe_var (i := i) (by rw [hX.N]; exact hN) (by rw [hX.sc]; exact hv) hd hcd, ?_⟩
  obtain ⟨v, h1, h2⟩ := r.dat i d hE
  exact ⟨v, h1, k v d E R H (Same.refl _) r h2 h⟩
theorem wd_int {P : D → En → Prop} {i : Int} {j} (h : P (.int i) E) : WpD S (.Constant (.int i) j pos) E P := fun X hX F s R H r Q k => ⟨_, pe_int, k _ _ E R H (Same.refl _) r (.int _) h⟩
theorem wd_str {P : D → En → Prop} {i : Str} {j} (h : P (.str i) E) : WpD S (.Constant (.str i) j pos) E P := fun X hX F s R H r Q k => ⟨_, pe_str, k _ _ E R H (Same.refl _) r (.str _) h⟩
theorem wd_bl {P : D → En → Prop} {i : Bool} {j} (h : P (.bool i) E) : WpD S (.Constant (.bool i) j pos) E P := fun X hX F s R H r Q k => ⟨_, pe_bl, k _ _ E R H (Same.refl _) r (.bl _) h⟩
theorem wd_non {P : D → En → Prop} {j} (h : P .none E) : WpD S (.Constant .none j pos) E P := fun X hX F s R H r Q k => ⟨_, pe_non, k _ _ E R H (Same.refl _) r .non h⟩
end
end Wq

namespace Wq
open PySem L2

section
variable {S : Sx} {e : Expr} {es : List Expr} {E : En} {a b c : Expr} {pos : Pos} {P : D → En → Prop}

/-! ### operators -/
def OpD (S : Sx) (r : R2) (d1 d2 d : D) : Prop := ∀ F s E R H v1 v2, Rel S.K F s E R H → Dp S.K R v1 d1 → Dp S.K R v2 d2 → ∀ Q : VK,
  (∀ v R' H', Same R R' → Rel S.K F s E R' H' → Dp S.K R' v d → Q v H') → r v1 v2 H Q
theorem wd_bin {op : Operator} {r : R2} (hop : ∀ X, Has S X → OpR X (binaryOp op) r) (h : WpD S a E fun d1 E1 => WpD S b E1 fun d2 E2 => ∃ d, OpD S r d1 d2 d ∧ P d E2) : WpD S (.BinOp a op b pos) E P := fun X hX F s R H r0 Q k => by
  refine ⟨_, pe_op (hop X hX) pe_rd pe_rd, ?_⟩
  refine h X hX F s R H r0 _ fun v1 d1 E1 R1 H1 s1 r1 p1 h1 => ?_
  refine h1 X hX F s R1 H1 r1 _ fun v2 d2 E2 R2 H2 s2 r2 p2 ⟨d, h2, h3⟩ => ?_
  exact h2 F s E2 R2 H2 v1 v2 r2 (dp_mono s2 _ _ p1) p2 Q fun v R' H' s3 r3 p3 => k v d E2 R' H' ((s1.trans s2).trans s3) r3 p3 h3
theorem opd_i0 {g : Int → Int → V} {i j : Int} {d : D} (hg : ∀ R, Dp S.K R (g i j) d) : OpD S (rI0 g) (.int i) (.int j) d := fun F s E R H v1 v2 r p1 p2 Q k => by
  cases p1; cases p2
  exact ⟨i, j, rfl, rfl, k _ R H (Same.refl _) r (hg R)⟩
theorem opd_i {C : Int → Int → Prop} {g : Int → Int → V} {i j : Int} {d : D} (hc : C i j) (hg : ∀ R, Dp S.K R (g i j) d) : OpD S (rI C g) (.int i) (.int j) d := fun F s E R H v1 v2 r p1 p2 Q k => by
  cases p1; cases p2
  exact ⟨i, j, rfl, rfl, hc, k _ R H (Same.refl _) r (hg R)⟩
theorem wd_add (h : WpD S a E fun d1 E1 => WpD S b E1 fun d2 E2 => ∃ i j, d1 = .int i ∧ d2 = .int j ∧ P (.int (i + j)) E2) : WpD S (.BinOp a .Add b pos) E P :=
  wd_bin (r := rI0 fun i j => .int (i + j)) (fun _ _ => op_add) (h.mono fun _ _ h => h.mono fun _ _ ⟨i, j, h1, h2, h3⟩ => ⟨_, by subst h1 h2; exact opd_i0 fun _ => .int _, h3⟩)
theorem wd_sub (h : WpD S a E fun d1 E1 => WpD S b E1 fun d2 E2 => ∃ i j, d1 = .int i ∧ d2 = .int j ∧ P (.int (i - j)) E2) : WpD S (.BinOp a .Sub b pos) E P :=
  wd_bin (r := rI0 fun i j => .int (i - j)) (fun _ _ => op_sub) (h.mono fun _ _ h => h.mono fun _ _ ⟨i, j, h1, h2, h3⟩ => ⟨_, by subst h1 h2; exact opd_i0 fun _ => .int _, h3⟩)
theorem wd_mul (h : WpD S a E fun d1 E1 => WpD S b E1 fun d2 E2 => ∃ i j, d1 = .int i ∧ d2 = .int j ∧ CMul i j ∧ P (.int (i * j)) E2) : WpD S (.BinOp a .Mult b pos) E P :=
  wd_bin (r := rI CMul fun i j => .int (i * j)) (fun _ _ => op_mul) (h.mono fun _ _ h => h.mono fun _ _ ⟨i, j, h1, h2, hc, h3⟩ => ⟨_, by subst h1 h2; exact opd_i hc fun _ => .int _, h3⟩)
theorem wd_fdiv (h : WpD S a E fun d1 E1 => WpD S b E1 fun d2 E2 => ∃ i j, d1 = .int i ∧ d2 = .int j ∧ CDiv i j ∧ P (.int (i / j)) E2) : WpD S (.BinOp a .FloorDiv b pos) E P :=
  wd_bin (r := rI CDiv fun i j => .int (i / j)) (fun _ _ => op_fdiv) (h.mono fun _ _ h => h.mono fun _ _ ⟨i, j, h1, h2, hc, h3⟩ => ⟨_, by subst h1 h2; exact opd_i hc fun _ => .int _, h3⟩)
theorem wd_mod (h : WpD S a E fun d1 E1 => WpD S b E1 fun d2 E2 => ∃ i j, d1 = .int i ∧ d2 = .int j ∧ 0 < j ∧ P (.int (i % j)) E2) : WpD S (.BinOp a .Mod b pos) E P :=
  wd_bin (r := rI (fun _ j => 0 < j) fun i j => .int (i % j)) (fun _ _ => op_mod) (h.mono fun _ _ h => h.mono fun _ _ ⟨i, j, h1, h2, hc, h3⟩ => ⟨_, by subst h1 h2; exact opd_i hc fun _ => .int _, h3⟩)
theorem wd_pow (h : WpD S a E fun d1 E1 => WpD S b E1 fun d2 E2 => ∃ i j, d1 = .int i ∧ d2 = .int j ∧ CPow i j ∧ P (.int (i ^ j.toNat)) E2) : WpD S (.BinOp a .Pow b pos) E P :=
  wd_bin (r := rI CPow fun i j => .int (i ^ j.toNat)) (fun _ _ => op_pow) (h.mono fun _ _ h => h.mono fun _ _ ⟨i, j, h1, h2, hc, h3⟩ => ⟨_, by subst h1 h2; exact opd_i hc fun _ => .int _, h3⟩)
theorem wd_adds (h : WpD S a E fun d1 E1 => WpD S b E1 fun d2 E2 => ∃ i j, d1 = .str i ∧ d2 = .str j ∧ i.length + j.length ≤ sizeLine ∧ P (.str (i ++ j)) E2) : WpD S (.BinOp a .Add b pos) E P :=
  wd_bin (r := fun x y H Q => ∃ i j, x = .str i ∧ y = .str j ∧ i.length + j.length ≤ sizeLine ∧ Q (.str (i ++ j)) H) (fun _ _ => op_add_str) (h.mono fun _ _ h => h.mono fun _ _ ⟨i, j, h1, h2, hc, h3⟩ => ⟨_, by
    subst h1 h2
    intro F s E R H v1 v2 r p1 p2 Q k
    cases p1; cases p2
    exact ⟨i, j, rfl, rfl, hc, k _ R H (Same.refl _) r (.str _)⟩, h3⟩)
theorem wd_neg (h : WpD S a E fun d E1 => ∃ i, d = .int i ∧ P (.int (-i)) E1) : WpD S (.UnaryOp .USub a pos) E P := fun X hX F s R H r0 Q k => by
  refine ⟨_, pe_un un_neg pe_rd, ?_⟩
  refine h X hX F s R H r0 _ fun v1 d1 E1 R1 H1 s1 r1 p1 ⟨i, hi, h1⟩ => ?_
  subst hi
  cases p1
  exact ⟨i, rfl, k _ _ E1 R1 H1 s1 r1 (.int _) h1⟩

/-! ### comparisons -/
theorem wd_cmp {op : CmpOp} {r : R2} (hop : ∀ X, Has S X → OpR X (compareOp op) r) (hm : behindInMarks op b = false) (h : WpD S a E fun d1 E1 => WpD S b E1 fun d2 E2 => ∃ d, OpD S r d1 d2 d ∧ P d E2) : WpD S (.Compare a [op] [b] pos) E P := fun X hX F s R H r0 Q k => by
  refine ⟨_, pe_cmpR (hop X hX) pe_rd pe_rd hm, ?_⟩
  refine h X hX F s R H r0 _ fun v1 d1 E1 R1 H1 s1 r1 p1 h1 => ?_
  refine h1 X hX F s R1 H1 r1 _ fun v2 d2 E2 R2 H2 s2 r2 p2 ⟨d, h2, h3⟩ => ?_
  exact h2 F s E2 R2 H2 v1 v2 r2 (dp_mono s2 _ _ p1) p2 Q fun v R' H' s3 r3 p3 => k v d E2 R' H' ((s1.trans s2).trans s3) r3 p3 h3
theorem wt_cmp {op : CmpOp} {r : R2} {P : Bool → En → Prop} (hop : ∀ X, Has S X → OpR X (compareOp op) r) (hm : behindInMarks op b = false) (h : WpD S a E fun d1 E1 => WpD S b E1 fun d2 E2 => ∃ t, OpD S r d1 d2 (.bool t) ∧ P t E2) : WpT S (.Compare a [op] [b] pos) E P := fun X hX F s R H r0 Q k => by
  refine ⟨_, pt_cmpR (hop X hX) pe_rd pe_rd hm, ?_⟩
  refine h X hX F s R H r0 _ fun v1 d1 E1 R1 H1 s1 r1 p1 h1 => ?_
  refine h1 X hX F s R1 H1 r1 _ fun v2 d2 E2 R2 H2 s2 r2 p2 ⟨d, h2, h3⟩ => ?_
  refine h2 F s E2 R2 H2 v1 v2 r2 (dp_mono s2 _ _ p1) p2 _ fun v R' H' s3 r3 p3 => ?_
  cases p3
  exact ⟨d, rfl, k d E2 R' H' ((s1.trans s2).trans s3) r3 h3⟩
/-- ints compared -/
def cmpI : CmpOp → Int → Int → Bool
  | .Lt, i, j => decide (i < j)
  | .LtE, i, j => decide (i ≤ j)
  | .Gt, i, j => decide (j < i)
  | .GtE, i, j => decide (j ≤ i)
  | _, _, _ => false
def ordOp : CmpOp → Bool
  | .Lt | .LtE | .Gt | .GtE => true
  | _ => false
theorem op_ord {X : Cx} {op : CmpOp} (h : ordOp op = true) : OpR X (compareOp op) (rI0 fun i j => .bl (cmpI op i j)) := by
  cases op with
  | Lt => exact op_lt
  | LtE => exact op_le
  | Gt => exact op_gt
  | GtE => exact op_ge
  | _ => cases h
theorem mark_ord {op : CmpOp} (h : ordOp op = true) (b : Expr) : behindInMarks op b = false := by
  cases op <;> first | exact nomark _ | cases h
theorem wd_ord {op : CmpOp} (h : WpD S a E fun d1 E1 => WpD S b E1 fun d2 E2 => ∃ i j, d1 = .int i ∧ d2 = .int j ∧ P (.bool (cmpI op i j)) E2) (ho : ordOp op = true := by rfl) : WpD S (.Compare a [op] [b] pos) E P :=
  wd_cmp (fun _ _ => op_ord ho) (mark_ord ho b) (h.mono fun _ _ h => h.mono fun _ _ ⟨i, j, h1, h2, h3⟩ => ⟨_, by subst h1 h2; exact opd_i0 fun _ => .bl _, h3⟩)
theorem wt_ord {op : CmpOp} {P : Bool → En → Prop} (h : WpD S a E fun d1 E1 => WpD S b E1 fun d2 E2 => ∃ i j, d1 = .int i ∧ d2 = .int j ∧ P (cmpI op i j) E2) (ho : ordOp op = true := by rfl) : WpT S (.Compare a [op] [b] pos) E P :=
  wt_cmp (fun _ _ => op_ord ho) (mark_ord ho b) (h.mono fun _ _ h => h.mono fun _ _ ⟨i, j, h1, h2, h3⟩ => ⟨_, by subst h1 h2; exact opd_i0 fun _ => .bl _, h3⟩)
/-- plain things compared by ==, != -/
def scalD : D → D → Bool
  | .none, .none => true
  | .none, .int _ => true
  | .int _, .none => true
  | .none, .bool _ => true
  | .bool _, .none => true
  | .none, .str _ => true
  | .str _, .none => true
  | .int _, .int _ => true
  | .bool _, .bool _ => true
  | .str _, .str _ => true
  | .int _, .str _ => true
  | .str _, .int _ => true
  | .bool _, .str _ => true
  | .str _, .bool _ => true
  | _, _ => false
def sameD : D → D → Bool
  | .none, .none => true
  | .int i, .int j => decide (i = j)
  | .bool i, .bool j => decide (i = j)
  | .str i, .str j => decide (i = j)
  | _, _ => false
theorem scal_same {K : PySem.W.Frag} {R : Hp} {d1 d2 : D} {v1 v2 : V} (p1 : Dp K R v1 d1) (p2 : Dp K R v2 d2) (h : scalD d1 d2 = true) : scal v1 v2 = true ∧ decide (v1 = v2) = sameD d1 d2 := by
  cases p1 <;> cases p2 <;> first | exact ⟨rfl, by simp [sameD]⟩ | cases h
theorem opd_eq {d1 d2 : D} (h : scalD d1 d2 = true) : OpD S rEq d1 d2 (.bool (sameD d1 d2)) := fun F s E R H v1 v2 r p1 p2 Q k => by
  obtain ⟨h1, h2⟩ := scal_same p1 p2 h
  exact ⟨h1, by rw [h2]; exact k _ R H (Same.refl _) r (.bl _)⟩
theorem opd_ne {d1 d2 : D} (h : scalD d1 d2 = true) : OpD S rNe d1 d2 (.bool (!sameD d1 d2)) := fun F s E R H v1 v2 r p1 p2 Q k => by
  obtain ⟨h1, h2⟩ := scal_same p1 p2 h
  exact ⟨h1, by rw [h2]; exact k _ R H (Same.refl _) r (.bl _)⟩
theorem wd_eq (h : WpD S a E fun d1 E1 => WpD S b E1 fun d2 E2 => scalD d1 d2 = true ∧ P (.bool (sameD d1 d2)) E2) : WpD S (.Compare a [.Eq] [b] pos) E P :=
  wd_cmp (fun _ _ => op_eq) (nomark _) (h.mono fun _ _ h => h.mono fun _ _ ⟨h1, h2⟩ => ⟨_, opd_eq h1, h2⟩)
theorem wd_ne (h : WpD S a E fun d1 E1 => WpD S b E1 fun d2 E2 => scalD d1 d2 = true ∧ P (.bool (!sameD d1 d2)) E2) : WpD S (.Compare a [.NotEq] [b] pos) E P :=
  wd_cmp (fun _ _ => op_ne) (nomark _) (h.mono fun _ _ h => h.mono fun _ _ ⟨h1, h2⟩ => ⟨_, opd_ne h1, h2⟩)
theorem wt_eq {P : Bool → En → Prop} (h : WpD S a E fun d1 E1 => WpD S b E1 fun d2 E2 => scalD d1 d2 = true ∧ P (sameD d1 d2) E2) : WpT S (.Compare a [.Eq] [b] pos) E P :=
  wt_cmp (fun _ _ => op_eq) (nomark _) (h.mono fun _ _ h => h.mono fun _ _ ⟨h1, h2⟩ => ⟨_, opd_eq h1, h2⟩)
theorem wt_ne {P : Bool → En → Prop} (h : WpD S a E fun d1 E1 => WpD S b E1 fun d2 E2 => scalD d1 d2 = true ∧ P (!sameD d1 d2) E2) : WpT S (.Compare a [.NotEq] [b] pos) E P :=
  wt_cmp (fun _ _ => op_ne) (nomark _) (h.mono fun _ _ h => h.mono fun _ _ ⟨h1, h2⟩ => ⟨_, opd_ne h1, h2⟩)
/-- is None -/
def isNo : D → Bool
  | .none => true
  | _ => false
theorem wt_isN {P : Bool → En → Prop} {j p'} (h : WpD S a E fun d E1 => P (isNo d) E1) : WpT S (.Compare a [.Is] [.Constant .none j p'] pos) E P := fun X hX F s R H r0 Q k => by
  refine ⟨_, pt_cmpR op_isN pe_rd pe_non (nomark _), ?_⟩
  refine h X hX F s R H r0 _ fun v1 d1 E1 R1 H1 s1 r1 p1 h1 => ?_
  have e : decide (v1 = V.non) = isNo d1 := by cases p1 <;> simp [isNo]
  exact ⟨rfl, isNo d1, by rw [e], k _ E1 R1 H1 s1 r1 h1⟩

/-! ### tests -/
def plainT (e : Expr) : Prop := ∀ (env : Env) (whole : Sem Value), isTrue e env whole = (do let v ← whole; standAt e.pos; holding [v] (truthy v))
theorem wt_val {P : Bool → En → Prop} (h : WpD S e E fun d E1 => ∃ t, d = .bool t ∧ P t E1) (he : plainT e := by intro _ _; rfl) : WpT S e E P := fun X hX F s R H r0 Q k => by
  refine ⟨_, pt_val pe_rd (he _), ?_⟩
  refine h X hX F s R H r0 _ fun v1 d1 E1 R1 H1 s1 r1 p1 ⟨t, ht, h1⟩ => ?_
  subst ht
  cases p1
  exact ⟨t, rfl, k t E1 R1 H1 s1 r1 h1⟩
theorem wt_not {P : Bool → En → Prop} (h : WpT S a E fun t E1 => P (!t) E1) : WpT S (.UnaryOp .Not a pos) E P := fun X hX F s R H r0 Q k => by
  refine ⟨_, pt_not pt_rd, ?_⟩
  exact h X hX F s R H r0 _ fun t E1 R1 H1 s1 r1 h1 => k _ E1 R1 H1 s1 r1 h1
def RdW (X : Cx) (e : Expr) : TT := fun s H Q => ∃ t, PW X e t ∧ t s H Q
theorem pw_rd {X : Cx} {e : Expr} : PW X e (RdW X e) := ⟨fun wh pins s σ H Q I ⟨_, ht, q⟩ => ht.run wh pins s σ H Q I q⟩
def WpW (S : Sx) (e : Expr) (E : En) (P : Bool → En → Prop) : Prop :=
  ∀ X, Has S X → ∀ F s R H, Rel S.K F s E R H → ∀ Q : Bool → Hp → Prop,
    (∀ b E' R' H', Same R R' → Rel S.K F s E' R' H' → P b E' → Q b H') → RdW X e s H Q
theorem WpW.t {P : Bool → En → Prop} (h : WpW S e E P) : WpT S e E P := fun X hX F s R H r0 Q k => by
  obtain ⟨t, h1, h2⟩ := h X hX F s R H r0 Q k
  exact ⟨t, h1.pt, h2⟩
variable {rest : List Expr}
theorem ww_and1 {P : Bool → En → Prop} (h : WpT S a E P) : WpW S (.BoolOp .And [a] pos) E P := fun X hX F s R H r0 Q k => ⟨_, pw_and1 pt_rd, h X hX F s R H r0 Q k⟩
theorem ww_or1 {P : Bool → En → Prop} (h : WpT S a E P) : WpW S (.BoolOp .Or [a] pos) E P := fun X hX F s R H r0 Q k => ⟨_, pw_or1 pt_rd, h X hX F s R H r0 Q k⟩
theorem ww_and {P : Bool → En → Prop} (h : WpT S a E fun t E1 => (t = true → WpW S (.BoolOp .And (b :: rest) pos) E1 P) ∧ (t = false → P false E1)) : WpW S (.BoolOp .And (a :: b :: rest) pos) E P := fun X hX F s R H r0 Q k => by
  refine ⟨_, pw_and pt_rd pw_rd, ?_⟩
  refine h X hX F s R H r0 _ fun t E1 R1 H1 s1 r1 ⟨h1, h2⟩ => ?_
  cases t with
  | true =>
    rw [if_pos rfl]
    exact h1 rfl X hX F s R1 H1 r1 Q fun b E2 R2 H2 s2 r2 h3 => k b E2 R2 H2 (s1.trans s2) r2 h3
  | false =>
    rw [if_neg Bool.false_ne_true]
    exact k false E1 R1 H1 s1 r1 (h2 rfl)
theorem ww_or {P : Bool → En → Prop} (h : WpT S a E fun t E1 => (t = true → P true E1) ∧ (t = false → WpW S (.BoolOp .Or (b :: rest) pos) E1 P)) : WpW S (.BoolOp .Or (a :: b :: rest) pos) E P := fun X hX F s R H r0 Q k => by
  refine ⟨_, pw_or pt_rd pw_rd, ?_⟩
  refine h X hX F s R H r0 _ fun t E1 R1 H1 s1 r1 ⟨h1, h2⟩ => ?_
  cases t with
  | true =>
    rw [if_pos rfl]
    exact k true E1 R1 H1 s1 r1 (h1 rfl)
  | false =>
    rw [if_neg Bool.false_ne_true]
    exact h2 rfl X hX F s R1 H1 r1 Q fun b E2 R2 H2 s2 r2 h3 => k b E2 R2 H2 (s1.trans s2) r2 h3
/-- and, or, not as values -/
theorem wd_one {op} (h : WpD S a E P) : WpD S (.BoolOp op [a] pos) E P := fun X hX F s R H r0 Q k => ⟨_, pe_one pe_rd, h X hX F s R H r0 Q k⟩
theorem wd_and (h : WpD S a E fun d E1 => ∃ t, d = .bool t ∧ (t = true → WpD S (.BoolOp .And (b :: rest) pos) E1 P) ∧ (t = false → P (.bool false) E1)) : WpD S (.BoolOp .And (a :: b :: rest) pos) E P := fun X hX F s R H r0 Q k => by
  refine ⟨_, pe_and pe_rd pe_rd, ?_⟩
  refine h X hX F s R H r0 _ fun v d E1 R1 H1 s1 r1 p1 ⟨t, ht, h1, h2⟩ => ?_
  subst ht
  cases p1
  refine ⟨t, rfl, ?_⟩
  cases t with
  | true =>
    rw [if_pos rfl]
    exact h1 rfl X hX F s R1 H1 r1 Q fun v b E2 R2 H2 s2 r2 p2 h3 => k v b E2 R2 H2 (s1.trans s2) r2 p2 h3
  | false =>
    rw [if_neg Bool.false_ne_true]
    exact k _ _ E1 R1 H1 s1 r1 (.bl _) (h2 rfl)
theorem wd_or (h : WpD S a E fun d E1 => ∃ t, d = .bool t ∧ (t = true → P (.bool true) E1) ∧ (t = false → WpD S (.BoolOp .Or (b :: rest) pos) E1 P)) : WpD S (.BoolOp .Or (a :: b :: rest) pos) E P := fun X hX F s R H r0 Q k => by
  refine ⟨_, pe_or pe_rd pe_rd, ?_⟩
  refine h X hX F s R H r0 _ fun v d E1 R1 H1 s1 r1 p1 ⟨t, ht, h1, h2⟩ => ?_
  subst ht
  cases p1
  refine ⟨t, rfl, ?_⟩
  cases t with
  | true =>
    rw [if_pos rfl]
    exact k _ _ E1 R1 H1 s1 r1 (.bl _) (h1 rfl)
  | false =>
    rw [if_neg Bool.false_ne_true]
    exact h2 rfl X hX F s R1 H1 r1 Q fun v b E2 R2 H2 s2 r2 p2 h3 => k v b E2 R2 H2 (s1.trans s2) r2 p2 h3
theorem wd_not (h : WpD S a E fun d E1 => ∃ t, d = .bool t ∧ P (.bool (!t)) E1) : WpD S (.UnaryOp .Not a pos) E P := fun X hX F s R H r0 Q k => by
  refine ⟨_, pe_not pe_rd, ?_⟩
  refine h X hX F s R H r0 _ fun v d E1 R1 H1 s1 r1 p1 ⟨t, ht, h1⟩ => ?_
  subst ht
  cases p1
  exact ⟨t, rfl, k _ _ E1 R1 H1 s1 r1 (.bl _) h1⟩
/-- a if t else b -/
theorem wp_if {P : Sl → En → Prop} (h : WpT S c E fun t E1 => (t = true → Wp S a E1 P) ∧ (t = false → Wp S b E1 P)) : Wp S (.IfExp c a b pos) E P := fun X hX F s R H r0 Q k => by
  refine ⟨_, pe_ifExp pt_rd pe_rd pe_rd, ?_⟩
  refine h X hX F s R H r0 _ fun t E1 R1 H1 s1 r1 ⟨h1, h2⟩ => ?_
  cases t with
  | true =>
    rw [if_pos rfl]
    exact h1 rfl X hX F s R1 H1 r1 Q fun v b E2 R2 H2 s2 r2 p2 h3 => k v b E2 R2 H2 (s1.trans s2) r2 p2 h3
  | false =>
    rw [if_neg Bool.false_ne_true]
    exact h2 rfl X hX F s R1 H1 r1 Q fun v b E2 R2 H2 s2 r2 p2 h3 => k v b E2 R2 H2 (s1.trans s2) r2 p2 h3
theorem wd_if (h : WpT S c E fun t E1 => (t = true → WpD S a E1 P) ∧ (t = false → WpD S b E1 P)) : WpD S (.IfExp c a b pos) E P := fun X hX F s R H r0 Q k => by
  refine ⟨_, pe_ifExp pt_rd pe_rd pe_rd, ?_⟩
  refine h X hX F s R H r0 _ fun t E1 R1 H1 s1 r1 ⟨h1, h2⟩ => ?_
  cases t with
  | true =>
    rw [if_pos rfl]
    exact h1 rfl X hX F s R1 H1 r1 Q fun v b E2 R2 H2 s2 r2 p2 h3 => k v b E2 R2 H2 (s1.trans s2) r2 p2 h3
  | false =>
    rw [if_neg Bool.false_ne_true]
    exact h2 rfl X hX F s R1 H1 r1 Q fun v b E2 R2 H2 s2 r2 p2 h3 => k v b E2 R2 H2 (s1.trans s2) r2 p2 h3

/-! ### displays -/
theorem own_no {K : PySem.W.Frag} {F : Fx} {s : St} {E : En} {R H : Hp} (r : Rel K F s E R H) {p : Addr} (h : H p = none) : ∀ (i : Nat) (d : D), E[i]? = some (Sl.own d) → s[i]? ≠ some (some (V.ref p)) := fun i d e z => by
  obtain ⟨a, h1, h2, h3, h4⟩ := r.own i d e
  rw [h1] at z
  cases z
  obtain ⟨o, ho⟩ := h3.some
  rw [h] at ho
  cases ho
theorem wd_tup {x1} (h : WpA S es E fun ds E1 => ds.length ≤ 1000 ∧ P (.tuple ds) E1) : WpD S (.Tuple es x1 pos) E P := fun X hX F s R H r0 Q k => by
  refine ⟨_, pe_tup pa_rd, ?_⟩
  refine h X hX F s R H r0 _ fun vs ds E1 R1 H1 s1 r1 p1 ⟨hl, h1⟩ => ?_
  refine ⟨Nat.le_trans (by rw [dpAll_len p1]; exact hl) (by decide : 1000 ≤ sizeLine), fun p hp => ?_⟩
  refine k _ _ E1 (upd R1 p (.tup vs)) _ (s1.trans (same_upd (r1.freeR hp))) (r1.growR hp) (.tup (SqT.of upd_same) (dpAll_mono (same_upd (r1.freeR hp)) _ _ p1)) h1
theorem wp_lst {P : Sl → En → Prop} (h : WpA S es E fun ds E1 => ds.length ≤ 1000 ∧ P (.own (.list ds)) E1) : Wp S (.List es pos) E P := fun X hX F s R H r0 Q k => by
  refine ⟨_, pe_lst pa_rd, ?_⟩
  refine h X hX F s R H r0 _ fun vs ds E1 R1 H1 s1 r1 p1 ⟨hl, h1⟩ => ?_
  refine ⟨Nat.le_trans (by rw [dpAll_len p1]; exact hl) (by decide : 1000 ≤ sizeLine), fun p hp => ?_⟩
  exact k _ (.own (.list ds)) E1 R1 _ s1 (r1.grow hp) ⟨p, rfl, r1.freeR hp, ⟨vs, upd_same, p1⟩, r1.free0 hp, own_no r1 hp⟩ h1
end
end Wq

namespace Wq
open PySem L2

/-! ### slots set -/
section
variable {K : PySem.W.Frag} {F : Fx} {s : St} {E : En} {R H : Hp}
theorem get_set {α : Type} {l : List α} {i j : Nat} {x y : α} (h : (l.set i x)[j]? = some y) : (i = j ∧ x = y) ∨ (i ≠ j ∧ l[j]? = some y) := by
  rw [List.getElem?_set] at h
  split at h
  · split at h
    · cases h; exact .inl ⟨by assumption, rfl⟩
    · cases h
  · exact .inr ⟨by assumption, h⟩
theorem set_ne {α : Type} {l : List α} {i j : Nat} {x : α} (h : i ≠ j) : (l.set i x)[j]? = l[j]? := List.getElem?_set_ne h
theorem Rel.setDat (r : Rel K F s E R H) {i : Nat} {v : V} {d : D} (hi : i < E.length) (hg : ∀ p ∈ F.g, p.1 ≠ i) (h : Dp K R v d) : Rel K F (s.set i (some v)) (E.set i (.dat d)) R H where
  len := by rw [List.length_set, List.length_set, r.len]
  sub := r.sub
  sub0 := r.sub0
  keep := r.keep
  new := r.new
  giv := fun p hp => by
    have q := r.giv p hp
    rw [set_ne (hg p hp).symm, set_ne (hg p hp).symm]
    exact q
  dat := fun j d' e => by
    rcases get_set e with ⟨rfl, e1⟩ | ⟨hn, e1⟩
    · cases e1
      exact ⟨v, by rw [List.getElem?_set_self (by rw [← r.len]; exact hi)], h⟩
    · obtain ⟨u, h1, h2⟩ := r.dat j d' e1
      exact ⟨u, by rw [set_ne hn]; exact h1, h2⟩
  own := fun j d' e => by
    rcases get_set e with ⟨rfl, e1⟩ | ⟨hn, e1⟩
    · cases e1
    · obtain ⟨a, h1, h2⟩ := r.own j d' e1
      exact ⟨a, by rw [set_ne hn]; exact h1, h2⟩
  inj := fun j k d1 d2 a e1 e2 h1 h2 => by
    rcases get_set e1 with ⟨rfl, e⟩ | ⟨n1, e1⟩
    · cases e
    rcases get_set e2 with ⟨rfl, e⟩ | ⟨n2, e2⟩
    · cases e
    rw [set_ne n1] at h1
    rw [set_ne n2] at h2
    exact r.inj j k d1 d2 a e1 e2 h1 h2
theorem Rel.setOwn (r : Rel K F s E R H) {i : Nat} {a : Addr} {d : D} (hi : i < E.length) (hg : ∀ p ∈ F.g, p.1 ≠ i) (h : RsOk K F s E R H (.ref a) (.own d)) : Rel K F (s.set i (some (.ref a))) (E.set i (.own d)) R H := by
  obtain ⟨a', ea, hR, hO, h0, hn⟩ := h
  cases ea
  exact {
    len := by rw [List.length_set, List.length_set, r.len]
    sub := r.sub
    sub0 := r.sub0
    keep := r.keep
    new := r.new
    giv := fun p hp => by
      have q := r.giv p hp
      rw [set_ne (hg p hp).symm, set_ne (hg p hp).symm]
      exact q
    dat := fun j d' e => by
      rcases get_set e with ⟨rfl, e1⟩ | ⟨hn, e1⟩
      · cases e1
      · obtain ⟨u, h1, h2⟩ := r.dat j d' e1
        exact ⟨u, by rw [set_ne hn]; exact h1, h2⟩
    own := fun j d' e => by
      rcases get_set e with ⟨rfl, e1⟩ | ⟨hn, e1⟩
      · cases e1
        exact ⟨a, by rw [List.getElem?_set_self (by rw [← r.len]; exact hi)], hR, hO, .inl h0⟩
      · obtain ⟨b, h1, h2⟩ := r.own j d' e1
        exact ⟨b, by rw [set_ne hn]; exact h1, h2⟩
    inj := fun j k d1 d2 b e1 e2 h1 h2 => by
      rcases get_set e1 with ⟨rfl, _⟩ | ⟨n1, e1⟩
      · rcases get_set e2 with ⟨rfl, _⟩ | ⟨n2, e2⟩
        · rfl
        · rw [set_ne n2] at h2
          rw [List.getElem?_set_self (by rw [← r.len]; exact hi)] at h1
          cases h1
          exact absurd h2 (hn k d2 e2)
      · rcases get_set e2 with ⟨rfl, _⟩ | ⟨n2, e2⟩
        · rw [set_ne n1] at h1
          rw [List.getElem?_set_self (by rw [← r.len]; exact hi)] at h2
          cases h2
          exact absurd h1 (hn j d1 e1)
        · rw [set_ne n1] at h1
          rw [set_ne n2] at h2
          exact r.inj j k d1 d2 b e1 e2 h1 h2 }
theorem Rel.setNo (r : Rel K F s E R H) {i : Nat} {o : Option V} (hg : ∀ p ∈ F.g, p.1 ≠ i) : Rel K F (s.set i o) (E.set i .no) R H where
  len := by rw [List.length_set, List.length_set, r.len]
  sub := r.sub
  sub0 := r.sub0
  keep := r.keep
  new := r.new
  giv := fun p hp => by
    have q := r.giv p hp
    rw [set_ne (hg p hp).symm, set_ne (hg p hp).symm]
    exact q
  dat := fun j d' e => by
    rcases get_set e with ⟨rfl, e1⟩ | ⟨hn, e1⟩
    · cases e1
    · obtain ⟨u, h1, h2⟩ := r.dat j d' e1
      exact ⟨u, by rw [set_ne hn]; exact h1, h2⟩
  own := fun j d' e => by
    rcases get_set e with ⟨rfl, e1⟩ | ⟨hn, e1⟩
    · cases e1
    · obtain ⟨a, h1, h2⟩ := r.own j d' e1
      exact ⟨a, by rw [set_ne hn]; exact h1, h2⟩
  inj := fun j k d1 d2 a e1 e2 h1 h2 => by
    rcases get_set e1 with ⟨rfl, e⟩ | ⟨n1, e1⟩
    · cases e
    rcases get_set e2 with ⟨rfl, e⟩ | ⟨n2, e2⟩
    · cases e
    rw [set_ne n1] at h1
    rw [set_ne n2] at h2
    exact r.inj j k d1 d2 a e1 e2 h1 h2
theorem Rel.noGiv (r : Rel K F s E R H) {i : Nat} (h : ∀ d, E[i]? ≠ some (Sl.own d)) : ∀ p ∈ F.g, p.1 ≠ i := fun p hp e => by
  obtain ⟨_, d, h1⟩ := r.giv p hp
  rw [e] at h1
  exact h d h1
/-- the slot's value may be anything where nothing is said of it -/
theorem Rel.anyNo (r : Rel K F s E R H) {i : Nat} {o : Option V} (h : E[i]? = some Sl.no) : Rel K F (s.set i o) E R H := by
  have q := r.setNo (i := i) (o := o) (r.noGiv fun d z => by rw [h] at z; cases z)
  have e : E.set i .no = E := by
    apply List.ext_getElem?
    intro j
    rw [List.getElem?_set]
    split
    · rename_i hj
      subst hj
      split
      · exact h.symm
      · rename_i hl
        rw [List.getElem?_eq_none (by omega)] at h
        cases h
    · rfl
  rw [e] at q
  exact q
/-- an owned list is written -/
theorem Rel.write (r : Rel K F s E R H) {i : Nat} {a : Addr} {d d' : D} {vs : List V} {ds : List D} (hE : E[i]? = some (.own d)) (ha : s[i]? = some (some (.ref a))) (hd : d' = .list ds) (hv : DpAll K R vs ds) : Rel K F s (E.set i (.own d')) R (upd H a (.lst vs)) := by
  have hiE : i < E.length := (List.getElem?_eq_some_iff.mp hE).1
  obtain ⟨a', ha', hR, hO, hg⟩ := r.own i d hE
  rw [ha] at ha'
  cases ha'
  obtain ⟨o, hH⟩ := hO.some
  exact {
    len := by rw [List.length_set, r.len]
    sub := fun b u q => by
      rw [upd_ne (ne_of_none q hR)]
      exact r.sub b u q
    sub0 := r.sub0
    keep := fun b u q hb => by
      have hn : b ≠ a := fun z => by
        subst z
        rcases hg with h0 | h0
        · rw [h0] at q; cases q
        · exact hb _ h0 rfl
      rw [upd_ne hn]
      exact r.keep b u q hb
    new := r.new
    giv := fun p hp => by
      obtain ⟨h1, d1, h2⟩ := r.giv p hp
      refine ⟨h1, ?_⟩
      by_cases hi : i = p.1
      · exact ⟨d', by rw [hi, List.getElem?_set_self (by rw [← hi]; exact hiE)]⟩
      · exact ⟨d1, by rw [set_ne hi]; exact h2⟩
    dat := fun j d1 e => by
      rcases get_set e with ⟨rfl, e1⟩ | ⟨hn, e1⟩
      · cases e1
      · exact r.dat j d1 e1
    own := fun j d1 e => by
      rcases get_set e with ⟨rfl, e1⟩ | ⟨hn, e1⟩
      · cases e1
        exact ⟨a, ha, hR, by rw [hd]; exact ⟨vs, upd_same, hv⟩, hg⟩
      · obtain ⟨b, h1, h2, h3, h4⟩ := r.own j d1 e1
        refine ⟨b, h1, h2, h3.mono (Same.refl _) (upd_ne fun z => ?_), h4⟩
        subst z
        exact hn (r.inj i j d d1 b hE e1 ha h1)
    inj := fun j k d1 d2 b e1 e2 h1 h2 => by
      have g : ∀ (j : Nat) (d1 : D), (E.set i (Sl.own d'))[j]? = some (Sl.own d1) → ∃ d2, E[j]? = some (Sl.own d2) := fun j d1 e => by
        rcases get_set e with ⟨rfl, _⟩ | ⟨_, e1⟩
        · exact ⟨_, hE⟩
        · exact ⟨_, e1⟩
      obtain ⟨d3, e3⟩ := g j d1 e1
      obtain ⟨d4, e4⟩ := g k d2 e2
      exact r.inj j k d3 d4 b e3 e4 h1 h2 }
/-- an owned list that isn't given becomes data -/
theorem Rel.freeze (r : Rel K F s E R H) {i : Nat} {d : D} (hE : E[i]? = some (.own d)) (hg : ∀ p ∈ F.g, p.1 ≠ i) : ∃ R', Same R R' ∧ Rel K F s (E.set i (.dat d)) R' H := by
  obtain ⟨a, ha, hR, hO, h0⟩ := r.own i d hE
  have hiE : i < E.length := (List.getElem?_eq_some_iff.mp hE).1
  have h0' : F.H0 a = none := by
    rcases h0 with h | h
    · exact h
    · exact absurd rfl (hg _ h)
  cases d with
  | list ds =>
    obtain ⟨vs, hH, hv⟩ := hO
    have r1 := r.setNo (i := i) (o := some (.ref a)) hg
    have es : s.set i (some (V.ref a)) = s := by
      apply List.ext_getElem?
      intro j
      rw [List.getElem?_set]
      split
      · rename_i hj; subst hj
        rw [if_pos (by rw [← r.len]; exact hiE)]
        exact ha.symm
      · rfl
    rw [es] at r1
    have r2 : Rel K F s (E.set i .no) (upd R a (.lst vs)) H := r1.into hH h0' (fun j d' e z => by
      rcases get_set e with ⟨_, e1⟩ | ⟨hn, e1⟩
      · cases e1
      · exact hn (r.inj i j _ d' a hE e1 ha z)) hR
    refine ⟨upd R a (.lst vs), same_upd hR, ?_⟩
    have r3 := r2.setDat (i := i) (v := .ref a) (d := .list ds) (by rw [List.length_set]; exact hiE) hg (.lst (SqL.of upd_same) (dpAll_mono (same_upd hR) _ _ hv))
    rw [es, List.set_set] at r3
    exact r3
  | _ => exact hO.elim
end

/-! ### statements -/
structure EnS where
  nx : En → Prop
  rt : Sl → En → Prop
  bk : En → Prop := fun _ => False
  ct : En → Prop := fun _ => False
structure Wish (S : Sx) (F : Fx) (R : Hp) (Z : EnS) (D : Ends) : Prop where
  nx : ∀ E' s' R' H', Same R R' → Rel S.K F s' E' R' H' → Z.nx E' → D.nx s' H'
  rt : ∀ v r E' s' R' H', Same R R' → Rel S.K F s' E' R' H' → RsOk S.K F s' E' R' H' v r → Z.rt r E' → D.rt v H'
  bk : ∀ E' s' R' H', Same R R' → Rel S.K F s' E' R' H' → Z.bk E' → D.bk s' H'
  ct : ∀ E' s' R' H', Same R R' → Rel S.K F s' E' R' H' → Z.ct E' → D.ct s' H'
theorem Wish.later {S : Sx} {F : Fx} {R R1 : Hp} {Z : EnS} {D : Ends} (h : Wish S F R Z D) (e : Same R R1) : Wish S F R1 Z D :=
  ⟨fun E' s' R' H' a => h.nx E' s' R' H' (e.trans a), fun v r E' s' R' H' a => h.rt v r E' s' R' H' (e.trans a), fun E' s' R' H' a => h.bk E' s' R' H' (e.trans a), fun E' s' R' H' a => h.ct E' s' R' H' (e.trans a)⟩
def WpS (S : Sx) (G : List Nat) (st : Stmt) (E : En) (Z : EnS) : Prop := ∀ X, Has S X → ∀ F s R H, F.g.map (·.1) = G → Rel S.K F s E R H → ∀ D : Ends, Wish S F R Z D → RdS X st D s H
def WpSs (S : Sx) (G : List Nat) (sts : List Stmt) (E : En) (Z : EnS) : Prop := ∀ X, Has S X → ∀ F s R H, F.g.map (·.1) = G → Rel S.K F s E R H → ∀ D : Ends, Wish S F R Z D → RdSs X sts D s H
section
variable {S : Sx} {G : List Nat} {e : Expr} {es : List Expr} {E : En} {a b c : Expr} {pos : Pos} {st : Stmt} {sts : List Stmt} {Z : EnS}
theorem ss_nil (h : Z.nx E) : WpSs S G [] E Z := fun X hX F s R H hg r D W => ⟨_, pss_nil, W.nx E s R H (Same.refl _) r h⟩
theorem ss_cons (h : WpS S G st E { Z with nx := fun E1 => WpSs S G sts E1 Z }) : WpSs S G (st :: sts) E Z := fun X hX F s R H hg r D W => by
  refine ⟨_, pss_cons ps_rd pss_rd, ?_⟩
  refine h X hX F s R H hg r _ ⟨fun E' s' R' H' a r' q => ?_, W.rt, W.bk, W.ct⟩
  exact q X hX F s' R' H' hg r' D (W.later a)
theorem ss_one (h : WpS S G st E Z) : WpSs S G [st] E Z := fun X hX F s R H hg r D W => ⟨_, pss_one ps_rd, h X hX F s R H hg r D W⟩
/-- an owned list becomes data, between two statements -/
theorem ss_freeze {i : Nat} {d : D} (hE : E[i]? = some (.own d)) (hG : i ∉ G) (h : WpSs S G sts (E.set i (.dat d)) Z) : WpSs S G sts E Z := fun X hX F s R H hg r D W => by
  obtain ⟨R', a, r'⟩ := r.freeze hE fun p hp e => hG (by rw [← hg, ← e]; exact List.mem_map_of_mem hp)
  exact h X hX F s R' H hg r' D (W.later a)
theorem ss_forget {i : Nat} (hG : i ∉ G) (h : WpSs S G sts (E.set i .no) Z) : WpSs S G sts E Z := fun X hX F s R H hg r D W => by
  have r1 := r.setNo (i := i) (o := (s[i]?).getD none) fun p hp e => hG (by rw [← hg, ← e]; exact List.mem_map_of_mem hp)
  have es : s.set i ((s[i]?).getD none) = s := by
    apply List.ext_getElem?
    intro j
    rw [List.getElem?_set]
    split
    · rename_i hj; subst hj
      split
      · rename_i hl
        rw [List.getElem?_eq_getElem hl]
        rfl
      · rename_i hl
        rw [List.getElem?_eq_none (by omega)]
    · rfl
  rw [es] at r1
  exact h X hX F s R H hg r1 D W
theorem s_ret (h : Wp S e E fun r E' => Z.rt r E') : WpS S G (.Return (some e) pos) E Z := fun X hX F s R H hg r D W =>
  ⟨_, ps_ret pe_rd, h X hX F s R H r _ fun v r' E' R' H' a r1 p q => W.rt v r' E' s R' H' a r1 p q⟩
theorem s_retN (h : Z.rt (.dat .none) E) : WpS S G (.Return none pos) E Z := fun X hX F s R H hg r D W => ⟨_, ps_retN, W.rt .non (.dat .none) E s R H (Same.refl _) r .non h⟩
/-- return x, x an owned list of the def's own -/
theorem s_retOwn {x : Str} {i : Nat} {d : D} (hN : S.N[i]? = some x) (hv : Vis S.sc x) (hE : E[i]? = some (.own d)) (hG : i ∉ G) (h : Z.rt (.own d) (E.set i .no)) {p : Pos} (hd : (x == ("__debug__" : Str)) = false := by decide) (hcd : (x == ("__classdict__" : Str)) = false := by decide) :
    WpS S G (.Return (some (.Name x p)) pos) E Z := fun X hX F s R H hg r D W => by
  refine ⟨_, ps_ret (pe_var (i := i) (by rw [hX.N]; exact hN) (by rw [hX.sc]; exact hv) hd hcd), ?_⟩
  obtain ⟨a, ha, hR, hO, h0⟩ := r.own i d hE
  have hgi : ∀ p ∈ F.g, p.1 ≠ i := fun p hp e => hG (by rw [← hg, ← e]; exact List.mem_map_of_mem hp)
  refine ⟨_, ha, W.rt (.ref a) (.own d) (E.set i .no) (s.set i none) R H (Same.refl _) (r.setNo hgi) ⟨a, rfl, hR, hO, ?_, fun j d' e z => ?_⟩ h⟩
  · rcases h0 with q | q
    · exact q
    · exact absurd rfl (hgi _ q)
  · rcases get_set e with ⟨_, e1⟩ | ⟨hn, e1⟩
    · cases e1
    · rw [set_ne hn] at z
      exact hn (r.inj i j _ d' a hE e1 ha z)
theorem s_expr (h : Wp S e E fun _ E' => Z.nx E') (hs : ∀ env : Env, swapsWith e none pos.line env = pure false := by intro _; rfl) : WpS S G (.Expr e pos) E Z := fun X hX F s R H hg r D W =>
  ⟨_, ps_expr pe_rd (hs _), h X hX F s R H r _ fun v r' E' R' H' a r1 p q => W.nx E' s R' H' a r1 q⟩
theorem s_pass (h : Z.nx E) : WpS S G (.Pass pos) E Z := fun X hX F s R H hg r D W => ⟨_, ps_pass, W.nx E s R H (Same.refl _) r h⟩
theorem s_if {y n : List Stmt} (h : WpT S c E fun t E1 => (t = true → WpSs S G y E1 Z) ∧ (t = false → WpSs S G n E1 Z)) : WpS S G (.If c y n pos) E Z := fun X hX F s R H hg r D W => by
  refine ⟨_, ps_if pt_rd pss_rd pss_rd, ?_⟩
  refine h X hX F s R H r _ fun t E1 R1 H1 a r1 ⟨h1, h2⟩ => ?_
  cases t with
  | true => rw [if_pos rfl]; exact h1 rfl X hX F s R1 H1 hg r1 D (W.later a)
  | false => rw [if_neg Bool.false_ne_true]; exact h2 rfl X hX F s R1 H1 hg r1 D (W.later a)
/-- x = e -/
theorem s_set {x : Str} {i : Nat} {p : Pos} (hN : S.N[i]? = some x) (hx : Loc S.sc x) (hA : S.asg x = true) (hG : i ∉ G) (h : Wp S e E fun r E' => i < E'.length ∧ Z.nx (E'.set i r)) (hs : ∀ env : Env, swapsWith e (some (.Name x p)) pos.line env = pure false := by intro _; rfl) :
    WpS S G (.Assign [.Name x p] e pos) E Z := fun X hX F s R H hg r D W => by
  have hl : Loc X.env.scope x := by rw [hX.sc]; exact hx
  refine ⟨_, ps_set (i := i) hX.nd (by rw [hX.N]; exact hN) hl pe_rd (hs _) (hX.fnl x hA), ?_⟩
  have hgi : ∀ p ∈ F.g, p.1 ≠ i := fun p hp e => hG (by rw [← hg, ← e]; exact List.mem_map_of_mem hp)
  refine h X hX F s R H r _ fun v r' E' R' H' a r1 p q => ?_
  cases r' with
  | no => exact p.elim
  | dat d => exact W.nx _ _ R' H' a (r1.setDat q.1 hgi p) q.2
  | own d =>
    obtain ⟨b, rfl, z⟩ := id p
    exact W.nx _ _ R' H' a (r1.setOwn q.1 hgi p) q.2
end
end Wq

namespace Wq
open PySem L2

section
variable {K : PySem.W.Frag} {F : Fx} {s : St} {E : En} {R H : Hp}
/-- only what is said of matters -/
theorem Rel.cong (r : Rel K F s E R H) {s' : St} (hl : s'.length = s.length) (h : ∀ i : Nat, E[i]? = some Sl.no ∨ s'[i]? = s[i]?) : Rel K F s' E R H := by
  have g : ∀ (i : Nat), E[i]? ≠ some Sl.no → s'[i]? = s[i]? := fun i n => (h i).resolve_left n
  exact {
    len := by rw [hl, r.len]
    sub := r.sub
    sub0 := r.sub0
    keep := r.keep
    new := r.new
    giv := fun p hp => by
      obtain ⟨h1, d, h2⟩ := r.giv p hp
      exact ⟨by rw [g p.1 (by rw [h2]; exact fun z => by cases z)]; exact h1, d, h2⟩
    dat := fun i d e => by
      obtain ⟨v, h1, h2⟩ := r.dat i d e
      exact ⟨v, by rw [g i (by rw [e]; exact fun z => by cases z)]; exact h1, h2⟩
    own := fun i d e => by
      obtain ⟨v, h1, h2⟩ := r.own i d e
      exact ⟨v, by rw [g i (by rw [e]; exact fun z => by cases z)]; exact h1, h2⟩
    inj := fun i j d d' a e1 e2 h1 h2 => by
      rw [g i (by rw [e1]; exact fun z => by cases z)] at h1
      rw [g j (by rw [e2]; exact fun z => by cases z)] at h2
      exact r.inj i j d d' a e1 e2 h1 h2 }
/-- the owners -/
def owners (s : St) (E : En) : List (Nat × Addr) := (List.range E.length).filterMap fun (i : Nat) => match E[i]?, s[i]? with
  | some (Sl.own _), some (some (V.ref a)) => some (i, a)
  | _, _ => none
theorem mem_owners {i : Nat} {a : Addr} : (i, a) ∈ owners s E ↔ (∃ d, E[i]? = some (Sl.own d)) ∧ s[i]? = some (some (V.ref a)) := by
  unfold owners
  rw [List.mem_filterMap]
  constructor
  · rintro ⟨j, hj, e⟩
    split at e
    · rename_i h1 h2
      cases e
      exact ⟨⟨_, h1⟩, h2⟩
    · cases e
  · rintro ⟨⟨d, h1⟩, h2⟩
    refine ⟨i, List.mem_range.mpr (List.getElem?_eq_some_iff.mp h1).1, ?_⟩
    rw [h1, h2]
theorem Rel.nest (r : Rel K F s E R H) : Rel K ⟨H, R, owners s E⟩ s E R H where
  len := r.len
  sub := r.sub
  sub0 := Same.refl _
  keep := fun _ _ e _ => e
  new := fun a o e => .inl ⟨o, e⟩
  giv := fun p hp => by
    obtain ⟨h1, h2⟩ := mem_owners.mp hp
    exact ⟨h2, h1⟩
  dat := r.dat
  own := fun i d e => by
    obtain ⟨a, h1, h2, h3, h4⟩ := r.own i d e
    exact ⟨a, h1, h2, h3, .inr (mem_owners.mpr ⟨⟨d, e⟩, h1⟩)⟩
  inj := r.inj
theorem Rel.unnest (r : Rel K F s E R H) {s' : St} {E' : En} {R' H' : Hp} (q : Rel K ⟨H, R, owners s E⟩ s' E' R' H') : Rel K F s' E' R' H' where
  len := q.len
  sub := q.sub
  sub0 := r.sub0.trans q.sub0
  keep := fun a o e hg => by
    refine q.keep a o (r.keep a o e hg) fun p hp z => ?_
    obtain ⟨⟨d, h1⟩, h2⟩ := mem_owners.mp hp
    obtain ⟨a', h3, h4, h5, h6⟩ := r.own _ _ h1
    rw [h2] at h3
    cases h3
    rcases h6 with h6 | h6
    · rw [z, e] at h6; cases h6
    · exact hg _ h6 z
  new := fun a o e => by
    rcases q.new a o e with ⟨o', h⟩ | h
    · exact r.new a o' h
    · exact .inr (r.free0 h)
  giv := fun p hp => by
    obtain ⟨h1, h2⟩ := r.giv p hp
    exact q.giv p (mem_owners.mpr ⟨h2, h1⟩)
  dat := q.dat
  own := fun i d e => by
    obtain ⟨a, h1, h2, h3, h4⟩ := q.own i d e
    refine ⟨a, h1, h2, h3, ?_⟩
    rcases h4 with h4 | h4
    · exact .inl (r.free0 h4)
    · obtain ⟨⟨d1, k1⟩, k2⟩ := mem_owners.mp h4
      obtain ⟨a', h3, _, _, h6⟩ := r.own _ _ k1
      rw [k2] at h3
      cases h3
      exact h6
  inj := q.inj
/-- an object that is nobody's is written -/
theorem Rel.other (r : Rel K F s E R H) {p : Addr} {o : HO} (hR : R p = none) (h0 : F.H0 p = none) (hn : ∀ (i : Nat) (d : D), E[i]? = some (Sl.own d) → s[i]? ≠ some (some (V.ref p))) : Rel K F s E R (upd H p o) where
  len := r.len
  sub := fun a u q => by rw [upd_ne (ne_of_none q hR)]; exact r.sub a u q
  sub0 := r.sub0
  keep := fun a u e hg => by rw [upd_ne (ne_of_none e h0)]; exact r.keep a u e hg
  new := r.new
  giv := r.giv
  dat := r.dat
  own := fun i d e => by
    obtain ⟨a, h1, h2, h3, h4⟩ := r.own i d e
    exact ⟨a, h1, h2, h3.mono (Same.refl _) (upd_ne fun z => hn i d e (by rw [h1, z])), h4⟩
  inj := r.inj
def wipeE (E : En) : List Nat → En
  | [] => E
  | v :: vs => (wipeE E vs).set v .no
theorem Rel.wipe (r : Rel K F s E R H) : ∀ (vs : List Nat), (∀ i ∈ vs, ∀ d, E[i]? ≠ some (Sl.own d)) → Rel K F (L2.wipe s vs) (wipeE E vs) R H
  | [], _ => r
  | v :: vs, h => by
    have q := Rel.wipe r vs fun i hi => h i (List.mem_cons_of_mem _ hi)
    exact q.setNo (r.noGiv (h v List.mem_cons_self))
theorem wipe_get : ∀ {s : St} {vs : List Nat} {j : Nat}, j ∉ vs → (L2.wipe s vs)[j]? = s[j]?
  | s, [], j, _ => rfl
  | s, v :: vs, j, h => by
    unfold L2.wipe
    rw [set_ne (fun z => h (by rw [z]; exact List.mem_cons_self)), wipe_get fun z => h (List.mem_cons_of_mem _ z)]
theorem wipe_in : ∀ {s : St} {vs : List Nat} {j : Nat}, j ∈ vs → j < s.length → (L2.wipe s vs)[j]? = some none
  | s, v :: vs, j, h, hl => by
    unfold L2.wipe
    by_cases e : v = j
    · subst e
      rw [List.getElem?_set_self (by rw [wipe_length]; exact hl)]
    · rw [set_ne e]
      exact wipe_in ((List.mem_cons.mp h).resolve_left fun z => e z.symm) hl
theorem wipe_eq {s s' : St} {vs : List Nat} (hl : s'.length = s.length) (h : ∀ j, j ∉ vs → s'[j]? = s[j]?) : L2.wipe s' vs = L2.wipe s vs := by
  apply List.ext_getElem?
  intro j
  by_cases hj : j ∈ vs
  · by_cases hlt : j < s.length
    · rw [wipe_in hj hlt, wipe_in hj (by omega)]
    · rw [List.getElem?_eq_none (by rw [wipe_length]; omega), List.getElem?_eq_none (by rw [wipe_length]; omega)]
  · rw [wipe_get hj, wipe_get hj, h j hj]
theorem wipeE_len : ∀ (vs : List Nat), (wipeE E vs).length = E.length
  | [] => rfl
  | v :: vs => by unfold wipeE; rw [List.length_set, wipeE_len vs]
theorem wipeE_in : ∀ {vs : List Nat} {j : Nat}, j ∈ vs → j < E.length → (wipeE E vs)[j]? = some Sl.no
  | v :: vs, j, h, hl => by
    unfold wipeE
    by_cases e : v = j
    · subst e
      rw [List.getElem?_set_self (by rw [wipeE_len]; exact hl)]
    · rw [set_ne e]
      exact wipeE_in ((List.mem_cons.mp h).resolve_left fun z => e z.symm) hl
end

/-! ### targets -/
def RdG (X : Cx) (tg : Expr) : TG := fun v s H Q => ∃ t, PG X tg t ∧ t v s H Q
theorem pg_rd {X : Cx} {tg : Expr} : PG X tg (RdG X tg) := ⟨fun pins s σ H v u Q I r ⟨_, ht, q⟩ => ht.run pins s σ H v u Q I r q⟩
def WpG (S : Sx) (vs : List Nat) (tg : Expr) (d : D) (E : En) (P : En → Prop) : Prop := ∀ X, Has S X → ∀ F s R H v, Rel S.K F s E R H → Dp S.K R v d → ∀ Q : St → Hp → Prop,
  (∀ s' E', s'.length = s.length → (∀ j, j ∉ vs → s'[j]? = s[j]?) → Rel S.K F s' E' R H → P E' → Q s' H) → RdG X tg v s H Q
def notOwn (E : En) (i : Nat) : Prop := ∃ q, E[i]? = some q ∧ ∀ d, q ≠ Sl.own d
section
variable {S : Sx} {vs : List Nat} {e : Expr} {es : List Expr} {E : En} {a b c : Expr} {pos : Pos}
theorem g_name {x : Str} {i : Nat} {d : D} {P : En → Prop} (hN : S.N[i]? = some x) (hx : Loc S.sc x) (hA : S.asg x = true) (hi : i ∈ vs) (hE : notOwn E i) (h : P (E.set i (.dat d))) : WpG S vs (.Name x pos) d E P := fun X hX F s R H v r p Q k => by
  refine ⟨_, pg_name (i := i) hX.nd (by rw [hX.N]; exact hN) (by rw [hX.sc]; exact hx) (hX.fnl x hA), ?_⟩
  obtain ⟨q, hq, hn⟩ := hE
  refine k _ _ (List.length_set ..) (fun j hj => set_ne fun z => hj (by rw [← z]; exact hi)) (r.setDat (List.getElem?_eq_some_iff.mp hq).1 (r.noGiv fun d z => ?_) p) h
  rw [hq] at z
  exact hn d (Option.some.inj z)
theorem g_two {x y : Str} {i j : Nat} {d1 d2 : D} {k} {p1 p2 : Pos} {P : En → Prop} (hN : S.N[i]? = some x) (hx : Loc S.sc x) (hA : S.asg x = true) (hi : i ∈ vs) (hE : notOwn E i) (hN' : S.N[j]? = some y) (hx' : Loc S.sc y) (hA' : S.asg y = true) (hi' : j ∈ vs) (hE' : notOwn (E.set i (.dat d1)) j)
    (h : P ((E.set i (.dat d1)).set j (.dat d2))) : WpG S vs (.Tuple [.Name x p1, .Name y p2] k pos) (.tuple [d1, d2]) E P := fun X hX F s R H v r p Q kk => by
  refine ⟨_, pg_tup (n := 2) hX.calm (pgs_cons (pg_rd (tg := .Name x p1)) (pgs_cons (pg_rd (tg := .Name y p2)) pgs_nil)) rfl rfl, ?_⟩
  cases p with
  | tup hq hd =>
    cases hd with
    | cons h1 hd =>
      cases hd with
      | cons h2 hd =>
        cases hd
        have hqH := same_t r.sub hq
        rw [← hX.K] at hqH
        refine ⟨_, _, rfl, hqH, rfl, _, _, rfl, ?_⟩
        refine g_name (P := fun E' => E' = E.set i (.dat d1)) hN hx hA (show i ∈ [i] by simp) hE rfl X hX F s R H _ r h1 _ fun s1 E1 l1 k1 r1 e1 => ?_
        subst e1
        refine ⟨_, _, rfl, ?_⟩
        refine g_name (P := fun E' => E' = (E.set i (.dat d1)).set j (.dat d2)) hN' hx' hA' (show j ∈ [j] by simp) hE' rfl X hX F s1 R H _ r1 h2 _ fun s2 E2 l2 k2 r2 e2 => ?_
        subst e2
        refine ⟨rfl, kk s2 _ (l2.trans l1) (fun m hm => ?_) r2 h⟩
        rw [k2 m (by simp only [List.mem_singleton]; exact fun z => hm (by rw [z]; exact hi')), k1 m (by simp only [List.mem_singleton]; exact fun z => hm (by rw [z]; exact hi))]

/-! ### what is walked -/
def GlS (S : Sx) (x : Str) : Prop := S.sc.names.lookup x = some NameKind.globalImplicit
theorem GlS.gl {S : Sx} {X : Cx} {x : Str} (h : GlS S x) (hX : Has S X) : Gl X x := by
  show X.env.scope.names.lookup x = _
  rw [hX.sc]
  exact h
def RdI (X : Cx) (tg it : Expr) : TI := fun s H R => ∃ wi, PI X tg it wi ∧ wi s H R
theorem pi_rd {X : Cx} {tg it : Expr} : PI X tg it (RdI X tg it) := ⟨fun pins s σ H R I ⟨_, ht, q⟩ => ht.run pins s σ H R I q⟩
structure ItOk (K : PySem.W.Frag) (R : Hp) (J : It) (ds : List D) : Prop where
  go : ∀ F s E R2 H2 t d, Same R R2 → Rel K F s E R2 H2 → ds[t]? = some d → J.go t H2 ∧ ∀ x H3, J.yld t H2 x H3 → ∃ R3, Same R2 R3 ∧ Rel K F s E R3 H3 ∧ Dp K R3 x d
  stop : ∀ F s E R2 H2, Same R R2 → Rel K F s E R2 H2 → J.stop ds.length H2
def WpI (S : Sx) (tg it : Expr) (E : En) (P : List D → En → Prop) : Prop := ∀ X, Has S X → ∀ F s R H, Rel S.K F s E R H → ∀ Rr : It → Hp → Prop,
  (∀ J ds E' R' H', Same R R' → Rel S.K F s E' R' H' → ItOk S.K R' J ds → P ds E' → Rr J H') → RdI X tg it s H Rr
def intsD (lo : Int) (n : Nat) : List D := (List.range n).map fun (i : Nat) => (.int (lo + i) : D)
theorem intsD_len {lo : Int} {n : Nat} : (intsD lo n).length = n := by unfold intsD; rw [List.length_map, List.length_range]
theorem intsD_get {lo : Int} {n t : Nat} {d : D} (h : (intsD lo n)[t]? = some d) : t < n ∧ d = .int (lo + t) := by
  unfold intsD at h
  rw [List.getElem?_map] at h
  by_cases ht : t < n
  · rw [List.getElem?_range ht] at h
    exact ⟨ht, (Option.some.inj h).symm⟩
  · rw [List.getElem?_eq_none (by rw [List.length_range]; omega)] at h
    cases h
theorem it_range {K : PySem.W.Frag} {R : Hp} {lo : Int} {n : Nat} : ItOk K R (Itr lo n) (intsD lo n) where
  go := fun F s E R2 H2 t d _ r e => by
    obtain ⟨h1, rfl⟩ := intsD_get e
    exact ⟨h1, fun x H3 ⟨h2, h3⟩ => ⟨R2, Same.refl _, by rw [h2]; exact r, by rw [h3]; exact .int _⟩⟩
  stop := fun F s E R2 H2 _ r => by
    show n ≤ (intsD lo n).length
    rw [intsD_len]
    exact Nat.le_refl _
variable {tg it : Expr} {p : Pos}
theorem wi_range1 {P : List D → En → Prop} (hg : GlS S "range") (hm : S.mg "range" = none) (h : WpD S a E fun d E1 => ∃ n, d = .int n ∧ -(2 ^ 62) ≤ n ∧ n < 2 ^ 62 ∧ P (intsD 0 n.toNat) E1)
    (hst : ∀ env : Env, starEach [a] env = (false, eval a env) :: starEach [] env := by intro _; rfl) : WpI S tg (.Call (.Name "range" p) [a] [] pos) E P := fun X hX F s R H r Rr k => by
  refine ⟨_, pi_range1 (hg.gl hX) (by rw [hX.mg]; exact hm) (pa_cons pe_rd pa_nil (hst _)) (hst _), ?_⟩
  refine h X hX F s R H r _ fun v d E1 R1 H1 s1 r1 p1 ⟨n, hn, h1, h2, h3⟩ => ?_
  subst hn
  cases p1
  exact ⟨n, rfl, h1, h2, k _ _ E1 R1 H1 s1 r1 it_range h3⟩
theorem wi_range2 {P : List D → En → Prop} (hg : GlS S "range") (hm : S.mg "range" = none) (h : WpD S a E fun d E1 => WpD S b E1 fun d' E2 => ∃ m n, d = .int m ∧ d' = .int n ∧ (-(2 ^ 62) ≤ m ∧ m < 2 ^ 62 ∧ -(2 ^ 62) ≤ n ∧ n < 2 ^ 62) ∧ P (intsD m (n - m).toNat) E2)
    (hst : ∀ env : Env, starEach [a, b] env = (false, eval a env) :: starEach [b] env := by intro _; rfl) (hst2 : ∀ env : Env, starEach [b] env = (false, eval b env) :: starEach [] env := by intro _; rfl) : WpI S tg (.Call (.Name "range" p) [a, b] [] pos) E P := fun X hX F s R H r Rr k => by
  refine ⟨_, pi_range2 (hg.gl hX) (by rw [hX.mg]; exact hm) (pa_cons pe_rd (pa_cons pe_rd pa_nil (hst2 _)) (hst _)) (by rw [hst, hst2]; rfl) (hst2 _), ?_⟩
  refine h X hX F s R H r _ fun v d E1 R1 H1 s1 r1 p1 h1 => ?_
  refine h1 X hX F s R1 H1 r1 _ fun v2 d2 E2 R2 H2 s2 r2 p2 ⟨m, n, hm, hn, hb, h3⟩ => ?_
  subst hm hn
  cases p1
  cases p2
  exact ⟨m, n, rfl, hb, k _ _ E2 R2 H2 (s1.trans s2) r2 it_range h3⟩
theorem it_list {K : PySem.W.Frag} {R : Hp} {p : Addr} {vs : List V} {ds : List D} (h : SqL K R p vs) (hd : DpAll K R vs ds) : ItOk K R (Itl K p) ds where
  go := fun F s E R2 H2 t d e r hd' => by
    have q : SqL K H2 p vs := r.sub.seq (e.seq h)
    obtain ⟨v, h1, h2⟩ := dpAll_get hd hd'
    exact ⟨⟨vs, v, q, h1⟩, fun x H3 ⟨e1, e2⟩ => ⟨R2, Same.refl _, by rw [e1]; exact r, by
      have := e2 vs q
      rw [h1] at this
      cases this
      exact dp_mono e _ _ h2⟩⟩
  stop := fun F s E R2 H2 e r => ⟨vs, r.sub.seq (e.seq h), by rw [dpAll_len hd]; exact Nat.le_refl _⟩
theorem it_tup {K : PySem.W.Frag} {R : Hp} {p : Addr} {vs : List V} {ds : List D} (h : SqT K R p vs) (hd : DpAll K R vs ds) : ItOk K R (Itt K p) ds where
  go := fun F s E R2 H2 t d e r hd' => by
    have q : SqT K H2 p vs := same_t r.sub (same_t e h)
    obtain ⟨v, h1, h2⟩ := dpAll_get hd hd'
    exact ⟨⟨vs, v, q, h1⟩, fun x H3 ⟨e1, e2⟩ => ⟨R2, Same.refl _, by rw [e1]; exact r, by
      have := e2 vs q
      rw [h1] at this
      cases this
      exact dp_mono e _ _ h2⟩⟩
  stop := fun F s E R2 H2 e r => ⟨vs, same_t r.sub (same_t e h), by rw [dpAll_len hd]; exact Nat.le_refl _⟩
theorem wi_list {P : List D → En → Prop} (h : WpD S it E fun d E1 => ∃ ds, d = .list ds ∧ P ds E1) : WpI S tg it E P := fun X hX F s R H r Rr k => by
  refine ⟨_, pi_list pe_rd, ?_⟩
  refine h X hX F s R H r _ fun v d E1 R1 H1 s1 r1 p1 ⟨ds, hn, h3⟩ => ?_
  subst hn
  cases p1 with
  | lst hq hd =>
    rw [hX.K]
    exact ⟨_, rfl, ⟨_, r1.sub.seq hq⟩, k _ _ E1 R1 H1 s1 r1 (it_list hq hd) h3⟩
theorem wi_tup {P : List D → En → Prop} (h : WpD S it E fun d E1 => ∃ ds, d = .tuple ds ∧ P ds E1) : WpI S tg it E P := fun X hX F s R H r Rr k => by
  refine ⟨_, pi_tup pe_rd, ?_⟩
  refine h X hX F s R H r _ fun v d E1 R1 H1 s1 r1 p1 ⟨ds, hn, h3⟩ => ?_
  subst hn
  cases p1 with
  | tup hq hd =>
    rw [hX.K]
    exact ⟨_, rfl, ⟨_, same_t r1.sub hq⟩, k _ _ E1 R1 H1 s1 r1 (it_tup hq hd) h3⟩

/-! ### for -/
theorem s_for {G : List Nat} {body : List Stmt} {Z : EnS} (vs : List Nat) (h : WpI S tg it E fun ds E1 => ∃ Iv : Nat → En → Prop, Iv 0 E1 ∧
      (∀ t Et d, ds[t]? = some d → Iv t Et → WpG S vs tg d Et fun E2 => WpSs S G body E2 { Z with nx := Iv (t + 1), ct := Iv (t + 1), bk := Z.nx }) ∧ ∀ Et, Iv ds.length Et → Z.nx Et)
    (hs : ∀ (env : Env) x, foldedSetIterable it env x = pure x := by intro _ _; rfl) : WpS S G (.For tg it body [] pos) E Z := fun X hX F s R H hg r D W => by
  refine ⟨_, ps_for (by rw [hX.xe]; exact PassesOwn.never) hX.calm pi_rd pg_rd pss_rd (hs _), ?_⟩
  refine h X hX F s R H r _ fun J ds E1 R1 H1 s1 r1 J1 ⟨Iv, h0, hst, hd⟩ => ?_
  refine ⟨fun t m s2 H2 => m = ds.length - t ∧ t ≤ ds.length ∧ ∃ E2 R2, Same R1 R2 ∧ Rel S.K F s2 E2 R2 H2 ∧ Iv t E2, ⟨_, rfl, Nat.zero_le _, E1, R1, Same.refl _, r1, h0⟩, ?_⟩
  rintro t m s2 H2 ⟨rfl, ht, E2, R2, a2, r2, i2⟩
  by_cases hlt : t < ds.length
  · obtain ⟨g1, g2⟩ := J1.go F s2 E2 R2 H2 t ds[t] a2 r2 (List.getElem?_eq_getElem hlt)
    refine .inr ⟨g1, fun s3 H3 => ∃ E3 R3, Same R1 R3 ∧ Rel S.K F s3 E3 R3 H3 ∧ Iv (t + 1) E3, fun s3 H3 ⟨E3, R3, a3, r3, i3⟩ => ⟨ds.length - (t + 1), by omega, rfl, hlt, E3, R3, a3, r3, i3⟩, fun x H3 hy => ?_⟩
    obtain ⟨R3, a3, r3, p3⟩ := g2 x H3 hy
    refine hst t E2 ds[t] (List.getElem?_eq_getElem hlt) i2 X hX F s2 R3 H3 x r3 p3 _ fun s4 E4 l4 k4 r4 h4 => ?_
    have a4 : Same R R3 := (s1.trans a2).trans a3
    refine h4 X hX F s4 R3 H3 hg r4 _ ⟨fun E' s' R' H' b r' q => ⟨E', R', (a2.trans a3).trans b, r', q⟩, fun v q E' s' R' H' b r' p q' => W.rt v q E' s' R' H' (a4.trans b) r' p q', fun E' s' R' H' b r' q => W.nx E' s' R' H' (a4.trans b) r' q, fun E' s' R' H' b r' q => ⟨E', R', (a2.trans a3).trans b, r', q⟩⟩
  · have e : t = ds.length := by omega
    subst e
    exact .inl ⟨J1.stop F s2 E2 R2 H2 a2 r2, W.nx E2 s2 R2 H2 (s1.trans a2) r2 (hd E2 i2)⟩
end
end Wq

namespace Wq
open PySem L2

/-! ### the block of a comprehension -/
def blkS (S : Sx) (scope : Scope) : Sx := { S with sc := relS scope S.sc, asg := fun x => scope.names.lookup x == some NameKind.local || scope.names.lookup x == some NameKind.cell }
theorem has_blk {S : Sx} {X : Cx} {scope : Scope} (hX : Has S X) (s : Shared) (H : Hp) (C : Addr) (cl : List (Str × Addr)) (fp : List Addr) : Has (blkS S scope) (X.blk s H scope (compEnvC scope cl C X.env) fp) where
  prog := hX.prog
  w := hX.w
  K := hX.K
  mg := hX.mg
  base := hX.base
  N := hX.N
  sc := by
    show relS scope X.env.scope = relS scope S.sc
    rw [hX.sc]
  calm := hX.calm
  room := hX.room
  xe := rfl
  grd := hX.grd
  nd := hX.nd
  fnl := fun x h => by
    have h' : (scope.names.lookup x == some NameKind.local || scope.names.lookup x == some NameKind.cell) = true := h
    rw [Bool.or_eq_true] at h'
    rcases h' with h' | h'
    · right
      have e : scope.names.lookup x = some NameKind.local := by simpa using h'
      exact lookup_relS_keep (by decide) e
    · left
      exact h'
def RdTs (X : Cx) (ifs : List Expr) : TT := fun s H Q => ∃ t, PTs X ifs t ∧ t s H Q
theorem pts_rd {X : Cx} {ifs : List Expr} : PTs X ifs (RdTs X ifs) := ⟨fun pins s σ H Q I ⟨_, ht, q⟩ => ht.run pins s σ H Q I q⟩
def WpTs (S : Sx) (ifs : List Expr) (E : En) (P : Bool → En → Prop) : Prop :=
  ∀ X, Has S X → ∀ F s R H, Rel S.K F s E R H → ∀ Q : Bool → Hp → Prop,
    (∀ b E' R' H', Same R R' → Rel S.K F s E' R' H' → P b E' → Q b H') → RdTs X ifs s H Q
theorem wts_nil {S : Sx} {E : En} {P : Bool → En → Prop} (h : P true E) : WpTs S [] E P := fun X hX F s R H r Q k => ⟨_, pts_nil, k true E R H (Same.refl _) r h⟩
theorem wts_one {S : Sx} {E : En} {c : Expr} {P : Bool → En → Prop} (h : WpT S c E P) : WpTs S [c] E P := fun X hX F s R H r Q k => ⟨_, pts_one pt_rd, h X hX F s R H r Q k⟩
def AllG (S : Sx) (tg : Expr) : TG := fun v s H Q => ∀ Y, Has S Y → RdG Y tg v s H Q
def AllE (S : Sx) (e : Expr) : TE := fun s H Q => ∀ Y, Has S Y → RdE Y e s H Q
def AllTs (S : Sx) (e : List Expr) : TT := fun s H Q => ∀ Y, Has S Y → RdTs Y e s H Q
theorem pg_all {S : Sx} {Y : Cx} {tg : Expr} (hY : Has S Y) : PG Y tg (AllG S tg) := ⟨fun pins s σ H v u Q I r h => pg_rd.run pins s σ H v u Q I r (h Y hY)⟩
theorem pe_all {S : Sx} {Y : Cx} {tg : Expr} (hY : Has S Y) : PE Y tg (AllE S tg) := ⟨fun pins s σ H Q I h => pe_rd.run pins s σ H Q I (h Y hY)⟩
theorem pts_all {S : Sx} {Y : Cx} {tg : List Expr} (hY : Has S Y) : PTs Y tg (AllTs S tg) := ⟨fun pins s σ H Q I h => pts_rd.run pins s σ H Q I (h Y hY)⟩

/-- what a comprehension wants: an invariant by the turn, what is made so far, the slots -/
def WpLc (S S' : Sx) (vs : List Nat) (elt tg it : Expr) (ifs : List Expr) (E : En) (P : List D → En → Prop) : Prop :=
  WpI S tg it E fun ds E1 => (∀ i ∈ vs, notOwn E1 i) ∧ ∃ Iv : Nat → List D → En → Prop, Iv 0 [] (wipeE E1 vs) ∧
    (∀ t acc Et d, ds[t]? = some d → Iv t acc Et → WpG S' vs tg d Et fun E2 => WpTs S' ifs E2 fun b E3 =>
      (b = true → WpD S' elt E3 fun y E4 => acc.length < 1000000 ∧ (∀ i ∈ vs, notOwn E4 i) ∧ Iv (t + 1) (acc ++ [y]) (wipeE E4 vs)) ∧ (b = false → (∀ i ∈ vs, notOwn E3 i) ∧ Iv (t + 1) acc (wipeE E3 vs))) ∧
    ∀ acc Et, Iv ds.length acc Et → P acc Et
theorem notOwn.no {E : En} {i : Nat} (h : notOwn E i) : ∀ d, E[i]? ≠ some (Sl.own d) := fun d z => by
  obtain ⟨q, h1, h2⟩ := h
  rw [h1] at z
  exact h2 d (Option.some.inj z)
theorem notOwn.lt {E : En} {i : Nat} (h : notOwn E i) : i < E.length := by
  obtain ⟨q, h1, h2⟩ := h
  exact (List.getElem?_eq_some_iff.mp h1).1
section
variable {S : Sx} {vs : List Nat} {e : Expr} {es ifs : List Expr} {E : En} {elt tg it : Expr} {pos : Pos}
theorem lc_read {scope : Scope} {P : List D → En → Prop} (h : WpLc S (blkS S scope) vs elt tg it ifs E P) {X : Cx} (hX : Has S X) {F : Fx} {s : St} {R H : Hp} (r : Rel S.K F s E R H) {Q : VK}
    (k : ∀ v r E' R' H', Same R R' → Rel S.K F s E' R' H' → RsOk S.K F s E' R' H' v r → (∃ acc, r = .own (.list acc) ∧ P acc E') → Q v H') : tLc (RdI X tg it) (AllG (blkS S scope) tg) (AllTs (blkS S scope) ifs) (AllE (blkS S scope) elt) vs s H Q := by
  refine h X hX F s R H r _ fun J ds E1 R1 H1 s1 r1 J1 ⟨hno, Iv, h0, hst, hd⟩ => ?_
  intro D hD
  have hD0 := r1.free0 hD
  have ww : ∀ {s2 : St}, s2.length = (wipe s vs).length → (∀ j, j ∉ vs → s2[j]? = (wipe s vs)[j]?) → wipe s2 vs = wipe s vs := fun {s2} a b =>
    (wipe_eq a b).trans (wipe_eq (wipe_length ..) fun j hj => wipe_get hj)
  refine ⟨fun t m H2 => m = ds.length - t ∧ t ≤ ds.length ∧ ∃ av acc E2 R2, Same R1 R2 ∧ Rel S.K F (wipe s vs) E2 R2 H2 ∧ H2 D = some (.lst av) ∧ DpAll S.K R2 av acc ∧ R2 D = none ∧
    (∀ (i : Nat) (d : Wq.D), E2[i]? = some (Sl.own d) → (wipe s vs)[i]? ≠ some (some (V.ref D))) ∧ (∀ i ∈ vs, E2[i]? = some Sl.no) ∧ Iv t acc E2, ⟨_, rfl, Nat.zero_le _, [], [], wipeE E1 vs, R1, Same.refl _, ?_, upd_same, .nil, r1.freeR hD, ?_, ?_, h0⟩, ?_⟩
  · exact (r1.wipe vs fun i hi => (hno i hi).no).grow hD
  · exact own_no (r1.wipe vs fun i hi => (hno i hi).no) hD
  · exact fun i hi => wipeE_in hi (hno i hi).lt
  rintro t m H2 ⟨rfl, ht, av, acc, E2, R2, a2, r2, hD2, hv2, hR2, hn2, hi2, i2⟩
  by_cases hlt : t < ds.length
  · have q2 := r2.nest
    obtain ⟨g1, g2⟩ := J1.go _ _ E2 R2 H2 t ds[t] a2 q2 (List.getElem?_eq_getElem hlt)
    have noD : ∀ p ∈ owners (wipe s vs) E2, p.2 ≠ D := fun p hp z => by
      obtain ⟨⟨d, h1⟩, h2⟩ := mem_owners.mp hp
      exact hn2 _ _ h1 (by rw [h2, z])
    -- what stays true of the new list
    have stays : ∀ {s3 : St} {E3 : En} {R3 H3 : Hp}, Rel S.K ⟨H2, R2, owners (wipe s vs) E2⟩ s3 E3 R3 H3 → H3 D = some (.lst av) ∧ R3 D = none ∧ ∀ (i : Nat) (d : Wq.D), E3[i]? = some (Sl.own d) → s3[i]? ≠ some (some (V.ref D)) := fun {s3 E3 R3 H3} q => by
      refine ⟨q.keep D _ hD2 noD, ?_, fun i d e z => ?_⟩
      · cases e : R3 D with
        | none => rfl
        | some o =>
          rcases q.new D o e with ⟨o', z⟩ | z
          · exact nomatch hR2.symm.trans z
          · exact nomatch hD2.symm.trans z
      · obtain ⟨a, h1, h2, h3, h4⟩ := q.own i d e
        rw [h1] at z
        cases z
        rcases h4 with h4 | h4
        · exact nomatch hD2.symm.trans h4
        · exact noD _ h4 rfl
    refine .inr ⟨g1, fun H3 => ∃ av acc E3 R3, Same R1 R3 ∧ Rel S.K F (wipe s vs) E3 R3 H3 ∧ H3 D = some (.lst av) ∧ DpAll S.K R3 av acc ∧ R3 D = none ∧ (∀ (i : Nat) (d : Wq.D), E3[i]? = some (Sl.own d) → (wipe s vs)[i]? ≠ some (some (V.ref D))) ∧ (∀ i ∈ vs, E3[i]? = some Sl.no) ∧ Iv (t + 1) acc E3,
      fun H3 ⟨av3, acc3, E3, R3, z⟩ => ⟨ds.length - (t + 1), by omega, rfl, hlt, av3, acc3, E3, R3, z⟩, fun x H3 hy => ?_⟩
    obtain ⟨R3, a3, q3, p3⟩ := g2 x H3 hy
    intro Y hY
    refine hst t acc E2 ds[t] (List.getElem?_eq_getElem hlt) i2 Y hY _ _ R3 H3 x q3 p3 _ fun s4 E4 l4 k4 q4 h4 => ?_
    have w4 := ww l4 k4
    have nw : ∀ {E5 : En} {R5 H5 : Hp}, Rel S.K ⟨H2, R2, owners (wipe s vs) E2⟩ s4 E5 R5 H5 → (∀ i ∈ vs, notOwn E5 i) → Rel S.K F (wipe s vs) (wipeE E5 vs) R5 H5 ∧ (∀ (i : Nat) (d : Wq.D), (wipeE E5 vs)[i]? = some (Sl.own d) → (wipe s vs)[i]? ≠ some (some (V.ref D))) ∧ (∀ i ∈ vs, (wipeE E5 vs)[i]? = some Sl.no) := fun {E5 R5 H5} q hno5 => by
      have u := (r2.unnest q).wipe vs fun i hi => (hno5 i hi).no
      have u' := q.wipe vs fun i hi => (hno5 i hi).no
      rw [w4] at u u'
      exact ⟨u, (stays u').2.2, fun i hi => wipeE_in hi (hno5 i hi).lt⟩
    refine ⟨w4, fun Y hY => ?_⟩
    refine h4 Y hY _ _ R3 H3 q4 _ fun b E5 R5 H5 a5 q5 ⟨hb1, hb2⟩ => ?_
    cases b with
    | true =>
      rw [if_pos rfl]
      intro Y hY
      refine hb1 rfl Y hY _ _ R5 H5 q5 _ fun y d E6 R6 H6 a6 q6 p6 ⟨hl, hno6, i6⟩ => ?_
      obtain ⟨hD6, hR6, hn6⟩ := stays q6
      obtain ⟨u6, v6, w6⟩ := nw q6 hno6
      have hlen : av.length = acc.length := dpAll_len hv2
      have a26 : Same R2 R6 := (a3.trans a5).trans a6
      refine ⟨av, hD6, Nat.lt_of_lt_of_le (by rw [hlen]; exact hl) (by decide : 1000000 ≤ sizeLine), av ++ [y], acc ++ [d], wipeE E6 vs, R6, a2.trans a26, ?_, upd_same, dpAll_app (dpAll_mono a26 _ _ hv2) (dpAll_one p6), hR6, v6, w6, i6⟩
      exact u6.other hR6 hD0 v6
    | false =>
      rw [if_neg Bool.false_ne_true]
      obtain ⟨hno5, i5⟩ := hb2 rfl
      obtain ⟨hD5, hR5, hn5⟩ := stays q5
      obtain ⟨u5, v5, w5⟩ := nw q5 hno5
      exact ⟨av, acc, wipeE E5 vs, R5, a2.trans (a3.trans a5), u5, hD5, dpAll_mono (a3.trans a5) _ _ hv2, hR5, v5, w5, i5⟩
  · have e : t = ds.length := by omega
    subst e
    refine .inl ⟨J1.stop F _ E2 R2 H2 a2 r2, ?_⟩
    have rr : Rel S.K F s E2 R2 H2 := r2.cong (by rw [wipe_length]) fun i => by
      by_cases hi : i ∈ vs
      · exact .inl (hi2 i hi)
      · exact .inr (wipe_get hi).symm
    refine k (.ref D) (.own (.list acc)) E2 R2 H2 (s1.trans a2) rr ⟨D, rfl, hR2, ⟨av, hD2, hv2⟩, hD0, fun i d e z => ?_⟩ ⟨acc, rfl, hd acc E2 i2⟩
    by_cases hi : i ∈ vs
    · rw [hi2 i hi] at e; cases e
    · exact hn2 i d e (by rw [wipe_get hi]; exact z)
/-- [elt for tg in it if ..] -/
theorem wp_lc {scope : Scope} (own : List (Str × Nat)) {P : Sl → En → Prop} (ok : BlkOk S.N S.sc scope own) (h : WpLc S (blkS S scope) (own.map (·.2)) elt tg it ifs E fun acc E' => P (.own (.list acc)) E')
    (hs : ∀ (env : Env) x, foldedSetIterable it env x = pure x := by intro _ _; rfl) : Wp S (.ListComp elt [⟨tg, it, ifs, 0⟩] scope pos) E P := fun X hX F s R H r Q k => by
  refine ⟨_, pe_lc (own := own) hX.calm hX.nd pi_rd (by rw [hX.N, hX.sc]; exact ok) (fun s H C cl fp => pg_all (has_blk hX s H C cl fp)) (fun s H C cl fp => pts_all (has_blk hX s H C cl fp)) (fun s H C cl fp => pe_all (has_blk hX s H C cl fp)) (hs _), ?_⟩
  exact lc_read h hX r fun v r' E' R' H' a r1 p ⟨acc, e, q⟩ => k v r' E' R' H' a r1 p (by rw [e]; exact q)
/-- x = [elt for tg in it if ..] -/
theorem s_setLc {G : List Nat} {Z : EnS} {scope : Scope} (own : List (Str × Nat)) {x : Str} {i : Nat} {py spos : Pos} (ok : BlkOk S.N S.sc scope own) (hN : S.N[i]? = some x) (hx : S.sc.names.lookup x = some NameKind.local) (hG : i ∉ G)
    (hk : S.sc.kind = .function) (hl : (py.line == pos.line) = true) (hy : (scope.names.any fun (n, k) => n == x && (k == .local || k == .cell)) = false)
    (h : WpLc S (blkS S scope) (own.map (·.2)) elt tg it ifs E fun acc E' => i < E'.length ∧ Z.nx (E'.set i (.own (.list acc))))
    (hs : ∀ (env : Env) x, foldedSetIterable it env x = pure x := by intro _ _; rfl) : WpS S G (.Assign [.Name x py] (.ListComp elt [⟨tg, it, ifs, 0⟩] scope pos) spos) E Z := fun X hX F s R H hg r D W => by
  have hx' : X.env.scope.names.lookup x = some NameKind.local := by rw [hX.sc]; exact hx
  refine ⟨_, ps_setLc (i := i) (own := own) hX.calm hX.nd (by rw [hX.N]; exact hN) hx' (sw_true (by rw [hX.sc]; exact hk) hx' hl hy) pi_rd (by rw [hX.N, hX.sc]; exact ok)
    (fun s H C cl fp => pg_all (has_blk hX s H C cl fp)) (fun s H C cl fp => pts_all (has_blk hX s H C cl fp)) (fun s H C cl fp => pe_all (has_blk hX s H C cl fp)) (hs _), ?_⟩
  have hgi : ∀ p ∈ F.g, p.1 ≠ i := fun p hp e => hG (by rw [← hg, ← e]; exact List.mem_map_of_mem hp)
  refine lc_read h hX r fun v r' E' R' H' a r1 p ⟨acc, e, q⟩ => ?_
  subst e
  obtain ⟨b, rfl, z⟩ := id p
  exact W.nx _ _ R' H' a (r1.setOwn q.1 hgi p) q.2
end
end Wq

namespace Wq
open PySem L2

/-! ### promises over data -/
abbrev Ct := List Sl → (Sl → List Sl → Prop) → Prop
def spC (K : PySem.W.Frag) (G : List Nat) (ct : Ct) : Sp := fun vs H Q _ => ∃ (R : Hp) (g : List (Nat × Addr)) (args : List Sl) (post : Sl → List Sl → Prop),
  g.map (·.1) = G ∧ Rel K ⟨H, R, g⟩ (vs.map some) args R H ∧ ct args post ∧
    ∀ v r outs R' H', Same R R' → Rel K ⟨H, R, g⟩ (vs.map some) outs R' H' → RsOk K ⟨H, R, g⟩ (vs.map some) outs R' H' v r → post r outs → Q v H'
def outsOf (G : List Nat) (args E : En) : En := (List.range args.length).map fun (i : Nat) => if i ∈ G then (E[i]?).getD .no else (args[i]?).getD .no
theorem outs_get {G : List Nat} {args E : En} {i : Nat} {q : Sl} (h : (outsOf G args E)[i]? = some q) : i < args.length ∧ ((i ∈ G ∧ q = (E[i]?).getD .no) ∨ (i ∉ G ∧ args[i]? = some q)) := by
  unfold outsOf at h
  rw [List.getElem?_map] at h
  by_cases hi : i < args.length
  · rw [List.getElem?_range hi] at h
    refine ⟨hi, ?_⟩
    have h' : q = if i ∈ G then (E[i]?).getD .no else (args[i]?).getD .no := (Option.some.inj h).symm
    by_cases hG : i ∈ G
    · rw [if_pos hG] at h'
      exact .inl ⟨hG, h'⟩
    · rw [if_neg hG, List.getElem?_eq_getElem hi] at h'
      exact .inr ⟨hG, by rw [List.getElem?_eq_getElem hi, h']; rfl⟩
  · rw [List.getElem?_eq_none (by rw [List.length_range]; omega)] at h
    cases h
theorem outs_len {G : List Nat} {args E : En} : (outsOf G args E).length = args.length := by unfold outsOf; rw [List.length_map, List.length_range]
section
variable {K : PySem.W.Frag} {H R : Hp} {g : List (Nat × Addr)} {G : List Nat} {vs : List V} {args : En}
theorem rel_outs (hG : g.map (·.1) = G) (r : Rel K ⟨H, R, g⟩ (vs.map some) args R H) {s' : St} {E' : En} {R' H' : Hp} (q : Rel K ⟨H, R, g⟩ s' E' R' H') : Rel K ⟨H, R, g⟩ (vs.map some) (outsOf G args E') R' H' := by
  have gi : ∀ i, i ∈ G → ∃ a, (i, a) ∈ g := fun i hi => by
    rw [← hG] at hi
    obtain ⟨p, hp, e⟩ := List.mem_map.mp hi
    exact ⟨p.2, by rw [← e]; exact hp⟩
  have same : ∀ i, i ∈ G → s'[i]? = (vs.map some)[i]? := fun i hi => by
    obtain ⟨a, ha⟩ := gi i hi
    rw [(r.giv _ ha).1, (q.giv _ ha).1]
  have ownG : ∀ (i : Nat) (d : D), (outsOf G args E')[i]? = some (Sl.own d) → i ∈ G ∧ E'[i]? = some (Sl.own d) := fun i d e => by
    obtain ⟨hi, ⟨h1, h2⟩ | ⟨h1, h2⟩⟩ := outs_get e
    · refine ⟨h1, ?_⟩
      cases z : E'[i]? with
      | none => rw [z] at h2; cases h2
      | some w => rw [z] at h2; rw [h2]; rfl
    · obtain ⟨a, _, _, h3, h4⟩ := r.own i d h2
      rcases h4 with h4 | h4
      · obtain ⟨o, ho⟩ := h3.some
        exact nomatch ho.symm.trans h4
      · exact absurd (by rw [← hG]; exact List.mem_map_of_mem h4) h1
  exact {
    len := by rw [outs_len]; exact r.len
    sub := q.sub
    sub0 := q.sub0
    keep := q.keep
    new := q.new
    giv := fun p hp => by
      have h1 := r.giv p hp
      obtain ⟨h2, d, h3⟩ := q.giv p hp
      have hm : p.1 ∈ G := by rw [← hG]; exact List.mem_map_of_mem hp
      refine ⟨h1.1, d, ?_⟩
      unfold outsOf
      have hl : p.1 < args.length := by
        obtain ⟨_, d', z⟩ := h1
        exact (List.getElem?_eq_some_iff.mp z).1
      rw [List.getElem?_map, List.getElem?_range hl]
      show some (if p.1 ∈ G then _ else _) = _
      rw [if_pos hm, h3]
      rfl
    dat := fun i d e => by
      obtain ⟨hi, ⟨h1, h2⟩ | ⟨h1, h2⟩⟩ := outs_get e
      · obtain ⟨a, ha⟩ := gi i h1
        obtain ⟨_, d', z⟩ := q.giv _ ha
        rw [z] at h2
        cases h2
      · obtain ⟨v, h3, h4⟩ := r.dat i d h2
        exact ⟨v, h3, dp_mono q.sub0 _ _ h4⟩
    own := fun i d e => by
      obtain ⟨h1, h2⟩ := ownG i d e
      obtain ⟨a, h3, h4⟩ := q.own i d h2
      exact ⟨a, by rw [← same i h1]; exact h3, h4⟩
    inj := fun i j d d' a e1 e2 h1 h2 => by
      obtain ⟨g1, k1⟩ := ownG i d e1
      obtain ⟨g2, k2⟩ := ownG j d' e2
      rw [← same i g1] at h1
      rw [← same j g2] at h2
      exact q.inj i j d d' a k1 k2 h1 h2 }
theorem rs_outs (hG : g.map (·.1) = G) (r : Rel K ⟨H, R, g⟩ (vs.map some) args R H) {s' : St} {E' : En} {R' H' : Hp} (q : Rel K ⟨H, R, g⟩ s' E' R' H') {v : V} {x : Sl} (h : RsOk K ⟨H, R, g⟩ s' E' R' H' v x) : RsOk K ⟨H, R, g⟩ (vs.map some) (outsOf G args E') R' H' v x := by
  cases x with
  | no => exact h
  | dat d => exact h
  | own d =>
    obtain ⟨a, h1, h2, h3, h4, h5⟩ := h
    refine ⟨a, h1, h2, h3, h4, fun i d' e z => ?_⟩
    obtain ⟨b, k1, _, _, k2⟩ := (rel_outs hG r q).own i d' e
    rw [k1] at z
    cases z
    rcases k2 with k2 | k2
    · obtain ⟨hi, ⟨m1, m2⟩ | ⟨m1, m2⟩⟩ := outs_get e
      · have : ∃ p ∈ g, p.1 = i := by
          rw [← hG] at m1
          obtain ⟨p, hp, e'⟩ := List.mem_map.mp m1
          exact ⟨p, hp, e'⟩
        obtain ⟨p, hp, e'⟩ := this
        have z1 := (r.giv p hp).1
        rw [e', k1] at z1
        cases z1
        obtain ⟨_, d2, z2⟩ := r.giv p hp
        obtain ⟨b', w1, _, w3, _⟩ := r.own _ _ z2
        rw [e', k1] at w1
        cases w1
        obtain ⟨o, ho⟩ := w3.some
        exact nomatch ho.symm.trans k2
      · obtain ⟨b', w1, _, w3, _⟩ := r.own _ _ m2
        rw [k1] at w1
        cases w1
        obtain ⟨o, ho⟩ := w3.some
        exact nomatch ho.symm.trans k2
    · obtain ⟨w1, d2, w2⟩ := q.giv _ k2
      exact h5 i d2 w2 w1
end
/-- the slots at a def's start -/
def startE (N : List Str) (args : En) : En := args ++ List.replicate (N.length - args.length) .no
theorem rel_start {K : PySem.W.Frag} {F : Fx} {N : List Str} {vs : List V} {args : En} {R H : Hp} (r : Rel K F (vs.map some) args R H) : Rel K F (L2.start N vs) (startE N args) R H := by
  have hl : args.length = vs.length := by have := r.len; rw [List.length_map] at this; exact this
  have e1 : ∀ (i : Nat) (q : Sl), (startE N args)[i]? = some q → q ≠ Sl.no → args[i]? = some q := fun i q e hn => by
    unfold startE at e
    by_cases hi : i < args.length
    · rw [List.getElem?_append_left hi] at e; exact e
    · rw [List.getElem?_append_right (by omega), List.getElem?_replicate] at e
      split at e
      · exact absurd (Option.some.inj e).symm hn
      · cases e
  have e2 : ∀ (i : Nat), i < args.length → (L2.start N vs)[i]? = (vs.map some)[i]? := fun i hi => by
    unfold L2.start
    rw [List.getElem?_append_left (by rw [List.length_map]; omega)]
  have e3 : ∀ (i : Nat) (q : Sl), args[i]? = some q → (startE N args)[i]? = some q ∧ i < args.length := fun i q e => by
    have hi := (List.getElem?_eq_some_iff.mp e).1
    unfold startE
    rw [List.getElem?_append_left hi]
    exact ⟨e, hi⟩
  exact {
    len := by unfold startE L2.start; rw [List.length_append, List.length_append, List.length_map, List.length_replicate, List.length_replicate, hl]
    sub := r.sub
    sub0 := r.sub0
    keep := r.keep
    new := r.new
    giv := fun p hp => by
      obtain ⟨h1, d, h2⟩ := r.giv p hp
      obtain ⟨h3, h4⟩ := e3 _ _ h2
      exact ⟨by rw [e2 _ h4]; exact h1, d, h3⟩
    dat := fun i d e => by
      have h := e1 i _ e (fun z => by cases z)
      obtain ⟨v, h1, h2⟩ := r.dat i d h
      exact ⟨v, by rw [e2 _ (e3 _ _ h).2]; exact h1, h2⟩
    own := fun i d e => by
      have h := e1 i _ e (fun z => by cases z)
      obtain ⟨v, h1, h2⟩ := r.own i d h
      exact ⟨v, by rw [e2 _ (e3 _ _ h).2]; exact h1, h2⟩
    inj := fun i j d d' a k1 k2 h1 h2 => by
      have m1 := e1 i _ k1 (fun z => by cases z)
      have m2 := e1 j _ k2 (fun z => by cases z)
      rw [e2 _ (e3 _ _ m1).2] at h1
      rw [e2 _ (e3 _ _ m2).2] at h2
      exact r.inj i j d d' a m1 m2 h1 h2 }
def sxOf (P : Program) (w : World) (K : PySem.W.Frag) (mg : Str → Option Value) (base : Heap) (N : List Str) (sc : Scope) (k : Nat) : Sx := ⟨P, w, K, mg, base, N, sc, k, fun _ => true⟩
section
variable {P : Program} {w : World} {K : PySem.W.Frag} {mg : Str → Option Value} {base : Heap}
theorem def_ok {x qual : Str} {st : Stmt} {f : Addr} {fd : FuncData} {N ps : List Str} {k : Nat} {G : List Nat} {ct : Ct} (F : Fun K x qual st f fd) (Sc : FnScope N ps (defScope st)) (hlen : ∀ args post, ct args post → args.length = ps.length)
    (hbody : ∀ args post, ct args post → WpSs (sxOf P w K mg base N (defScope st) k) G (defBody st) (startE N args) ⟨fun E => post (.dat .none) (outsOf G args E), fun r E => post r (outsOf G args E), fun _ => False, fun _ => False⟩) : FnG P w K mg base (k + 1) f fd ps (spC K G ct) := by
  refine fng_of F Sc (fun vs H Q E h => ?_) (fun cdv A outer s H vs Q E hr gr h => ?_)
  · obtain ⟨R, g, args, post, hG, r, hc, _⟩ := h
    rw [← hlen args post hc, r.len, List.length_map]
  · obtain ⟨R, g, args, post, hG, r, hc, hQ⟩ := h
    have hX : Has (sxOf P w K mg base N (defScope st) k) (cxOf CX0 P w K mg base N qual (defScope st) f cdv A outer s H E).nox := ⟨rfl, rfl, rfl, rfl, rfl, rfl, rfl, rfl, hr, rfl, gr, Sc.nd, fun _ _ => .inl rfl⟩
    refine ⟨_, pss_rd, ?_⟩
    refine hbody args post hc _ hX ⟨H, R, g⟩ _ R H hG (rel_start r) _ ⟨fun E' s' R' H' a q z => ?_, fun v x E' s' R' H' a q p z => ?_, fun _ _ _ _ _ _ z => z.elim, fun _ _ _ _ _ _ z => z.elim⟩
    · exact hQ .non (.dat .none) _ R' H' a (rel_outs hG r q) Dp.non z
    · exact hQ _ _ _ R' H' a (rel_outs hG r q) (rs_outs hG r q p) z
end
/-! ### pure defs -/
def ctP (c : List D → (Sl → Prop) → Prop) : Ct := fun args post => ∃ ds : List D, args = ds.map Sl.dat ∧ c ds fun r => ∀ outs, post r outs
/-- defs that draw: the first argument is an owned list -/
def ctB (c : D → List D → (Sl → D → Prop) → Prop) : Ct := fun args post => ∃ (b : D) (ds : List D), args = Sl.own b :: ds.map Sl.dat ∧ c b ds fun r b' => ∀ outs, outs[0]? = some (Sl.own b') → post r outs
abbrev spP (K : PySem.W.Frag) (c : List D → (Sl → Prop) → Prop) : Sp := spC K [] (ctP c)
abbrev spB (K : PySem.W.Frag) (c : D → List D → (Sl → D → Prop) → Prop) : Sp := spC K [0] (ctB c)
section
variable {P : Program} {w : World} {K : PySem.W.Frag} {mg : Str → Option Value} {base : Heap}
theorem def_P {x qual : Str} {st : Stmt} {f : Addr} {fd : FuncData} {N ps : List Str} {k : Nat} {c : List D → (Sl → Prop) → Prop} (F : Fun K x qual st f fd) (Sc : FnScope N ps (defScope st)) (hlen : ∀ ds post, c ds post → ds.length = ps.length)
    (hbody : ∀ ds post, c ds post → WpSs (sxOf P w K mg base N (defScope st) k) [] (defBody st) (startE N (ds.map Sl.dat)) ⟨fun _ => post (.dat .none), fun r _ => post r, fun _ => False, fun _ => False⟩) : FnG P w K mg base (k + 1) f fd ps (spP K c) := by
  refine def_ok F Sc (fun args post h => ?_) fun args post h => ?_
  · obtain ⟨ds, rfl, h⟩ := h
    rw [List.length_map]
    exact hlen _ _ h
  · obtain ⟨ds, rfl, h⟩ := h
    refine fun X hX F s R H hg r D W => hbody ds _ h X hX F s R H hg r D ⟨fun E' s' R' H' a q z => W.nx E' s' R' H' a q (z _), fun v x E' s' R' H' a q p z => W.rt v x E' s' R' H' a q p (z _), W.bk, W.ct⟩
theorem def_B {x qual : Str} {st : Stmt} {f : Addr} {fd : FuncData} {N ps : List Str} {k : Nat} {c : D → List D → (Sl → D → Prop) → Prop} (F : Fun K x qual st f fd) (Sc : FnScope N ps (defScope st)) (hlen : ∀ b ds post, c b ds post → ds.length + 1 = ps.length)
    (hbody : ∀ b ds post, c b ds post → WpSs (sxOf P w K mg base N (defScope st) k) [0] (defBody st) (startE N (Sl.own b :: ds.map Sl.dat)) ⟨fun E => ∃ b', E[0]? = some (Sl.own b') ∧ post (.dat .none) b', fun r E => ∃ b', E[0]? = some (Sl.own b') ∧ post r b', fun _ => False, fun _ => False⟩) : FnG P w K mg base (k + 1) f fd ps (spB K c) := by
  refine def_ok F Sc (fun args post h => ?_) fun args post h => ?_
  · obtain ⟨b, ds, rfl, h⟩ := h
    rw [List.length_cons, List.length_map]
    exact hlen _ _ _ h
  · obtain ⟨b, ds, rfl, h⟩ := h
    have o0 : ∀ (E : En) b', E[0]? = some (Sl.own b') → (outsOf [0] (Sl.own b :: ds.map Sl.dat) E)[0]? = some (Sl.own b') := fun E b' e => by
      unfold outsOf
      rw [List.getElem?_map, List.getElem?_range (by simp)]
      show some (if 0 ∈ [0] then (E[0]?).getD Sl.no else _) = _
      rw [if_pos (by simp), e]
      rfl
    refine fun X hX F s R H hg r D W => hbody b ds _ h X hX F s R H hg r D ⟨fun E' s' R' H' a q ⟨b', e, z⟩ => W.nx E' s' R' H' a q (z _ (o0 _ _ e)), fun v x E' s' R' H' a q p ⟨b', e, z⟩ => W.rt v x E' s' R' H' a q p (z _ (o0 _ _ e)), W.bk, W.ct⟩
end
/-! ### calls -/
section
variable {K : PySem.W.Frag} {F : Fx} {s : St} {E : En} {R H : Hp}
theorem Rel.args (r : Rel K F s E R H) {vs : List V} {ds : List D} (h : DpAll K R vs ds) : Rel K ⟨H, R, []⟩ (vs.map some) (ds.map Sl.dat) R H where
  len := by rw [List.length_map, List.length_map, dpAll_len h]
  sub := r.sub
  sub0 := Same.refl _
  keep := fun _ _ e _ => e
  new := fun a o e => .inl ⟨o, e⟩
  giv := fun p hp => nomatch hp
  dat := fun i d e => by
    rw [List.getElem?_map] at e
    cases z : ds[i]? with
    | none => rw [z] at e; cases e
    | some d' =>
      rw [z] at e
      cases e
      obtain ⟨v, h1, h2⟩ := dpAll_get h z
      exact ⟨v, by rw [List.getElem?_map, h1]; rfl, h2⟩
  own := fun i d e => by
    rw [List.getElem?_map] at e
    cases z : ds[i]? with
    | none => rw [z] at e; cases e
    | some d' => rw [z] at e; cases e
  inj := fun i j d d' a e => by
    rw [List.getElem?_map] at e
    cases z : ds[i]? with
    | none => rw [z] at e; cases e
    | some d' => rw [z] at e; cases e
/-- behind a call of a pure def -/
theorem Rel.backP (r : Rel K F s E R H) {s' : St} {E' : En} {R' H' : Hp} (q : Rel K ⟨H, R, []⟩ s' E' R' H') : Rel K F s E R' H' where
  len := r.len
  sub := q.sub
  sub0 := r.sub0.trans q.sub0
  keep := fun a o e hg => q.keep a o (r.keep a o e hg) fun p hp => nomatch hp
  new := fun a o e => by
    rcases q.new a o e with ⟨o', h⟩ | h
    · exact r.new a o' h
    · exact .inr (r.free0 h)
  giv := r.giv
  dat := fun i d e => by
    obtain ⟨v, h1, h2⟩ := r.dat i d e
    exact ⟨v, h1, dp_mono q.sub0 _ _ h2⟩
  own := fun i d e => by
    obtain ⟨a, h1, h2, h3, h4⟩ := r.own i d e
    obtain ⟨o, ho⟩ := h3.some
    have hk := q.keep a o ho fun p hp => nomatch hp
    refine ⟨a, h1, ?_, h3.mono q.sub0 (by rw [hk, ho]), h4⟩
    cases z : R' a with
    | none => rfl
    | some u =>
      rcases q.new a u z with ⟨o', w⟩ | w
      · exact nomatch h2.symm.trans w
      · exact nomatch ho.symm.trans w
  inj := r.inj
theorem rs_backP (r : Rel K F s E R H) {s' : St} {E' : En} {R' H' : Hp} {v : V} {x : Sl} (h : RsOk K ⟨H, R, []⟩ s' E' R' H' v x) : RsOk K F s E R' H' v x := by
  cases x with
  | no => exact h
  | dat d => exact h
  | own d =>
    obtain ⟨a, h1, h2, h3, h4, h5⟩ := h
    exact ⟨a, h1, h2, h3, r.free0 h4, own_no r h4⟩
end
section
variable {S : Sx} {e : Expr} {es : List Expr} {E : En} {pos p : Pos} {f : Addr} {fd : FuncData} {ps : List Str} {k : Nat} {x : Str} {P : Sl → En → Prop}
structure CallOk (S : Sx) (x : Str) (k : Nat) (ps : List Str) (sp : Sp) : Prop where
  ex : ∃ (f : Addr) (fd : FuncData), FnG S.P S.w S.K S.mg S.base k f fd ps sp ∧ S.mg x = some (.ref f) ∧ PySem.W.keepIn S.K (.ref f) = true ∧ Binds S.K fd ps []
theorem CallOk.blk {sp : Sp} (h : CallOk S x k ps sp) (scope : Scope) : CallOk (blkS S scope) x k ps sp := ⟨h.ex⟩
theorem wp_callP {c : List D → (Sl → Prop) → Prop} (C : CallOk S x k ps (spP S.K c)) (hk : k ≤ S.k) (hg : GlS S x) (h : WpA S (e :: es) E fun ds E1 => c ds fun r => P r E1)
    (hst : ∀ env : Env, starEach (e :: es) env = (false, eval e env) :: starEach es env := by intro _; rfl) (hpl : ∀ env : Env, (backTo pos (starEach es env)).any (·.1) = false := by intro _; rfl) (hdb : (x == ("__debug__" : Str)) = false := by decide) :
    Wp S (.Call (.Name x p) (e :: es) [] pos) E P := fun X hX F s R H r Q kk => by
  obtain ⟨f, fd, Fn, hm, kp, hb⟩ := C.ex
  rw [← hX.prog, ← hX.w, ← hX.K, ← hX.mg, ← hX.base] at Fn
  rw [← hX.K] at kp hb
  refine ⟨_, peg_call Fn (hX.room.mono hk) hX.grd (hg.gl hX) (by rw [hX.mg]; exact hm) kp hb pa_rd hdb (hst _) (hpl _), ?_⟩
  refine h X hX F s R H r _ fun vs ds E1 R1 H1 s1 r1 p1 h1 => ?_
  rw [List.append_nil]
  refine ⟨R1, [], ds.map Sl.dat, fun r _ => P r E1, rfl, by rw [hX.K]; exact r1.args p1, ⟨ds, rfl, ?_⟩, fun v x outs R' H' a q ok z => ?_⟩
  · have : (fun r => ∀ outs : List Sl, P r E1) = fun r => P r E1 := by funext r; exact propext ⟨fun h => h [], fun h _ => h⟩
    rw [this]
    exact h1
  · rw [hX.K] at q ok
    exact kk v x E1 R' H' (s1.trans a) (r1.backP q) (rs_backP r1 ok) z
end
end Wq

namespace Wq
open PySem L2

/-! ### calls that draw -/
section
variable {K : PySem.W.Frag} {F : Fx} {s : St} {E : En} {R H : Hp}
theorem Rel.argsB (r : Rel K F s E R H) {i : Nat} {a : Addr} {b : D} (hE : E[i]? = some (.own b)) (ha : s[i]? = some (some (.ref a))) {vs : List V} {ds : List D} (h : DpAll K R vs ds) :
    Rel K ⟨H, R, [(0, a)]⟩ ((V.ref a :: vs).map some) (Sl.own b :: ds.map Sl.dat) R H := by
  obtain ⟨a', h1, h2, h3, h4⟩ := r.own i b hE
  rw [ha] at h1
  cases h1
  have nd : ∀ (j : Nat) (d : D), (Sl.own b :: ds.map Sl.dat)[j]? = some (Sl.own d) → j = 0 ∧ d = b := fun j d e => by
    cases j with
    | zero => exact ⟨rfl, by simp at e; exact e.symm⟩
    | succ j =>
      rw [List.getElem?_cons_succ, List.getElem?_map] at e
      cases z : ds[j]? with
      | none => rw [z] at e; cases e
      | some d' => rw [z] at e; cases e
  exact {
    len := by rw [List.length_cons, List.length_map, List.length_map, List.length_cons, dpAll_len h]
    sub := r.sub
    sub0 := Same.refl _
    keep := fun _ _ e _ => e
    new := fun a o e => .inl ⟨o, e⟩
    giv := fun p hp => by
      have e : p = (0, a) := by simpa using hp
      subst e
      exact ⟨rfl, b, rfl⟩
    dat := fun j d e => by
      cases j with
      | zero => simp at e
      | succ j =>
        rw [List.getElem?_cons_succ, List.getElem?_map] at e
        cases z : ds[j]? with
        | none => rw [z] at e; cases e
        | some d' =>
          rw [z] at e
          cases e
          obtain ⟨v, k1, k2⟩ := dpAll_get h z
          exact ⟨v, by rw [List.map_cons, List.getElem?_cons_succ, List.getElem?_map, k1]; rfl, k2⟩
    own := fun j d e => by
      obtain ⟨rfl, rfl⟩ := nd j d e
      exact ⟨a, rfl, h2, h3, .inr (by simp)⟩
    inj := fun j k d d' x e1 e2 _ _ => by
      rw [(nd j d e1).1, (nd k d' e2).1] }
theorem Rel.backB (r : Rel K F s E R H) {i : Nat} {a : Addr} {b b' : D} (hE : E[i]? = some (.own b)) (ha : s[i]? = some (some (.ref a))) {s' : St} {E' : En} {R' H' : Hp} (q : Rel K ⟨H, R, [(0, a)]⟩ s' E' R' H') (hE' : E'[0]? = some (Sl.own b')) :
    Rel K F s (E.set i (.own b')) R' H' := by
  have hiE : i < E.length := (List.getElem?_eq_some_iff.mp hE).1
  obtain ⟨a', h1, h2, h3, h4⟩ := r.own i b hE
  rw [ha] at h1
  cases h1
  obtain ⟨g1, _⟩ := q.giv (0, a) (by simp)
  obtain ⟨a2, k1, k2, k3, _⟩ := q.own 0 b' hE'
  rw [g1] at k1
  cases k1
  have ow : ∀ (j : Nat) (d : D), (E.set i (Sl.own b'))[j]? = some (Sl.own d) → ∃ d0, E[j]? = some (Sl.own d0) := fun j d e => by
    rcases get_set e with ⟨rfl, _⟩ | ⟨_, e1⟩
    · exact ⟨_, hE⟩
    · exact ⟨_, e1⟩
  exact {
    len := by rw [List.length_set, r.len]
    sub := q.sub
    sub0 := r.sub0.trans q.sub0
    keep := fun c o e hg => by
      refine q.keep c o (r.keep c o e hg) fun p hp z => ?_
      have e' : p = (0, a) := by simpa using hp
      subst e'
      have z : a = c := z
      subst z
      rcases h4 with h4 | h4
      · exact nomatch e.symm.trans h4
      · exact hg _ h4 rfl
    new := fun c o e => by
      rcases q.new c o e with ⟨o', h⟩ | h
      · exact r.new c o' h
      · exact .inr (r.free0 h)
    giv := fun p hp => by
      obtain ⟨w1, d, w2⟩ := r.giv p hp
      refine ⟨w1, ?_⟩
      by_cases hi : i = p.1
      · exact ⟨b', by rw [hi, List.getElem?_set_self (by rw [← hi]; exact hiE)]⟩
      · exact ⟨d, by rw [set_ne hi]; exact w2⟩
    dat := fun j d e => by
      rcases get_set e with ⟨rfl, e1⟩ | ⟨hn, e1⟩
      · cases e1
      · obtain ⟨v, w1, w2⟩ := r.dat j d e1
        exact ⟨v, w1, dp_mono q.sub0 _ _ w2⟩
    own := fun j d e => by
      rcases get_set e with ⟨rfl, e1⟩ | ⟨hn, e1⟩
      · cases e1
        exact ⟨a, ha, k2, k3, h4⟩
      · obtain ⟨c, w1, w2, w3, w4⟩ := r.own j d e1
        have hca : a ≠ c := fun z => hn (r.inj i j b d c hE e1 (by rw [← z]; exact ha) w1)
        obtain ⟨o, ho⟩ := w3.some
        have hk := q.keep c o ho fun p hp z => by
          have e' : p = (0, a) := by simpa using hp
          subst e'
          exact hca z
        refine ⟨c, w1, ?_, w3.mono q.sub0 (by rw [hk, ho]), w4⟩
        cases z : R' c with
        | none => rfl
        | some u =>
          rcases q.new c u z with ⟨o', m⟩ | m
          · exact nomatch w2.symm.trans m
          · exact nomatch ho.symm.trans m
    inj := fun j k d1 d2 x e1 e2 w1 w2 => by
      obtain ⟨d3, e3⟩ := ow j d1 e1
      obtain ⟨d4, e4⟩ := ow k d2 e2
      exact r.inj j k d3 d4 x e3 e4 w1 w2 }
end
section
variable {S : Sx} {e : Expr} {es : List Expr} {E : En} {a b c : Expr} {pos p : Pos} {ps : List Str} {k : Nat} {x : Str} {P : Sl → En → Prop}
theorem wp_callB {c : D → List D → (Sl → D → Prop) → Prop} (C : CallOk S x k ps (spB S.K c)) (hk : k ≤ S.k) (hg : GlS S x) {bx : Str} {i : Nat} {bp : Pos} (hN : S.N[i]? = some bx) (hv : Vis S.sc bx) (hE : ∃ b0, E[i]? = some (Sl.own b0))
    (h : WpA S es E fun ds E1 => ∃ b, E1[i]? = some (Sl.own b) ∧ c b ds fun r b' => P r (E1.set i (.own b')))
    (hst : ∀ env : Env, starEach (.Name bx bp :: es) env = (false, eval (.Name bx bp) env) :: starEach es env := by intro _; rfl) (hpl : ∀ env : Env, (backTo pos (starEach es env)).any (·.1) = false := by intro _; rfl) (hdb : (x == ("__debug__" : Str)) = false := by decide)
    (hd : (bx == ("__debug__" : Str)) = false := by decide) (hcd : (bx == ("__classdict__" : Str)) = false := by decide) : Wp S (.Call (.Name x p) (.Name bx bp :: es) [] pos) E P := fun X hX F s R H r Q kk => by
  obtain ⟨f, fd, Fn, hm, kp, hb⟩ := C.ex
  rw [← hX.prog, ← hX.w, ← hX.K, ← hX.mg, ← hX.base] at Fn
  rw [← hX.K] at kp hb
  refine ⟨_, peg_call Fn (hX.room.mono hk) hX.grd (hg.gl hX) (by rw [hX.mg]; exact hm) kp hb (pa_cons (pe_var (i := i) (by rw [hX.N]; exact hN) (by rw [hX.sc]; exact hv) hd hcd) pa_rd (hst _)) hdb (hst _) (hpl _), ?_⟩
  obtain ⟨b0, hE0⟩ := hE
  obtain ⟨ad, ha, _⟩ := r.own i b0 hE0
  refine ⟨_, ha, ?_⟩
  refine h X hX F s R H r _ fun vs ds E1 R1 H1 s1 r1 p1 ⟨b, hE1, h1⟩ => ?_
  show spB X.K c ((V.ref ad :: vs) ++ []) H1 Q E0
  rw [List.append_nil]
  refine ⟨R1, [(0, ad)], Sl.own b :: ds.map Sl.dat, fun r outs => ∀ b', outs[0]? = some (Sl.own b') → P r (E1.set i (.own b')), rfl, by rw [hX.K]; exact r1.argsB hE1 ha p1, ⟨b, ds, rfl, ?_⟩, fun v x outs R' H' a q ok z => ?_⟩
  · refine (?_ : (fun (r : Sl) (b' : D) => ∀ outs : List Sl, outs[0]? = some (Sl.own b') → ∀ b'', outs[0]? = some (Sl.own b'') → P r (E1.set i (.own b''))) = fun r b' => P r (E1.set i (.own b'))) ▸ h1
    funext r b'
    apply propext
    constructor
    · intro h
      exact h [Sl.own b'] rfl b' rfl
    · intro h outs e b'' e'
      rw [e] at e'
      cases e'
      exact h
  · rw [hX.K] at q ok
    obtain ⟨_, b', hb'⟩ := q.giv (0, ad) (by simp)
    have rr := r1.backB hE1 ha q hb'
    refine kk v x _ R' H' (s1.trans a) rr ?_ (z b' hb')
    cases x with
    | no => exact ok
    | dat d => exact ok
    | own d =>
      obtain ⟨a1, w1, w2, w3, w4, w5⟩ := ok
      refine ⟨a1, w1, w2, w3, r1.free0 w4, fun j d' e z => ?_⟩
      have : ∃ d0, E1[j]? = some (Sl.own d0) := by
        rcases get_set e with ⟨rfl, _⟩ | ⟨_, e1⟩
        · exact ⟨_, hE1⟩
        · exact ⟨_, e1⟩
      obtain ⟨d0, e0⟩ := this
      exact own_no r1 w4 j d0 e0 z

/-! ### built-ins -/
/-- what a built-in gives of data -/
def ClP (S : Sx) (r : List V → Hp → VK → Prop) (ds : List D) (T : Sl → Prop) : Prop := ∀ F s E R H vs, Rel S.K F s E R H → DpAll S.K R vs ds → ∀ Q : VK,
  (∀ v x R' H', Same R R' → Rel S.K F s E R' H' → RsOk S.K F s E R' H' v x → T x → Q v H') → r vs H Q
theorem wp_blt {id : String} {r : List V → Hp → VK → Prop} (hc : ∀ X, Has S X → CallR X (.builtin id) r) (hg : GlS S x) (hm : S.mg x = none) (hv : bootBuiltins x = some (.builtin id)) (h : WpA S (e :: es) E fun ds E1 => ClP S r ds fun v => P v E1)
    (hst : ∀ env : Env, starEach (e :: es) env = (false, eval e env) :: starEach es env := by intro _; rfl) (hpl : ∀ env : Env, (backTo pos (starEach es env)).any (·.1) = false := by intro _; rfl) (hn : x ≠ "__name__" := by decide) (hdb : (x == ("__debug__" : Str)) = false := by decide) :
    Wp S (.Call (.Name x p) (e :: es) [] pos) E P := fun X hX F s R H r0 Q kk => by
  refine ⟨_, pe_callB (hc X hX) (hg.gl hX) (by rw [hX.mg]; exact hm) hv pa_rd hn hdb (hst _) (hpl _), ?_⟩
  refine h X hX F s R H r0 _ fun vs ds E1 R1 H1 s1 r1 p1 h1 => ?_
  exact h1 F s E1 R1 H1 vs r1 p1 Q fun v x R' H' a q ok z => kk v x E1 R' H' (s1.trans a) q ok z
theorem wp_blty {id : String} {r : List V → Hp → VK → Prop} (hc : ∀ X, Has S X → CallR X (.type id) r) (hg : GlS S x) (hm : S.mg x = none) (hv : bootBuiltins x = some (.type id)) (h : WpA S (e :: es) E fun ds E1 => ClP S r ds fun v => P v E1)
    (hst : ∀ env : Env, starEach (e :: es) env = (false, eval e env) :: starEach es env := by intro _; rfl) (hpl : ∀ env : Env, (backTo pos (starEach es env)).any (·.1) = false := by intro _; rfl) (hn : x ≠ "__name__" := by decide) (hdb : (x == ("__debug__" : Str)) = false := by decide) :
    Wp S (.Call (.Name x p) (e :: es) [] pos) E P := fun X hX F s R H r0 Q kk => by
  refine ⟨_, pe_callTy (hc X hX) (hg.gl hX) (by rw [hX.mg]; exact hm) hv pa_rd hn hdb (hst _) (hpl _), ?_⟩
  refine h X hX F s R H r0 _ fun vs ds E1 R1 H1 s1 r1 p1 h1 => ?_
  exact h1 F s E1 R1 H1 vs r1 p1 Q fun v x R' H' a q ok z => kk v x E1 R' H' (s1.trans a) q ok z
/-- built-ins that keep the heap, by values -/
theorem clp_val {r : List V → Hp → VK → Prop} {ds : List D} {d : D} {T : Sl → Prop} (hT : T (.dat d)) (h : ∀ F s E R H vs, Rel S.K F s E R H → DpAll S.K R vs ds → ∃ v, Dp S.K R v d ∧ ∀ Q : VK, Q v H → r vs H Q) : ClP S r ds T := fun F s E R H vs r0 p Q k => by
  obtain ⟨v, h1, h2⟩ := h F s E R H vs r0 p
  exact h2 Q (k v (.dat d) R H (Same.refl _) r0 h1 hT)
/-- a new list, a new tuple -/
theorem clp_newL {r : List V → Hp → VK → Prop} {ds ys : List D} {T : Sl → Prop} (hT : T (.own (.list ys))) (h : ∀ F s E R H vs, Rel S.K F s E R H → DpAll S.K R vs ds → ∃ us, DpAll S.K R us ys ∧ ∀ Q : VK, (∀ q, H q = none → Q (.ref q) (upd H q (.lst us))) → r vs H Q) : ClP S r ds T := fun F s E R H vs r0 p Q k => by
  obtain ⟨us, h1, h2⟩ := h F s E R H vs r0 p
  exact h2 Q fun q hq => k _ (.own (.list ys)) R _ (Same.refl _) (r0.grow hq) ⟨q, rfl, r0.freeR hq, ⟨us, upd_same, h1⟩, r0.free0 hq, own_no r0 hq⟩ hT
theorem clp_newT {r : List V → Hp → VK → Prop} {ds ys : List D} {T : Sl → Prop} (hT : T (.dat (.tuple ys))) (h : ∀ F s E R H vs, Rel S.K F s E R H → DpAll S.K R vs ds → ∃ us, DpAll S.K R us ys ∧ ∀ Q : VK, (∀ q, H q = none → Q (.ref q) (upd H q (.tup us))) → r vs H Q) : ClP S r ds T := fun F s E R H vs r0 p Q k => by
  obtain ⟨us, h1, h2⟩ := h F s E R H vs r0 p
  exact h2 Q fun q hq => k _ (.dat (.tuple ys)) _ _ (same_upd (r0.freeR hq)) (r0.growR hq) (.tup (SqT.of upd_same) (dpAll_mono (same_upd (r0.freeR hq)) _ _ h1)) hT
end
end Wq

namespace Wq
open PySem L2

/-! ### looking at an owned list -/
inductive Pk (K : PySem.W.Frag) (R H : Hp) : V → D → Prop where
  | dat {v : V} {d : D} (h : Dp K R v d) : Pk K R H v d
  | own {a : Addr} {vs : List V} {ds : List D} (h : H a = some (.lst vs)) (hd : DpAll K R vs ds) : Pk K R H (.ref a) (.list ds)
theorem Pk.dp {K : PySem.W.Frag} {R H : Hp} {v : V} {d : D} (h : Pk K R H v d) (s : Same R H) : Dp K H v d := by
  cases h with
  | dat h => exact dp_mono s _ _ h
  | own h hd => exact .lst (SqL.of h) (dpAll_mono s _ _ hd)
theorem Pk.list {K : PySem.W.Frag} {R H : Hp} {v : V} {ds : List D} (h : Pk K R H v (.list ds)) (s : Same R H) : ∃ a vs, v = .ref a ∧ SqL K H a vs ∧ DpAll K R vs ds := by
  cases h with
  | dat h =>
    cases h with
    | lst h1 h2 => exact ⟨_, _, rfl, s.seq h1, h2⟩
  | own h hd => exact ⟨_, _, rfl, SqL.of h, hd⟩
theorem Pk.tuple {K : PySem.W.Frag} {R H : Hp} {v : V} {ds : List D} (h : Pk K R H v (.tuple ds)) (s : Same R H) : ∃ a vs, v = .ref a ∧ SqT K H a vs ∧ DpAll K R vs ds ∧ Dp K R v (.tuple ds) := by
  cases h with
  | dat h =>
    cases h with
    | tup h1 h2 => exact ⟨_, _, rfl, same_t s h1, h2, .tup h1 h2⟩
def WpK (S : Sx) (e : Expr) (E : En) (P : D → En → Prop) : Prop :=
  ∀ X, Has S X → ∀ F s R H, Rel S.K F s E R H → ∀ Q : VK,
    (∀ v d E' R' H', Same R R' → Rel S.K F s E' R' H' → Pk S.K R' H' v d → P d E' → Q v H') → RdE X e s H Q
section
variable {S : Sx} {e : Expr} {es : List Expr} {E : En} {a b c : Expr} {pos p : Pos} {x : Str} {P : D → En → Prop} {i : Nat}
theorem WpD.k (h : WpD S e E P) : WpK S e E P := fun X hX F s R H r Q k => h X hX F s R H r Q fun v d E' R' H' a r' p q => k v d E' R' H' a r' (.dat p) q
theorem wk_own {ds : List D} (hN : S.N[i]? = some x) (hv : Vis S.sc x) (hE : E[i]? = some (.own (.list ds))) (h : P (.list ds) E) (hd : (x == ("__debug__" : Str)) = false := by decide) (hcd : (x == ("__classdict__" : Str)) = false := by decide) : WpK S (.Name x pos) E P := fun X hX F s R H r Q k => by
  refine ⟨_, pe_var (i := i) (by rw [hX.N]; exact hN) (by rw [hX.sc]; exact hv) hd hcd, ?_⟩
  obtain ⟨ad, h1, h2, ⟨vs, h3, h4⟩, _⟩ := r.own i _ hE
  exact ⟨_, h1, k _ _ E R H (Same.refl _) r (.own h3 h4) h⟩

/-! ### items -/
theorem dpAll_at {K : PySem.W.Frag} {R : Hp} {vs : List V} {ds : List D} {k : Int} {d : D} (h : DpAll K R vs ds) (e : atI ds k = some d) : ∃ v, atI vs k = some v ∧ Dp K R v d := by
  unfold atI at e ⊢
  rw [dpAll_len h]
  cases z : ixN ds.length k with
  | none => rw [z] at e; cases e
  | some j =>
    rw [z] at e
    exact dpAll_get h e
inductive ItemD : D → Int → D → Prop where
  | lst {ds k d} (h : atI ds k = some d) : ItemD (.list ds) k d
  | tup {ds k d} (h : atI ds k = some d) : ItemD (.tuple ds) k d
  | str {z : Str} {k c} (hz : z.length ≤ 100000) (h : atI z.cps.toList k = some c) : ItemD (.str z) k (.str ⟨#[c]⟩)
theorem wd_ix (h : WpD S a E fun d1 E1 => WpD S b E1 fun d2 E2 => ∃ k d, d2 = .int k ∧ ItemD d1 k d ∧ P d E2) (hs : PlainIx b := by intro _ _; rfl) : WpD S (.Subscript a b pos) E P := fun X hX F s R H r0 Q k => by
  refine ⟨_, pe_ix ix_seq pe_rd pe_rd hs, ?_⟩
  refine h X hX F s R H r0 _ fun v1 d1 E1 R1 H1 s1 r1 p1 h1 => ?_
  refine h1 X hX F s R1 H1 r1 _ fun v2 d2 E2 R2 H2 s2 r2 p2 ⟨j, d, e2, it, h3⟩ => ?_
  subst e2
  cases p2
  have p1 := dp_mono s2 _ _ p1
  rw [hX.K]
  cases it with
  | lst hi =>
    cases p1 with
    | lst hq hd =>
      obtain ⟨v, e1, e2⟩ := dpAll_at hd hi
      exact .inl ⟨_, _, _, v, rfl, rfl, r2.sub.seq hq, e1, k v d E2 R2 H2 (s1.trans s2) r2 e2 h3⟩
  | tup hi =>
    cases p1 with
    | tup hq hd =>
      obtain ⟨v, e1, e2⟩ := dpAll_at hd hi
      exact .inr (.inl ⟨_, _, _, v, rfl, rfl, same_t r2.sub hq, e1, k v d E2 R2 H2 (s1.trans s2) r2 e2 h3⟩)
  | str hz hi =>
    cases p1
    exact .inr (.inr ⟨_, _, _, rfl, rfl, Nat.le_trans hz (by decide), hi, k _ _ E2 R2 H2 (s1.trans s2) r2 (.str _) h3⟩)
theorem wd_ixOwn (hN : S.N[i]? = some x) (hv : Vis S.sc x) (hE : ∃ d0, E[i]? = some (Sl.own d0)) (h : WpD S b E fun d2 E2 => ∃ ds k d, E2[i]? = some (Sl.own (.list ds)) ∧ d2 = .int k ∧ atI ds k = some d ∧ P d E2) (hs : PlainIx b := by intro _ _; rfl)
    (hd : (x == ("__debug__" : Str)) = false := by decide) (hcd : (x == ("__classdict__" : Str)) = false := by decide) : WpD S (.Subscript (.Name x p) b pos) E P := fun X hX F s R H r0 Q k => by
  refine ⟨_, pe_ix ix_list (pe_var (i := i) (by rw [hX.N]; exact hN) (by rw [hX.sc]; exact hv) hd hcd) pe_rd hs, ?_⟩
  obtain ⟨d0, hE0⟩ := hE
  obtain ⟨ad, ha, _⟩ := r0.own i d0 hE0
  refine ⟨_, ha, ?_⟩
  refine h X hX F s R H r0 _ fun v2 d2 E2 R2 H2 s2 r2 p2 ⟨ds, j, d, e1, e2, hi, h3⟩ => ?_
  subst e2
  cases p2
  obtain ⟨ad', ha', _, ⟨vs, g1, g2⟩, _⟩ := r2.own i _ e1
  rw [ha] at ha'
  cases ha'
  obtain ⟨v, w1, w2⟩ := dpAll_at g2 hi
  exact ⟨_, _, _, v, rfl, rfl, SqL.of g1, w1, k v d E2 R2 H2 s2 r2 w2 h3⟩

/-! ### slices -/
def WpO (S : Sx) (e : Option Expr) (E : En) (P : Option Int → En → Prop) : Prop := match e with
  | none => P none E
  | some e => WpD S e E fun d E1 => ∃ k, d = .int k ∧ P (some k) E1
def cutD (xs : List D) (lo hi : Option Int) : List D := (xs.drop (HT.sIx xs.length 0 lo)).take (HT.sIx xs.length xs.length hi - HT.sIx xs.length 0 lo)
theorem dpAll_drop {K : PySem.W.Frag} {R : Hp} : ∀ {vs : List V} {ds : List D} (n : Nat), DpAll K R vs ds → DpAll K R (vs.drop n) (ds.drop n)
  | _, _, 0, h => h
  | _, _, _ + 1, .nil => .nil
  | _, _, n + 1, .cons _ h => dpAll_drop n h
theorem dpAll_take {K : PySem.W.Frag} {R : Hp} : ∀ {vs : List V} {ds : List D} (n : Nat), DpAll K R vs ds → DpAll K R (vs.take n) (ds.take n)
  | _, _, 0, _ => .nil
  | _, _, _ + 1, .nil => .nil
  | _, _, n + 1, .cons h1 h => .cons h1 (dpAll_take n h)
theorem dpAll_cut {K : PySem.W.Frag} {R : Hp} {vs : List V} {ds : List D} (h : DpAll K R vs ds) (lo hi : Option Int) : DpAll K R (cutV vs lo hi) (cutD ds lo hi) := by
  unfold cutV cutD
  rw [dpAll_len h]
  exact dpAll_take _ (dpAll_drop _ h)
def RdO (X : Cx) (e : Option Expr) : TO := fun s H Q => ∃ t, PO X e t ∧ t s H Q
theorem po_rd {X : Cx} {e : Option Expr} : PO X e (RdO X e) := ⟨fun pins s σ H Q I ⟨_, ht, q⟩ => ht.run pins s σ H Q I q⟩
theorem WpO.run {o : Option Expr} {P : Option Int → En → Prop} (h : WpO S o E P) {X : Cx} (hX : Has S X) {F : Fx} {s : St} {R H : Hp} (r : Rel S.K F s E R H) {Q : Option Int → Hp → Prop} (k : ∀ j E' R' H', Same R R' → Rel S.K F s E' R' H' → P j E' → Q j H') : RdO X o s H Q := by
  cases o with
  | none => exact ⟨_, po_none, k none E R H (Same.refl _) r h⟩
  | some e =>
    refine ⟨_, po_some pe_rd, ?_⟩
    have h' : WpD S e E fun d E1 => ∃ k, d = .int k ∧ P (some k) E1 := h
    refine h' X hX F s R H r _ fun v d E1 R1 H1 s1 r1 p1 ⟨j, e1, h1⟩ => ?_
    subst e1
    cases p1
    exact ⟨j, rfl, k (some j) E1 R1 H1 s1 r1 h1⟩
variable {lo hi : Option Expr} {p2 : Pos}
theorem wd_slS (h : WpD S a E fun d E1 => WpO S lo E1 fun l E2 => WpO S hi E2 fun u E3 => ∃ z : Str, d = .str z ∧ z.length ≤ 100000 ∧ P (.str (cutS z l u)) E3) : WpD S (.Subscript a (.Slice lo hi none p2) pos) E P := fun X hX F s R H r0 Q k => by
  refine ⟨_, pe_slice sl_str pe_rd po_rd po_rd, ?_⟩
  refine h X hX F s R H r0 _ fun v1 d1 E1 R1 H1 s1 r1 p1 h1 => ?_
  refine h1.run hX r1 fun l E2 R2 H2 s2 r2 h2 => ?_
  refine h2.run hX r2 fun u E3 R3 H3 s3 r3 ⟨z, e, hz, h3⟩ => ?_
  subst e
  cases p1
  exact ⟨z, rfl, Nat.le_trans hz (by decide), k _ _ E3 R3 H3 ((s1.trans s2).trans s3) r3 (.str _) h3⟩
theorem wp_slL {P : Sl → En → Prop} (h : WpD S a E fun d E1 => WpO S lo E1 fun l E2 => WpO S hi E2 fun u E3 => ∃ ds, d = .list ds ∧ P (.own (.list (cutD ds l u))) E3) : Wp S (.Subscript a (.Slice lo hi none p2) pos) E P := fun X hX F s R H r0 Q k => by
  refine ⟨_, pe_slice sl_list pe_rd po_rd po_rd, ?_⟩
  refine h X hX F s R H r0 _ fun v1 d1 E1 R1 H1 s1 r1 p1 h1 => ?_
  refine h1.run hX r1 fun l E2 R2 H2 s2 r2 h2 => ?_
  refine h2.run hX r2 fun u E3 R3 H3 s3 r3 ⟨ds, e, h3⟩ => ?_
  subst e
  have p1 := dp_mono (s2.trans s3) _ _ p1
  cases p1 with
  | lst hq hd =>
    rw [hX.K]
    refine ⟨_, _, rfl, r3.sub.seq hq, fun q hq' => ?_⟩
    exact k _ (.own (.list (cutD ds l u))) E3 R3 _ ((s1.trans s2).trans s3) (r3.grow hq') ⟨q, rfl, r3.freeR hq', ⟨_, upd_same, dpAll_cut hd l u⟩, r3.free0 hq', own_no r3 hq'⟩ h3
theorem wd_slT (h : WpD S a E fun d E1 => WpO S lo E1 fun l E2 => WpO S hi E2 fun u E3 => ∃ ds, d = .tuple ds ∧ P (.tuple (cutD ds l u)) E3) : WpD S (.Subscript a (.Slice lo hi none p2) pos) E P := fun X hX F s R H r0 Q k => by
  refine ⟨_, pe_slice sl_tupA pe_rd po_rd po_rd, ?_⟩
  refine h X hX F s R H r0 _ fun v1 d1 E1 R1 H1 s1 r1 p1 h1 => ?_
  refine h1.run hX r1 fun l E2 R2 H2 s2 r2 h2 => ?_
  refine h2.run hX r2 fun u E3 R3 H3 s3 r3 ⟨ds, e, h3⟩ => ?_
  subst e
  have p1 := dp_mono (s2.trans s3) _ _ p1
  cases p1 with
  | tup hq hd =>
    rename_i ad vs
    rw [hX.K]
    refine ⟨_, _, rfl, same_t r3.sub hq, fun hw => ?_, fun _ q hq' => ?_⟩
    · have e : cutD ds l u = ds := by
        unfold cutD
        rw [← dpAll_len hd, hw.1, hw.2, List.drop_zero, Nat.sub_zero, dpAll_len hd, List.take_length]
      exact k _ _ E3 R3 H3 ((s1.trans s2).trans s3) r3 (.tup hq hd) (by rw [e] at h3; exact h3)
    · exact k _ _ E3 _ _ (((s1.trans s2).trans s3).trans (same_upd (r3.freeR hq'))) (r3.growR hq') (.tup (SqT.of upd_same) (dpAll_mono (same_upd (r3.freeR hq')) _ _ (dpAll_cut hd l u))) h3
/-- t + u, tuples -/
theorem wd_addT (h : WpD S a E fun d1 E1 => WpD S b E1 fun d2 E2 => ∃ xs ys, d1 = .tuple xs ∧ d2 = .tuple ys ∧ xs.length + ys.length ≤ 100000 ∧ P (.tuple (xs ++ ys)) E2) : WpD S (.BinOp a .Add b pos) E P :=
  wd_bin (r := rCatA S.K) (fun X hX => by rw [← hX.K]; exact op_catA) (h.mono fun _ _ h => h.mono fun _ _ ⟨xs, ys, h1, h2, hc, h3⟩ => ⟨_, by
    subst h1 h2
    intro F s E R H v1 v2 r p1 p2 Q k
    cases p1 with
    | tup q1 d1 =>
      cases p2 with
      | tup q2 d2 =>
        refine ⟨_, _, _, _, rfl, rfl, same_t r.sub q1, same_t r.sub q2, Nat.le_trans (by rw [dpAll_len d1, dpAll_len d2]; exact hc) (by decide), fun e => ?_, fun _ e => ?_, fun _ _ q hq => ?_⟩
        · subst e
          cases d1
          exact k _ R H (Same.refl _) r (.tup q2 d2)
        · subst e
          cases d2
          rw [List.append_nil] at k
          exact k _ R H (Same.refl _) r (.tup q1 d1)
        · exact k _ _ _ (same_upd (r.freeR hq)) (r.growR hq) (.tup (SqT.of upd_same) (dpAll_mono (same_upd (r.freeR hq)) _ _ (dpAll_app d1 d2))), h3⟩)
/-- in, not in -/
theorem wt_in {P : Bool → En → Prop} (h : WpD S a E fun d1 E1 => WpK S b E1 fun d2 E2 => ∃ ds, d2 = .list ds ∧ SeqAt.shaped d1 = true ∧ SeqAt.shaped (.list ds) = true ∧ P (ds.any fun z => PyData.eqv z d1) E2) (hm : behindInMarks .In b = false := by rfl) : WpT S (.Compare a [.In] [b] pos) E P := fun X hX F s R H r0 Q k => by
  refine ⟨_, pt_cmpR (op_inD (by have := hX.room.un; omega)) pe_rd pe_rd hm, ?_⟩
  refine h X hX F s R H r0 _ fun v1 d1 E1 R1 H1 s1 r1 p1 h1 => ?_
  refine h1 X hX F s R1 H1 r1 _ fun v2 d2 E2 R2 H2 s2 r2 p2 ⟨ds, e, h2, h3, h4⟩ => ?_
  subst e
  rw [hX.K]
  exact ⟨d1, ds, dp_mono r2.sub _ _ (dp_mono s2 _ _ p1), p2.dp r2.sub, h2, h3, _, rfl, k _ E2 R2 H2 (s1.trans s2) r2 h4⟩
theorem wt_notIn {P : Bool → En → Prop} (h : WpD S a E fun d1 E1 => WpK S b E1 fun d2 E2 => ∃ ds, d2 = .list ds ∧ SeqAt.shaped d1 = true ∧ SeqAt.shaped (.list ds) = true ∧ P (!ds.any fun z => PyData.eqv z d1) E2) (hm : behindInMarks .NotIn b = false := by rfl) : WpT S (.Compare a [.NotIn] [b] pos) E P := fun X hX F s R H r0 Q k => by
  refine ⟨_, pt_cmpR (op_notInD (by have := hX.room.un; omega)) pe_rd pe_rd hm, ?_⟩
  refine h X hX F s R H r0 _ fun v1 d1 E1 R1 H1 s1 r1 p1 h1 => ?_
  refine h1 X hX F s R1 H1 r1 _ fun v2 d2 E2 R2 H2 s2 r2 p2 ⟨ds, e, h2, h3, h4⟩ => ?_
  subst e
  rw [hX.K]
  exact ⟨d1, ds, dp_mono r2.sub _ _ (dp_mono s2 _ _ p1), p2.dp r2.sub, h2, h3, _, rfl, k _ E2 R2 H2 (s1.trans s2) r2 h4⟩
/-- == of any data; the right one may be an owned list -/
theorem wt_eqD {P : Bool → En → Prop} (h : WpD S a E fun d1 E1 => WpK S b E1 fun d2 E2 => SeqAt.shaped d1 = true ∧ SeqAt.shaped d2 = true ∧ P (PyData.eqv d1 d2) E2) : WpT S (.Compare a [.Eq] [b] pos) E P := fun X hX F s R H r0 Q k => by
  refine ⟨_, pt_cmpR (op_eqD hX.room.units) pe_rd pe_rd (nomark _), ?_⟩
  refine h X hX F s R H r0 _ fun v1 d1 E1 R1 H1 s1 r1 p1 h1 => ?_
  refine h1 X hX F s R1 H1 r1 _ fun v2 d2 E2 R2 H2 s2 r2 p2 ⟨h2, h3, h4⟩ => ?_
  rw [hX.K]
  exact ⟨d1, d2, dp_mono r2.sub _ _ (dp_mono s2 _ _ p1), p2.dp r2.sub, h2, h3, _, rfl, k _ E2 R2 H2 (s1.trans s2) r2 h4⟩
/-- x != [], x an owned list -/
theorem wt_neNil {P : Bool → En → Prop} {ds : List D} {lp : Pos} (hN : S.N[i]? = some x) (hv : Vis S.sc x) (hE : E[i]? = some (.own (.list ds))) (hz : SeqAt.shaped (.list ds) = true) (h : P (!PyData.eqv (.list ds) (.list [])) E) (hd : (x == ("__debug__" : Str)) = false := by decide) (hcd : (x == ("__classdict__" : Str)) = false := by decide) :
    WpT S (.Compare (.Name x p) [.NotEq] [.List [] lp] pos) E P := fun X hX F s R H r0 Q k => by
  refine ⟨_, pt_cmpR (op_neD hX.room.units) (pe_var (i := i) (by rw [hX.N]; exact hN) (by rw [hX.sc]; exact hv) hd hcd) (pe_lst pa_nil) (nomark _), ?_⟩
  obtain ⟨ad, h1, h2, ⟨vs, h3, h4⟩, _⟩ := r0.own i _ hE
  refine ⟨_, h1, Nat.zero_le _, fun q hq => ?_⟩
  rw [hX.K]
  have hne : ad ≠ q := ne_of_none h3 hq
  have sm := r0.sub.trans (same_upd (o := .lst []) hq)
  refine ⟨_, _, .lst (SqL.of (by rw [upd_ne hne]; exact h3)) (dpAll_mono sm _ _ h4), .lst (SqL.of upd_same) .nil, hz, by decide, _, rfl, k _ E R _ (Same.refl _) (r0.grow hq) h⟩
end
end Wq

namespace Wq
open PySem L2

section
variable {S : Sx} {e : Expr} {es : List Expr} {E : En} {a b c : Expr} {pos p : Pos} {x : Str} {P : Sl → En → Prop} {PD : D → En → Prop} {i : Nat}
/-! ### built-ins of one argument -/
def ClK (S : Sx) (r : List V → Hp → VK → Prop) (d : D) (T : Sl → Prop) : Prop := ∀ F s E R H v, Rel S.K F s E R H → Pk S.K R H v d → ∀ Q : VK,
  (∀ v' x R' H', Same R R' → Rel S.K F s E R' H' → RsOk S.K F s E R' H' v' x → T x → Q v' H') → r [v] H Q
theorem wp_blt1 {id : String} {r : List V → Hp → VK → Prop} (hc : ∀ X, Has S X → CallR X (.builtin id) r) (hg : GlS S x) (hm : S.mg x = none) (hv : bootBuiltins x = some (.builtin id)) (h : WpK S e E fun d E1 => ClK S r d fun v => P v E1)
    (hst : ∀ env : Env, starEach [e] env = (false, eval e env) :: starEach [] env := by intro _; rfl) (hn : x ≠ "__name__" := by decide) (hdb : (x == ("__debug__" : Str)) = false := by decide) :
    Wp S (.Call (.Name x p) [e] [] pos) E P := fun X hX F s R H r0 Q kk => by
  refine ⟨_, pe_callB (hc X hX) (hg.gl hX) (by rw [hX.mg]; exact hm) hv (pa_cons pe_rd pa_nil (hst _)) hn hdb (hst _) rfl, ?_⟩
  refine h X hX F s R H r0 _ fun v d E1 R1 H1 s1 r1 p1 h1 => ?_
  exact h1 F s E1 R1 H1 v r1 p1 Q fun v x R' H' a q ok z => kk v x E1 R' H' (s1.trans a) q ok z
theorem wp_blty1 {id : String} {r : List V → Hp → VK → Prop} (hc : ∀ X, Has S X → CallR X (.type id) r) (hg : GlS S x) (hm : S.mg x = none) (hv : bootBuiltins x = some (.type id)) (h : WpK S e E fun d E1 => ClK S r d fun v => P v E1)
    (hst : ∀ env : Env, starEach [e] env = (false, eval e env) :: starEach [] env := by intro _; rfl) (hn : x ≠ "__name__" := by decide) (hdb : (x == ("__debug__" : Str)) = false := by decide) :
    Wp S (.Call (.Name x p) [e] [] pos) E P := fun X hX F s R H r0 Q kk => by
  refine ⟨_, pe_callTy (hc X hX) (hg.gl hX) (by rw [hX.mg]; exact hm) hv (pa_cons pe_rd pa_nil (hst _)) hn hdb (hst _) rfl, ?_⟩
  refine h X hX F s R H r0 _ fun v d E1 R1 H1 s1 r1 p1 h1 => ?_
  exact h1 F s E1 R1 H1 v r1 p1 Q fun v x R' H' a q ok z => kk v x E1 R' H' (s1.trans a) q ok z
theorem wd_of (h : Wp S e E fun r E' => ∃ d, r = .dat d ∧ PD d E') : WpD S e E PD := Wp.d (h.mono fun r E' ⟨d, e, q⟩ => by subst e; exact q)
inductive LenD : D → Nat → Prop where
  | lst {ds} : LenD (.list ds) ds.length
  | tup {ds} : LenD (.tuple ds) ds.length
  | str {z : Str} (h : z.length ≤ 100000) : LenD (.str z) z.length
theorem wd_len (hg : GlS S "len") (hm : S.mg "len" = none) (h : WpK S e E fun d E1 => ∃ n, LenD d n ∧ PD (.int n) E1) (hst : ∀ env : Env, starEach [e] env = (false, eval e env) :: starEach [] env := by intro _; rfl) : WpD S (.Call (.Name "len" p) [e] [] pos) E PD := by
  refine wd_of (wp_blt1 (r := fun xs H Q => ∃ x n, xs = [x] ∧ LenV S.K x H n ∧ Q (.int n) H) (fun X hX => by rw [← hX.K]; exact call_len) hg hm boot_len (fun X hX F s R H r Q k => h X hX F s R H r Q fun v d E' R' H' a r' p q => k v d E' R' H' a r' p ?_) hst)
  obtain ⟨n, hn, hp⟩ := q
  intro F s E R H v r pk Q kk
  refine ⟨v, n, rfl, ?_, kk _ (.dat (.int n)) R H (Same.refl _) r (Dp.int _) ⟨_, rfl, hp⟩⟩
  cases hn with
  | lst =>
    obtain ⟨a, vs, rfl, h1, h2⟩ := pk.list r.sub
    exact .inl ⟨vs, h1, (dpAll_len h2).symm⟩
  | tup =>
    obtain ⟨a, vs, rfl, h1, h2, _⟩ := pk.tuple r.sub
    exact .inr ⟨vs, h1, (dpAll_len h2).symm⟩
  | str hz =>
    cases pk with
    | dat h =>
      cases h
      exact ⟨Nat.le_trans hz (by decide), rfl⟩
theorem wd_abs (hg : GlS S "abs") (hm : S.mg "abs" = none) (h : WpD S e E fun d E1 => ∃ k, d = .int k ∧ PD (.int (if k < 0 then -k else k)) E1) (hst : ∀ env : Env, starEach [e] env = (false, eval e env) :: starEach [] env := by intro _; rfl) : WpD S (.Call (.Name "abs" p) [e] [] pos) E PD := by
  refine wd_of (wp_blt (r := fun xs H Q => ∃ i, xs = [.int i] ∧ Q (.int (if i < 0 then -i else i)) H) (fun _ _ => call_abs) hg hm PyProof.Rows.boot_abs (wa_cons (h.mono fun d E1 ⟨k, e1, q⟩ => wa_nil ?_) hst) hst fun _ => rfl)
  subst e1
  refine clp_val ⟨_, rfl, q⟩ fun F s E R H vs r p => ?_
  cases p with
  | cons p1 p2 =>
    cases p1
    cases p2
    exact ⟨_, .int _, fun Q h => ⟨k, rfl, h⟩⟩
theorem wd_int1 (hg : GlS S "int") (hm : S.mg "int" = none) (h : WpD S e E fun d E1 => (∃ k, d = .int k ∧ PD (.int k) E1) ∨ ∃ k, d = .bool k ∧ PD (.int (if k then 1 else 0)) E1) (hst : ∀ env : Env, starEach [e] env = (false, eval e env) :: starEach [] env := by intro _; rfl) : WpD S (.Call (.Name "int" p) [e] [] pos) E PD := by
  refine wd_of (wp_blty (r := fun xs H Q => (∃ i, xs = [.int i] ∧ Q (.int i) H) ∨ ∃ k, xs = [.bl k] ∧ Q (.int (if k then 1 else 0)) H) (fun _ _ => call_int1) hg hm PyProof.Rows.boot_int (wa_cons (h.mono fun d E1 q => wa_nil ?_) hst) hst fun _ => rfl)
  rcases q with ⟨k, rfl, q⟩ | ⟨k, rfl, q⟩
  · refine clp_val ⟨_, rfl, q⟩ fun F s E R H vs r p => ?_
    cases p with
    | cons p1 p2 =>
      cases p1
      cases p2
      exact ⟨_, .int _, fun Q h => .inl ⟨k, rfl, h⟩⟩
  · refine clp_val ⟨_, rfl, q⟩ fun F s E R H vs r p => ?_
    cases p with
    | cons p1 p2 =>
      cases p1
      cases p2
      exact ⟨_, .int _, fun Q h => .inr ⟨k, rfl, h⟩⟩
theorem wd_min2 (hg : GlS S "min") (hm : S.mg "min" = none) (h : WpD S a E fun d E1 => WpD S b E1 fun d' E2 => ∃ k j, d = .int k ∧ d' = .int j ∧ PD (.int (if j < k then j else k)) E2) (hst : ∀ env : Env, starEach [a, b] env = (false, eval a env) :: starEach [b] env := by intro _; rfl)
    (hst2 : ∀ env : Env, starEach [b] env = (false, eval b env) :: starEach [] env := by intro _; rfl) (hpl : ∀ env : Env, (backTo pos (starEach [b] env)).any (·.1) = false := by intro _; rfl) : WpD S (.Call (.Name "min" p) [a, b] [] pos) E PD := by
  refine wd_of (wp_blt (r := fun xs H Q => ∃ i j, xs = [.int i, .int j] ∧ Q (.int (if j < i then j else i)) H) (fun X hX => call_min2 hX.calm) hg hm PyProof.Rows.boot_min (wa_cons (h.mono fun d E1 q0 => wa_cons (q0.mono fun d' E2 ⟨k, j, e1, e2, q⟩ => wa_nil ?_) hst2) hst) hst hpl)
  clear h
  subst e1 e2
  refine clp_val ⟨_, rfl, q⟩ fun F s E R H vs r p => ?_
  cases p with
  | cons p1 p2 =>
    cases p2 with
    | cons p2 p3 =>
      cases p1
      cases p2
      cases p3
      exact ⟨_, .int _, fun Q h => ⟨k, j, rfl, h⟩⟩
theorem wd_divmod (hg : GlS S "divmod") (hm : S.mg "divmod" = none) (h : WpD S a E fun d E1 => WpD S b E1 fun d' E2 => ∃ k j, d = .int k ∧ d' = .int j ∧ CDiv k j ∧ PD (.tuple [.int (k / j), .int (k % j)]) E2) (hst : ∀ env : Env, starEach [a, b] env = (false, eval a env) :: starEach [b] env := by intro _; rfl)
    (hst2 : ∀ env : Env, starEach [b] env = (false, eval b env) :: starEach [] env := by intro _; rfl) (hpl : ∀ env : Env, (backTo pos (starEach [b] env)).any (·.1) = false := by intro _; rfl) : WpD S (.Call (.Name "divmod" p) [a, b] [] pos) E PD := by
  refine wd_of (wp_blt (r := fun xs H Q => ∃ i j, xs = [.int i, .int j] ∧ CDiv i j ∧ ∀ p, H p = none → Q (.ref p) (upd H p (.tup [.int (i / j), .int (i % j)]))) (fun X hX => call_divmod) hg hm PyProof.Rows.boot_divmod (wa_cons (h.mono fun d E1 q0 => wa_cons (q0.mono fun d' E2 ⟨k, j, e1, e2, hc, q⟩ => wa_nil ?_) hst2) hst) hst hpl)
  subst e1 e2
  refine clp_newT (ys := [.int (k / j), .int (k % j)]) ⟨_, rfl, q⟩ fun F s E R H vs r p => ?_
  cases p with
  | cons p1 p2 =>
    cases p2 with
    | cons p2 p3 =>
      cases p1
      cases p2
      cases p3
      exact ⟨_, .cons (.int _) (.cons (.int _) .nil), fun Q h => ⟨k, j, rfl, hc, h⟩⟩
/-- list(x), tuple(x) -/
theorem wp_list (hg : GlS S "list") (hm : S.mg "list" = none) (h : WpK S e E fun d E1 => ∃ ds, (d = .list ds ∨ d = .tuple ds) ∧ P (.own (.list ds)) E1) (hst : ∀ env : Env, starEach [e] env = (false, eval e env) :: starEach [] env := by intro _; rfl) : Wp S (.Call (.Name "list" p) [e] [] pos) E P := by
  refine wp_blty1 (r := fun xs H Q => ∃ p ys, xs = [.ref p] ∧ (SqL S.K H p ys ∨ SqT S.K H p ys) ∧ ∀ l, H l = none → Q (.ref l) (upd H l (.lst ys))) (fun X hX => by rw [← hX.K]; exact call_list_of) hg hm PyProof.Rows.boot_list (fun X hX F s R H r Q k => h X hX F s R H r Q fun v d E' R' H' a r' p q => k v d E' R' H' a r' p ?_) hst
  obtain ⟨ds, hd, hp⟩ := q
  intro F s E R H v r pk Q kk
  have fin : ∀ (l : Addr) (vs : List V), DpAll S.K R vs ds → H l = none → Q (.ref l) (upd H l (.lst vs)) := fun l vs h2 hl => kk _ (.own (.list ds)) R _ (Same.refl _) (r.grow hl) ⟨l, rfl, r.freeR hl, ⟨vs, upd_same, h2⟩, r.free0 hl, own_no r hl⟩ hp
  rcases hd with rfl | rfl
  · obtain ⟨a, vs, rfl, h1, h2⟩ := pk.list r.sub
    exact ⟨a, vs, rfl, .inl h1, fun l hl => fin l vs h2 hl⟩
  · obtain ⟨a, vs, rfl, h1, h2, _⟩ := pk.tuple r.sub
    exact ⟨a, vs, rfl, .inr h1, fun l hl => fin l vs h2 hl⟩
theorem wd_tuple (hg : GlS S "tuple") (hm : S.mg "tuple" = none) (h : WpK S e E fun d E1 => ∃ ds, (d = .list ds ∨ d = .tuple ds) ∧ PD (.tuple ds) E1) (hst : ∀ env : Env, starEach [e] env = (false, eval e env) :: starEach [] env := by intro _; rfl) : WpD S (.Call (.Name "tuple" p) [e] [] pos) E PD := by
  refine wd_of (wp_blty1 (r := fun xs H Q => ∃ p ys, xs = [.ref p] ∧ ((SqL S.K H p ys ∧ ∀ l, H l = none → Q (.ref l) (upd H l (.tup ys))) ∨ (SqT S.K H p ys ∧ Q (.ref p) H))) (fun X hX => by rw [← hX.K]; exact call_tuple_of) hg hm PyProof.Rows.boot_tuple (fun X hX F s R H r Q k => h X hX F s R H r Q fun v d E' R' H' a r' p q => k v d E' R' H' a r' p ?_) hst)
  obtain ⟨ds, hd, hp⟩ := q
  intro F s E R H v r pk Q kk
  rcases hd with rfl | rfl
  · obtain ⟨a, vs, rfl, h1, h2⟩ := pk.list r.sub
    refine ⟨a, vs, rfl, .inl ⟨h1, fun l hl => ?_⟩⟩
    exact kk _ (.dat (.tuple ds)) _ _ (same_upd (r.freeR hl)) (r.growR hl) (Dp.tup (SqT.of upd_same) (dpAll_mono (same_upd (r.freeR hl)) _ _ h2)) ⟨_, rfl, hp⟩
  · obtain ⟨a, vs, rfl, h1, h2, h3⟩ := pk.tuple r.sub
    exact ⟨a, vs, rfl, .inr ⟨h1, kk _ (.dat (.tuple ds)) R H (Same.refl _) r h3 ⟨_, rfl, hp⟩⟩⟩
/-- all, any of a list of truths -/
theorem dp_bools {K : PySem.W.Frag} {R : Hp} : ∀ {vs : List V} {bs : List Bool}, DpAll K R vs (bs.map PyData.bool) → vs = bs.map V.bl
  | _, [], h => by cases h; rfl
  | _, b :: bs, h => by
    cases h with
    | cons h1 h2 => cases h1; rw [dp_bools h2]; rfl
theorem wd_all (hg : GlS S "all") (hm : S.mg "all" = none) (h : WpK S e E fun d E1 => ∃ bs : List Bool, d = .list (bs.map PyData.bool) ∧ PD (.bool (bs.all id)) E1) (hst : ∀ env : Env, starEach [e] env = (false, eval e env) :: starEach [] env := by intro _; rfl) : WpD S (.Call (.Name "all" p) [e] [] pos) E PD := by
  refine wd_of (wp_blt1 (r := rAll S.K) (fun X hX => by rw [← hX.K]; exact cr_all hX.calm) hg hm PyProof.Rows.boot_all (fun X hX F s R H r Q k => h X hX F s R H r Q fun v d E' R' H' a r' p q => k v d E' R' H' a r' p ?_) hst)
  obtain ⟨bs, rfl, hp⟩ := q
  intro F s E R H v r pk Q kk
  obtain ⟨a, vs, rfl, h1, h2⟩ := pk.list r.sub
  rw [dp_bools h2] at h1
  exact ⟨a, bs, rfl, h1, kk _ (.dat (.bool (bs.all id))) R H (Same.refl _) r (Dp.bl _) ⟨_, rfl, hp⟩⟩
theorem wd_any (hg : GlS S "any") (hm : S.mg "any" = none) (h : WpK S e E fun d E1 => ∃ bs : List Bool, d = .list (bs.map PyData.bool) ∧ PD (.bool (bs.any id)) E1) (hst : ∀ env : Env, starEach [e] env = (false, eval e env) :: starEach [] env := by intro _; rfl) : WpD S (.Call (.Name "any" p) [e] [] pos) E PD := by
  refine wd_of (wp_blt1 (r := rAny S.K) (fun X hX => by rw [← hX.K]; exact cr_any hX.calm) hg hm (by decide +kernel) (fun X hX F s R H r Q k => h X hX F s R H r Q fun v d E' R' H' a r' p q => k v d E' R' H' a r' p ?_) hst)
  obtain ⟨bs, rfl, hp⟩ := q
  intro F s E R H v r pk Q kk
  obtain ⟨a, vs, rfl, h1, h2⟩ := pk.list r.sub
  rw [dp_bools h2] at h1
  exact ⟨a, bs, rfl, h1, kk _ (.dat (.bool (bs.any id))) R H (Same.refl _) r (Dp.bl _) ⟨_, rfl, hp⟩⟩
/-- join -/
theorem dp_strs {K : PySem.W.Frag} {R : Hp} : ∀ {vs : List V} {bs : List Str}, DpAll K R vs (bs.map PyData.str) → vs = bs.map V.str
  | _, [], h => by cases h; rfl
  | _, b :: bs, h => by
    cases h with
    | cons h1 h2 => cases h1; rw [dp_strs h2]; rfl
theorem wd_join {ap : Pos} (h : WpD S a E fun d E1 => ∃ z : Str, d = .str z ∧ WpK S b E1 fun d' E2 => ∃ (ys : List Str), (d' = .list (ys.map PyData.str) ∨ d' = .tuple (ys.map PyData.str)) ∧ (ys.map (·.length)).sum + ys.length * z.length ≤ 16777216 ∧ PD (.str (Txt.join z ys)) E2)
    (hst : ∀ env : Env, starEach [b] env = [(false, eval b env)] := by intro _; rfl) (hbase : ∀ env : Env, attributeBase a "join" env (eval a env) = eval a env := by intro _; rfl) (hline : (ap.endLine == pos.line) = true := by rfl) : WpD S (.Call (.Attribute a "join" ap) [b] [] pos) E PD := fun X hX F s R H r Q k => by
  refine ⟨_, pe_join pe_rd pe_rd (hst _) (hbase _) hline, ?_⟩
  refine h X hX F s R H r _ fun v1 d1 E1 R1 H1 s1 r1 p1 ⟨z, e1, h1⟩ => ?_
  subst e1
  cases p1
  refine ⟨⟨z, rfl⟩, ?_⟩
  refine h1 X hX F s R1 H1 r1 _ fun v2 d2 E2 R2 H2 s2 r2 p2 ⟨ys, hd, hz, h2⟩ => ?_
  rw [hX.K]
  have fin := k _ _ E2 R2 H2 (s1.trans s2) r2 (.str (Txt.join z ys)) h2
  rcases hd with rfl | rfl
  · obtain ⟨ad, vs, rfl, w1, w2⟩ := p2.list r2.sub
    rw [dp_strs w2] at w1
    exact ⟨z, ad, ys, rfl, rfl, .inl w1, hz, fin⟩
  · obtain ⟨ad, vs, rfl, w1, w2, _⟩ := p2.tuple r2.sub
    rw [dp_strs w2] at w1
    exact ⟨z, ad, ys, rfl, rfl, .inr w1, hz, fin⟩

/-! ### isinstance -/
def tyN : D → String
  | .none => "NoneType"
  | .bool _ => "bool"
  | .int _ => "int"
  | .str _ => "str"
  | .list _ => "list"
  | .tuple _ => "tuple"
  | .dict _ => "dict"
theorem ty_of {K : PySem.W.Frag} {H : Hp} {v : V} {d : D} (h : Dp K H v d) : TyX K H v (.type (tyN d)) := by
  cases h with
  | non => exact .base .non
  | bl => exact .base (.bl _)
  | int => exact .base (.int _)
  | str => exact .base (.str _)
  | lst hq _ =>
    rcases hq with (hq | ⟨o, hq⟩) | ⟨o, its, n, h1, h2, _⟩
    · exact .base (.lst hq)
    · exact .base (.frz hq)
    · exact .kList h1 h2
  | tup hq _ =>
    rcases hq with (hq | ⟨o, hq⟩) | ⟨o, its, n, h1, h2, _⟩
    · exact .base (.tup hq)
    · exact .fTuple hq
    · exact .kTuple h1 h2
/-- isinstance of data, for the classes that programs here ask of -/
def isI (T : String) (d : D) : Bool := T == tyN d || (T == "int" && tyN d == "bool")
theorem kit_isI {T : String} (hT : T = "int" ∨ T = "str" ∨ T = "bool" ∨ T = "list" ∨ T = "tuple") (d : D) : kitB (tyN d) T = some (isI T d) := by
  rcases hT with rfl | rfl | rfl | rfl | rfl <;> cases d <;> (simp only [tyN, isI]; decide +kernel)
theorem wd_isi {T : String} {tx : Str} {q : Pos} (hg : GlS S "isinstance") (hm : S.mg "isinstance" = none) (hg2 : GlS S tx) (hm2 : S.mg tx = none) (hv : bootBuiltins tx = some (.type T)) (hT : T = "int" ∨ T = "str" ∨ T = "bool" ∨ T = "list" ∨ T = "tuple")
    (h : WpK S a E fun d E1 => PD (.bool (isI T d)) E1) (hst : ∀ env : Env, starEach [a, .Name tx q] env = (false, eval a env) :: starEach [.Name tx q] env := by intro _; rfl) (hn : tx ≠ "__name__" := by decide) (hd : (tx == ("__debug__" : Str)) = false := by decide) :
    WpD S (.Call (.Name "isinstance" p) [a, .Name tx q] [] pos) E PD := fun X hX F s R H r Q k => by
  refine ⟨_, pe_callB call_isi (hg.gl hX) (by rw [hX.mg]; exact hm) PyProof.Rows.boot_isinstance (pa_cons pe_rd (pa_cons (pe_bltn (v := .ty T) (hg2.gl hX) (by rw [hX.mg]; exact hm2) hv rfl hn hd) pa_nil) (hst _)) (by decide) (by decide) (hst _) rfl, ?_⟩
  refine h X hX F s R H r _ fun v1 d1 E1 R1 H1 s1 r1 p1 h1 => ?_
  rw [hX.K]
  exact ⟨v1, .ty T, _, _, isI T d1, rfl, .ty T, ty_of (p1.dp r1.sub), kit_ty (kit_isI hT d1), k _ _ E1 R1 H1 s1 r1 (.bl _) h1⟩
/-- isinstance(x, (list, tuple)) -/
theorem wd_isiLT {q1 q2 q3 : Pos} {kk : Nat} (hg : GlS S "isinstance") (hm : S.mg "isinstance" = none) (hg1 : GlS S "list") (hm1 : S.mg "list" = none) (hg2 : GlS S "tuple") (hm2 : S.mg "tuple" = none)
    (h : WpK S a E fun d E1 => PD (.bool (isI "list" d || isI "tuple" d)) E1) (hst : ∀ env : Env, starEach [a, .Tuple [.Name "list" q1, .Name "tuple" q2] kk q3] env = (false, eval a env) :: starEach [.Tuple [.Name "list" q1, .Name "tuple" q2] kk q3] env := by intro _; rfl) :
    WpD S (.Call (.Name "isinstance" p) [a, .Tuple [.Name "list" q1, .Name "tuple" q2] kk q3] [] pos) E PD := fun X hX F s R H r Q k => by
  refine ⟨_, pe_callB call_isiT (hg.gl hX) (by rw [hX.mg]; exact hm) PyProof.Rows.boot_isinstance (pa_cons pe_rd (pa_cons (pe_tup (pa_cons (pe_bltn (v := .ty "list") (hg1.gl hX) (by rw [hX.mg]; exact hm1) PyProof.Rows.boot_list rfl) (pa_cons (pe_bltn (v := .ty "tuple") (hg2.gl hX) (by rw [hX.mg]; exact hm2) PyProof.Rows.boot_tuple rfl) pa_nil))) pa_nil) (hst _)) (by decide) (by decide) (hst _) rfl, ?_⟩
  refine h X hX F s R H r _ fun v1 d1 E1 R1 H1 s1 r1 p1 h1 => ?_
  refine ⟨by show 2 ≤ sizeLine; decide, fun t ht => ?_⟩
  rw [hX.K]
  have dp1 : Dp S.K (upd H1 t (.tup [.ty "list", .ty "tuple"])) v1 d1 := dp_mono (same_upd ht) _ _ (p1.dp r1.sub)
  refine ⟨v1, t, _, _, [.type "list", .type "tuple"], isI "list" d1 || isI "tuple" d1, rfl, upd_same, .cons (.ty _) (.cons (.ty _) .nil), ty_of dp1, ?_, k _ _ E1 R1 _ s1 (r1.grow ht) (.bl _) h1⟩
  refine kitAny_cons (b := isI "list" d1) (kit_ty (kit_isI (by simp) d1)) (fun e => ?_) fun e => by rw [e]; rfl
  refine kitAny_cons (b := isI "tuple" d1) (kit_ty (kit_isI (by simp) d1)) (fun e' => ?_) fun e' => by rw [e']; simp
  rw [e, e']
  exact kitAny_nil
end
end Wq

namespace Wq
open PySem L2

section
variable {S : Sx} {e : Expr} {es : List Expr} {E : En} {a b c : Expr} {pos p : Pos} {x y : Str} {P : Sl → En → Prop} {PD : D → En → Prop} {i j : Nat} {G : List Nat} {Z : EnS}
/-! ### owned lists changed -/
theorem s_append {ap ep cp : Pos} (hN : S.N[i]? = some x) (hv : Vis S.sc x) (hE : ∃ d0, E[i]? = some (Sl.own (.list d0))) (h : WpD S a E fun d E1 => ∃ ds, E1[i]? = some (Sl.own (.list ds)) ∧ ds.length < 100000 ∧ Z.nx (E1.set i (.own (.list (ds ++ [d])))))
    (hst : ∀ env : Env, starEach [a] env = (false, eval a env) :: starEach [] env := by intro _; rfl) (hsw : ∀ env : Env, swapsWith (.Call (.Attribute (.Name x p) "append" ap) [a] [] cp) none ep.line env = pure false := by intro _; rfl)
    (hbase : ∀ env : Env, attributeBase (.Name x p) "append" env (eval (.Name x p) env) = eval (.Name x p) env := by intro _; rfl)
    (hfew : ∀ env : Env, ((backTo cp (starEach [a] env)).all (fun x => !x.1) && (backToKw cp (keywordEach [] env)).all (fun x => x.1.isSome) && decide (([a] : List Expr).length + ([] : List Keyword).length + (if ([] : List Keyword).isEmpty then 0 else 1) < 30)) = true := by intro _; rfl)
    (hline : (ap.endLine == cp.line) = true := by rfl) (hd : (x == ("__debug__" : Str)) = false := by decide) (hcd : (x == ("__classdict__" : Str)) = false := by decide) :
    WpS S G (.Expr (.Call (.Attribute (.Name x p) "append" ap) [a] [] cp) ep) E Z := fun X hX F s R H hg r D W => by
  refine ⟨_, ps_expr (pe_bm PySem.F.plainAttrs_list PySem.F.slot_list_append PySem.F.type_list_append mt_append (pe_var (i := i) (by rw [hX.N]; exact hN) (by rw [hX.sc]; exact hv) hd hcd) (pa_cons pe_rd pa_nil (hst _)) (hbase _) (hfew _) hline (hst _) rfl) (hsw _), ?_⟩
  obtain ⟨d0, hE0⟩ := hE
  obtain ⟨ad, ha, _, ⟨vs0, g0, _⟩, _⟩ := r.own i _ hE0
  refine ⟨_, ha, .inl ⟨rfl, _, SqL.of g0⟩, ?_⟩
  refine h X hX F s R H r _ fun v d E1 R1 H1 s1 r1 p1 ⟨ds, e1, hl, h1⟩ => ?_
  obtain ⟨ad', ha', _, ⟨vs, g1, g2⟩, _⟩ := r1.own i _ e1
  rw [ha] at ha'
  cases ha'
  refine ⟨ad, vs, v, rfl, rfl, g1, Nat.lt_of_lt_of_le (by rw [dpAll_len g2]; exact hl) (by decide : 100000 ≤ sizeLine), ?_⟩
  exact W.nx _ s R1 _ s1 (r1.write e1 ha rfl (dpAll_app g2 (dpAll_one p1))) h1
theorem s_reverse {ap ep cp : Pos} {ds : List D} (hN : S.N[i]? = some x) (hv : Vis S.sc x) (hE : E[i]? = some (Sl.own (.list ds))) (h : Z.nx (E.set i (.own (.list ds.reverse))))
    (hsw : ∀ env : Env, swapsWith (.Call (.Attribute (.Name x p) "reverse" ap) [] [] cp) none ep.line env = pure false := by intro _; rfl)
    (hbase : ∀ env : Env, attributeBase (.Name x p) "reverse" env (eval (.Name x p) env) = eval (.Name x p) env := by intro _; rfl)
    (hline : (ap.endLine == cp.line) = true := by rfl) (hd : (x == ("__debug__" : Str)) = false := by decide) (hcd : (x == ("__classdict__" : Str)) = false := by decide) :
    WpS S G (.Expr (.Call (.Attribute (.Name x p) "reverse" ap) [] [] cp) ep) E Z := fun X hX F s R H hg r D W => by
  refine ⟨_, ps_expr (pe_bm0 PySem.F.plainAttrs_list PySem.F.slot_list_reverse PySem.F.type_list_reverse mt_reverse (pe_var (i := i) (by rw [hX.N]; exact hN) (by rw [hX.sc]; exact hv) hd hcd) (hbase _) hline) (hsw _), ?_⟩
  obtain ⟨ad, ha, _, ⟨vs, g1, g2⟩, _⟩ := r.own i _ hE
  refine ⟨_, ha, .inl ⟨rfl, _, SqL.of g1⟩, ad, vs, rfl, rfl, g1, ?_⟩
  have hrev : ∀ {vs : List V} {ds : List Wq.D}, DpAll S.K R vs ds → DpAll S.K R vs.reverse ds.reverse := by
    intro vs
    induction vs with
    | nil => intro ds h; cases h; exact .nil
    | cons v vs ih =>
      intro ds h
      cases h with
      | cons h1 h2 =>
        rw [List.reverse_cons, List.reverse_cons]
        exact dpAll_app (ih h2) (dpAll_one h1)
  exact W.nx _ s R _ (Same.refl _) (r.write hE ha rfl (hrev g2)) h
/-- x[k] = e -/
theorem s_store {sp tp : Pos} (hN : S.N[i]? = some x) (hv : Vis S.sc x) (hE : ∃ d0, E[i]? = some (Sl.own d0)) (h : WpD S e E fun d E1 => (∃ d1, E1[i]? = some (Sl.own d1)) ∧ WpD S b E1 fun d2 E2 => ∃ ds k n, E2[i]? = some (Sl.own (.list ds)) ∧ d2 = .int k ∧ ixN ds.length k = some n ∧ Z.nx (E2.set i (.own (.list (ds.set n d)))))
    (hs : ∀ env : Env, swapsWithSole [.Subscript (.Name x p) b tp] e sp.line env = pure false := by intro _; rfl) (hw : ∀ env : Env, swappedStores [.Subscript (.Name x p) b tp] e env = pure none := by intro _; rfl)
    (h1 : ∀ env : Env, (assignEach [.Subscript (.Name x p) b tp] env).map (·.2) = [assign (.Subscript (.Name x p) b tp) env] := by intro _; rfl)
    (ha : ∀ (env : Env) v, assign (.Subscript (.Name x p) b tp) env v = (do
      let ov ← holding [v] (eval (.Name x p) env)
      let iv ← holding [v, ov] (eval b env)
      standAt tp
      holding [v, ov, iv] (setItem ov iv v)
      release [v, ov, iv] []) := by intro _ _; rfl) (hd : (x == ("__debug__" : Str)) = false := by decide) (hcd : (x == ("__classdict__" : Str)) = false := by decide) :
    WpS S G (.Assign [.Subscript (.Name x p) b tp] e sp) E Z := fun X hX F s R H hg r D W => by
  refine ⟨_, ps_asg pe_rd (pg_sub (pe_var (i := i) (by rw [hX.N]; exact hN) (by rw [hX.sc]; exact hv) hd hcd) pe_rd set_list (ha _)) (hs _) (hw _) (h1 _), ?_⟩
  refine h X hX F s R H r _ fun v d E1 R1 H1 s1 r1 p1 ⟨⟨d1, e1⟩, h2⟩ => ?_
  obtain ⟨ad, had, _⟩ := r1.own i _ e1
  refine ⟨_, had, ?_⟩
  refine h2 X hX F s R1 H1 r1 _ fun v2 d2 E2 R2 H2 s2 r2 p2 ⟨ds, k, n, e2, e3, hn, h3⟩ => ?_
  subst e3
  cases p2
  obtain ⟨ad', ha', _, ⟨vs, g1, g2⟩, _⟩ := r2.own i _ e2
  rw [had] at ha'
  cases ha'
  refine ⟨ad, vs, k, n, rfl, rfl, g1, by rw [dpAll_len g2]; exact hn, ?_⟩
  exact W.nx _ s R2 _ (s1.trans s2) (r2.write e2 had rfl (dpAll_set (dp_mono s2 _ _ p1) n g2)) h3
/-- x[k], y = e (a pair) -/
theorem s_storeTwo {sp tp yp qp : Pos} {kk : Nat} (hN : S.N[i]? = some x) (hv : Vis S.sc x) (hNy : S.N[j]? = some y) (hy : Loc S.sc y) (hA : S.asg y = true) (hE : ∃ d0, E[i]? = some (Sl.own d0))
    (h : WpD S e E fun d E1 => ∃ d1 d2, d = .tuple [d1, d2] ∧ (∃ d1, E1[i]? = some (Sl.own d1)) ∧ WpD S b E1 fun d3 E2 => ∃ ds k n, E2[i]? = some (Sl.own (.list ds)) ∧ d3 = .int k ∧ ixN ds.length k = some n ∧ notOwn (E2.set i (.own (.list (ds.set n d1)))) j ∧ Z.nx ((E2.set i (.own (.list (ds.set n d1)))).set j (.dat d2)))
    (hs : ∀ env : Env, swapsWithSole [.Tuple [.Subscript (.Name x p) b tp, .Name y yp] kk qp] e sp.line env = pure false := by intro _; rfl) (hw : ∀ env : Env, swappedStores [.Tuple [.Subscript (.Name x p) b tp, .Name y yp] kk qp] e env = pure none := by intro _; rfl)
    (h1 : ∀ env : Env, (assignEach [.Tuple [.Subscript (.Name x p) b tp, .Name y yp] kk qp] env).map (·.2) = [assign (.Tuple [.Subscript (.Name x p) b tp, .Name y yp] kk qp) env] := by intro _; rfl)
    (h2 : ∀ env : Env, (assignEach [.Subscript (.Name x p) b tp, .Name y yp] env).map (·.2) = assign (.Subscript (.Name x p) b tp) env :: (assignEach [.Name y yp] env).map (·.2) := by intro _; rfl)
    (h3 : ∀ env : Env, (assignEach [.Subscript (.Name x p) b tp, .Name y yp] env).length = 2 := by intro _; rfl) (h4 : ∀ env : Env, (assignEach [.Subscript (.Name x p) b tp, .Name y yp] env).findIdx? (·.1) = none := by intro _; rfl)
    (ha : ∀ (env : Env) v, assign (.Subscript (.Name x p) b tp) env v = (do
      let ov ← holding [v] (eval (.Name x p) env)
      let iv ← holding [v, ov] (eval b env)
      standAt tp
      holding [v, ov, iv] (setItem ov iv v)
      release [v, ov, iv] []) := by intro _ _; rfl) (hd : (x == ("__debug__" : Str)) = false := by decide) (hcd : (x == ("__classdict__" : Str)) = false := by decide) :
    WpS S G (.Assign [.Tuple [.Subscript (.Name x p) b tp, .Name y yp] kk qp] e sp) E Z := fun X hX F s R H hg r D W => by
  refine ⟨_, ps_asg pe_rd (pg_tup (n := 2) hX.calm (pgs_cons (pg_sub (pe_var (i := i) (by rw [hX.N]; exact hN) (by rw [hX.sc]; exact hv) hd hcd) pe_rd set_list (ha _)) (pgs_cons (pg_rd (tg := .Name y yp)) pgs_nil) (h2 _)) (h3 _) (h4 _)) (hs _) (hw _) (h1 _), ?_⟩
  refine h X hX F s R H r _ fun v d E1 R1 H1 s1 r1 p1 ⟨d1, d2, e0, ⟨d3, e1⟩, h5⟩ => ?_
  subst e0
  cases p1 with
  | tup hq hdd =>
    cases hdd with
    | cons q1 hdd =>
      cases hdd with
      | cons q2 hdd =>
        cases hdd
        rw [hX.K]
        refine ⟨_, _, rfl, same_t r1.sub hq, rfl, _, _, rfl, ?_⟩
        obtain ⟨ad, had, _⟩ := r1.own i _ e1
        refine ⟨_, had, ?_⟩
        refine h5 X hX F s R1 H1 r1 _ fun v2 dd2 E2 R2 H2 s2 r2 p2 ⟨ds, k, n, e2, e3, hn, hno, h6⟩ => ?_
        subst e3
        cases p2
        obtain ⟨ad', ha', _, ⟨vs, g1, g2⟩, _⟩ := r2.own i _ e2
        rw [had] at ha'
        cases ha'
        refine ⟨ad, vs, k, n, rfl, rfl, g1, by rw [dpAll_len g2]; exact hn, _, _, rfl, ?_⟩
        have r3 := r2.write e2 had rfl (dpAll_set (dp_mono s2 _ _ q1) n g2)
        refine g_name (P := fun E' => E' = _) hNy hy hA (show j ∈ [j] by simp) hno rfl X hX F s R2 _ _ r3 (dp_mono s2 _ _ q2) _ fun s4 E4 _ _ r4 e4 => ?_
        subst e4
        exact ⟨rfl, W.nx _ s4 R2 _ (s1.trans s2) r4 h6⟩
/-- a, b = e1, e2 by swapped stores -/
theorem s_par {px py pt pt2 sp : Pos} {kt k2 : Nat} (hN : S.N[i]? = some x) (hx : S.sc.names.lookup x = some NameKind.local) (hNy : S.N[j]? = some y) (hy : S.sc.names.lookup y = some NameKind.local) (hij : i ≠ j) (hGi : i ∉ G) (hGj : j ∉ G)
    (h : Wp S a E fun d1 E1 => ∃ q, d1 = .dat q ∧ Wp S b E1 fun d2 E2 => i < E2.length ∧ j < E2.length ∧ Z.nx ((E2.set i (.dat q)).set j d2))
    (hw : ∀ env : Env, env.scope = S.sc → swappedStores [.Tuple [.Name x px, .Name y py] kt pt] (.Tuple [a, b] k2 pt2) env = pure (some [x, y]))
    (hst : ∀ env : Env, starEach [a, b] env = (false, eval a env) :: starEach [b] env := by intro _; rfl) (hst2 : ∀ env : Env, starEach [b] env = (false, eval b env) :: starEach [] env := by intro _; rfl)
    (hs : ∀ env : Env, swapsWithSole [.Tuple [.Name x px, .Name y py] kt pt] (.Tuple [a, b] k2 pt2) sp.line env = pure false := by intro _; rfl) :
    WpS S G (.Assign [.Tuple [.Name x px, .Name y py] kt pt] (.Tuple [a, b] k2 pt2) sp) E Z := fun X hX F s R H hg r D W => by
  refine ⟨_, ps_par (i := i) (j := j) hX.calm hX.nd (by rw [hX.N]; exact hN) (by rw [hX.N]; exact hNy) hij (by rw [hX.sc]; exact hx) (by rw [hX.sc]; exact hy) (pa_cons pe_rd (pa_cons pe_rd pa_nil (hst2 _)) (hst _)) (hw _ hX.sc) (hs _), ?_⟩
  have gi : ∀ p ∈ F.g, p.1 ≠ i := fun p hp e => hGi (by rw [← hg, ← e]; exact List.mem_map_of_mem hp)
  have gj : ∀ p ∈ F.g, p.1 ≠ j := fun p hp e => hGj (by rw [← hg, ← e]; exact List.mem_map_of_mem hp)
  refine h X hX F s R H r _ fun v1 d1 E1 R1 H1 s1 r1 p1 ⟨q, e1, h1⟩ => ?_
  subst e1
  refine h1 X hX F s R1 H1 r1 _ fun v2 d2 E2 R2 H2 s2 r2 p2 ⟨l1, l2, h2⟩ => ?_
  refine ⟨v1, v2, rfl, ?_⟩
  have r3 := r2.setDat (i := i) l1 gi (dp_mono s2 _ _ (show Dp S.K R1 v1 q from p1))
  cases d2 with
  | no => exact p2.elim
  | dat d => exact W.nx _ _ R2 H2 (s1.trans s2) (r3.setDat (by rw [List.length_set]; exact l2) gj p2) h2
  | own d =>
    obtain ⟨ad, rfl, z1, z2, z3, z4⟩ := p2
    refine W.nx _ _ R2 H2 (s1.trans s2) (r3.setOwn (by rw [List.length_set]; exact l2) gj ⟨ad, rfl, z1, z2, z3, fun m d' e z => ?_⟩) h2
    rcases get_set e with ⟨_, e'⟩ | ⟨hn, e'⟩
    · cases e'
    · rw [set_ne hn] at z
      exact z4 m d' e' z
/-- a, b = e, a pair of data unpacked -/
theorem s_unpack2 {px py pt sp : Pos} {kt : Nat} (hN : S.N[i]? = some x) (hx : Loc S.sc x) (hA : S.asg x = true) (hNy : S.N[j]? = some y) (hy : Loc S.sc y) (hAy : S.asg y = true)
    (h : WpD S e E fun d E1 => ∃ d1 d2, d = .tuple [d1, d2] ∧ notOwn E1 i ∧ notOwn (E1.set i (.dat d1)) j ∧ Z.nx ((E1.set i (.dat d1)).set j (.dat d2)))
    (hw : ∀ env : Env, env.scope = S.sc → swappedStores [.Tuple [.Name x px, .Name y py] kt pt] e env = pure none)
    (hs : ∀ env : Env, swapsWithSole [.Tuple [.Name x px, .Name y py] kt pt] e sp.line env = pure false := by intro _; rfl) :
    WpS S G (.Assign [.Tuple [.Name x px, .Name y py] kt pt] e sp) E Z := fun X hX F s R H hg r D W => by
  refine ⟨_, ps_asg pe_rd (pg_rd (tg := .Tuple [.Name x px, .Name y py] kt pt)) (hs _) (hw _ hX.sc) rfl, ?_⟩
  refine h X hX F s R H r _ fun v d E1 R1 H1 s1 r1 p1 ⟨d1, d2, e0, n1, n2, h1⟩ => ?_
  subst e0
  exact g_two (vs := [i, j]) (P := fun E' => E' = _) hN hx hA (by simp) n1 hNy hy hAy (by simp) n2 rfl X hX F s R1 H1 v r1 p1 _ fun s4 E4 _ _ r4 e4 => by
    subst e4
    exact W.nx _ s4 R1 _ s1 r4 h1

/-! ### walks: signs of a text, enumerate, zip -/
def signs (z : Str) : List D := z.cps.toList.map fun c => (.str ⟨#[c]⟩ : D)
theorem it_str {K : PySem.W.Frag} {R : Hp} {z : Str} : ItOk K R (Its z) (signs z) where
  go := fun F s E R2 H2 t d _ r e => by
    unfold signs at e
    rw [List.getElem?_map] at e
    cases q : z.cps.toList[t]? with
    | none => rw [q] at e; cases e
    | some cc =>
      rw [q] at e
      have e' : d = .str ⟨#[cc]⟩ := (Option.some.inj e).symm
      subst e'
      have ht : t < z.cps.size := by
        have := (List.getElem?_eq_some_iff.mp q).1
        rwa [Array.length_toList] at this
      refine ⟨ht, fun v H3 ⟨h1, c', h2, h3⟩ => ⟨R2, Same.refl _, by rw [h1]; exact r, ?_⟩⟩
      rw [Array.getElem?_toList] at q
      rw [q] at h2
      cases h2
      rw [h3]
      exact .str _
  stop := fun F s E R2 H2 _ r => by
    show z.cps.size ≤ (signs z).length
    unfold signs
    rw [List.length_map, Array.length_toList]
    exact Nat.le_refl _
variable {tg it : Expr}
theorem wi_str {P : List D → En → Prop} (h : WpD S it E fun d E1 => ∃ z : Str, d = .str z ∧ P (signs z) E1) : WpI S tg it E P := fun X hX F s R H r Rr k => by
  refine ⟨_, pi_str pe_rd, ?_⟩
  refine h X hX F s R H r _ fun v d E1 R1 H1 s1 r1 p1 ⟨z, hn, h3⟩ => ?_
  subst hn
  cases p1
  exact ⟨z, rfl, k _ _ E1 R1 H1 s1 r1 it_str h3⟩
def enumD (ds : List D) : List D := ds.mapIdx fun (n : Nat) d => (.tuple [.int n, d] : D)
theorem it_enum {K : PySem.W.Frag} {R : Hp} {p : Addr} {vs : List V} {ds : List D} (h : SqL K R p vs) (hd : DpAll K R vs ds) : ItOk K R (Ite K p) (enumD ds) where
  go := fun F s E R2 H2 t d e r hd' => by
    have q : SqL K H2 p vs := r.sub.seq (e.seq h)
    unfold enumD at hd'
    rw [List.getElem?_mapIdx] at hd'
    cases z : ds[t]? with
    | none => rw [z] at hd'; cases hd'
    | some d1 =>
      rw [z] at hd'
      have e' : d = .tuple [.int t, d1] := (Option.some.inj hd').symm
      subst e'
      obtain ⟨v, h1, h2⟩ := dpAll_get hd z
      refine ⟨⟨vs, v, q, h1⟩, ?_⟩
      rintro x H3 ⟨T, x0, rfl, hT, rfl, hx⟩
      have e2 := hx vs q
      rw [h1] at e2
      cases e2
      refine ⟨_, same_upd (r.freeR hT), r.growR hT, .tup (SqT.of upd_same) (.cons (.int _) (dpAll_one (dp_mono (e.trans (same_upd (r.freeR hT))) _ _ h2)))⟩
  stop := fun F s E R2 H2 e r => ⟨vs, r.sub.seq (e.seq h), by unfold enumD; rw [List.length_mapIdx, dpAll_len hd]; exact Nat.le_refl _⟩
theorem wi_enum {P : List D → En → Prop} {elts : List Expr} {kk : Nat} {tp : Pos} (hg : GlS S "enumerate") (hm : S.mg "enumerate" = none) (h : WpD S a E fun d E1 => ∃ ds, d = .list ds ∧ P (enumD ds) E1) (hst : ∀ env : Env, starEach [a] env = (false, eval a env) :: starEach [] env := by intro _; rfl) :
    WpI S (.Tuple elts kk tp) (.Call (.Name "enumerate" p) [a] [] pos) E P := fun X hX F s R H r Rr k => by
  refine ⟨_, pi_enum (hg.gl hX) (by rw [hX.mg]; exact hm) (pa_cons pe_rd pa_nil (hst _)) (hst _), ?_⟩
  refine h X hX F s R H r _ fun v d E1 R1 H1 s1 r1 p1 ⟨ds, hn, h3⟩ => ?_
  subst hn
  cases p1 with
  | lst hq hd =>
    rw [hX.K]
    exact ⟨_, _, rfl, r1.sub.seq hq, k _ _ E1 R1 H1 s1 r1 (it_enum hq hd) h3⟩
def zipD (xs ys : List D) : List D := (xs.zip ys).map fun p => (.tuple [p.1, p.2] : D)
theorem zipD_get {xs ys : List D} {t : Nat} {d : D} (h : (zipD xs ys)[t]? = some d) : ∃ d1 d2, xs[t]? = some d1 ∧ ys[t]? = some d2 ∧ d = .tuple [d1, d2] := by
  unfold zipD at h
  rw [List.getElem?_map] at h
  cases z : (xs.zip ys)[t]? with
  | none => rw [z] at h; cases h
  | some q =>
    rw [z] at h
    rw [List.getElem?_zip_eq_some] at z
    exact ⟨q.1, q.2, z.1, z.2, (Option.some.inj h).symm⟩
theorem zipD_len {xs ys : List D} : (zipD xs ys).length = min xs.length ys.length := by unfold zipD; rw [List.length_map, List.length_zip]
theorem it_zipL {K : PySem.W.Frag} {R : Hp} {p q : Addr} {vs us : List V} {xs ys : List D} (h : SqL K R p vs) (hd : DpAll K R vs xs) (h' : SqL K R q us) (hd' : DpAll K R us ys) : ItOk K R (Itz K p q) (zipD xs ys) where
  go := fun F s E R2 H2 t d e r hz => by
    have q1 : SqL K H2 p vs := r.sub.seq (e.seq h)
    have q2 : SqL K H2 q us := r.sub.seq (e.seq h')
    obtain ⟨d1, d2, z1, z2, rfl⟩ := zipD_get hz
    obtain ⟨v1, h1, k1⟩ := dpAll_get hd z1
    obtain ⟨v2, h2, k2⟩ := dpAll_get hd' z2
    refine ⟨⟨vs, us, v1, v2, q1, q2, h1, h2⟩, ?_⟩
    rintro x H3 ⟨T, x1, x2, rfl, hT, rfl, hx1, hx2⟩
    have e1 := hx1 vs q1
    have e2 := hx2 us q2
    rw [h1] at e1
    rw [h2] at e2
    cases e1
    cases e2
    have sm := e.trans (same_upd (o := .tup [v1, v2]) (r.freeR hT))
    exact ⟨_, same_upd (r.freeR hT), r.growR hT, .tup (SqT.of upd_same) (.cons (dp_mono sm _ _ k1) (dpAll_one (dp_mono sm _ _ k2)))⟩
  stop := fun F s E R2 H2 e r => ⟨vs, us, r.sub.seq (e.seq h), r.sub.seq (e.seq h'), by
    rw [zipD_len, dpAll_len hd, dpAll_len hd']
    omega⟩
theorem it_zipT {K : PySem.W.Frag} {R : Hp} {p q : Addr} {vs us : List V} {xs ys : List D} (h : SqT K R p vs) (hd : DpAll K R vs xs) (h' : SqT K R q us) (hd' : DpAll K R us ys) : ItOk K R (RZ.ItzT K p q) (zipD xs ys) where
  go := fun F s E R2 H2 t d e r hz => by
    have q1 : SqT K H2 p vs := same_t r.sub (same_t e h)
    have q2 : SqT K H2 q us := same_t r.sub (same_t e h')
    obtain ⟨d1, d2, z1, z2, rfl⟩ := zipD_get hz
    obtain ⟨v1, h1, k1⟩ := dpAll_get hd z1
    obtain ⟨v2, h2, k2⟩ := dpAll_get hd' z2
    refine ⟨⟨vs, us, v1, v2, q1, q2, h1, h2⟩, ?_⟩
    rintro x H3 ⟨T, x1, x2, rfl, hT, rfl, hx1, hx2⟩
    have e1 := hx1 vs q1
    have e2 := hx2 us q2
    rw [h1] at e1
    rw [h2] at e2
    cases e1
    cases e2
    have sm := e.trans (same_upd (o := .tup [v1, v2]) (r.freeR hT))
    exact ⟨_, same_upd (r.freeR hT), r.growR hT, .tup (SqT.of upd_same) (.cons (dp_mono sm _ _ k1) (dpAll_one (dp_mono sm _ _ k2)))⟩
  stop := fun F s E R2 H2 e r => ⟨vs, us, same_t r.sub (same_t e h), same_t r.sub (same_t e h'), by
    rw [zipD_len, dpAll_len hd, dpAll_len hd']
    omega⟩
theorem wi_zip {P : List D → En → Prop} {elts : List Expr} {kk : Nat} {tp : Pos} (hg : GlS S "zip") (hm : S.mg "zip" = none) (h : WpD S a E fun d E1 => WpD S b E1 fun d' E2 => ∃ xs ys, ((d = .list xs ∧ d' = .list ys) ∨ (d = .tuple xs ∧ d' = .tuple ys)) ∧ P (zipD xs ys) E2)
    (hst : ∀ env : Env, starEach [a, b] env = (false, eval a env) :: starEach [b] env := by intro _; rfl) (hst2 : ∀ env : Env, starEach [b] env = (false, eval b env) :: starEach [] env := by intro _; rfl) (hpl : ∀ env : Env, (backTo pos (starEach [b] env)).any (·.1) = false := by intro _; rfl) :
    WpI S (.Tuple elts kk tp) (.Call (.Name "zip" p) [a, b] [] pos) E P := fun X hX F s R H r Rr k => by
  refine ⟨_, RZ.pi_zipA (hg.gl hX) (by rw [hX.mg]; exact hm) (pa_cons pe_rd (pa_cons pe_rd pa_nil (hst2 _)) (hst _)) (hst _) (hpl _), ?_⟩
  refine h X hX F s R H r _ fun v d E1 R1 H1 s1 r1 p1 h1 => ?_
  refine h1 X hX F s R1 H1 r1 _ fun v2 d2 E2 R2 H2 s2 r2 p2 ⟨xs, ys, hd, h3⟩ => ?_
  have p1 := dp_mono s2 _ _ p1
  rw [hX.K]
  rcases hd with ⟨rfl, rfl⟩ | ⟨rfl, rfl⟩
  · cases p1 with
    | lst hq hd =>
      cases p2 with
      | lst hq' hd' => exact ⟨_, _, _, _, rfl, .inl ⟨r2.sub.seq hq, r2.sub.seq hq', k _ _ E2 R2 H2 (s1.trans s2) r2 (it_zipL hq hd hq' hd') h3⟩⟩
  · cases p1 with
    | tup hq hd =>
      cases p2 with
      | tup hq' hd' => exact ⟨_, _, _, _, rfl, .inr ⟨same_t r2.sub hq, same_t r2.sub hq', k _ _ E2 R2 H2 (s1.trans s2) r2 (it_zipT hq hd hq' hd') h3⟩⟩
/-- x + e, x an owned list, e a new one -/
theorem wp_catOwn {xs : List D} (hN : S.N[i]? = some x) (hv : Vis S.sc x) (hE : E[i]? = some (Sl.own (.list xs))) (h : Wp S b E fun r E1 => ∃ ys, r = .own (.list ys) ∧ E1[i]? = some (Sl.own (.list xs)) ∧ xs.length + ys.length ≤ 100000 ∧ P (.own (.list (xs ++ ys))) E1)
    (hd : (x == ("__debug__" : Str)) = false := by decide) (hcd : (x == ("__classdict__" : Str)) = false := by decide) : Wp S (.BinOp (.Name x p) .Add b pos) E P := fun X hX F s R H r Q k => by
  refine ⟨_, pe_op op_cat (pe_var (i := i) (by rw [hX.N]; exact hN) (by rw [hX.sc]; exact hv) hd hcd) pe_rd, ?_⟩
  obtain ⟨ad, ha, _, _, _⟩ := r.own i _ hE
  refine ⟨_, ha, ?_⟩
  refine h X hX F s R H r _ fun v d E1 R1 H1 s1 r1 p1 ⟨ys, e1, e2, hl, h1⟩ => ?_
  subst e1
  obtain ⟨bd, rfl, z1, ⟨us, z2, z2'⟩, z3, z4⟩ := p1
  obtain ⟨ad', ha', _, ⟨vs, g1, g2⟩, _⟩ := r1.own i _ e2
  rw [ha] at ha'
  cases ha'
  refine ⟨ad, bd, vs, us, rfl, rfl, g1, z2, Nat.le_trans (by rw [dpAll_len g2, dpAll_len z2']; exact hl) (by decide : 100000 ≤ sizeLine), fun q hq => ?_⟩
  exact k _ (.own (.list (xs ++ ys))) E1 R1 _ s1 (r1.grow hq) ⟨q, rfl, r1.freeR hq, ⟨_, upd_same, dpAll_app g2 z2'⟩, r1.free0 hq, own_no r1 hq⟩ h1
end
end Wq

namespace Wq
open PySem L2
section
variable {S : Sx} {E : En} {pos p : Pos} {x : Str} {P : D → En → Prop} {a b : Expr}
theorem nm (i : Nat) {d : D} (h : P d E) (hN : S.N[i]? = some x := by rfl) (hv : Vis S.sc x := by first | exact Or.inl rfl | exact Or.inr (Or.inl rfl) | exact Or.inr (Or.inr rfl)) (hE : E[i]? = some (.dat d) := by rfl)
    (hd : (x == ("__debug__" : Str)) = false := by decide +kernel) (hcd : (x == ("__classdict__" : Str)) = false := by decide +kernel) : WpD S (.Name x pos) E P := wd_name hN hv hE h hd hcd
theorem nmo (i : Nat) {ds : List D} (h : P (.list ds) E) (hN : S.N[i]? = some x := by rfl) (hv : Vis S.sc x := by first | exact Or.inl rfl | exact Or.inr (Or.inl rfl) | exact Or.inr (Or.inr rfl)) (hE : E[i]? = some (.own (.list ds)) := by rfl)
    (hd : (x == ("__debug__" : Str)) = false := by decide +kernel) (hcd : (x == ("__classdict__" : Str)) = false := by decide +kernel) : WpK S (.Name x pos) E P := wk_own hN hv hE h hd hcd
theorem wo_none {P : Option Int → En → Prop} (h : P none E) : WpO S none E P := h
theorem wo_some {P : Option Int → En → Prop} (h : WpD S a E fun d E1 => ∃ k, d = .int k ∧ P (some k) E1) : WpO S (some a) E P := h
theorem and_tf {t : Bool} {A B : Prop} (h1 : t = true → A) (h2 : t = false → B) : (t = true → A) ∧ (t = false → B) := ⟨h1, h2⟩
theorem no_i {E : En} {i : Nat} {q : Sl} (h : E[i]? = some q) (hq : ∀ d, q ≠ Sl.own d) : notOwn E i := ⟨q, h, hq⟩
end
end Wq

namespace Wq
open PySem L2 PySem.Spec PyProof.Rows

/-! ### an order of keys -/
def ltK : Key → Key → Bool
  | .inl i, .inl j => decide (i < j)
  | .inr x, .inr y => decide (x.cps.toList < y.cps.toList)
  | .inl _, .inr _ => true
  | .inr _, .inl _ => false
def lexK : List Key → List Key → Bool
  | [], [] => false
  | [], _ :: _ => true
  | _ :: _, [] => false
  | x :: xs, y :: ys => if x = y then lexK xs ys else ltK x y
theorem str_ext {x y : Str} (h : x.cps.toList = y.cps.toList) : x = y := by
  cases x; cases y
  simp only at h
  rw [Array.toList_inj.mp h]
theorem ltK_irr (x : Key) : ltK x x = false := by
  cases x with
  | inl i => simp [ltK]
  | inr s => simp [ltK, List.lt_irrefl]
theorem ltK_asym {x y : Key} (h : ltK x y = true) : ltK y x = false := by
  cases x <;> cases y <;> simp only [ltK, decide_eq_true_eq, decide_eq_false_iff_not] at h ⊢
  · omega
  · cases h
  · exact fun z => List.lt_irrefl _ (List.lt_trans h z)
theorem ltK_trans {x y z : Key} (h : ltK x y = true) (h' : ltK y z = true) : ltK x z = true := by
  cases x <;> cases y <;> cases z <;> simp only [ltK, decide_eq_true_eq] at h h' ⊢
  · omega
  · cases h'
  · cases h
  · cases h
  · cases h'
  · exact List.lt_trans h h'
theorem ltK_total {x y : Key} (h : x ≠ y) : ltK x y = true ∨ ltK y x = true := by
  cases x with
  | inl i =>
    cases y with
    | inl j =>
      have : i ≠ j := fun e => h (by rw [e])
      simp only [ltK, decide_eq_true_eq]
      omega
    | inr s => exact .inl rfl
  | inr s =>
    cases y with
    | inl j => exact .inr rfl
    | inr t =>
      simp only [ltK, decide_eq_true_eq]
      have hne : s.cps.toList ≠ t.cps.toList := fun e => h (by rw [str_ext e])
      by_cases q : s.cps.toList < t.cps.toList
      · exact .inl q
      · refine .inr ?_
        have q' : t.cps.toList ≤ s.cps.toList := q
        by_cases q2 : t.cps.toList < s.cps.toList
        · exact q2
        · exact absurd (List.le_antisymm (show s.cps.toList ≤ t.cps.toList from q2) q') hne
theorem lexK_irr : ∀ x : List Key, lexK x x = false
  | [] => rfl
  | x :: xs => by unfold lexK; rw [if_pos rfl]; exact lexK_irr xs
theorem lexK_asym : ∀ {x y : List Key}, lexK x y = true → lexK y x = false
  | [], [], h => rfl
  | [], _ :: _, _ => rfl
  | _ :: _, [], h => by cases h
  | x :: xs, y :: ys, h => by
    unfold lexK at h ⊢
    by_cases e : x = y
    · subst e
      rw [if_pos rfl] at h ⊢
      exact lexK_asym h
    · rw [if_neg e] at h
      rw [if_neg fun z => e z.symm]
      exact ltK_asym h
theorem lexK_trans : ∀ {x y z : List Key}, lexK x y = true → lexK y z = true → lexK x z = true
  | [], [], _, h, _ => by cases h
  | [], _ :: _, [], _, h => by cases h
  | [], _ :: _, _ :: _, _, _ => rfl
  | _ :: _, [], _, h, _ => by cases h
  | _ :: _, _ :: _, [], _, h => by cases h
  | x :: xs, y :: ys, z :: zs, h, h' => by
    unfold lexK at h h' ⊢
    by_cases e : x = y
    · subst e
      rw [if_pos rfl] at h
      by_cases e' : x = z
      · rw [if_pos e'] at h' ⊢
        exact lexK_trans h h'
      · rw [if_neg e'] at h' ⊢
        exact h'
    · rw [if_neg e] at h
      by_cases e' : y = z
      · subst e'
        rw [if_neg e]
        exact h
      · rw [if_neg e'] at h'
        have t := ltK_trans h h'
        have ne : x ≠ z := fun q => by
          rw [q, ltK_irr] at t
          cases t
        rw [if_neg ne]
        exact t
theorem lexK_total : ∀ {x y : List Key}, lexK x y = false → lexK y x = false → x = y
  | [], [], _, _ => rfl
  | [], _ :: _, h, _ => by cases h
  | _ :: _, [], _, h => by cases h
  | x :: xs, y :: ys, h, h' => by
    unfold lexK at h h'
    by_cases e : x = y
    · subst e
      rw [if_pos rfl] at h h'
      rw [lexK_total h h']
    · rw [if_neg e] at h
      rw [if_neg fun z => e z.symm] at h'
      rcases ltK_total e with q | q
      · rw [h] at q; cases q
      · rw [h'] at q; cases q
theorem swoK {α : Type} (k : α → List Key) : SrtO.Swo fun x y => lexK (k x) (k y) := by
  refine ⟨fun x y h => lexK_asym h, fun x y z h1 h2 => ?_⟩
  cases q : lexK (k z) (k x) with
  | false => rfl
  | true =>
    exfalso
    cases a : lexK (k x) (k y) with
    | false =>
      have e := lexK_total a h1
      rw [← e] at h2
      rw [h2] at q
      cases q
    | true =>
      have t := lexK_trans q a
      rw [h2] at t
      cases t

/-! ### tuples of keys, compared by the sort -/
def isInt : Key → Bool
  | .inl _ => true
  | .inr _ => false
abbrev KeysV : List Key → List Value → Prop := Paired fun k u => keyIs k u = true
def TupV (h : Heap) (v : Value) (ks : List Key) : Prop := ∃ (a : Addr) (o : Obj) (us : List Value) (n : Nat), v = .ref a ∧ h.get? a = some o ∧ o.cls = .type "tuple" ∧ o.data = .seq us.toArray n ∧ KeysV ks us
theorem TupV.keeps {h h' : Heap} {v : Value} {ks : List Key} (t : TupV h v ks) (k : ∀ b o, h.get? b = some o → o.cls = .type "tuple" → h'.get? b = some o) : TupV h' v ks := by
  obtain ⟨a, o, us, n, e, ho, hc, hd, hk⟩ := t
  exact ⟨a, o, us, n, e, k _ _ ho hc, hc, hd, hk⟩
section
variable {prog : Program} {w : World} {A : Around} {E : Value → Shared → Prop} {s : Shared}
theorem one_lt {p q : Key} {u v : Value} {c : Bool} (hs : isInt p = isInt q) (hu : keyIs p u = true) (hv : keyIs q v = true) {Q : Bool → Shared → Prop} (h : Q (ltK p q) s) : wpAny (model prog w) A (oneLt' c u v) Q (fun _ _ => False) s := by
  rcases keyIs_shape hu with ⟨i, t, rfl, rfl⟩ | ⟨x, t, rfl, rfl⟩
  · rcases keyIs_shape hv with ⟨j, t', rfl, rfl⟩ | ⟨y, t', rfl, rfl⟩
    · cases c with
      | true => exact oneLt_int h
      | false => exact PySem.W.kat_one _ _ (lt_int h)
    · cases hs
  · rcases keyIs_shape hv with ⟨j, t', rfl, rfl⟩ | ⟨y, t', rfl, rfl⟩
    · cases hs
    · cases c with
      | true => exact oneLt_str h
      | false => exact PySem.W.kat_one _ _ (PyProof.Rows.lt_str h)
theorem lex_run {Q : Bool → Shared → Prop} : ∀ {ps qs : List Key} {us vs : List Value} {i : Nat}, ps.map isInt = qs.map isInt → KeysV ps us → KeysV qs vs → Q (lexK ps qs) s → PySem.W.KatLex prog w A true (decide (us.length < vs.length)) Q (us.zip vs) i s
  | [], [], _, _, i, _, .nil, .nil, h => by
    show Q (decide ((0 : Nat) < 0)) s
    have : decide ((0 : Nat) < 0) = false := by decide
    rw [this]
    exact h
  | [], _ :: _, _, _, _, hs, _, _, _ => by simp at hs
  | _ :: _, [], _, _, _, hs, _, _, _ => by simp at hs
  | p :: ps, q :: qs, _, _, i, hs, .cons h1 t1, .cons h2 t2, h => by
    simp only [List.map_cons, List.cons.injEq] at hs
    refine PySem.W.kat_cons ((mixKind prog w).eqBool h1 h2 ?_)
    unfold lexK at h
    refine PySem.W.kat_go (fun e => ?_) (fun e => ?_)
    · have e' : p = q := of_decide_eq_true e
      rw [if_pos e'] at h
      have r := lex_run (Q := Q) (i := i + 1) hs.2 t1 t2 h
      refine PySem.W.kat_yes ?_
      simp only [List.length_cons, Nat.add_lt_add_iff_right]
      exact r
    · have e' : ¬ p = q := of_decide_eq_false e
      rw [if_neg e'] at h
      exact PySem.W.kat_no (one_lt hs.1 h1 h2 h)
theorem tups_cmp {vs : List Value} {k : Value → List Key} {sig : List Bool} (hp : ∀ v ∈ vs, TupV s.heap v (k v) ∧ (k v).map isInt = sig) : SrtO.Cmp prog w A s (tuples' true) (fun p => p.1 ∈ vs) (SrtO.lt2 fun v u => lexK (k v) (k u)) := by
  intro p q hm hm'
  obtain ⟨⟨a, o, us, n, e, ho, hc, hd, hk⟩, h1⟩ := hp _ hm
  obtain ⟨⟨a', o', us', n', e', ho', hc', hd', hk'⟩, h1'⟩ := hp _ hm'
  show wpAny (model prog w) A (keyLt' (tuples' true) p.1 q.1) (fun r s' => s' = s ∧ r = lexK (k p.1) (k q.1)) (fun _ _ => False) s
  have go : ∀ x y : Value, x = .ref a → y = .ref a' → wpAny (model prog w) A (keyLt' (tuples' true) x y) (fun r s' => s' = s ∧ r = lexK (k p.1) (k q.1)) (fun _ _ => False) s := by
    rintro _ _ rfl rfl
    refine PySem.W.kat_lt ho hd ho' hd' ?_
    have r := lex_run (prog := prog) (w := w) (A := A) (s := s) (Q := fun r s' => s' = s ∧ r = lexK (k p.1) (k q.1)) (i := 0) (h1.trans h1'.symm) hk hk' ⟨rfl, rfl⟩
    simpa only [List.size_toArray] using r
  exact go _ _ e e'
theorem firsts {h : Heap} {b : Bool} {sig : List Bool} : ∀ {vs : List Value} {k : Value → List Key}, (∀ v ∈ vs, TupV h v (k v) ∧ (k v).map isInt = b :: sig) → ∃ fs : List Value, PySem.W.KatTups h vs fs ∧ fs.length = vs.length ∧ ∀ f ∈ fs, ∃ q : Key, keyIs q f = true ∧ isInt q = b
  | [], _, _ => ⟨[], PySem.W.KatTups.nil, rfl, fun _ hm => by cases hm⟩
  | v :: vs, k, hp => by
    obtain ⟨fs, h1, h2, h3⟩ := firsts (vs := vs) (k := k) fun v' hm => hp v' (List.mem_cons_of_mem _ hm)
    obtain ⟨⟨a, o, us, n, e, ho, hc, hd, hk⟩, hs⟩ := hp v List.mem_cons_self
    subst e
    generalize k (.ref a) = ks at hk hs
    cases hk with
    | nil => simp at hs
    | cons r t =>
      rename_i q u _ us
      simp only [List.map_cons, List.cons.injEq] at hs
      refine ⟨u :: fs, PySem.W.KatTups.cons ho hc hd (by simp) h1, by rw [List.length_cons, List.length_cons, h2], fun f hm => ?_⟩
      rcases List.mem_cons.mp hm with rfl | hm
      · exact ⟨q, r, hs.1⟩
      · exact h3 f hm
theorem tups_sortable {a : Addr} {vs : List Value} {k : Value → List Key} {b : Bool} {sig : List Bool} (h0 : 0 < vs.length) (hp : ∀ v ∈ vs, TupV s.heap v (k v) ∧ (k v).map isInt = b :: sig) (ha : ∀ o, s.heap.get? a = some o → o.cls ≠ .type "tuple") :
    SrtO.SortableO prog w A s a vs fun v u => lexK (k v) (k u) := by
  intro h' keep
  have hp' : ∀ v ∈ vs, TupV h' v (k v) ∧ (k v).map isInt = b :: sig := fun v hm => ⟨(hp v hm).1.keeps fun c o e cl => keep c o (fun z => by subst z; exact ha o e cl) e, (hp v hm).2⟩
  obtain ⟨fs, h1, h2, h3⟩ := firsts hp'
  refine ⟨tuples' true, fun Q E hq => ?_, tups_cmp hp'⟩
  cases b with
  | true =>
    refine PySem.W.kat_kind (T := .type "int") h1 (by omega) (fun f hm => ?_) (by rfl) ?_
    · obtain ⟨q, hq1, hq2⟩ := h3 f hm
      rcases keyIs_shape hq1 with ⟨i, t, rfl, rfl⟩ | ⟨x, t, rfl, rfl⟩
      · exact PySem.W.Looks.now
      · cases hq2
    · have e : (Value.type "int" != Value.type "tuple") = true := by decide +kernel
      rw [e]
      exact hq
  | false =>
    refine PySem.W.kat_kind (T := .type "str") h1 (by omega) (fun f hm => ?_) (by rfl) ?_
    · obtain ⟨q, hq1, hq2⟩ := h3 f hm
      rcases keyIs_shape hq1 with ⟨i, t, rfl, rfl⟩ | ⟨x, t, rfl, rfl⟩
      · cases hq2
      · exact PySem.W.Looks.now
    · have e : (Value.type "str" != Value.type "tuple") = true := by decide +kernel
      rw [e]
      exact hq
end
/-- sorted(xs), xs a list of tuples of ints and texts, of one form -/
def rSortK (K : PySem.W.Frag) : List V → Hp → VK → Prop := fun vs H Q => ∃ (a : Addr) (xs : List V) (kss : List (List Key)) (b : Bool) (sig : List Bool),
  vs = [V.ref a] ∧ SqL K H a xs ∧ xs.length = kss.length ∧ (∀ p ∈ xs.zip kss, ∃ t, p.1 = V.ref t ∧ SqT K H t (p.2.map kV) ∧ p.2.map isInt = b :: sig) ∧
  ∀ ys ls q, ys.length = ls.length → (ys.zip ls).Perm (xs.zip kss) → ls.Pairwise (fun x y => lexK y x = false) → H q = none → Q (.ref q) (upd H q (.lst ys))
theorem keysV_of : ∀ {ks : List Key} {us : List Value}, Vals (ks.map kV) us → KeysV ks us
  | [], _, h => by cases h; exact .nil
  | k :: ks, _, h => by
    cases h with
    | cons r t =>
      refine .cons ?_ (keysV_of t)
      cases k with
      | inl i => obtain ⟨t, rfl⟩ := r; exact keyIs_int _ _
      | inr x => obtain ⟨t, rfl⟩ := r; exact keyIs_str _ _
theorem kV_inj : ∀ {a b : List Key}, a.map kV = b.map kV → a = b
  | [], [], _ => rfl
  | [], _ :: _, h => by cases h
  | _ :: _, [], h => by cases h
  | x :: xs, y :: ys, h => by
    simp only [List.map_cons, List.cons.injEq] at h
    rw [kV_inj h.2]
    cases x <;> cases y <;> simp [kV] at h <;> rw [h.1]
theorem zip_map_self {α β : Type} (f : α → β) : ∀ l : List α, l.zip (l.map f) = l.map fun v => (v, f v)
  | [] => rfl
  | x :: l => by rw [List.map_cons, List.zip_cons_cons, zip_map_self f l]; rfl
theorem fun_of_zip {α β : Type} [Inhabited β] : ∀ {xs : List α} {ks : List β}, xs.length = ks.length → (∀ p ∈ xs.zip ks, ∀ q ∈ xs.zip ks, p.1 = q.1 → p.2 = q.2) → ∃ f : α → β, xs.map f = ks := by
  intro xs ks hl hu
  classical
  refine ⟨fun x => if h : ∃ k, (x, k) ∈ xs.zip ks then Classical.choose h else default, ?_⟩
  apply List.ext_getElem
  · rw [List.length_map, hl]
  · intro i h1 h2
    rw [List.getElem_map]
    have hx : i < xs.length := by rw [List.length_map] at h1; exact h1
    have hm : (xs[i], ks[i]) ∈ xs.zip ks := by
      have hz : i < (xs.zip ks).length := by rw [List.length_zip]; omega
      have e : (xs.zip ks)[i] = (xs[i], ks[i]) := List.getElem_zip
      rw [← e]
      exact List.getElem_mem hz
    have ex : ∃ k, (xs[i], k) ∈ xs.zip ks := ⟨_, hm⟩
    rw [dif_pos ex]
    exact hu _ (Classical.choose_spec ex) _ hm rfl
theorem cr_sortK {X : Cx} : CallR X (.builtin "sorted") (rSortK X.K) := by
  intro pins s σ H vs us Q I r h
  obtain ⟨a, xs, kss, b, sig, rfl, hs, hlen, hx, q⟩ := h
  obtain ⟨its, rv, hl, hz⟩ := I.list hs
  obtain ⟨u, rfl, ru⟩ := vals1 r
  obtain rfl : u = Value.ref a := ru
  obtain ⟨k, hk⟩ : ∃ k : V → List Key, xs.map k = kss := by
    refine fun_of_zip hlen fun p hp p' hp' e => ?_
    obtain ⟨t, e1, h1, _⟩ := hx p hp
    obtain ⟨t', e2, h2, _⟩ := hx p' hp'
    have et : t = t' := by
      rw [e1, e2] at e
      exact V.ref.inj e
    subst et
    exact kV_inj (I.tuple_inj h1 h2)
  have hx' : ∀ x ∈ xs, ∃ t, x = V.ref t ∧ SqT X.K H t ((k x).map kV) ∧ (k x).map isInt = b :: sig := fun x m => by
    refine hx (x, k x) ?_
    rw [← hk, zip_map_self]
    exact List.mem_map.mpr ⟨x, m, rfl⟩
  have isRef : ∀ x ∈ xs, ∃ t, x = V.ref t := fun x m => (hx' x m).imp fun _ h => h.1
  obtain ⟨e1, e2⟩ := refs_back rv isRef
  have tv : ∀ v ∈ its, TupV s.heap v (k (backV v)) ∧ (k (backV v)).map isInt = b :: sig := by
    intro v hv
    obtain ⟨t, rfl⟩ := e2 v hv
    have hm : V.ref t ∈ xs := by rw [e1]; exact List.mem_map.mpr ⟨_, hv, rfl⟩
    obtain ⟨t', e, ht, hsg⟩ := hx' _ hm
    cases e
    obtain ⟨us, ru, ⟨o, ho, hc, n, hd⟩, _⟩ := I.tuple ht
    exact ⟨⟨t, o, us, n, rfl, ho, hc, hd, keysV_of ru⟩, hsg⟩
  have hz' : its.length ≤ sizeLine := by rw [← rv.length]; exact hz
  refine SrtO.sorted_ord (swoK fun u => k (backV u)) hl.isList hz' (fun h2 h1 ad had kk => ?_) fun out h1 h2 => ?_
  · refine tups_sortable (s := { s with heap := h1 }) (by omega) (fun v hv => ⟨(tv v hv).1.keeps fun c o e _ => (kk c o e).2, (tv v hv).2⟩) fun o e => ?_
    have e' : some o = some (seqObj "list" its.toArray 0) := e.symm.trans had
    cases e'
    intro c
    exact absurd (Value.type.inj c) (by decide)
  · have h3 : ∀ u ∈ out, ∃ a, u = Value.ref a := fun u hu => e2 u (h2.perm.mem_iff.mp hu)
    obtain ⟨n, hn⟩ := sortedAll_at s.heap its out.toArray
    have pm : (out.map backV).Perm xs := by
      rw [e1]
      exact h2.perm.map backV
    have pz : ((out.map backV).zip ((out.map backV).map k)).Perm (xs.zip kss) := by
      rw [← hk, zip_map_self, zip_map_self]
      exact pm.map _
    have pw : ((out.map backV).map k).Pairwise (fun x y => lexK y x = false) := by
      rw [List.pairwise_map, List.pairwise_map]
      exact h1
    have fr : H (s.heap.objs.size + 1) = none := I.hok.fresh (Nat.le_succ _)
    refine ⟨.ref (s.heap.objs.size + 1), upd H (s.heap.objs.size + 1) (.lst (out.map backV)), I.laid (t' := s.toks) (fun b o e => sortedAll_old e) (Nat.le_succ _) ⟨?_, out, n, vals_back h3, hn⟩, rfl, q _ _ _ ?_ pz pw fr⟩
    · rw [pm.length_eq]
      exact hz
    · rw [List.length_map, List.length_map, List.length_map]
end Wq

namespace Wq
open PySem L2 PySem.Spec PyProof.Rows

/-! ### repr of data -/
def isBox : D → Bool
  | .list _ => true
  | .tuple _ => true
  | _ => false
def rRepr (K : PySem.W.Frag) : List V → Hp → VK → Prop := fun xs H Q => ∃ (v : V) (d : D), xs = [v] ∧ Dp K H v d ∧ isBox d = true ∧ d.showable = true ∧ d.hasDict = false ∧ d.depth ≤ 40 ∧ d.shown.length ≤ sizeLine ∧ Q (.str d.shown) H
theorem cr_repr {X : Cx} (hg : X.A.guards = some []) (hu : X.A.units + 64 < cLine) : CallR X (.builtin "repr") (rRepr X.K) := by
  intro pins s σ H xs us Q I r h
  obtain ⟨v, d, rfl, hd, hb, hs, hn, hdep, hz, q⟩ := h
  obtain ⟨u, rfl, ru⟩ := vals1 r
  obtain ⟨as, rd⟩ := Dp.reads I d v u hd ru
  have isref : ∃ a, u = .ref a := by
    cases rd with
    | list _ _ _ _ => exact ⟨_, rfl⟩
    | tuple _ _ _ _ => exact ⟨_, rfl⟩
    | none => cases hb
    | bool _ => cases hb
    | int _ _ => cases hb
    | str _ _ => cases hb
    | dict _ _ _ _ _ => cases hb
  obtain ⟨a, rfl⟩ := isref
  refine repr_of_reads' rd hs (fun z => by rw [hn] at z; cases z) hg (by omega) (fun _ _ e => e) (fun h' t tk hk => ?_) hz
  exact ⟨.str d.shown, H, I.kept hk, ⟨_, rfl⟩, q⟩

/-! ### a text read from behind, a text some times -/
def revS (z : Str) : Str := ⟨z.cps.toList.reverse.toArray⟩
def tRevS (te : TE) : TE := fun σ H Q => te σ H fun x H1 => ∃ z : Str, x = .str z ∧ z.length ≤ 100000 ∧ Q (.str (revS z)) H1
theorem rev_made (z : Str) (t u : Tok) : sliceMade z t none none (some (-1, u)) = .str (revS z) := by
  unfold sliceMade slicePicked
  have h1 : ((Option.map (fun x : Int × Tok => x.1) (some (-1, u))).getD 1 == (1 : Int)) = false := by rfl
  rw [h1, Bool.false_and, if_neg Bool.false_ne_true]
  have e : Builtin.Str.strSliceIndices (Option.map (fun x : Int × Tok => x.1) none) (Option.map (fun x : Int × Tok => x.1) none) ((Option.map (fun x : Int × Tok => x.1) (some (-1, u))).getD 1) z.length = (List.range z.cps.size).reverse := by
    show sliceRange ((z.length : Int) - 1) (-1) (-1) = _
    rw [PySem.W.krv_sliceRange, PySem.W.krv_range]
    rfl
  rw [e, List.filterMap_reverse, PySem.W.krv_all]
  rfl
theorem pe_revS {X : Cx} {e : Expr} {te : TE} {k : Nat} {p1 p2 p3 pos : Pos} (he : PE X e te) :
    PE X (.Subscript e (.Slice none none (some (.UnaryOp .USub (.Constant (.int 1) k p1) p2)) p3) pos) (tRevS te) := by
  constructor
  intro pins s σ H Q I h
  apply Subscript_
  refine thn (he.run pins s σ H _ I h) ?_
  rintro v s1 ⟨x, H1, I1, r1, z, ex, hz, q⟩
  subst ex
  obtain ⟨t, rfl⟩ := r1
  have hst : PO X (some (.UnaryOp .USub (.Constant (.int 1) k p1) p2)) (tPart (tUn (rU fun i => .int (-i)) (tC (.int 1)))) := po_some (pe_un un_neg pe_int)
  apply wpAny_Slice
  refine thn (po_none.run pins s1 σ H1 (fun o H2 => o = none ∧ H2 = H1) I1 ⟨rfl, rfl⟩) ?_
  rintro vl s2 ⟨l, H2, I2, pl, el, e2⟩
  subst el e2
  refine thn (po_none.run pins s2 σ H2 (fun o H3 => o = none ∧ H3 = H2) I2 ⟨rfl, rfl⟩) ?_
  rintro vu s3 ⟨u, H3, I3, pu, eu, e3⟩
  subst eu e3
  refine thn (hst.run pins s3 σ H3 (fun o H4 => o = some (-1) ∧ H4 = H3) I3 ⟨1, rfl, -1, rfl, rfl, rfl⟩) ?_
  rintro vs s4 ⟨o, H4, I4, ps, eo, e4⟩
  subst eo e4
  cases pl
  cases pu
  cases ps with
  | int _ tk =>
    have I5 : Inv X pins σ H4 { s4 with heap := s4.heap.push { cls := .type "slice", data := .fields #[.none, .none, .int (-1) tk] } } := I4.kept (t' := s4.toks) fun b ob q => Heap.get?_push_of_some _ q
    show wpAny (model X.prog X.w) X.A (subscriptTail e (.Slice none none (some (.UnaryOp .USub (.Constant (.int 1) k p1) p2)) p3) (.str z t) (.ref s4.heap.objs.size)) (EP X pins σ Q) X.xe _
    refine tail_any (ops := [.str z t, .ref s4.heap.objs.size]) (typeIs_str _ _ _) F.slot_str_getitem.lookup ?_ (by with_unfolding_all rfl)
    refine wpAny_getItem_str_slice (l := none) (u := none) (st := some (-1, tk)) ⟨_, Heap.get?_push_size _ rfl, rfl, rfl⟩ rfl ?_
    rw [rev_made]
    have hl : (revS z).length ≤ sizeLine := by
      show (z.cps.toList.reverse.toArray).size ≤ sizeLine
      rw [List.size_toArray, List.length_reverse, Array.length_toList]
      exact Nat.le_trans hz (by decide)
    refine ⟨hl, ?_⟩
    exact ⟨.str (revS z), H4, I5.tok _, ⟨_, rfl⟩, q⟩
def repS (z : Str) (n : Nat) : Str := ⟨(List.replicate n z.cps.toList).flatten.toArray⟩
theorem rep_fold (c : Array Nat) : ∀ (n : Nat) (acc : Array Nat), (List.replicate n c).foldl (· ++ ·) acc = acc ++ (List.replicate n c.toList).flatten.toArray
  | 0, acc => by simp
  | n + 1, acc => by
    rw [List.replicate_succ, List.foldl_cons, rep_fold c n, List.replicate_succ, List.flatten_cons]
    apply Array.ext'
    simp
theorem repS_one (z : Str) : repS z 1 = z := by
  cases z
  simp [repS]
theorem repS_len (z : Str) (n : Nat) : (repS z n).length = n * z.length := by
  show ((List.replicate n z.cps.toList).flatten.toArray).size = _
  rw [List.size_toArray, List.length_flatten, List.map_replicate, List.sum_replicate_nat, Array.length_toList]
  rfl
def rMulS : R2 := fun x y H Q => ∃ (z : Str) (n : Nat), x = .str z ∧ y = .int (n : Int) ∧ n ≤ 1000 ∧ z.length ≤ 1000 ∧ Q (.str (repS z n)) H
theorem op_mulS {X : Cx} : OpR X (binaryOp .Mult) rMulS := by
  intro pins s σ H x y v u Q I rx ry h
  obtain ⟨z, n, rfl, rfl, hn, hz, q⟩ := h
  obtain ⟨t, rfl⟩ := rx
  obtain ⟨t', rfl⟩ := ry
  have hsz : z.length * n ≤ 1000000 := Nat.le_trans (Nat.mul_le_mul hz hn) (by decide)
  refine PySem.P.mul_str ?_ (fun h1 h2 => ?_) (fun h1 h2 => ?_) ?_
  · have a1 : ¬ ((n : Int) < -(2 ^ 63 : Int)) := by omega
    have a2 : ¬ ((n : Int) ≥ 2 ^ 63) := by omega
    rw [decide_eq_false a1, decide_eq_false a2]
    rfl
  · have hn0 : (0 : Int) < (n : Int) := by omega
    have : (1001 : Int) ≤ (2 ^ 63 - 1) / (n : Int) := by
      rw [Int.le_ediv_iff_mul_le hn0]
      omega
    omega
  · unfold PySem.Builtin.Str.tooLong
    simp only [Int.toNat_natCast]
    exact decide_eq_false (by
      have : (1000000 : Nat) ≤ sizeLine := by decide
      omega)
  · by_cases h0 : (n : Int) < 1
    · rw [if_pos h0]
      have e0 : n = 0 := by omega
      subst e0
      exact ⟨by decide, .str (repS z 0), H, I.tok _, ⟨_, rfl⟩, q⟩
    · rw [if_neg h0]
      by_cases h1 : ((n : Int) == 1 || z.length == 0) = true
      · rw [if_pos h1]
        have e : repS z n = z := by
          rcases Bool.or_eq_true_iff.mp h1 with h1 | h1
          · have : n = 1 := by
              have : (n : Int) = 1 := by simpa using h1
              omega
            subst this
            exact repS_one z
          · have hz0 : z.length = 0 := by simpa using h1
            apply str_ext
            have l1 := repS_len z n
            rw [hz0, Nat.mul_zero] at l1
            have a1 : (repS z n).cps.toList = [] := List.eq_nil_of_length_eq_zero (by rw [Array.length_toList]; exact l1)
            have a2 : z.cps.toList = [] := List.eq_nil_of_length_eq_zero (by rw [Array.length_toList]; exact hz0)
            rw [a1, a2]
        rw [e] at q
        exact ⟨.str z, H, I, ⟨_, rfl⟩, q⟩
      · rw [if_neg h1]
        have e : (⟨(List.replicate ((n : Int)).toNat z.cps).foldl (· ++ ·) #[]⟩ : Str) = repS z n := by
          rw [rep_fold]
          unfold repS
          simp
        rw [e]
        refine ⟨?_, .str (repS z n), H, I.tok _, ⟨_, rfl⟩, q⟩
        rw [repS_len, Nat.mul_comm]
        exact Nat.le_trans hsz (by decide)

section
variable {S : Sx} {e : Expr} {es : List Expr} {E : En} {a b c : Expr} {pos p : Pos} {x y : Str} {P : Sl → En → Prop} {PD : D → En → Prop} {i j : Nat}
theorem wd_revS {k : Nat} {p1 p2 p3 : Pos} (h : WpD S a E fun d E1 => ∃ z : Str, d = .str z ∧ z.length ≤ 100000 ∧ PD (.str (revS z)) E1) :
    WpD S (.Subscript a (.Slice none none (some (.UnaryOp .USub (.Constant (.int 1) k p1) p2)) p3) pos) E PD := fun X hX F s R H r Q kk => by
  refine ⟨_, pe_revS pe_rd, ?_⟩
  refine h X hX F s R H r _ fun v d E1 R1 H1 s1 r1 p1 ⟨z, e1, hz, h1⟩ => ?_
  subst e1
  cases p1
  exact ⟨z, rfl, hz, kk _ _ E1 R1 H1 s1 r1 (.str _) h1⟩
theorem wd_mulS (h : WpD S a E fun d1 E1 => WpD S b E1 fun d2 E2 => ∃ (z : Str) (n : Nat), d1 = .str z ∧ d2 = .int (n : Int) ∧ n ≤ 1000 ∧ z.length ≤ 1000 ∧ PD (.str (repS z n)) E2) : WpD S (.BinOp a .Mult b pos) E PD :=
  wd_bin (r := rMulS) (fun _ _ => op_mulS) (h.mono fun _ _ h => h.mono fun _ _ ⟨z, n, h1, h2, hn, hz, h3⟩ => ⟨_, by
    subst h1 h2
    intro F s E R H v1 v2 r p1 p2 Q k
    cases p1; cases p2
    exact ⟨z, n, rfl, rfl, hn, hz, k _ R H (Same.refl _) r (.str _)⟩, h3⟩)
theorem wd_repr (hg : GlS S "repr") (hm : S.mg "repr" = none) (h : WpK S e E fun d E1 => isBox d = true ∧ d.showable = true ∧ d.hasDict = false ∧ d.depth ≤ 40 ∧ d.shown.length ≤ sizeLine ∧ PD (.str d.shown) E1)
    (hst : ∀ env : Env, starEach [e] env = (false, eval e env) :: starEach [] env := by intro _; rfl) : WpD S (.Call (.Name "repr" p) [e] [] pos) E PD := by
  refine wd_of (wp_blt1 (r := rRepr S.K) (fun X hX => by rw [← hX.K]; exact cr_repr hX.grd hX.room.units) hg hm PyProof.Rows.boot_repr (fun X hX F s R H r Q k => h X hX F s R H r Q fun v d E' R' H' a r' p q => k v d E' R' H' a r' p ?_) hst)
  obtain ⟨h1, h2, h3, h4, h5, hp⟩ := q
  intro F s E R H v r pk Q kk
  exact ⟨v, d, rfl, pk.dp r.sub, h1, h2, h3, h4, h5, kk _ (.dat (.str d.shown)) R H (Same.refl _) r (Dp.str _) ⟨_, rfl, hp⟩⟩
def kD : Key → D
  | .inl i => .int i
  | .inr x => .str x
def tupK (ks : List Key) : D := .tuple (ks.map kD)
theorem dpAll_keys {K : PySem.W.Frag} {R : Hp} : ∀ {vs : List V} {ks : List Key}, DpAll K R vs (ks.map kD) → vs = ks.map kV
  | _, [], h => by cases h; rfl
  | _, k :: ks, h => by
    cases h with
    | cons h1 h2 =>
      rw [dpAll_keys h2]
      cases k with
      | inl i => cases h1; rfl
      | inr x => cases h1; rfl
theorem dp_zip {K : PySem.W.Frag} {R : Hp} : ∀ {vs : List V} {kss : List (List Key)}, DpAll K R vs (kss.map tupK) → ∀ p ∈ vs.zip kss, Dp K R p.1 (tupK p.2)
  | _, [], h, p, hp => by cases h; cases hp
  | _, k :: kss, h, p, hp => by
    cases h with
    | cons h1 h2 =>
      rcases List.mem_cons.mp hp with rfl | hp
      · exact h1
      · exact dp_zip h2 p hp
theorem dp_unzip {K : PySem.W.Frag} {R : Hp} : ∀ {vs : List V} {kss : List (List Key)}, vs.length = kss.length → (∀ p ∈ vs.zip kss, Dp K R p.1 (tupK p.2)) → DpAll K R vs (kss.map tupK)
  | [], [], _, _ => .nil
  | [], _ :: _, h, _ => by cases h
  | _ :: _, [], h, _ => by cases h
  | v :: vs, k :: kss, h, hp => .cons (hp (v, k) List.mem_cons_self) (dp_unzip (by simpa using h) fun p m => hp p (List.mem_cons_of_mem _ m))
/-- sorted: tuples of ints and texts, of one form -/
theorem wp_sorted (hg : GlS S "sorted") (hm : S.mg "sorted" = none) (h : WpK S e E fun d E1 => ∃ (kss : List (List Key)) (b : Bool) (sig : List Bool), d = .list (kss.map tupK) ∧ (∀ ks ∈ kss, ks.map isInt = b :: sig) ∧ ∀ ls : List (List Key), ls.Perm kss → ls.Pairwise (fun x y => lexK y x = false) → P (.own (.list (ls.map tupK))) E1)
    (hst : ∀ env : Env, starEach [e] env = (false, eval e env) :: starEach [] env := by intro _; rfl) : Wp S (.Call (.Name "sorted" p) [e] [] pos) E P := by
  refine wp_blt1 (r := rSortK S.K) (fun X hX => by rw [← hX.K]; exact cr_sortK) hg hm PyProof.Rows.boot_sorted (fun X hX F s R H r Q k => h X hX F s R H r Q fun v d E' R' H' a r' p q => k v d E' R' H' a r' p ?_) hst
  obtain ⟨kss, b, sig, rfl, hsig, hp⟩ := q
  intro F s E R H v r pk Q kk
  obtain ⟨a, vs, rfl, h1, h2⟩ := pk.list r.sub
  have hl : vs.length = kss.length := by rw [dpAll_len h2, List.length_map]
  refine ⟨a, vs, kss, b, sig, rfl, h1, hl, fun p hp => ?_, fun ys ls q hly pm pw hq => ?_⟩
  · have hd := dp_zip h2 p hp
    have hk : p.2 ∈ kss := (List.of_mem_zip hp).2
    unfold tupK at hd
    generalize p.1 = v1 at hd ⊢
    cases hd with
    | tup hs hd =>
      rw [dpAll_keys hd] at hs
      exact ⟨_, rfl, same_t r.sub hs, hsig _ hk⟩
  · have pl : ls.Perm kss := by
      have := pm.map Prod.snd
      rwa [List.map_snd_zip (by omega), List.map_snd_zip (by omega)] at this
    have hd : DpAll S.K R ys (ls.map tupK) := dp_unzip hly fun p m => dp_zip h2 p (pm.mem_iff.mp m)
    exact kk _ (.own (.list (ls.map tupK))) R _ (Same.refl _) (r.grow hq) ⟨q, rfl, r.freeR hq, ⟨ys, upd_same, hd⟩, r.free0 hq, own_no r hq⟩ (hp ls pl pw)
end
end Wq

namespace Wq
open PySem L2
section
variable {K : PySem.W.Frag} {F : Fx} {s : St} {E : En} {R H : Hp}
/-- a slot out of sight -/
theorem Rel.hide (r : Rel K F s E R H) (i : Nat) : Rel K ⟨H, R, owners s (E.set i .no)⟩ s (E.set i .no) R H where
  len := by rw [List.length_set]; exact r.len
  sub := r.sub
  sub0 := Same.refl _
  keep := fun _ _ e _ => e
  new := fun a o e => .inl ⟨o, e⟩
  giv := fun p hp => by
    obtain ⟨h1, h2⟩ := mem_owners.mp hp
    exact ⟨h2, h1⟩
  dat := fun j d e => by
    rcases get_set e with ⟨_, e1⟩ | ⟨_, e1⟩
    · cases e1
    · exact r.dat j d e1
  own := fun j d e => by
    rcases get_set e with ⟨_, e1⟩ | ⟨_, e1⟩
    · cases e1
    · obtain ⟨a, h1, h2, h3, h4⟩ := r.own j d e1
      exact ⟨a, h1, h2, h3, .inr (mem_owners.mpr ⟨⟨d, e⟩, h1⟩)⟩
  inj := fun j k d1 d2 a e1 e2 h1 h2 => by
    rcases get_set e1 with ⟨_, e⟩ | ⟨_, e1⟩
    · cases e
    rcases get_set e2 with ⟨_, e⟩ | ⟨_, e2⟩
    · cases e
    exact r.inj j k d1 d2 a e1 e2 h1 h2
theorem Rel.unhide (r : Rel K F s E R H) {i : Nat} {a : Addr} {ds : List D} (hE : E[i]? = some (.own (.list ds))) (ha : s[i]? = some (some (.ref a))) {E' : En} {R' H' : Hp} (q : Rel K ⟨H, R, owners s (E.set i .no)⟩ s E' R' H') (hn : E'[i]? = some Sl.no) :
    Rel K F s (E'.set i (.own (.list ds))) R' H' := by
  obtain ⟨a1, h1, hR, ⟨vs, hH, hv⟩, hg⟩ := r.own i _ hE
  rw [ha] at h1
  cases h1
  have hiE : i < E'.length := (List.getElem?_eq_some_iff.mp hn).1
  have noa : ∀ p ∈ owners s (E.set i .no), p.2 ≠ a := fun p hp z => by
    obtain ⟨⟨d, k1⟩, k2⟩ := mem_owners.mp hp
    rcases get_set k1 with ⟨_, e⟩ | ⟨hne, e⟩
    · cases e
    · exact hne (r.inj i p.1 _ d a hE e ha (by rw [k2, z]))
  have hH' : H' a = some (.lst vs) := q.keep a _ hH noa
  have hR' : R' a = none := by
    cases z : R' a with
    | none => rfl
    | some o =>
      rcases q.new a o z with ⟨o', w⟩ | w
      · exact nomatch hR.symm.trans w
      · exact nomatch hH.symm.trans w
  have orig : ∀ (j : Nat) (d : D) (b : Addr), E'[j]? = some (Sl.own d) → s[j]? = some (some (V.ref b)) → b ≠ a := fun j d b e1 e2 z => by
    obtain ⟨b', k1, _, _, k4⟩ := q.own j d e1
    rw [e2] at k1
    cases k1
    rcases k4 with k4 | k4
    · rw [z] at k4; exact nomatch hH.symm.trans k4
    · exact noa _ k4 z
  exact {
    len := by rw [List.length_set]; exact q.len
    sub := q.sub
    sub0 := r.sub0.trans q.sub0
    keep := fun c o e hgc => by
      refine q.keep c o (r.keep c o e hgc) fun p hp z => ?_
      obtain ⟨⟨d, k1⟩, k2⟩ := mem_owners.mp hp
      rcases get_set k1 with ⟨_, e'⟩ | ⟨hne, e'⟩
      · cases e'
      · obtain ⟨c', m1, _, _, m4⟩ := r.own _ _ e'
        rw [k2] at m1
        cases m1
        rcases m4 with m4 | m4
        · rw [z, e] at m4; cases m4
        · exact hgc _ m4 z
    new := fun c o e => by
      rcases q.new c o e with ⟨o', w⟩ | w
      · exact r.new c o' w
      · exact .inr (r.free0 w)
    giv := fun p hp => by
      obtain ⟨k1, d, k2⟩ := r.giv p hp
      refine ⟨k1, ?_⟩
      by_cases e : i = p.1
      · exact ⟨_, by rw [e, List.getElem?_set_self (by rw [← e]; exact hiE)]⟩
      · have hm : p ∈ owners s (E.set i .no) := mem_owners.mpr ⟨⟨d, by rw [set_ne e]; exact k2⟩, k1⟩
        obtain ⟨_, d', k3⟩ := q.giv p hm
        exact ⟨d', by rw [set_ne e]; exact k3⟩
    dat := fun j d e => by
      rcases get_set e with ⟨_, e1⟩ | ⟨_, e1⟩
      · cases e1
      · exact q.dat j d e1
    own := fun j d e => by
      rcases get_set e with ⟨rfl, e1⟩ | ⟨hne, e1⟩
      · cases e1
        exact ⟨a, ha, hR', ⟨vs, hH', dpAll_mono q.sub0 _ _ hv⟩, hg⟩
      · obtain ⟨b, k1, k2, k3, k4⟩ := q.own j d e1
        refine ⟨b, k1, k2, k3, ?_⟩
        rcases k4 with k4 | k4
        · exact .inl (r.free0 k4)
        · obtain ⟨⟨d0, m1⟩, m2⟩ := mem_owners.mp k4
          rcases get_set m1 with ⟨_, e'⟩ | ⟨_, e'⟩
          · cases e'
          · obtain ⟨b', n1, _, _, n4⟩ := r.own _ _ e'
            rw [m2] at n1
            cases n1
            exact n4
    inj := fun j k d1 d2 b e1 e2 k1 k2 => by
      rcases get_set e1 with ⟨rfl, _⟩ | ⟨n1, e1⟩
      · rcases get_set e2 with ⟨rfl, _⟩ | ⟨n2, e2⟩
        · rfl
        · rw [ha] at k1
          cases k1
          exact absurd rfl (orig k d2 _ e2 k2)
      · rcases get_set e2 with ⟨rfl, _⟩ | ⟨n2, e2⟩
        · rw [ha] at k2
          cases k2
          exact absurd rfl (orig j d1 _ e1 k1)
        · exact q.inj j k d1 d2 b e1 e2 k1 k2 }
end
section
variable {S : Sx} {vs : List Nat} {ifs : List Expr} {E : En} {elt tg : Expr} {pos p : Pos} {x : Str} {i : Nat} {ds0 : List D}
def WpLo (S' : Sx) (vs : List Nat) (elt tg : Expr) (ifs : List Expr) (E1 : En) (ds : List D) (P : List D → En → Prop) : Prop :=
  (∀ j ∈ vs, notOwn E1 j) ∧ ∃ Iv : Nat → List D → En → Prop, Iv 0 [] (wipeE E1 vs) ∧
    (∀ t acc Et d, ds[t]? = some d → Iv t acc Et → WpG S' vs tg d Et fun E2 => WpTs S' ifs E2 fun b E3 =>
      (b = true → WpD S' elt E3 fun y E4 => acc.length < 1000000 ∧ (∀ i ∈ vs, notOwn E4 i) ∧ Iv (t + 1) (acc ++ [y]) (wipeE E4 vs)) ∧ (b = false → (∀ i ∈ vs, notOwn E3 i) ∧ Iv (t + 1) acc (wipeE E3 vs))) ∧
    ∀ acc Et, Iv ds.length acc Et → P acc Et
theorem lc_readOwn {scope : Scope} {P : List D → En → Prop} (hE : E[i]? = some (Sl.own (.list ds0))) (hiv : i ∉ vs) (h : WpLo (blkS S scope) vs elt tg ifs (E.set i .no) ds0 fun acc E' => E'[i]? = some Sl.no ∧ P acc (E'.set i (.own (.list ds0)))) {X : Cx} (hX : Has S X) {F : Fx} {s : St} {R H : Hp} (r : Rel S.K F s E R H) {Q : VK}
    (k : ∀ v r E' R' H', Same R R' → Rel S.K F s E' R' H' → RsOk S.K F s E' R' H' v r → (∃ acc, r = .own (.list acc) ∧ P acc E') → Q v H') : tLc (iList X.K (tVar i)) (AllG (blkS S scope) tg) (AllTs (blkS S scope) ifs) (AllE (blkS S scope) elt) vs s H Q := by
  obtain ⟨hno, Iv, h0, hst, hd⟩ := h
  obtain ⟨ad, ha, hRa, ⟨v0, g1, g2⟩, _⟩ := r.own i _ hE
  have r1 := r.hide i
  rw [hX.K]
  refine ⟨_, ha, ad, rfl, ⟨v0, SqL.of g1⟩, ?_⟩
  intro D hD
  -- the frame out of sight
  generalize hF0 : (⟨H, R, owners s (E.set i .no)⟩ : Fx) = F0 at r1
  have hH0 : F0.H0 = H := by rw [← hF0]
  have hR0 : F0.R0 = R := by rw [← hF0]
  have nog : ∀ p ∈ F0.g, p.2 ≠ ad := fun p hp z => by
    rw [← hF0] at hp
    obtain ⟨⟨d, k1⟩, k2⟩ := mem_owners.mp hp
    rcases get_set k1 with ⟨_, e⟩ | ⟨hne, e⟩
    · cases e
    · exact hne (r.inj i p.1 _ d ad hE e ha (by rw [k2, z]))
  have la : ∀ {s2 : St} {E2 : En} {R2 H2 : Hp}, Rel S.K F0 s2 E2 R2 H2 → H2 ad = some (.lst v0) := fun q => q.keep ad _ (by rw [hH0]; exact g1) nog
  have hD0 : F0.H0 D = none := by rw [hH0]; exact hD
  have ww : ∀ {s2 : St}, s2.length = (wipe s vs).length → (∀ j, j ∉ vs → s2[j]? = (wipe s vs)[j]?) → wipe s2 vs = wipe s vs := fun {s2} a b =>
    (wipe_eq a b).trans (wipe_eq (wipe_length ..) fun j hj => wipe_get hj)
  refine ⟨fun t m H2 => m = ds0.length - t ∧ t ≤ ds0.length ∧ ∃ av acc E2 R2, Same R R2 ∧ Rel S.K F0 (wipe s vs) E2 R2 H2 ∧ H2 D = some (.lst av) ∧ DpAll S.K R2 av acc ∧ R2 D = none ∧
    (∀ (j : Nat) (d : Wq.D), E2[j]? = some (Sl.own d) → (wipe s vs)[j]? ≠ some (some (V.ref D))) ∧ (∀ j ∈ vs, E2[j]? = some Sl.no) ∧ Iv t acc E2, ⟨_, rfl, Nat.zero_le _, [], [], wipeE (E.set i .no) vs, R, Same.refl _, ?_, upd_same, .nil, r1.freeR hD, ?_, ?_, h0⟩, ?_⟩
  · exact (r1.wipe vs fun i hi => (hno i hi).no).grow hD
  · exact own_no (r1.wipe vs fun i hi => (hno i hi).no) hD
  · exact fun i hi => wipeE_in hi (hno i hi).lt
  rintro t m H2 ⟨rfl, ht, av, acc, E2, R2, a2, r2, hD2, hv2, hR2, hn2, hi2, i2⟩
  have sq : SqL S.K H2 ad v0 := SqL.of (la r2)
  by_cases hlt : t < ds0.length
  · have q2 := r2.nest
    obtain ⟨v, e1, e2⟩ := dpAll_get g2 (List.getElem?_eq_getElem hlt)
    have noD : ∀ p ∈ owners (wipe s vs) E2, p.2 ≠ D := fun p hp z => by
      obtain ⟨⟨d, h1⟩, h2⟩ := mem_owners.mp hp
      exact hn2 _ _ h1 (by rw [h2, z])
    have stays : ∀ {s3 : St} {E3 : En} {R3 H3 : Hp}, Rel S.K ⟨H2, R2, owners (wipe s vs) E2⟩ s3 E3 R3 H3 → H3 D = some (.lst av) ∧ R3 D = none ∧ ∀ (i : Nat) (d : Wq.D), E3[i]? = some (Sl.own d) → s3[i]? ≠ some (some (V.ref D)) := fun {s3 E3 R3 H3} q => by
      refine ⟨q.keep D _ hD2 noD, ?_, fun i d e z => ?_⟩
      · cases e : R3 D with
        | none => rfl
        | some o =>
          rcases q.new D o e with ⟨o', z⟩ | z
          · exact nomatch hR2.symm.trans z
          · exact nomatch hD2.symm.trans z
      · obtain ⟨a, h1, h2, h3, h4⟩ := q.own i d e
        rw [h1] at z
        cases z
        rcases h4 with h4 | h4
        · exact nomatch hD2.symm.trans h4
        · exact noD _ h4 rfl
    refine .inr ⟨⟨v0, v, sq, e1⟩, fun H3 => ∃ av acc E3 R3, Same R R3 ∧ Rel S.K F0 (wipe s vs) E3 R3 H3 ∧ H3 D = some (.lst av) ∧ DpAll S.K R3 av acc ∧ R3 D = none ∧ (∀ (i : Nat) (d : Wq.D), E3[i]? = some (Sl.own d) → (wipe s vs)[i]? ≠ some (some (V.ref D))) ∧ (∀ i ∈ vs, E3[i]? = some Sl.no) ∧ Iv (t + 1) acc E3,
      fun H3 ⟨av3, acc3, E3, R3, z⟩ => ⟨ds0.length - (t + 1), by omega, rfl, hlt, av3, acc3, E3, R3, z⟩, ?_⟩
    rintro x H3 ⟨rfl, hy⟩
    have hxv : x = v := by
      have := hy v0 sq
      rw [e1] at this
      exact (Option.some.inj this).symm
    subst hxv
    have p3 : Dp S.K R2 x ds0[t] := dp_mono a2 _ _ e2
    intro Y hY
    refine hst t acc E2 ds0[t] (List.getElem?_eq_getElem hlt) i2 Y hY _ _ R2 H3 x q2 p3 _ fun s4 E4 l4 k4 q4 h4 => ?_
    have w4 := ww l4 k4
    have nw : ∀ {E5 : En} {R5 H5 : Hp}, Rel S.K ⟨H3, R2, owners (wipe s vs) E2⟩ s4 E5 R5 H5 → (∀ i ∈ vs, notOwn E5 i) → Rel S.K F0 (wipe s vs) (wipeE E5 vs) R5 H5 ∧ (∀ (i : Nat) (d : Wq.D), (wipeE E5 vs)[i]? = some (Sl.own d) → (wipe s vs)[i]? ≠ some (some (V.ref D))) ∧ (∀ i ∈ vs, (wipeE E5 vs)[i]? = some Sl.no) := fun {E5 R5 H5} q hno5 => by
      have u := (r2.unnest q).wipe vs fun i hi => (hno5 i hi).no
      have u' := q.wipe vs fun i hi => (hno5 i hi).no
      rw [w4] at u u'
      exact ⟨u, (stays u').2.2, fun i hi => wipeE_in hi (hno5 i hi).lt⟩
    refine ⟨w4, fun Y hY => ?_⟩
    refine h4 Y hY _ _ R2 H3 q4 _ fun b E5 R5 H5 a5 q5 ⟨hb1, hb2⟩ => ?_
    cases b with
    | true =>
      rw [if_pos rfl]
      intro Y hY
      refine hb1 rfl Y hY _ _ R5 H5 q5 _ fun y d E6 R6 H6 a6 q6 p6 ⟨hl, hno6, i6⟩ => ?_
      obtain ⟨hD6, hR6, hn6⟩ := stays q6
      obtain ⟨u6, v6, w6⟩ := nw q6 hno6
      have hlen : av.length = acc.length := dpAll_len hv2
      have a26 : Same R2 R6 := a5.trans a6
      refine ⟨av, hD6, Nat.lt_of_lt_of_le (by rw [hlen]; exact hl) (by decide : 1000000 ≤ sizeLine), av ++ [y], acc ++ [d], wipeE E6 vs, R6, a2.trans a26, ?_, upd_same, dpAll_app (dpAll_mono a26 _ _ hv2) (dpAll_one p6), hR6, v6, w6, i6⟩
      exact u6.other hR6 hD0 v6
    | false =>
      rw [if_neg Bool.false_ne_true]
      obtain ⟨hno5, i5⟩ := hb2 rfl
      obtain ⟨hD5, hR5, hn5⟩ := stays q5
      obtain ⟨u5, v5, w5⟩ := nw q5 hno5
      exact ⟨av, acc, wipeE E5 vs, R5, a2.trans a5, u5, hD5, dpAll_mono a5 _ _ hv2, hR5, v5, w5, i5⟩
  · have e : t = ds0.length := by omega
    subst e
    refine .inl ⟨⟨v0, sq, by rw [dpAll_len g2]; exact Nat.le_refl _⟩, ?_⟩
    obtain ⟨hin, hP⟩ := hd acc E2 i2
    have rr : Rel S.K F0 s E2 R2 H2 := r2.cong (by rw [wipe_length]) fun i => by
      by_cases hi : i ∈ vs
      · exact .inl (hi2 i hi)
      · exact .inr (wipe_get hi).symm
    have ru := r.unhide hE ha (by rw [hF0]; exact rr) hin
    have neD : ad ≠ D := fun z => by rw [z, hD] at g1; cases g1
    refine k (.ref D) (.own (.list acc)) _ R2 H2 a2 ru ⟨D, rfl, hR2, ⟨av, hD2, hv2⟩, r.free0 hD, fun j d e z => ?_⟩ ⟨acc, rfl, hP⟩
    rcases get_set e with ⟨rfl, _⟩ | ⟨_, e'⟩
    · rw [ha] at z
      cases z
      exact neD rfl
    · by_cases hj : j ∈ vs
      · rw [hi2 j hj] at e'; cases e'
      · exact hn2 j d e' (by rw [wipe_get hj]; exact z)
/-- [elt for tg in x if ..], x an owned list that stays as it is -/
theorem wp_lcOwn {scope : Scope} (own : List (Str × Nat)) {P : Sl → En → Prop} (ok : BlkOk S.N S.sc scope own) (hN : S.N[i]? = some x) (hv : Vis S.sc x) (hE : E[i]? = some (Sl.own (.list ds0))) (hiv : i ∉ own.map (·.2))
    (h : WpLo (blkS S scope) (own.map (·.2)) elt tg ifs (E.set i .no) ds0 fun acc E' => E'[i]? = some Sl.no ∧ P (.own (.list acc)) (E'.set i (.own (.list ds0))))
    (hs : ∀ (env : Env) y, foldedSetIterable (.Name x p) env y = pure y := by intro _ _; rfl) (hd : (x == ("__debug__" : Str)) = false := by decide +kernel) (hcd : (x == ("__classdict__" : Str)) = false := by decide +kernel) : Wp S (.ListComp elt [⟨tg, .Name x p, ifs, 0⟩] scope pos) E P := fun X hX F s R H r Q k => by
  refine ⟨_, pe_lc (own := own) hX.calm hX.nd (pi_list (pe_var (i := i) (by rw [hX.N]; exact hN) (by rw [hX.sc]; exact hv) hd hcd)) (by rw [hX.N, hX.sc]; exact ok) (fun s H C cl fp => pg_all (has_blk hX s H C cl fp)) (fun s H C cl fp => pts_all (has_blk hX s H C cl fp)) (fun s H C cl fp => pe_all (has_blk hX s H C cl fp)) (hs _), ?_⟩
  exact lc_readOwn (P := fun acc E' => P (.own (.list acc)) E') hE hiv h hX r fun v r' E' R' H' a r1 p ⟨acc, e, q⟩ => k v r' E' R' H' a r1 p (by rw [e]; exact q)
end
end Wq

namespace Wq
open PySem L2
section
variable {P : Program} {w : World} {K : PySem.W.Frag} {mg : Str → Option Value} {base : Heap} {N : List Str} {sc scope : Scope} {k0 : Nat}
variable {e : Expr} {es : List Expr} {E : En} {pos p bp : Pos} {ps : List Str} {k : Nat} {x bx : Str} {Z : Sl → En → Prop}
/-- a def that may be called by its name -/
def CallG (P : Program) (w : World) (K : PySem.W.Frag) (mg : Str → Option Value) (base : Heap) (x : Str) (k : Nat) (ps : List Str) (sp : Sp) : Prop := ∃ (f : Addr) (fd : FuncData), FnG P w K mg base k f fd ps sp ∧ mg x = some (.ref f) ∧ PySem.W.keepIn K (.ref f) = true ∧ Binds K fd ps []
theorem CallG.ok {k' : Nat} {sp : Sp} (h : CallG P w K mg base x k ps sp) : CallOk (sxOf P w K mg base N sc k') x k ps sp := ⟨h⟩
theorem CallG.okb {k' : Nat} {sp : Sp} (h : CallG P w K mg base x k ps sp) : CallOk (blkS (sxOf P w K mg base N sc k') scope) x k ps sp := ⟨h⟩
theorem wcB (i : Nat) {c : D → List D → (Sl → D → Prop) → Prop} (C : CallG P w K mg base x k ps (spB K c))
    (h : WpA (sxOf P w K mg base N sc k0) es E fun ds E1 => ∃ b, E1[i]? = some (Sl.own b) ∧ c b ds fun r b' => Z r (E1.set i (.own b')))
    (hk : k ≤ k0 := by decide) (hg : GlS (sxOf P w K mg base N sc k0) x := by exact rfl) (hN : N[i]? = some bx := by rfl) (hv : Vis sc bx := by first | exact Or.inl rfl | exact Or.inr (Or.inl rfl) | exact Or.inr (Or.inr rfl)) (hE : ∃ b0, E[i]? = some (Sl.own b0) := by exact ⟨_, rfl⟩)
    (hst : ∀ env : Env, starEach (.Name bx bp :: es) env = (false, eval (.Name bx bp) env) :: starEach es env := by intro _; rfl) (hpl : ∀ env : Env, (backTo pos (starEach es env)).any (·.1) = false := by intro _; rfl) (hdb : (x == ("__debug__" : Str)) = false := by decide +kernel)
    (hd : (bx == ("__debug__" : Str)) = false := by decide +kernel) (hcd : (bx == ("__classdict__" : Str)) = false := by decide +kernel) : Wp (sxOf P w K mg base N sc k0) (.Call (.Name x p) (.Name bx bp :: es) [] pos) E Z :=
  wp_callB C.ok hk hg hN hv hE h hst hpl hdb hd hcd
theorem wcBb (i : Nat) {c : D → List D → (Sl → D → Prop) → Prop} (C : CallG P w K mg base x k ps (spB K c))
    (h : WpA (blkS (sxOf P w K mg base N sc k0) scope) es E fun ds E1 => ∃ b, E1[i]? = some (Sl.own b) ∧ c b ds fun r b' => Z r (E1.set i (.own b')))
    (hk : k ≤ k0 := by decide) (hg : GlS (blkS (sxOf P w K mg base N sc k0) scope) x := by exact rfl) (hN : N[i]? = some bx := by rfl) (hv : Vis (blkS (sxOf P w K mg base N sc k0) scope).sc bx := by first | exact Or.inl rfl | exact Or.inr (Or.inl rfl) | exact Or.inr (Or.inr rfl)) (hE : ∃ b0, E[i]? = some (Sl.own b0) := by exact ⟨_, rfl⟩)
    (hst : ∀ env : Env, starEach (.Name bx bp :: es) env = (false, eval (.Name bx bp) env) :: starEach es env := by intro _; rfl) (hpl : ∀ env : Env, (backTo pos (starEach es env)).any (·.1) = false := by intro _; rfl) (hdb : (x == ("__debug__" : Str)) = false := by decide +kernel)
    (hd : (bx == ("__debug__" : Str)) = false := by decide +kernel) (hcd : (bx == ("__classdict__" : Str)) = false := by decide +kernel) : Wp (blkS (sxOf P w K mg base N sc k0) scope) (.Call (.Name x p) (.Name bx bp :: es) [] pos) E Z :=
  wp_callB C.okb hk hg hN hv hE h hst hpl hdb hd hcd
theorem wcP {c : List D → (Sl → Prop) → Prop} (C : CallG P w K mg base x k ps (spP K c))
    (h : WpA (sxOf P w K mg base N sc k0) (e :: es) E fun ds E1 => c ds fun r => Z r E1)
    (hk : k ≤ k0 := by decide) (hg : GlS (sxOf P w K mg base N sc k0) x := by exact rfl)
    (hst : ∀ env : Env, starEach (e :: es) env = (false, eval e env) :: starEach es env := by intro _; rfl) (hpl : ∀ env : Env, (backTo pos (starEach es env)).any (·.1) = false := by intro _; rfl) (hdb : (x == ("__debug__" : Str)) = false := by decide +kernel) :
    Wp (sxOf P w K mg base N sc k0) (.Call (.Name x p) (e :: es) [] pos) E Z := wp_callP C.ok hk hg h hst hpl hdb
theorem wcPb {c : List D → (Sl → Prop) → Prop} (C : CallG P w K mg base x k ps (spP K c))
    (h : WpA (blkS (sxOf P w K mg base N sc k0) scope) (e :: es) E fun ds E1 => c ds fun r => Z r E1)
    (hk : k ≤ k0 := by decide) (hg : GlS (blkS (sxOf P w K mg base N sc k0) scope) x := by exact rfl)
    (hst : ∀ env : Env, starEach (e :: es) env = (false, eval e env) :: starEach es env := by intro _; rfl) (hpl : ∀ env : Env, (backTo pos (starEach es env)).any (·.1) = false := by intro _; rfl) (hdb : (x == ("__debug__" : Str)) = false := by decide +kernel) :
    Wp (blkS (sxOf P w K mg base N sc k0) scope) (.Call (.Name x p) (e :: es) [] pos) E Z := wp_callP C.okb hk hg h hst hpl hdb
end
end Wq

namespace Wq
open PySem L2
/-! ### dict(zip(x, y)) of two texts of plain signs -/
section
variable {prog : Program} {w : World} {A : Around} {E : Value → Shared → Prop} {s : Shared} {z TI TO i1 i2 T : Addr} {fp1 fp2 : List Addr} {n1 n2 i : Nat} {P1 P2 : Nat → Value → Prop} {St1 St2 : Nat → Heap → Prop} {f : Bool} {oT : Obj}
/-- the next pair, while the tuple given out before is still there -/
theorem held_item {Q : Value → Shared → Prop} (S : ZipSep2 z TI TO i1 i2 fp1 fp2) (D1 : Draws prog w A i1 fp1 n1 P1 St1) (D2 : Draws prog w A i2 fp2 n2 P2 St2)
    (zh : IsZipHeld s.heap z TI TO T f) (th : s.heap.get? T = some oT) (ti : IsTupOf2 s.heap TI (.ref i1) (.ref i2)) (sa : St1 i s.heap) (sb : St2 i s.heap) (la : i < n1) (lb : i < n2)
    (k : ∀ x y h' tk, P1 i x → P2 i y → IsZipHeld h' z TI TO T true → St1 (i + 1) h' → St2 (i + 1) h' → IsTupOf2 h' s.heap.objs.size x y →
      (∀ c o, c ≠ z → c ≠ i1 → c ≠ i2 → s.heap.get? c = some o → h'.get? c = some o) → Q (.ref s.heap.objs.size) { s with heap := h', toks := tk }) :
    wpAny (model prog w) A (Builtin.«zip.__next__» ⟨[.ref z], []⟩) (fun r s' => ∃ v, r = .done (.ret v) ∧ Q v s') E s := by
  obtain ⟨hp, gl, dd, tk0, os⟩ := s
  show wpAny _ _ (field (.ref z) 2 >>= _) _ _ _
  refine wpAny_bind (wpAny_field zh rfl (x := .bool false) rfl ?_)
  show wpAny _ _ (field (.ref z) 3 >>= _) _ _ _
  refine wpAny_bind (wpAny_field zh rfl (x := .ref TI) rfl ?_)
  refine wpAny_bind (wpAny_seqItems ti rfl ?_)
  show wpAny _ _ (Builtin.SmallTypes.ownedTupleIsFree (.ref z) >>= _) _ _ _
  refine wpAny_bind (wpAny_tupleHeld_zip zh th fun g0 z0 s0 => ?_)
  replace s0 : Heap.SameBut z hp g0 := s0
  simp only [Bool.false_eq_true, if_false]
  refine wpAny_bind ?_
  rw [← Array.forIn_toList]
  simp only [List.forIn_cons, List.forIn_nil]
  refine wpAny_bind (wpAny_bind (wpAny_holding ?_))
  show wpAny _ _ (Builtin.SmallTypes.nextOf (.ref i1) >>= _) _ _ ⟨g0, gl, dd, tk0, os⟩
  refine wpAny_bind (D1.item i _ _ _ la (D1.over sa s0 S.zf1) fun x g1 t1 hx na s1 => wpAny_pure ?_)
  replace s1 : Heap.SameBut i1 g0 g1 := s1
  refine wpAny_pure ?_
  refine wpAny_bind (wpAny_bind (wpAny_holding ?_))
  show wpAny _ _ (Builtin.SmallTypes.nextOf (.ref i2) >>= _) _ _ ⟨g1, gl, dd, t1, os⟩
  refine wpAny_bind (D2.item i _ _ _ lb (D2.over (D2.over sb s0 S.zf2) s1 S.sep1_2) fun y g2 t2 hy nb s2 => wpAny_pure ?_)
  replace s2 : Heap.SameBut i2 g1 g2 := s2
  refine wpAny_pure (wpAny_pure ?_)
  show wpAny _ _ (newTuple [x, y] >>= _) _ _ ⟨g2, gl, dd, t2, os⟩
  refine wpAny_bind (wpAny_newTuple ?_)
  have sz : g2.objs.size = hp.objs.size := by rw [s2.1, s1.1, s0.1]
  have zz : IsZipHeld g2 z TI TO T true := s2.extBut _ _ S.zi2 (s1.extBut _ _ S.zi1 z0)
  refine wpAny_pure ⟨_, rfl, ?_⟩
  show Q (.ref g2.objs.size) _
  have nt : IsTupOf2 (g2.push { cls := .type "tuple", data := .seq #[x, y] }) g2.objs.size x y := Heap.get?_push_size _ rfl
  rw [sz] at nt ⊢
  have up : ∀ c o, g2.get? c = some o → (g2.push { cls := .type "tuple", data := .seq #[x, y] }).get? c = some o := fun c o e => Heap.get?_push_of_some _ e
  exact k x y _ t2 hx hy (up _ _ zz) (D1.frame _ _ _ (D1.over na s2 S.sep2_1) fun b _ o e => up b o e) (D2.frame _ _ _ nb fun b _ o e => up b o e) nt
    fun c o c1 c2 c3 e => up c o (s2.extBut _ _ c3 (s1.extBut _ _ c2 (s0.extBut _ _ c1 e)))
theorem held_end {Q : Fin → Shared → Prop} (S : ZipSep2 z TI TO i1 i2 fp1 fp2) (D1 : Draws prog w A i1 fp1 n1 P1 St1) (D2 : Draws prog w A i2 fp2 n2 P2 St2)
    (zh : IsZipHeld s.heap z TI TO T f) (th : s.heap.get? T = some oT) (ti : IsTupOf2 s.heap TI (.ref i1) (.ref i2)) (sa : St1 i s.heap) (sb : St2 i s.heap) (la : i ≤ n1) (lb : i ≤ n2) (le : i = n1 ∨ i = n2)
    (k : ∀ h' tk e, (∀ c o, c ≠ z → c ≠ i1 → c ≠ i2 → s.heap.get? c = some o → h'.get? c = some o) → (∃ o, h'.get? e = some o ∧ o.cls = .type "StopIteration") → E (.ref e) { s with heap := h', toks := tk }) :
    wpAny (model prog w) A (Builtin.«zip.__next__» ⟨[.ref z], []⟩) Q E s := by
  obtain ⟨hp, gl, dd, tk0, os⟩ := s
  show wpAny _ _ (field (.ref z) 2 >>= _) _ _ _
  refine wpAny_bind (wpAny_field zh rfl (x := .bool false) rfl ?_)
  show wpAny _ _ (field (.ref z) 3 >>= _) _ _ _
  refine wpAny_bind (wpAny_field zh rfl (x := .ref TI) rfl ?_)
  refine wpAny_bind (wpAny_seqItems ti rfl ?_)
  show wpAny _ _ (Builtin.SmallTypes.ownedTupleIsFree (.ref z) >>= _) _ _ _
  refine wpAny_bind (wpAny_tupleHeld_zip zh th fun g0 z0 s0 => ?_)
  replace s0 : Heap.SameBut z hp g0 := s0
  simp only [Bool.false_eq_true, if_false]
  refine wpAny_bind ?_
  rw [← Array.forIn_toList]
  simp only [List.forIn_cons, List.forIn_nil]
  refine wpAny_bind (wpAny_bind (wpAny_holding ?_))
  show wpAny _ _ (Builtin.SmallTypes.nextOf (.ref i1) >>= _) _ _ ⟨g0, gl, dd, tk0, os⟩
  by_cases e1 : i = n1
  · subst e1
    refine wpAny_bind (D1.done _ _ _ (D1.over sa s0 S.zf1) fun g1 e s1 he => ?_)
    replace s1 : Heap.ExtBut i1 g0 g1 := s1
    exact k g1 tk0 e (fun c o c1 c2 _ q => s1 _ _ c2 (s0.extBut _ _ c1 q)) he
  · have e2 : i = n2 := le.resolve_left e1
    refine wpAny_bind (D1.item i _ _ _ (by omega) (D1.over sa s0 S.zf1) fun x g1 t1 hx na s1 => wpAny_pure ?_)
    replace s1 : Heap.SameBut i1 g0 g1 := s1
    refine wpAny_pure ?_
    refine wpAny_bind (wpAny_bind (wpAny_holding ?_))
    show wpAny _ _ (Builtin.SmallTypes.nextOf (.ref i2) >>= _) _ _ ⟨g1, gl, dd, t1, os⟩
    subst e2
    refine wpAny_bind (D2.done _ _ _ (D2.over (D2.over sb s0 S.zf2) s1 S.sep1_2) fun g2 e s2 he => ?_)
    replace s2 : Heap.ExtBut i2 g1 g2 := s2
    exact k g2 t1 e (fun c o c1 c2 c3 q => s2 _ _ c3 (s1.extBut _ _ c2 (s0.extBut _ _ c1 q))) he
theorem held_nextItem {Q : Option Value → Shared → Prop} (S : ZipSep2 z TI TO i1 i2 fp1 fp2) (D1 : Draws prog w A.in1 i1 fp1 n1 P1 St1) (D2 : Draws prog w A.in1 i2 fp2 n2 P2 St2)
    (zh : IsZipHeld s.heap z TI TO T f) (th : s.heap.get? T = some oT) (ti : IsTupOf2 s.heap TI (.ref i1) (.ref i2)) (sa : St1 i s.heap) (sb : St2 i s.heap) (la : i < n1) (lb : i < n2)
    (k : ∀ x y h' tk, P1 i x → P2 i y → IsZipHeld h' z TI TO T true → St1 (i + 1) h' → St2 (i + 1) h' → IsTupOf2 h' s.heap.objs.size x y →
      (∀ c o, c ≠ z → c ≠ i1 → c ≠ i2 → s.heap.get? c = some o → h'.get? c = some o) → Q (some (.ref s.heap.objs.size)) { s with heap := h', toks := tk }) : wpAny (model prog w) A (pyNext (.ref z)) Q E s := by
  have ty : s.TypeIs (.ref z) "zip" := ⟨_, zh, rfl⟩
  unfold pyNext
  refine wpAny_bind (wpAny_attempt (wpAny_callSpecial?_slot (name := Str.ofString "__next__") ty PySem.F.slot_zip_next ?_))
  exact wpAny_call_entry PySem.F.slot_zip_next ty PySem.F.entry_zip_next (held_item S D1 D2 zh th ti sa sb la lb fun x y h' tk a1 a2 a3 a4 a5 a6 a7 => wpAny_pure (k x y h' tk a1 a2 a3 a4 a5 a6 a7)) (PySem.F.args_zip_next_1 _)
theorem held_nextEnd {Q : Option Value → Shared → Prop} (S : ZipSep2 z TI TO i1 i2 fp1 fp2) (D1 : Draws prog w A.in1 i1 fp1 n1 P1 St1) (D2 : Draws prog w A.in1 i2 fp2 n2 P2 St2)
    (zh : IsZipHeld s.heap z TI TO T f) (th : s.heap.get? T = some oT) (ti : IsTupOf2 s.heap TI (.ref i1) (.ref i2)) (sa : St1 i s.heap) (sb : St2 i s.heap) (la : i ≤ n1) (lb : i ≤ n2) (le : i = n1 ∨ i = n2)
    (k : ∀ h' tk, (∀ c o, c ≠ z → c ≠ i1 → c ≠ i2 → s.heap.get? c = some o → h'.get? c = some o) → Q none { s with heap := h', toks := tk }) : wpAny (model prog w) A (pyNext (.ref z)) Q E s := by
  have ty : s.TypeIs (.ref z) "zip" := ⟨_, zh, rfl⟩
  unfold pyNext
  refine wpAny_bind (wpAny_attempt (wpAny_callSpecial?_slot (name := Str.ofString "__next__") ty PySem.F.slot_zip_next ?_))
  refine wpAny_call_entry PySem.F.slot_zip_next ty PySem.F.entry_zip_next (held_end S D1 D2 zh th ti sa sb la lb le fun h' tk e q he => ?_) (PySem.F.args_zip_next_1 _)
  obtain ⟨o, ho, hc⟩ := he
  exact wpAny_bind (wpAny_isInstance (T := "StopIteration") (b := true) ⟨o, ho, hc⟩ isSubtype_stop (wpAny_pure (k _ _ q)))
end
end Wq

namespace Wq
open PySem L2
section
variable {prog : Program} {w : World}
abbrev SgAt (x : Str) (i : Nat) (v : Value) : Prop := ∃ c u, x.cps[i]? = some c ∧ v = .str ⟨#[c]⟩ u
abbrev ItAt (it : Addr) (x : Str) (t : Tok) (i : Nat) (h : Heap) : Prop := h.IsStrIter it "str_ascii_iterator" x t i
theorem ItAt.keep {it : Addr} {x : Str} {t : Tok} {i : Nat} {h h' : Heap} (a : ItAt it x t i h) (k : ∀ o, h.get? it = some o → h'.get? it = some o) : ItAt it x t i h' := by
  obtain ⟨o, ho, r⟩ := a
  exact ⟨o, k o ho, r⟩
/-- zip of two plain texts, as what dict() walks -/
theorem zipArg (z TI TO i1 i2 : Addr) (S : ZipSep2 z TI TO i1 i2 [i1] [i2]) (x y : Str) (t u : Tok) :
    PairArg prog w "zip" z [z, TI, TO, i1, i2] [z, TO, i1, i2] (min x.cps.size y.cps.size) (fun i k v => SgAt x i k ∧ SgAt y i v)
      (fun h => IsZip h z TI TO .none ∧ IsTupOf2 h TI (.ref i1) (.ref i2) ∧ (∃ a b, IsTupOf2 h TO a b) ∧ ItAt i1 x t 0 h ∧ ItAt i2 y u 0 h) where
  type := fun s ok => ⟨_, ok.1, rfl⟩
  notDict := by decide
  keep := fun h h' ok hk => by
    obtain ⟨zh, ti, ⟨a, b, to⟩, sa, sb⟩ := ok
    exact ⟨hk _ _ zh, hk _ _ ti, ⟨a, b, hk _ _ to⟩, sa.keep fun o e => hk _ o e, sb.keep fun o e => hk _ o e⟩
  there := fun h ok b hb => by
    obtain ⟨zh, ti, ⟨a, c, to⟩, ⟨o1, sa, _⟩, ⟨o2, sb, _⟩⟩ := ok
    have hb' : b = z ∨ b = TI ∨ b = TO ∨ b = i1 ∨ b = i2 := by simpa using hb
    rcases hb' with rfl | rfl | rfl | rfl | rfl
    · exact ⟨_, zh⟩
    · exact ⟨_, ti⟩
    · exact ⟨_, to⟩
    · exact ⟨_, sa⟩
    · exact ⟨_, sb⟩
  sub := fun b hb => by
    have hb' : b = z ∨ b = TO ∨ b = i1 ∨ b = i2 := by simpa using hb
    rcases hb' with rfl | rfl | rfl | rfl <;> simp
  noKeys := fun A s Q E hA ok h => getAttrOr_miss_zip ok.1 rfl rfl rfl zip_no_keys (by decide +kernel) hA h
  iter := fun A s d Q E hA ok hd hdf h => by
    obtain ⟨zh, ti, ⟨a, b, to⟩, sa, sb⟩ := ok
    have hd' : d ≠ z ∧ d ≠ TI ∧ d ≠ TO ∧ d ≠ i1 ∧ d ≠ i2 := by
      refine ⟨fun e => hdf (by simp [e]), fun e => hdf (by simp [e]), fun e => hdf (by simp [e]), fun e => hdf (by simp [e]), fun e => hdf (by simp [e])⟩
    obtain ⟨dz, dI, dO, d1, d2⟩ := hd'
    have D1 : Draws prog w A.in1 i1 [i1] x.cps.size (SgAt x) (fun i h => ItAt i1 x t i h) := Draws.strAscii (A := A.in1) hA i1 x t
    have D2 : Draws prog w A.in1 i2 [i2] y.cps.size (SgAt y) (fun i h => ItAt i2 y u i h) := Draws.strAscii (A := A.in1) hA i2 y u
    refine wpAny_pyIter_zip zh (h z [z, TO, i1, i2] (fun i h => IsTupOf2 h TI (.ref i1) (.ref i2) ∧ ItAt i1 x t i h ∧ ItAt i2 y u i h ∧
      ((IsZip h z TI TO .none ∧ ∃ a b, IsTupOf2 h TO a b) ∨ ∃ T f oT, IsZipHeld h z TI TO T f ∧ h.get? T = some oT ∧ T ≠ z ∧ T ≠ i1 ∧ T ≠ i2 ∧ T ≠ d)) s.heap s.toks ?_ ⟨ti, sa, sb, .inl ⟨zh, a, b, to⟩⟩ (fun _ _ e => e) fun b hb => .inl hb)
    exact {
      off := fun hm => by
        have hm' : d = z ∨ d = TO ∨ d = i1 ∨ d = i2 := by simpa using hm
        rcases hm' with e | e | e | e
        · exact dz e
        · exact dO e
        · exact d1 e
        · exact d2 e
      frame := fun i g g' st hk => by
        obtain ⟨ti, sa, sb, q⟩ := st
        refine ⟨hk _ _ (Ne.symm dI) ti, sa.keep fun o e => hk _ o (Ne.symm d1) e, sb.keep fun o e => hk _ o (Ne.symm d2) e, ?_⟩
        rcases q with ⟨zh, a, b, to⟩ | ⟨T, f, oT, zh, th, r1, r2, r3, r4⟩
        · exact .inl ⟨hk _ _ (Ne.symm dz) zh, a, b, hk _ _ (Ne.symm dO) to⟩
        · exact .inr ⟨T, f, oT, hk _ _ (Ne.symm dz) zh, hk _ _ r4 th, r1, r2, r3, r4⟩
      item := fun i s1 Q1 E1 hi st hds k => by
        obtain ⟨ti, sa, sb, q⟩ := st
        have la : i < x.cps.size := by omega
        have lb : i < y.cps.size := by omega
        have lt : ∀ {c o}, s1.heap.get? c = some o → s1.heap.objs.size ≠ c := fun e => Nat.ne_of_gt (Heap.lt_size e)
        have m1 : s1.heap.objs.size ≠ i1 := by obtain ⟨_, e⟩ := D1.live _ _ sa; exact lt e
        have m2 : s1.heap.objs.size ≠ i2 := by obtain ⟨_, e⟩ := D2.live _ _ sb; exact lt e
        rcases q with ⟨zh, a, b, to⟩ | ⟨T, f, oT, zh, th, r1, r2, r3, r4⟩
        · refine wpAny_pyNext_zipD2_item S D1 D2 zh ti to sa sb la lb fun v1 v2 h' tk p1 p2 z' o' sa' sb' t' _ hk => ?_
          refine k s1.heap.objs.size v1 v2 h' tk ⟨p1, p2⟩ (.inl ⟨_, t', rfl, _, rfl⟩) ⟨hk _ _ S.TIz S.TITO S.TIi1 S.TIi2 ti, sa', sb', .inr ⟨s1.heap.objs.size, false, _, z', t', lt zh, m1, m2, Nat.ne_of_gt hds⟩⟩ fun c o hc e => ?_
          exact hk c o (fun q => hc (by simp [q])) (fun q => hc (by simp [q])) (fun q => hc (by simp [q])) (fun q => hc (by simp [q])) e
        · refine held_nextItem S D1 D2 zh th ti sa sb la lb fun v1 v2 h' tk p1 p2 z' sa' sb' t' hk => ?_
          refine k s1.heap.objs.size v1 v2 h' tk ⟨p1, p2⟩ (.inl ⟨_, t', rfl, _, rfl⟩) ⟨hk _ _ S.TIz S.TIi1 S.TIi2 ti, sa', sb', .inr ⟨T, true, oT, z', hk _ _ r1 r2 r3 th, r1, r2, r3, r4⟩⟩ fun c o hc e => ?_
          exact hk c o (fun q => hc (by simp [q])) (fun q => hc (by simp [q])) (fun q => hc (by simp [q])) e
      done := fun s1 Q1 E1 st k => by
        obtain ⟨ti, sa, sb, q⟩ := st
        rcases q with ⟨zh, a, b, to⟩ | ⟨T, f, oT, zh, th, r1, r2, r3, r4⟩
        · exact wpAny_pyNext_zipD2_end S D1 D2 zh ti to sa sb (by omega) (by omega) (by omega) fun h' tk hk => k h' tk fun c o hc e => hk c o (fun q => hc (by simp [q])) (fun q => hc (by simp [q])) (fun q => hc (by simp [q])) (fun q => hc (by simp [q])) e
        · exact held_nextEnd S D1 D2 zh th ti sa sb (by omega) (by omega) (by omega) fun h' tk hk => k h' tk fun c o hc e => hk c o (fun q => hc (by simp [q])) (fun q => hc (by simp [q])) (fun q => hc (by simp [q])) e }
/-! ### the call of zip -/
abbrev zo (x : Str) (t : Tok) : Obj := { cls := .type "str_ascii_iterator", data := .fields #[.str x t, .int 0 0] }
abbrev zh1 (h : Heap) (x : Str) (t : Tok) : Heap := h.push (zo x t)
abbrev zh2 (h : Heap) (x y : Str) (t u : Tok) : Heap := (zh1 h x t).push (zo y u)
abbrev zh3 (h : Heap) (x y : Str) (t u : Tok) : Heap := (zh2 h x y t u).push { cls := .type "tuple", data := .seq #[.ref h.objs.size, .ref (zh1 h x t).objs.size] }
abbrev zh4 (h : Heap) (x y : Str) (t u : Tok) : Heap := (zh3 h x y t u).push { cls := .type "tuple", data := .seq #[.none, .none] }
abbrev zh5 (h : Heap) (x y : Str) (t u : Tok) : Heap := (zh4 h x y t u).push { cls := .type "zip", data := .fields #[.none, .bool false, .bool false, .ref (zh2 h x y t u).objs.size, .ref (zh3 h x y t u).objs.size] }
theorem zip_made (x y : Str) (t u : Tok) (hx : x.cps.all (· < 128) = true) (hy : y.cps.all (· < 128) = true) :
    Meets (Builtin.«zip.__new__» ⟨[.type "zip", .str x t, .str y u], []⟩) (fun _ R s => R (.ok (.ret (.ref (zh4 s.heap x y t u).objs.size))) { s with heap := zh5 s.heap x y t u }) :=
  .of_wp fun prog w A R s h => by
    obtain ⟨hp, g, d, tk, os⟩ := s
    have hsub := sub_zip
    wp_walk using wpAny_pyIter_ascii hx, wpAny_pyIter_ascii hy
    exact ⟨_, rfl, h⟩
variable {A : Around} {E : Value → Shared → Prop} {s : Shared}
theorem call_zipS {x y : Str} {t u : Tok} {Q : Value → Shared → Prop} (hx : x.cps.all (· < 128) = true) (hy : y.cps.all (· < 128) = true)
    (k : ∀ h' n, n = s.heap.objs.size → IsZip h' (n + 4) (n + 2) (n + 3) .none → IsTupOf2 h' (n + 2) (.ref n) (.ref (n + 1)) → IsTupOf2 h' (n + 3) .none .none → ItAt n x t 0 h' → ItAt (n + 1) y u 0 h' →
      (∀ c o, s.heap.get? c = some o → h'.get? c = some o) → Q (.ref (n + 4)) { s with heap := h' }) : wpAny (model prog w) A (call (.type "zip") [.str x t, .str y u]) Q E s := by
  refine callType_new PySem.F.called_zip (by decide) (PySem.F.typeCall_zip_2 _ _) (PySem.F.newCall_zip_2 _ _) (fun obj => PySem.F.args_object_init_3 obj _ _) PySem.F.entry_zip_new (zip_made x y t u hx hy) ?_
  have z1 : (zh1 s.heap x t).objs.size = s.heap.objs.size + 1 := Heap.size_push ..
  have z2 : (zh2 s.heap x y t u).objs.size = s.heap.objs.size + 2 := by rw [Heap.size_push, z1]
  have z3 : (zh3 s.heap x y t u).objs.size = s.heap.objs.size + 3 := by rw [Heap.size_push, z2]
  have z4 : (zh4 s.heap x y t u).objs.size = s.heap.objs.size + 4 := by rw [Heap.size_push, z3]
  have a5 : (zh5 s.heap x y t u).get? (zh4 s.heap x y t u).objs.size = some _ := Heap.get?_push_size _ rfl
  have a4 : (zh5 s.heap x y t u).get? (zh3 s.heap x y t u).objs.size = some _ := Heap.get?_push_of_some _ (Heap.get?_push_size _ rfl)
  have a3 : (zh5 s.heap x y t u).get? (zh2 s.heap x y t u).objs.size = some _ := Heap.get?_push_of_some _ (Heap.get?_push_of_some _ (Heap.get?_push_size _ rfl))
  have a2 : (zh5 s.heap x y t u).get? (zh1 s.heap x t).objs.size = some _ := Heap.get?_push_of_some _ (Heap.get?_push_of_some _ (Heap.get?_push_of_some _ (Heap.get?_push_size _ rfl)))
  have a1 : (zh5 s.heap x y t u).get? s.heap.objs.size = some _ := Heap.get?_push_of_some _ (Heap.get?_push_of_some _ (Heap.get?_push_of_some _ (Heap.get?_push_of_some _ (Heap.get?_push_size _ rfl))))
  show _ ∧ _
  rw [z2, z3, z4] at a5
  rw [z1, z2] at a3
  rw [z3] at a4
  rw [z1] at a2
  rw [z4]
  exact ⟨⟨_, a5, rfl⟩, k _ _ rfl a5 a3 a4 ⟨_, a1, rfl, rfl⟩ ⟨_, a2, rfl, rfl⟩ fun c o q => Heap.get?_push_of_some _ (Heap.get?_push_of_some _ (Heap.get?_push_of_some _ (Heap.get?_push_of_some _ (Heap.get?_push_of_some _ q))))⟩
end
end Wq

namespace Wq
open PySem L2
theorem ne_add {n a b : Nat} (h : a ≠ b) : n + a ≠ n + b := by omega
theorem ne_add0 {n a : Nat} (h : a ≠ 0) : n + a ≠ n := by omega
theorem lt4 {n m : Nat} (h : n + 4 < m) : n ≤ m := by omega
theorem not4 {n b : Nat} (h : b < n) (q : b = n + 4 ∨ b = n + 3 ∨ b = n ∨ b = n + 1) : False := by omega
def zipK (x y : Str) : List (Key × V) := (x.cps.toList.zip y.cps.toList).map fun q => (.inr ⟨#[q.1]⟩, .str ⟨#[q.2]⟩)
theorem zipK_get {x y : Str} {i c d : Nat} (h1 : x.cps[i]? = some c) (h2 : y.cps[i]? = some d) : (zipK x y)[i]? = some (.inr ⟨#[c]⟩, .str ⟨#[d]⟩) := by
  have e1 : x.cps.toList[i]? = some c := by rw [Array.getElem?_toList]; exact h1
  have e2 : y.cps.toList[i]? = some d := by rw [Array.getElem?_toList]; exact h2
  unfold zipK
  rw [List.getElem?_map, List.getElem?_zip_eq_some (z := (c, d)) |>.mpr ⟨e1, e2⟩]
  rfl
theorem zipK_len (x y : Str) : (zipK x y).length = min x.cps.size y.cps.size := by
  unfold zipK
  rw [List.length_map, List.length_zip, Array.length_toList, Array.length_toList]
theorem mergeK_take {kvs : List (Key × V)} {i : Nat} {k : Key} {v : V} (h : kvs[i]? = some (k, v)) : mergeK [] (kvs.take (i + 1)) = putK (mergeK [] (kvs.take i)) k v := by
  rw [List.take_add_one, h]
  unfold mergeK
  rw [List.foldl_append]
  rfl
section
variable {prog : Program} {w : World} {A : Around} {E : Value → Shared → Prop} {s : Shared}
theorem call_dictZ {z TI TO i1 i2 : Addr} {x y : Str} {t u : Tok} {Q : Value → Shared → Prop} (S : ZipSep2 z TI TO i1 i2 [i1] [i2]) (hh : A.handled = none) (hz : IsZip s.heap z TI TO .none) (ti : IsTupOf2 s.heap TI (.ref i1) (.ref i2)) (to : ∃ a b, IsTupOf2 s.heap TO a b)
    (sa : ItAt i1 x t 0 s.heap) (sb : ItAt i2 y u 0 s.heap) (hsz : min x.cps.size y.cps.size ≤ sizeLine)
    (k : ∀ h' tk vs, KV (mergeK [] (zipK x y)) vs → h'.DictOf (mixKind prog w) s.heap.objs.size vs → (∀ b o, b ∉ [z, TO, i1, i2] → s.heap.get? b = some o → h'.get? b = some o) → Q (.ref s.heap.objs.size) { s with heap := h', toks := tk }) :
    wpAny (model prog w) A (call (.type "dict") [.ref z]) Q E s := by
  refine call_dict_arg (zipArg z TI TO i1 i2 S x y t u) ⟨hz, ti, to, sa, sb⟩ fun s1 e1 hdf ok => ?_
  subst e1
  have h0 : (s.heap.push { cls := .type "dict", data := .dict #[] }).DictOf (mixKind prog w) s.heap.objs.size [] := Heap.DictOf.new s.heap
  refine updateFrom_arg (A := A.in1) (Tab := fun i h => ∃ vs, KV (mergeK [] ((zipK x y).take i)) vs ∧ h.DictOf (mixKind prog w) s.heap.objs.size vs) (zipArg z TI TO i1 i2 S x y t u) .none hh ok hdf ⟨[], .nil, h0⟩ (fun i h ⟨vs, _, d⟩ => d.lt_size) ?_ ?_ ?_
  · rintro i h h' wr hd _ ⟨vs, r, d⟩ hk
    exact ⟨vs, r, d.at' fun o e => hk _ o hd e⟩
  · rintro i kx v s' Q' E' hi ⟨⟨c, u1, hc, rfl⟩, ⟨c', u2, hc', rfl⟩⟩ ⟨vs, r, d⟩ _ hQ
    have hl : vs.length ≤ sizeLine := by
      rw [← r.length]
      have := length_mergeK ((zipK x y).take i) []
      rw [List.length_take, List.length_nil] at this
      omega
    refine wpAny_dictSet_pairs (k := Sum.inr ⟨#[c]⟩) (hsz := hl) (kV_is (k := Sum.inr ⟨#[c]⟩) (P := prog) (w := w) ⟨u1, rfl⟩) d fun h' d' hs => hQ h' _ ⟨_, ?_, d'⟩ hs
    rw [mergeK_take (zipK_get hc hc')]
    exact r.put _ ⟨u2, rfl⟩
  · rintro h' tk ⟨vs, r, d⟩ hk
    rw [← zipK_len, List.take_length] at r
    exact ⟨rfl, k h' tk vs r d fun b o hb e => hk b o (Nat.ne_of_lt (Heap.lt_size e)) hb (Heap.get?_push_of_some _ e)⟩
end
section
variable {X : Cx} {a b : Expr} {ta : TA} {p p2 pos pos2 : Pos}
/-- dict(zip(a, b)), two plain texts -/
def tDictZip (ta : TA) : TE := fun σ H Q => ta σ H fun vs H1 => ∃ x y : Str, vs = [.str x, .str y] ∧ x.cps.all (· < 128) = true ∧ y.cps.all (· < 128) = true ∧ x.length ≤ 100000 ∧ ∀ q, H1 q = none → Q (.ref q) (upd H1 q (.dK (mergeK [] (zipK x y))))
theorem pe_dictZip (hc : X.calm = true) (gd : Gl X "dict") (md : X.mg "dict" = none) (gz : Gl X "zip") (mz : X.mg "zip" = none) (ha : PA X [a, b] ta)
    (hs1 : starEach [.Call (.Name "zip" p2) [a, b] [] pos2] X.env = (false, eval (.Call (.Name "zip" p2) [a, b] [] pos2) X.env) :: starEach [] X.env := by rfl)
    (hs : starEach [a, b] X.env = (false, eval a X.env) :: starEach [b] X.env := by rfl) (hpl : (backTo pos2 (starEach [b] X.env)).any (·.1) = false := by rfl) :
    PE X (.Call (.Name "dict" p) [.Call (.Name "zip" p2) [a, b] [] pos2] [] pos) (tDictZip ta) := by
  refine ⟨fun pins s σ H Q I h => ?_⟩
  refine wpAny_Call_Name_kw (ld_blt I gd md PyProof.Rows.boot_dict ?_)
  refine PyProof.Rows.callWith_type1 ?_ hs1 rfl
  rw [hs1]
  show wpAny _ _ (spliced ((false, eval (.Call (.Name "zip" p2) [a, b] [] pos2) X.env) :: [])) _ _ s
  refine Calls.spliced_cons (wpAny_Call_Name_kw (ld_blt I gz mz PyProof.Rows.boot_zip ?_))
  refine PyProof.Rows.callWith_type1 (thn (ha.run pos2 pins s σ H _ I h) fun us s1 ⟨vs, H1, I1, r1, q1⟩ => ?_) hs hpl
  obtain ⟨x, y, rfl, hx, hy, hz, q⟩ := q1
  cases r1 with
  | cons r rr =>
    cases rr with
    | cons r' rr =>
      cases rr
      obtain ⟨t, rfl⟩ := r
      obtain ⟨u, rfl⟩ := r'
      refine call_zipS hx hy fun h' n en z ti to sa sb hk => Calls.spliced_nil ?_
      subst en
      generalize hn : s1.heap.objs.size = n at z ti to sa sb
      have S : ZipSep2 (n + 4) (n + 2) (n + 3) n (n + 1) [n] [n + 1] := ⟨ne_add (by decide), ne_add (by decide), ne_add (by decide), ne_add0 (by decide), by simp, by simp, by simp, ne_add (by decide), by simp, by simp, by simp, by simp, by simp⟩
      have hm : min x.cps.size y.cps.size ≤ sizeLine := Nat.le_trans (Nat.min_le_left ..) (Nat.le_trans hz (by decide))
      refine call_dictZ (s := { s1 with heap := h' }) S (I1.ok.hd hc) z ti ⟨_, _, to⟩ sa sb hm fun h2 tk vs r d hk2 => ?_
      have hle : s1.heap.objs.size ≤ h'.objs.size := by
        rw [hn]
        exact lt4 (Heap.lt_size z)
      have hkk : ∀ b o, s1.heap.get? b = some o → h2.get? b = some o := fun b o e => hk2 b o (fun hb => by
        have hlt := Heap.lt_size e
        rw [hn] at hlt
        have hb' : b = n + 4 ∨ b = n + 3 ∨ b = n ∨ b = n + 1 := by simpa using hb
        exact not4 hlt hb') (hk b o e)
      have hmod : (h'.objs.size == sysModules) = false := beq_eq_false_iff_ne.mpr (Nat.ne_of_gt (Nat.lt_of_lt_of_le I1.big hle))
      have hlen : (mergeK [] (zipK x y)).length ≤ sizeLine := by
        refine Nat.le_trans (length_mergeK _ []) ?_
        rw [List.length_nil, Nat.zero_add, zipK_len]
        exact hm
      exact ⟨.ref h'.objs.size, upd H1 h'.objs.size (.dK (mergeK [] (zipK x y))), I1.laid (t' := tk) hkk hle (show ObjOk X.prog X.w _ _ _ (.dK (mergeK [] (zipK x y))) from ⟨hlen, hmod, vs, r, d⟩), rfl, q _ (I1.hok.fresh hle)⟩
end
end Wq

namespace Wq
open PySem L2
/-! ### texts of signs -/
def one (c : Nat) : Str := ⟨#[c]⟩
theorem app_toArray (a b : List Nat) : (⟨a.toArray⟩ : Str) ++ ⟨b.toArray⟩ = ⟨(a ++ b).toArray⟩ := by
  show (⟨a.toArray ++ b.toArray⟩ : Str) = _
  simp
theorem join_one : ∀ (cs : List Nat), Txt.join (Str.ofString "") (cs.map one) = ⟨cs.toArray⟩ := fun cs => by
  show Builtin.Str.glued (Str.ofString "") _ = _
  rw [StrLaws.glued_eq_join]
  have e0 : (Str.ofString "") = ⟨([] : List Nat).toArray⟩ := by decide
  rw [e0]
  have : ∀ (cs : List Nat) (c : Nat), Str.join ⟨([] : List Nat).toArray⟩ ((c :: cs).map one) = ⟨(c :: cs).toArray⟩ := by
    intro cs
    induction cs with
    | nil => intro c; rfl
    | cons d r ih =>
      intro c
      show one c ++ ⟨([] : List Nat).toArray⟩ ++ Str.join _ ((d :: r).map one) = _
      rw [ih d]
      show (⟨[c].toArray⟩ : Str) ++ ⟨([] : List Nat).toArray⟩ ++ ⟨(d :: r).toArray⟩ = _
      rw [app_toArray, app_toArray]
      rfl
  cases cs with
  | nil => rfl
  | cons c r => exact this r c
end Wq

namespace Wq
open PySem L2
theorem updd {H : Hp} {a : Addr} {o o' : HO} : upd (upd H a o) a o' = upd H a o' := by
  funext b
  unfold upd
  split <;> rfl
section
variable {S : Sx} {G : List Nat} {E : En} {Z : EnS} {a b : Expr} {x xt xv : Str} {i jt jv : Nat} {scope : Scope}
variable {pd pz pos2 pos1 tpos spos jpos apos cpos lpos ipos vpos xpos ttpos gpos rpos p1 p2 p3 cp : Pos} {kc ks : Nat}
/-- x = dict(zip(a, b)); return ''.join([x[v] for v in t[::-1]]) -/
theorem ss_dictJoin (hN : S.N[i]? = some x) (hx : Loc S.sc x) (hA : S.asg x = true) (hG : i ∉ G) (hNt : S.N[jt]? = some xt) (hvt : Vis S.sc xt) (hNv : S.N[jv]? = some xv) (ok : BlkOk S.N S.sc scope [(xv, jv)])
    (hLv : Loc (blkS S scope).sc xv) (hAv : (blkS S scope).asg xv = true) (hVv : Vis (blkS S scope).sc xv) (hVx : Vis (blkS S scope).sc x) (hij : i ≠ jt) (hiv : i ≠ jv) (htv : jt ≠ jv) (hroom : 1 ≤ S.k)
    (gd : GlS S "dict") (md : S.mg "dict" = none) (gz : GlS S "zip") (mz : S.mg "zip" = none)
    (h : WpA S [a, b] E fun ds E1 => ∃ (kx ky z : Str) (f : Nat → Nat), ds = [.str kx, .str ky] ∧ kx.cps.all (· < 128) = true ∧ ky.cps.all (· < 128) = true ∧ kx.length ≤ 1000 ∧ i < E1.length ∧ jv < E1.length ∧ E1[jt]? = some (.dat (.str z)) ∧ z.length ≤ 1000 ∧
      (∀ c ∈ z.cps.toList, valV (mergeK [] (zipK kx ky)) (.inr ⟨#[c]⟩) = some (.str ⟨#[f c]⟩)) ∧ Z.rt (.dat (.str ⟨(z.cps.toList.reverse.map f).toArray⟩)) (E1.set i .no))
    (hs1 : ∀ env : Env, starEach [.Call (.Name "zip" pz) [a, b] [] pos2] env = (false, eval (.Call (.Name "zip" pz) [a, b] [] pos2) env) :: starEach [] env := by intro _; rfl)
    (hs2 : ∀ env : Env, starEach [a, b] env = (false, eval a env) :: starEach [b] env := by intro _; rfl) (hpl : ∀ env : Env, (backTo pos2 (starEach [b] env)).any (·.1) = false := by intro _; rfl)
    (hsw : ∀ env : Env, swapsWith (.Call (.Name "dict" pd) [.Call (.Name "zip" pz) [a, b] [] pos2] [] pos1) (some (.Name x tpos)) spos.line env = pure false := by intro _; rfl)
    (hline : (apos.endLine == jpos.line) = true := by rfl) (hd1 : (xt == ("__debug__" : Str)) = false := by decide +kernel) (hd2 : (xt == ("__classdict__" : Str)) = false := by decide +kernel)
    (hd3 : (xv == ("__debug__" : Str)) = false := by decide +kernel) (hd4 : (xv == ("__classdict__" : Str)) = false := by decide +kernel) (hd5 : (x == ("__debug__" : Str)) = false := by decide +kernel) (hd6 : (x == ("__classdict__" : Str)) = false := by decide +kernel) :
    WpSs S G [.Assign [.Name x tpos] (.Call (.Name "dict" pd) [.Call (.Name "zip" pz) [a, b] [] pos2] [] pos1) spos,
      .Return (some (.Call (.Attribute (.Constant (.str "") kc cp) "join" apos) [.ListComp (.Subscript (.Name x xpos) (.Name xv vpos) ipos) [⟨.Name xv gpos, .Subscript (.Name xt ttpos) (.Slice none none (some (.UnaryOp .USub (.Constant (.int 1) ks p1) p2)) p3) lpos, [], 0⟩] scope cpos] [] jpos)) rpos] E Z := fun X hX F s R H hg r D W => by
  have hgi : ∀ p ∈ F.g, p.1 ≠ i := fun p hp e => hG (by rw [← hg, ← e]; exact List.mem_map_of_mem hp)
  refine ⟨_, pss_cons (ps_set (i := i) hX.nd (by rw [hX.N]; exact hN) (by rw [hX.sc]; exact hx) (pe_dictZip hX.calm (gd.gl hX) (by rw [hX.mg]; exact md) (gz.gl hX) (by rw [hX.mg]; exact mz) pa_rd (hs1 _) (hs2 _) (hpl _)) (hsw _) (hX.fnl x hA))
    (pss_one (ps_ret (pe_join pe_str (pe_lc (own := [(xv, jv)]) hX.calm hX.nd (pi_str (pe_revS (pe_var (i := jt) (by rw [hX.N]; exact hNt) (by rw [hX.sc]; exact hvt) hd1 hd2))) (by rw [hX.N, hX.sc]; exact ok)
      (fun s' H' C cl fp => pg_name (i := jv) (has_blk (scope := scope) hX s' H' C cl fp).nd (by rw [(has_blk (scope := scope) hX s' H' C cl fp).N]; exact hNv) (by rw [(has_blk (scope := scope) hX s' H' C cl fp).sc]; exact hLv) ((has_blk (scope := scope) hX s' H' C cl fp).fnl xv hAv))
      (fun s' H' C cl fp => pts_nil)
      (fun s' H' C cl fp => pe_dget (by have := (has_blk (scope := scope) hX s' H' C cl fp).room.un; omega) (pe_var (i := i) (by rw [(has_blk (scope := scope) hX s' H' C cl fp).N]; exact hN) (by rw [(has_blk (scope := scope) hX s' H' C cl fp).sc]; exact hVx) hd5 hd6)
        (pe_var (i := jv) (by rw [(has_blk (scope := scope) hX s' H' C cl fp).N]; exact hNv) (by rw [(has_blk (scope := scope) hX s' H' C cl fp).sc]; exact hVv) hd3 hd4) (fun _ _ => rfl))) rfl rfl hline))), ?_⟩
  refine h X hX F s R H r _ fun vs ds E1 R1 H1 a1 r1 pd1 ⟨kx, ky, z, f, e1, h128, h128', hkx, hli, hlv, hjt, hz, hf, hZ⟩ => ?_
  subst e1
  cases pd1 with
  | cons q1 pd1 =>
    cases pd1 with
    | cons q2 pd1 =>
      cases pd1
      cases q1
      cases q2
      refine ⟨kx, ky, rfl, h128, h128', by omega, fun p hp => ?_⟩
      have hzs : s[jt]? = some (some (V.str z)) := by
        obtain ⟨v, e, q⟩ := r1.dat jt _ hjt
        cases q
        exact e
      have hlen : ∀ j : Nat, (∃ q, E1[j]? = some q) → j < s.length := fun j ⟨q, e⟩ => by
        rw [← r1.len]
        exact (List.getElem?_eq_some_iff.mp e).1
      have hNl : S.N.length = s.length ∨ True := .inr trivial
      have rv : (revS z).cps.toList = z.cps.toList.reverse := by unfold revS; simp
      refine ⟨⟨_, rfl⟩, V.str z, by rw [List.getElem?_set_ne hij]; exact hzs, z, rfl, by omega, revS z, rfl, fun L hL => ?_⟩
      have hpL : p ≠ L := fun e => by
        rw [← e, upd_same] at hL
        cases hL
      refine ⟨fun t m H2 => m = z.length - t ∧ t ≤ z.length ∧ H2 = upd (upd H1 p (.dK (mergeK [] (zipK kx ky)))) L (.lst ((z.cps.toList.reverse.take t).map fun c => V.str ⟨#[f c]⟩)), ⟨_, rfl, Nat.zero_le _, rfl⟩, ?_⟩
      rintro t m H2 ⟨rfl, ht, rfl⟩
      have hsz : (revS z).cps.size = z.length := by rw [← Array.length_toList, rv, List.length_reverse]; exact Array.length_toList
      by_cases hlt : t < z.length
      · refine .inr ⟨show t < (revS z).cps.size by rw [hsz]; exact hlt, fun H3 => H3 = upd (upd H1 p (.dK (mergeK [] (zipK kx ky)))) L (.lst ((z.cps.toList.reverse.take (t + 1)).map fun c => V.str ⟨#[f c]⟩)), fun H3 e => ⟨z.length - (t + 1), by omega, rfl, hlt, e⟩, ?_⟩
        rintro y H3 ⟨rfl, c, hc, rfl⟩
        have hc' : z.cps.toList.reverse[t]? = some c := by rw [← rv, Array.getElem?_toList]; exact hc
        have hcm : c ∈ z.cps.toList := List.mem_reverse.mp (List.mem_of_getElem? hc')
        refine ⟨by show List.set (List.set (List.set (List.set s i (some (V.ref p))) jv none) jv _) jv none = List.set (List.set s i (some (V.ref p))) jv none; rw [List.set_set, List.set_set], ?_⟩
        unfold tYes
        simp only [if_true]
        refine ⟨V.ref p, ?_, V.str ⟨#[c]⟩, ?_, p, V.str ⟨#[f c]⟩, rfl, ?_, _, upd_same, ?_, ?_⟩
        · show (List.set (List.set (List.set s i (some (V.ref p))) jv none) jv _)[i]? = _
          rw [List.getElem?_set_ne (Ne.symm hiv), List.getElem?_set_ne (Ne.symm hiv), List.getElem?_set_self (by rw [← r1.len]; exact hli)]
        · show (List.set (List.set (List.set s i (some (V.ref p))) jv none) jv _)[jv]? = _
          rw [List.getElem?_set_self (by rw [List.length_set, List.length_set, ← r1.len]; exact hlv)]
        · have := DGet.k (k := (.inr ⟨#[c]⟩ : Key)) (H := upd (upd H1 p (.dK (mergeK [] (zipK kx ky)))) L (.lst ((z.cps.toList.reverse.take t).map fun c => V.str ⟨#[f c]⟩))) (a := p) (kvs := mergeK [] (zipK kx ky)) (by rw [upd_ne hpL, upd_same])
          rw [hf c hcm] at this
          exact this
        · rw [List.length_map, List.length_take]
          have : (1000 : Nat) < sizeLine := by decide
          omega
        · rw [upd_upd, List.take_add_one, hc', List.map_append]
          rfl
      · have e : t = z.length := by omega
        subst e
        refine .inl ⟨show (revS z).cps.size ≤ z.length by rw [hsz]; exact Nat.le_refl _, ?_⟩
        have et : z.cps.toList.reverse.take z.length = z.cps.toList.reverse := List.take_of_length_le (by rw [List.length_reverse, Array.length_toList]; exact Nat.le_refl _)
        rw [et]
        refine ⟨_, L, z.cps.toList.reverse.map fun c => (⟨#[f c]⟩ : Str), rfl, rfl, .inl (SqL.of ?_), ?_, ?_⟩
        · rw [upd_same, List.map_map]
          rfl
        · have hs : ∀ cs : List Nat, ((cs.map fun c => (⟨#[f c]⟩ : Str)).map (·.length)).sum = cs.length := by
            intro cs
            induction cs with
            | nil => rfl
            | cons c r ih =>
              rw [List.map_cons, List.map_cons, List.sum_cons, ih, List.length_cons]
              show 1 + r.length = r.length + 1
              omega
          have hl0 : (z.cps.toList.reverse).length = z.length := by rw [List.length_reverse]; exact Array.length_toList
          rw [hs, List.length_map, hl0, show (Str.ofString "").length = 0 from by decide]
          omega
        · have ej : Txt.join (Str.ofString "") (z.cps.toList.reverse.map fun c => (⟨#[f c]⟩ : Str)) = ⟨(z.cps.toList.reverse.map f).toArray⟩ := by
            have := join_one (z.cps.toList.reverse.map f)
            rw [List.map_map] at this
            exact this
          rw [ej]
          refine W.rt _ (.dat (.str ⟨(z.cps.toList.reverse.map f).toArray⟩)) (E1.set i .no) (s.set i (some (V.ref p))) R1 _ a1 (((r1.grow hp).setNo hgi).grow hL) (.str _) hZ
end
end Wq

namespace Wq
open PySem L2
section
variable {K : PySem.W.Frag} {F : Fx} {s : St} {E : En} {R H : Hp}
/-- behind a call that was lent more than the region, and gave a plain value back -/
theorem Rel.backS (r : Rel K F s E R H) {Rx : Hp} {s' : St} {E' : En} {R' H' : Hp} (hs : Same R Rx) (q : Rel K ⟨H, Rx, []⟩ s' E' R' H') : Rel K F s E R H' where
  len := r.len
  sub := (hs.trans q.sub0).trans q.sub
  sub0 := r.sub0
  keep := fun a o e hg => q.keep a o (r.keep a o e hg) fun p hp => nomatch hp
  new := r.new
  giv := r.giv
  dat := r.dat
  own := fun i d e => by
    obtain ⟨a, h1, h2, h3, h4⟩ := r.own i d e
    obtain ⟨o, ho⟩ := h3.some
    have hk := q.keep a o ho fun p hp => nomatch hp
    exact ⟨a, h1, h2, h3.mono (Same.refl _) (by rw [hk, ho]), h4⟩
  inj := r.inj
def plainD : D → Bool
  | .none | .bool _ | .int _ | .str _ => true
  | _ => false
theorem dp_plain {R' : Hp} {v : V} {d : D} (h : Dp K R v d) (hp : plainD d = true) : Dp K R' v d := by
  cases h with
  | non => exact .non
  | bl b => exact .bl b
  | int i => exact .int i
  | str x => exact .str x
  | lst _ _ => cases hp
  | tup _ _ => cases hp
end
section
variable {P : Program} {w : World} {K : PySem.W.Frag} {mg : Str → Option Value} {base : Heap} {N : List Str} {sc scope : Scope} {k0 : Nat}
variable {e : Expr} {es : List Expr} {E : En} {pos p bp : Pos} {ps : List Str} {k : Nat} {x bx : Str} {Z : D → En → Prop}
/-- a call of a pure def whose first argument is an owned list: lent, and still owned behind it; a plain value comes back -/
theorem wcPo (i : Nat) {c : List D → (Sl → Prop) → Prop} (C : CallG P w K mg base x k ps (spP K c))
    (h : WpA (sxOf P w K mg base N sc k0) es E fun ds E1 => ∃ b : List D, E1[i]? = some (Sl.own (.list b)) ∧ c (.list b :: ds) fun r => ∃ d, r = .dat d ∧ plainD d = true ∧ Z d E1)
    (hk : k ≤ k0 := by decide) (hg : GlS (sxOf P w K mg base N sc k0) x := by exact rfl) (hN : N[i]? = some bx := by rfl) (hv : Vis sc bx := by first | exact Or.inl rfl | exact Or.inr (Or.inl rfl) | exact Or.inr (Or.inr rfl)) (hE : ∃ b0, E[i]? = some (Sl.own b0) := by exact ⟨_, rfl⟩)
    (hst : ∀ env : Env, starEach (.Name bx bp :: es) env = (false, eval (.Name bx bp) env) :: starEach es env := by intro _; rfl) (hpl : ∀ env : Env, (backTo pos (starEach es env)).any (·.1) = false := by intro _; rfl) (hdb : (x == ("__debug__" : Str)) = false := by decide +kernel)
    (hd : (bx == ("__debug__" : Str)) = false := by decide +kernel) (hcd : (bx == ("__classdict__" : Str)) = false := by decide +kernel) : WpD (sxOf P w K mg base N sc k0) (.Call (.Name x p) (.Name bx bp :: es) [] pos) E Z := fun X hX F s R H r Q kk => by
  obtain ⟨f, fd, Fn, hm, kp, hb⟩ := C
  have Fn' : FnG X.prog X.w X.K X.mg X.base k f fd ps (spP X.K c) := by
    rw [hX.prog, hX.w, hX.K, hX.mg, hX.base]
    exact Fn
  refine ⟨_, peg_call Fn' (hX.room.mono hk) hX.grd (hg.gl hX) (by rw [hX.mg]; exact hm) (by rw [hX.K]; exact kp) (by rw [hX.K]; exact hb) (pa_cons (pe_var (i := i) (by rw [hX.N]; exact hN) (by rw [hX.sc]; exact hv) hd hcd) pa_rd (hst _)) hdb (hst _) (hpl _), ?_⟩
  obtain ⟨b0, hE0⟩ := hE
  obtain ⟨ad, ha, _⟩ := r.own i b0 hE0
  refine ⟨_, ha, ?_⟩
  refine h X hX F s R H r _ fun vs ds E1 R1 H1 s1 r1 p1 ⟨b, hE1, h1⟩ => ?_
  obtain ⟨ad', ha', hR, ⟨bs, hH, hbs⟩, _⟩ := r1.own i _ hE1
  obtain rfl : ad = ad' := by
    rw [ha] at ha'
    cases ha'
    rfl
  have sm : Same R1 (upd R1 ad (.lst bs)) := same_upd hR
  show spP X.K c ((V.ref ad :: vs) ++ []) H1 _ _
  rw [List.append_nil, hX.K]
  have pargs : DpAll K (upd R1 ad (.lst bs)) (V.ref ad :: vs) (.list b :: ds) := .cons (.lst (SqL.of upd_same) (dpAll_mono sm _ _ hbs)) (dpAll_mono sm _ _ p1)
  have subx : Same (upd R1 ad (.lst bs)) H1 := fun c o e => by
    by_cases hc : c = ad
    · subst hc
      rw [upd_same] at e
      cases e
      exact hH
    · rw [upd_ne hc] at e
      exact r1.sub c o e
  have rel : Rel K ⟨H1, upd R1 ad (.lst bs), []⟩ ((V.ref ad :: vs).map some) ((PyData.list b :: ds).map Sl.dat) (upd R1 ad (.lst bs)) H1 := {
    len := by rw [List.length_map, List.length_map, dpAll_len pargs]
    sub := subx
    sub0 := Same.refl _
    keep := fun _ _ e _ => e
    new := fun a o e => .inl ⟨o, e⟩
    giv := fun p hp => nomatch hp
    dat := fun j d e => by
      rw [List.getElem?_map] at e
      cases z : (PyData.list b :: ds)[j]? with
      | none => rw [z] at e; cases e
      | some d' =>
        rw [z] at e
        cases e
        obtain ⟨v, g1, g2⟩ := dpAll_get pargs z
        exact ⟨v, by rw [List.getElem?_map, g1]; rfl, g2⟩
    own := fun j d e => by
      rw [List.getElem?_map] at e
      cases z : (PyData.list b :: ds)[j]? with
      | none => rw [z] at e; cases e
      | some d' => rw [z] at e; cases e
    inj := fun j l d d' a e => by
      rw [List.getElem?_map] at e
      cases z : (PyData.list b :: ds)[j]? with
      | none => rw [z] at e; cases e
      | some d' => rw [z] at e; cases e }
  refine ⟨upd R1 ad (.lst bs), [], (PyData.list b :: ds).map Sl.dat, fun r _ => ∃ d, r = .dat d ∧ plainD d = true ∧ Z d E1, rfl, rel, ⟨_, rfl, ?_⟩, fun v x outs R' H' a q ok z => ?_⟩
  · have e : (fun r => ∀ outs : List Sl, ∃ d, r = Sl.dat d ∧ plainD d = true ∧ Z d E1) = fun r => ∃ d, r = Sl.dat d ∧ plainD d = true ∧ Z d E1 := by funext r; exact propext ⟨fun h => h [], fun h _ => h⟩
    rw [e]
    exact h1
  · obtain ⟨d, rfl, hp, z⟩ := z
    exact kk v d E1 R1 H' s1 (r1.backS sm q) (dp_plain ok hp) z
end
section
variable {S : Sx} {G : List Nat} {E : En} {Z : EnS} {a b c : Expr} {x y z : Str} {i j l : Nat}
theorem s_par3 {px py pz pt pt2 sp : Pos} {kt k2 : Nat} (hN : S.N[i]? = some x) (hx : S.sc.names.lookup x = some NameKind.local) (hNy : S.N[j]? = some y) (hy : S.sc.names.lookup y = some NameKind.local) (hNz : S.N[l]? = some z) (hz : S.sc.names.lookup z = some NameKind.local) (hij : i ≠ j) (hil : i ≠ l) (hjl : j ≠ l) (hGi : i ∉ G) (hGj : j ∉ G) (hGl : l ∉ G)
    (h : WpA S [a, b, c] E fun ds E1 => ∃ d1 d2 d3, ds = [d1, d2, d3] ∧ i < E1.length ∧ j < E1.length ∧ l < E1.length ∧ Z.nx (((E1.set i (.dat d1)).set j (.dat d2)).set l (.dat d3)))
    (hw : ∀ env : Env, env.scope = S.sc → swappedStores [.Tuple [.Name x px, .Name y py, .Name z pz] kt pt] (.Tuple [a, b, c] k2 pt2) env = pure (some [x, y, z]))
    (hs : ∀ env : Env, swapsWithSole [.Tuple [.Name x px, .Name y py, .Name z pz] kt pt] (.Tuple [a, b, c] k2 pt2) sp.line env = pure false := by intro _; rfl) :
    WpS S G (.Assign [.Tuple [.Name x px, .Name y py, .Name z pz] kt pt] (.Tuple [a, b, c] k2 pt2) sp) E Z := fun X hX F s R H hg r D W => by
  refine ⟨_, ps_par3 (i := i) (j := j) (l := l) hX.calm hX.nd (by rw [hX.N]; exact hN) (by rw [hX.N]; exact hNy) (by rw [hX.N]; exact hNz) hij hil hjl (by rw [hX.sc]; exact hx) (by rw [hX.sc]; exact hy) (by rw [hX.sc]; exact hz) pa_rd (hw _ hX.sc) (hs _), ?_⟩
  have gi : ∀ q, q ∉ G → ∀ p ∈ F.g, p.1 ≠ q := fun q hq p hp e => hq (by rw [← hg, ← e]; exact List.mem_map_of_mem hp)
  refine h X hX F s R H r _ fun vs ds E1 R1 H1 s1 r1 p1 ⟨d1, d2, d3, e1, l1, l2, l3, h1⟩ => ?_
  subst e1
  cases p1 with
  | cons q1 p1 =>
    cases p1 with
    | cons q2 p1 =>
      cases p1 with
      | cons q3 p1 =>
        cases p1
        refine ⟨_, _, _, rfl, ?_⟩
        have r2 := r1.setDat (i := i) l1 (gi i hGi) q1
        have r3 := r2.setDat (i := j) (by rw [List.length_set]; exact l2) (gi j hGj) q2
        have r4 := r3.setDat (i := l) (by rw [List.length_set, List.length_set]; exact l3) (gi l hGl) q3
        exact W.nx _ _ R1 H1 s1 r4 h1
/-- return x if c else e, x an owned list of the def's own -/
theorem s_retIf {ct e : Expr} {p ip rp : Pos} (hN : S.N[i]? = some x) (hv : Vis S.sc x) (hG : i ∉ G) (h : WpT S ct E fun t E1 => (t = true → ∃ d, E1[i]? = some (.own d) ∧ Z.rt (.own d) (E1.set i .no)) ∧ (t = false → Wp S e E1 fun r E' => Z.rt r E'))
    (hd : (x == ("__debug__" : Str)) = false := by decide +kernel) (hcd : (x == ("__classdict__" : Str)) = false := by decide +kernel) : WpS S G (.Return (some (.IfExp ct (.Name x p) e ip)) rp) E Z := fun X hX F s R H hg r D W => by
  refine ⟨_, ps_ret (pe_ifExp pt_rd (pe_var (i := i) (by rw [hX.N]; exact hN) (by rw [hX.sc]; exact hv) hd hcd) pe_rd), ?_⟩
  have hgi : ∀ p ∈ F.g, p.1 ≠ i := fun p hp e => hG (by rw [← hg, ← e]; exact List.mem_map_of_mem hp)
  refine h X hX F s R H r _ fun t E1 R1 H1 s1 r1 ⟨h1, h2⟩ => ?_
  cases t with
  | true =>
    rw [if_pos rfl]
    obtain ⟨d, hE, hZ⟩ := h1 rfl
    obtain ⟨a, ha, hR, hO, h0⟩ := r1.own i d hE
    refine ⟨_, ha, W.rt (.ref a) (.own d) (E1.set i .no) (s.set i none) R1 H1 s1 (r1.setNo hgi) ⟨a, rfl, hR, hO, ?_, fun j d' e z => ?_⟩ hZ⟩
    · rcases h0 with q | q
      · exact q
      · exact absurd rfl (hgi _ q)
    · rcases get_set e with ⟨_, e1⟩ | ⟨hn, e1⟩
      · cases e1
      · rw [set_ne hn] at z
        exact hn (r1.inj i j _ d' a hE e1 ha z)
  | false =>
    rw [if_neg Bool.false_ne_true]
    exact h2 rfl X hX F s R1 H1 r1 _ fun v r' E' R' H' a r2 p q => W.rt v r' E' s R' H' (s1.trans a) r2 p q
end
end Wq

namespace Wq
open PySem L2
def topS (i : Nat) : Stmt := PySem.Challenge.pw_solvedplay_k07_places_of_texts.main.body.getD i (.Pass ⟨0, 0, 0, 0⟩)
abbrev sStands : Stmt := topS 2
abbrev sPlaces : Stmt := topS 1
abbrev nStands : List Str := ["shape", "row", "text", "place", "at"]
theorem scStands : FnScope nStands ["shape", "row", "text", "place"] (defScope sStands) := ⟨rfl, rfl, rfl, by decide +kernel, rfl, by decide +kernel, by decide +kernel⟩
/-- the text stands at the place -/
def standsM (line : Bool) (row text : Str) (place : Nat) : Bool :=
  if line then decide (cutS row (some (place : Int)) (some ((place : Int) + (text.length : Int))) = text)
  else (List.range text.length).all fun i => decide (row.cps.toList[(place + i) % row.length]? = text.cps.toList[i]?)
theorem one_eq {c d : Nat} : decide ((⟨#[c]⟩ : Str) = ⟨#[d]⟩) = decide (c = d) := by
  by_cases h : c = d
  · subst h; simp
  · have : ¬ (⟨#[c]⟩ : Str) = ⟨#[d]⟩ := fun e => h (by injection e with e; simpa using e)
    rw [decide_eq_false h, decide_eq_false this]
theorem at_lt {z : Str} {i : Nat} (h : i < z.length) : ∃ c, z.cps.toList[i]? = some c := by
  have h' : i < z.cps.toList.length := by rw [Array.length_toList]; exact h
  exact ⟨_, List.getElem?_eq_getElem h'⟩
local macro_rules | `(tactic| walk_at "a") => `(tactic| first
  | refine wd_int ?_ | refine wd_str ?_ | refine wd_bl ?_ | refine wd_non ?_ | refine wa_nil ?_ | refine wa_cons ?_
  | refine nm 0 ?_ | refine nm 1 ?_ | refine nm 2 ?_ | refine nm 3 ?_ | refine nm 4 ?_ | refine nm 5 ?_ | refine nm 6 ?_ | refine nm 7 ?_)
section
variable {P : Program} {w : World} {K : PySem.W.Frag} {mg : Str → Option Value} {base : Heap}
def lineS : Str := Str.ofString "line"
def cStands : List D → (Sl → Prop) → Prop := fun ds post => ∃ (sh row text : Str) (place : Nat), ds = [.str sh, .str row, .str text, .int (place : Int)] ∧ place < row.length ∧ row.length ≤ 1000 ∧ text.length ≤ 1000 ∧ post (.dat (.bool (standsM (decide (sh = lineS)) row text place)))
theorem ok_stands {f : Addr} {fd : FuncData} (F : Fun K "stands" "stands" sStands f fd) (hall : mg "all" = none) (hlen : mg "len" = none) (hrange : mg "range" = none) : FnG P w K mg base 1 f fd ["shape", "row", "text", "place"] (spP K cStands) := by
  refine def_P F scStands ?_ ?_
  · rintro ds post ⟨sh, row, text, place, rfl, _⟩
    rfl
  · rintro ds post ⟨sh, row, text, place, rfl, hp, hr, ht, hpost⟩
    show WpSs (sxOf P w K mg base nStands (defScope sStands) 0) [] (defBody sStands) [.dat (.str sh), .dat (.str row), .dat (.str text), .dat (.int (place : Int)), .no] _
    refine ss_cons (s_if (wt_eq ?_))
    walk_at "a"
    walk_at "a"
    refine ⟨rfl, and_tf (fun h => ?_) fun h => ?_⟩
    · refine ss_one (s_ret (WpD.wp (wd_eq (wd_slS ?_))))
      walk_at "a"
      refine wo_some ?_
      walk_at "a"
      refine ⟨_, rfl, wo_some (wd_add ?_)⟩
      walk_at "a"
      refine wd_len rfl hlen (WpD.k ?_)
      walk_at "a"
      refine ⟨_, .str (by omega), _, _, rfl, rfl, _, rfl, _, rfl, by omega, ?_⟩
      walk_at "a"
      refine ⟨rfl, ?_⟩
      have e : sh = lineS := of_decide_eq_true h
      have := hpost
      simp only [standsM, e, decide_true, if_true] at this
      exact this
    · refine ss_nil ?_
      refine ss_one (s_ret (WpD.wp (wd_all rfl hall (WpD.k (Wp.d (wp_lc [("at", 4)] (blkOk_by (N := nStands) (sc := defScope sStands) (by decide +kernel)) ?_))))))
      refine wi_range1 rfl hrange (wd_len rfl hlen (WpD.k ?_))
      walk_at "a"
      refine ⟨_, .str (by omega), _, rfl, by omega, by omega, ?_⟩
      refine ⟨fun i hi => ?_, fun t acc Et => acc = ((List.range t).map fun i => decide (row.cps.toList[(place + i) % row.length]? = text.cps.toList[i]?)).map PyData.bool ∧ Et = [.dat (.str sh), .dat (.str row), .dat (.str text), .dat (.int (place : Int)), .no], ⟨rfl, rfl⟩, ?_, ?_⟩
      · have : i = 4 := by simpa using hi
        subst this
        exact no_i rfl fun _ z => by cases z
      · rintro t acc Et d hd ⟨rfl, rfl⟩
        obtain ⟨ht', rfl⟩ := intsD_get hd
        refine g_name (i := 4) rfl (.inl rfl) rfl (by simp) (no_i rfl fun _ z => by cases z) (wts_nil (and_tf (fun _ => ?_) fun h => by cases h))
        refine wd_eq (wd_ix ?_)
        walk_at "a"
        refine wd_mod (wd_add ?_)
        walk_at "a"
        walk_at "a"
        refine ⟨_, _, rfl, rfl, wd_len rfl hlen (WpD.k ?_)⟩
        walk_at "a"
        have hrl : 0 < row.length := by omega
        have hpos : (0 : Int) < (row.length : Int) := by omega
        have eix : ((place : Int) + (0 + (t : Int))) % (row.length : Int) = (((place + t) % row.length : Nat) : Int) := by
          rw [Int.zero_add, Int.natCast_emod, Int.natCast_add]
        have hlt : (place + t) % row.length < row.length := Nat.mod_lt _ hrl
        obtain ⟨c1, hc1⟩ := at_lt (z := row) hlt
        refine ⟨_, .str (by omega), _, _, rfl, rfl, hpos, _, _, rfl, .str (c := c1) (by omega) ?_, ?_⟩
        · rw [eix]
          exact atI_nat hc1
        refine wd_ix ?_
        walk_at "a"
        walk_at "a"
        have ht2 : t < text.length := by omega
        obtain ⟨c2, hc2⟩ := at_lt (z := text) ht2
        refine ⟨_, _, rfl, .str (c := c2) (by omega) ?_, ?_⟩
        · rw [Int.zero_add]
          exact atI_nat hc2
        refine ⟨rfl, ?_, ?_, ?_, rfl⟩
        · rw [List.length_map, List.length_map, List.length_range]
          omega
        · intro i hi
          have : i = 4 := by simpa using hi
          subst this
          exact no_i rfl fun _ z => by cases z
        · rw [List.range_succ, List.map_append, List.map_append]
          congr 1
          show [PyData.bool (decide ((⟨#[c1]⟩ : Str) = ⟨#[c2]⟩))] = [PyData.bool (decide (row.cps.toList[(place + t) % row.length]? = text.cps.toList[t]?))]
          rw [one_eq, hc1, hc2]
          simp only [Option.some.injEq]
      · rintro acc Et ⟨rfl, rfl⟩
        refine ⟨_, rfl, ?_⟩
        have e : ¬ sh = lineS := of_decide_eq_false h
        have q := hpost
        simp only [standsM, e, decide_false, Bool.false_eq_true, if_false] at q
        have el : (intsD 0 ((text.length : Int)).toNat).length = text.length := by rw [intsD_len]; omega
        show post (Sl.dat (PyData.bool (List.all (List.map _ (List.range (intsD 0 _).length)) id)))
        rw [el, List.all_map]
        exact q
end
end Wq

namespace Wq
open PySem L2
local macro_rules | `(tactic| walk_at "a") => `(tactic| first
  | refine wd_int ?_ | refine wd_str ?_ | refine wd_bl ?_ | refine wd_non ?_ | refine wa_nil ?_ | refine wa_cons ?_
  | refine nm 0 ?_ | refine nm 1 ?_ | refine nm 2 ?_ | refine nm 3 ?_ | refine nm 4 ?_ | refine nm 5 ?_ | refine nm 6 ?_ | refine nm 7 ?_)
abbrev sBox : Stmt := topS 4
abbrev sTake : Stmt := topS 5
abbrev sOf : Stmt := topS 8
abbrev sText : Stmt := topS 9
abbrev nBox : List Str := ["_law_script", "_law_k", "_law_cell"]
abbrev nTake : List Str := ["_law_box_here", "_law_room", "_law_found", "_law_step", "_law_once", "_law_twice"]
abbrev nOf : List Str := ["_law_box_here", "_law_some"]
abbrev nText : List Str := ["_law_box_here", "_law_beads", "_law_size", "_law_turn"]
theorem scBox : FnScope nBox ["_law_script", "_law_k"] (defScope sBox) := ⟨rfl, rfl, rfl, by decide +kernel, rfl, by decide +kernel, by decide +kernel⟩
theorem scTake : FnScope nTake ["_law_box_here", "_law_room"] (defScope sTake) := ⟨rfl, rfl, rfl, by decide +kernel, rfl, by decide +kernel, by decide +kernel⟩
theorem scOf : FnScope nOf ["_law_box_here", "_law_some"] (defScope sOf) := ⟨rfl, rfl, rfl, by decide +kernel, rfl, by decide +kernel, by decide +kernel⟩
theorem scText : FnScope nText ["_law_box_here", "_law_beads", "_law_size"] (defScope sText) := ⟨rfl, rfl, rfl, by decide +kernel, rfl, by decide +kernel, by decide +kernel⟩
/-- a box of draws of which at most n were made -/
def Bx (n : Nat) (b : D) : Prop := ∃ x y c : Int, b = .list [.int x, .int y, .int c] ∧ 0 ≤ x ∧ 0 ≤ y ∧ y < 2147483647 ∧ 0 ≤ c ∧ c ≤ n
theorem Bx.mono {n m : Nat} {b : D} (h : Bx n b) (hm : n ≤ m) : Bx m b := by
  obtain ⟨x, y, c, h1, h2, h3, h4, h5, h6⟩ := h
  exact ⟨x, y, c, h1, h2, h3, h4, h5, by omega⟩
theorem bit_b (b : Bool) : (-2 ^ 64 < if b = true then (1 : Int) else 0) ∧ (if b = true then (1 : Int) else 0) < 2 ^ 64 ∧ (0 : Int) ≤ (if b = true then (1 : Int) else 0) := by cases b <;> decide
section
variable {P : Program} {w : World} {K : PySem.W.Frag} {mg : Str → Option Value} {base : Heap}
def cBox : List D → (Sl → Prop) → Prop := fun ds post => ∃ (cells : List Int) (k : Nat), ds = [.list (cells.map PyData.int), .int (k : Int)] ∧ k ≤ 100 ∧ ∀ b, Bx 0 b → post (.own b)
theorem ok_box {f : Addr} {fd : FuncData} (F : Fun K "_law_box" "_law_box" sBox f fd) (hlen : mg "len" = none) (habs : mg "abs" = none) (hint : mg "int" = none) : FnG P w K mg base 1 f fd ["_law_script", "_law_k"] (spP K cBox) := by
  refine def_P F scBox ?_ ?_
  · rintro ds post ⟨cells, k, rfl, _⟩
    rfl
  · rintro ds post ⟨cells, k, rfl, hk, hpost⟩
    show WpSs (sxOf P w K mg base nBox (defScope sBox) 0) [] (defBody sBox) [.dat (.list (cells.map PyData.int)), .dat (.int (k : Int)), .no] _
    refine ss_cons (s_set (i := 2) rfl (.inl rfl) rfl (by simp) (WpD.wp (wd_if (wt_ord ?_))))
    walk_at "a"
    refine wd_len rfl hlen (WpD.k ?_)
    walk_at "a"
    have key : ∀ c : Int, WpSs (sxOf P w K mg base nBox (defScope sBox) 0) [] (defBody sBox).tail [.dat (.list (cells.map PyData.int)), .dat (.int (k : Int)), .dat (.int c)] { nx := fun _ => post (.dat .none), rt := fun r _ => post r } := fun c => by
      refine ss_one (s_ret (wp_lst ?_))
      refine wa_cons (wd_mul (wd_abs rfl habs ?_))
      walk_at "a"
      refine ⟨_, rfl, wd_int1 rfl hint (wd_ord (wd_abs rfl habs ?_))⟩
      walk_at "a"
      refine ⟨_, rfl, wd_pow ?_⟩
      walk_at "a"
      walk_at "a"
      refine ⟨_, _, rfl, rfl, ⟨by decide, by decide, by decide⟩, _, _, rfl, rfl, .inr ⟨_, rfl, _, _, rfl, rfl, ?_, ?_⟩⟩
      · exact .inr ⟨(bit_b _).1, (bit_b _).2.1⟩
      refine wa_cons (wd_mod (wd_mul (wd_add (wd_add (wd_mod ?_)))))
      walk_at "a"
      walk_at "a"
      refine ⟨_, _, rfl, rfl, by decide, wd_mul ?_⟩
      walk_at "a"
      walk_at "a"
      refine ⟨_, _, rfl, rfl, .inl (by decide), _, _, rfl, rfl, ?_⟩
      walk_at "a"
      refine ⟨_, _, rfl, rfl, ?_⟩
      walk_at "a"
      refine ⟨_, _, rfl, rfl, .inr (by decide), ?_⟩
      walk_at "a"
      refine ⟨_, _, rfl, rfl, by decide, ?_⟩
      walk_at "a"
      walk_at "a"
      walk_at "a"
      refine ⟨Nat.le_of_ble_eq_true rfl, hpost _ ⟨_, _, _, rfl, ?_, ?_, ?_, by decide, by decide⟩⟩
      · have : (0 : Int) ≤ (if c < 0 then -c else c) := by split <;> omega
        exact Int.mul_nonneg this (bit_b _).2.2
      · exact Int.emod_nonneg _ (by decide)
      · exact Int.emod_lt_of_pos _ (by decide)
    refine ⟨_, .lst, _, _, rfl, rfl, and_tf (fun h => ?_) fun h => ?_⟩
    · refine wd_ix ?_
      walk_at "a"
      walk_at "a"
      have hlt : k < cells.length := by
        have h' : ((k : Int) < ((cells.map PyData.int).length : Nat)) := of_decide_eq_true h
        rw [List.length_map] at h'
        omega
      refine ⟨_, .int cells[k], rfl, .lst (atI_nat ?_), Nat.le_of_ble_eq_true rfl, key _⟩
      rw [List.getElem?_map, List.getElem?_eq_getElem hlt]
      rfl
    · walk_at "a"
      exact ⟨Nat.le_of_ble_eq_true rfl, key _⟩
end
end Wq

namespace Wq
open PySem L2
local macro_rules | `(tactic| walk_at "a") => `(tactic| first
  | refine wd_int ?_ | refine wd_str ?_ | refine wd_bl ?_ | refine wd_non ?_ | refine wa_nil ?_ | refine wa_cons ?_
  | refine nm 0 ?_ | refine nm 1 ?_ | refine nm 2 ?_ | refine nm 3 ?_ | refine nm 4 ?_ | refine nm 5 ?_ | refine nm 6 ?_ | refine nm 7 ?_
  | refine wd_ixOwn (i := 0) rfl (.inl rfl) ⟨_, rfl⟩ ?_
  | refine wd_add ?_ | refine wd_mul ?_ | refine wd_mod ?_ | refine wd_fdiv ?_ | refine wd_pow ?_
  | refine ⟨_, _, rfl, rfl, ?_⟩)
section
variable {P : Program} {w : World} {K : PySem.W.Frag} {mg : Str → Option Value} {base : Heap}
def cTake : D → List D → (Sl → D → Prop) → Prop := fun b ds post => ∃ (n : Nat) (room : Int), ds = [.int room] ∧ 0 < room ∧ room ≤ 10000000 ∧ Bx n b ∧ n < 1000000000 ∧ ∀ (r : Nat) b', (r : Int) < room → Bx (n + 1) b' → post (.dat (.int (r : Int))) b'
theorem ok_take {f : Addr} {fd : FuncData} (F : Fun K "_law_take" "_law_take" sTake f fd) (hdm : mg "divmod" = none) : FnG P w K mg base 1 f fd ["_law_box_here", "_law_room"] (spB K cTake) := by
  refine def_B F scTake ?_ ?_
  · rintro b ds post ⟨n, room, rfl, _⟩
    rfl
  · rintro b ds post ⟨n, room, rfl, h0, h1, ⟨x, y, c, rfl, hx, hy, hy2, hc, hc2⟩, hn, hpost'⟩
    have hpost : ∀ (r : Int) b', 0 ≤ r → r < room → Bx (n + 1) b' → post (.dat (.int r)) b' := fun r b' h1 h2 h3 => by
      obtain ⟨m, rfl⟩ := Int.eq_ofNat_of_zero_le h1
      exact hpost' m b' h2 h3
    show WpSs (sxOf P w K mg base nTake (defScope sTake) 0) [0] (defBody sTake) [.own (.list [.int x, .int y, .int c]), .dat (.int room), .no, .no, .no, .no] _
    refine ss_cons (s_if (wt_ord ?_))
    walk_at "a"
    walk_at "a"
    refine ⟨_, _, _, rfl, rfl, rfl, ?_⟩
    walk_at "a"
    refine ⟨_, _, rfl, rfl, and_tf (fun h => ?_) fun h => ?_⟩
    · refine ss_cons (s_storeTwo (i := 0) (j := 2) rfl (.inl rfl) rfl (.inl rfl) rfl ⟨_, rfl⟩ (wd_divmod rfl hdm ?_))
      walk_at "a"
      walk_at "a"
      refine ⟨_, _, _, rfl, rfl, rfl, ?_⟩
      walk_at "a"
      refine ⟨_, _, rfl, rfl, ⟨h0, by omega⟩, _, _, rfl, ⟨_, rfl⟩, ?_⟩
      walk_at "a"
      refine ⟨_, _, _, rfl, rfl, rfl, no_i rfl (fun _ z => by cases z), ?_⟩
      refine ss_one (s_ret (WpD.wp ?_))
      walk_at "a"
      refine ⟨_, rfl, hpost _ _ (Int.emod_nonneg _ (by omega)) (Int.emod_lt_of_pos _ h0) ⟨_, _, _, rfl, Int.ediv_nonneg hx (by omega), hy, hy2, hc, by omega⟩⟩
    · refine ss_nil ?_
      refine ss_cons (s_if (wt_ord ?_))
      walk_at "a"
      walk_at "a"
      walk_at "a"
      walk_at "a"
      refine ⟨_, _, rfl, rfl, ⟨by decide, by decide, by decide⟩, _, _, rfl, rfl, and_tf (fun h => ?_) fun _ => ?_⟩
      · have h' : (10 ^ Int.toNat 7 : Int) < room := of_decide_eq_true h
        have e : (10 ^ Int.toNat 7 : Int) = 10000000 := rfl
        omega
      refine ss_nil ?_
      refine ss_cons (s_store (i := 0) rfl (.inl rfl) ⟨_, rfl⟩ ?_)
      walk_at "a"
      walk_at "a"
      walk_at "a"
      refine ⟨_, _, _, rfl, rfl, rfl, ?_⟩
      walk_at "a"
      walk_at "a"
      refine ⟨⟨_, rfl⟩, ?_⟩
      walk_at "a"
      refine ⟨_, _, _, rfl, rfl, rfl, ?_⟩
      have hc1 : c + 1 ≤ 1000000001 := by omega
      refine ss_cons (s_set (i := 3) rfl (.inl rfl) rfl (by simp) (WpD.wp ?_))
      walk_at "a"
      walk_at "a"
      walk_at "a"
      walk_at "a"
      walk_at "a"
      refine ⟨_, _, _, rfl, rfl, rfl, ?_⟩
      walk_at "a"
      walk_at "a"
      refine ⟨_, _, _, rfl, rfl, rfl, ?_⟩
      walk_at "a"
      refine ⟨.inl ⟨by omega, by omega⟩, ?_⟩
      walk_at "a"
      refine ⟨Nat.le_of_ble_eq_true rfl, ?_⟩
      refine ss_cons (s_set (i := 4) rfl (.inl rfl) rfl (by simp) (WpD.wp ?_))
      walk_at "a"
      walk_at "a"
      walk_at "a"
      walk_at "a"
      walk_at "a"
      refine ⟨_, _, _, rfl, rfl, rfl, ?_⟩
      walk_at "a"
      walk_at "a"
      walk_at "a"
      walk_at "a"
      refine ⟨_, _, _, rfl, rfl, rfl, ?_⟩
      walk_at "a"
      refine ⟨.inl ⟨by decide, by decide⟩, ?_⟩
      walk_at "a"
      walk_at "a"
      walk_at "a"
      refine ⟨.inl ⟨by omega, by omega⟩, ?_⟩
      walk_at "a"
      walk_at "a"
      refine ⟨by decide, Nat.le_of_ble_eq_true rfl, ?_⟩
      generalize ho : (y + 39373 * (c + 1)) * (69621 + (c + 1) * (c + 1)) % 2147483587 = once
      have o1 : 0 ≤ once := by rw [← ho]; exact Int.emod_nonneg _ (by decide)
      have o2 : once < 2147483587 := by rw [← ho]; exact Int.emod_lt_of_pos _ (by decide)
      refine ss_cons (s_set (i := 5) rfl (.inl rfl) rfl (by simp) (WpD.wp ?_))
      walk_at "a"
      walk_at "a"
      walk_at "a"
      walk_at "a"
      walk_at "a"
      walk_at "a"
      walk_at "a"
      walk_at "a"
      walk_at "a"
      refine ⟨by decide, ?_⟩
      walk_at "a"
      walk_at "a"
      walk_at "a"
      refine ⟨.inl ⟨by omega, by omega⟩, ?_⟩
      walk_at "a"
      walk_at "a"
      refine ⟨_, _, _, rfl, rfl, rfl, ?_⟩
      walk_at "a"
      walk_at "a"
      walk_at "a"
      refine ⟨by decide, Nat.le_of_ble_eq_true rfl, ?_⟩
      generalize ht : (once * (once % 30011 + 5) + (c + 1)) % 2147483563 = tw
      have t1 : 0 ≤ tw := by rw [← ht]; exact Int.emod_nonneg _ (by decide)
      have t2 : tw < 2147483563 := by rw [← ht]; exact Int.emod_lt_of_pos _ (by decide)
      refine ss_one (s_ret (WpD.wp ?_))
      walk_at "a"
      walk_at "a"
      walk_at "a"
      walk_at "a"
      walk_at "a"
      walk_at "a"
      walk_at "a"
      walk_at "a"
      walk_at "a"
      walk_at "a"
      refine ⟨by decide, ?_⟩
      walk_at "a"
      walk_at "a"
      walk_at "a"
      refine ⟨.inl ⟨by omega, by omega⟩, ?_⟩
      walk_at "a"
      walk_at "a"
      refine ⟨by decide, ?_⟩
      walk_at "a"
      walk_at "a"
      refine ⟨⟨by decide, by decide⟩, ?_⟩
      walk_at "a"
      walk_at "a"
      refine ⟨h0, _, rfl, hpost _ _ (Int.emod_nonneg _ (by omega)) (Int.emod_lt_of_pos _ h0) ⟨_, _, _, rfl, hx, hy, hy2, by omega, by omega⟩⟩
end
end Wq

namespace Wq
open PySem L2
local macro_rules | `(tactic| walk_at "a") => `(tactic| first
  | refine wd_int ?_ | refine wd_str ?_ | refine wd_bl ?_ | refine wd_non ?_ | refine wa_nil ?_ | refine wa_cons ?_
  | refine nm 0 ?_ | refine nm 1 ?_ | refine nm 2 ?_ | refine nm 3 ?_ | refine nm 4 ?_ | refine nm 5 ?_ | refine nm 6 ?_ | refine nm 7 ?_)
/-- a text of so many signs, each of the beads -/
def Tx (beads : Str) (m : Nat) (z : Str) : Prop := z.length = m ∧ ∀ c ∈ z.cps.toList, c ∈ beads.cps.toList
inductive ItemsD : D → List D → Prop where
  | lst {ds} : ItemsD (.list ds) ds
  | tup {ds} : ItemsD (.tuple ds) ds
  | str {z : Str} (h : z.length ≤ 100000) : ItemsD (.str z) (z.cps.toList.map fun c => .str (one c))
theorem ItemsD.len {d : D} {ds : List D} (h : ItemsD d ds) : LenD d ds.length := by
  cases h with
  | lst => exact .lst
  | tup => exact .tup
  | str h =>
    rw [List.length_map, Array.length_toList]
    exact .str h
theorem ItemsD.item {d : D} {ds : List D} (h : ItemsD d ds) {r : Nat} (hr : r < ds.length) : ItemD d (r : Int) ds[r] := by
  cases h with
  | lst => exact .lst (atI_nat (List.getElem?_eq_getElem hr))
  | tup => exact .tup (atI_nat (List.getElem?_eq_getElem hr))
  | str h =>
    rw [List.getElem_map]
    refine .str h (atI_nat (List.getElem?_eq_getElem ?_))
    simpa using hr
section
variable {P : Program} {w : World} {K : PySem.W.Frag} {mg : Str → Option Value} {base : Heap}
def cOf : D → List D → (Sl → D → Prop) → Prop := fun b ds post => ∃ (n : Nat) (coll : D) (items : List D), ds = [coll] ∧ ItemsD coll items ∧ 0 < items.length ∧ items.length ≤ 1000 ∧ Bx n b ∧ n < 1000000000 ∧ ∀ d ∈ items, ∀ b', Bx (n + 1) b' → post (.dat d) b'
theorem ok_of {f : Addr} {fd : FuncData} (F : Fun K "_law_of" "_law_of" sOf f fd) (hlen : mg "len" = none) (hTake : CallG P w K mg base "_law_take" 1 ["_law_box_here", "_law_room"] (spB K cTake)) : FnG P w K mg base 2 f fd ["_law_box_here", "_law_some"] (spB K cOf) := by
  refine def_B F scOf ?_ ?_
  · rintro b ds post ⟨n, coll, items, rfl, _⟩
    rfl
  · rintro b ds post ⟨n, coll, items, rfl, hi, h0, h1, hb, hn, hpost⟩
    show WpSs (sxOf P w K mg base nOf (defScope sOf) 1) [0] (defBody sOf) [.own b, .dat coll] _
    refine ss_one (s_ret (WpD.wp (wd_ix ?_)))
    walk_at "a"
    refine wd_of (wcB 0 hTake ?_)
    walk_at "a"
    refine wd_len rfl hlen (WpD.k ?_)
    walk_at "a"
    refine ⟨_, hi.len, ?_⟩
    walk_at "a"
    refine ⟨_, rfl, n, _, rfl, by omega, by omega, hb, hn, fun r b' hr hb' => ?_⟩
    have hr' : r < items.length := by omega
    exact ⟨_, rfl, _, _, rfl, hi.item hr', _, rfl, hpost _ (List.getElem_mem _) _ hb'⟩
def cText : D → List D → (Sl → D → Prop) → Prop := fun b ds post => ∃ (n m : Nat) (beads : Str), ds = [.str beads, .int (m : Int)] ∧ 0 < beads.length ∧ beads.length ≤ 1000 ∧ m ≤ 1000 ∧ Bx n b ∧ n + m < 1000000000 ∧ ∀ z, Tx beads m z → ∀ b', Bx (n + m) b' → post (.dat (.str z)) b'
theorem ok_text {f : Addr} {fd : FuncData} (F : Fun K "_law_text" "_law_text" sText f fd) (hrange : mg "range" = none) (hOf : CallG P w K mg base "_law_of" 2 ["_law_box_here", "_law_some"] (spB K cOf)) : FnG P w K mg base 3 f fd ["_law_box_here", "_law_beads", "_law_size"] (spB K cText) := by
  refine def_B F scText ?_ ?_
  · rintro b ds post ⟨n, m, beads, rfl, _⟩
    rfl
  · rintro b ds post ⟨n, m, beads, rfl, h0, h1, hm, hb, hn, hpost⟩
    show WpSs (sxOf P w K mg base nText (defScope sText) 2) [0] (defBody sText) [.own b, .dat (.str beads), .dat (.int (m : Int)), .no] _
    refine ss_one (s_ret (WpD.wp (wd_join ?_)))
    walk_at "a"
    refine ⟨_, rfl, WpD.k (Wp.d (wp_lc [("_law_turn", 3)] (blkOk_by (N := nText) (sc := defScope sText) (by decide +kernel)) ?_))⟩
    refine wi_range1 rfl hrange ?_
    walk_at "a"
    refine ⟨_, rfl, by omega, by omega, ?_⟩
    refine ⟨fun i hi => ?_, fun t acc Et => ∃ (cs : List Nat) (b' : D), acc = (cs.map one).map PyData.str ∧ cs.length = t ∧ (∀ c ∈ cs, c ∈ beads.cps.toList) ∧ Bx (n + t) b' ∧ Et = [.own b', .dat (.str beads), .dat (.int (m : Int)), .no], ⟨[], b, rfl, rfl, (fun c hc => nomatch hc), hb, rfl⟩, ?_, ?_⟩
    · have : i = 3 := by simpa using hi
      subst this
      exact no_i rfl fun _ z => by cases z
    · rintro t acc Et d hd ⟨cs, b', rfl, hct, hcs, hb', rfl⟩
      obtain ⟨ht', rfl⟩ := intsD_get hd
      refine g_name (i := 3) rfl (.inl rfl) rfl (by simp) (no_i rfl fun _ z => by cases z) (wts_nil (and_tf (fun _ => ?_) fun h => by cases h))
      refine wd_of (wcBb 0 hOf ?_)
      walk_at "a"
      walk_at "a"
      walk_at "a"
      refine ⟨_, rfl, n + t, _, _, rfl, .str (by omega), ?_, ?_, hb', by omega, fun d hd b2 hb2 => ?_⟩
      · rw [List.length_map, Array.length_toList]; exact h0
      · rw [List.length_map, Array.length_toList]; exact h1
      obtain ⟨c, hc, rfl⟩ := List.mem_map.mp hd
      refine ⟨_, rfl, ?_, ?_, cs ++ [c], b2, ?_, ?_, ?_, hb2, rfl⟩
      · rw [List.length_map, List.length_map]; omega
      · intro i hi
        have : i = 3 := by simpa using hi
        subst this
        exact no_i rfl fun _ z => by cases z
      · simp
      · simp [hct]
      · intro c' hc'
        rcases List.mem_append.mp hc' with h | h
        · exact hcs _ h
        · rw [List.mem_singleton.mp h]; exact hc
    · rintro acc Et ⟨cs, b', rfl, hct, hcs, hb', rfl⟩
      have el : (intsD 0 ((m : Int)).toNat).length = m := by rw [intsD_len]; omega
      rw [el] at hct hb'
      refine ⟨cs.map one, .inl rfl, ?_, ?_⟩
      · rw [List.map_map, List.length_map]
        have : (List.map ((fun x => x.length) ∘ one) cs).sum = cs.length := by
          clear hct hcs hb' el
          induction cs with
          | nil => rfl
          | cons c r ih => rw [List.map_cons, List.sum_cons, ih]; simp [one, Str.length]; omega
        rw [this, show (Str.ofString "").length = 0 from by decide]
        omega
      · rw [join_one]
        refine ⟨_, rfl, hpost _ ⟨?_, ?_⟩ _ hb'⟩
        · simpa [Str.length] using hct
        · simpa using hcs
end
end Wq

namespace Wq
open PySem L2
local macro_rules | `(tactic| walk_at "a") => `(tactic| first
  | refine wd_int ?_ | refine wd_str ?_ | refine wd_bl ?_ | refine wd_non ?_ | refine wa_nil ?_ | refine wa_cons ?_
  | refine nm 0 ?_ | refine nm 1 ?_ | refine nm 2 ?_ | refine nm 3 ?_ | refine nm 4 ?_ | refine nm 5 ?_ | refine nm 6 ?_ | refine nm 7 ?_)
/-! ### texts -/
theorem len_list (z : Str) : z.cps.toList.length = z.length := Array.length_toList
theorem cut_list (z : Str) (lo hi : Option Int) : (cutS z lo hi).cps.toList = (z.cps.toList.drop (HT.sIx z.length 0 lo)).take (HT.sIx z.length z.length hi - HT.sIx z.length 0 lo) := by
  unfold cutS
  simp
theorem cut_len (z : Str) (lo hi : Option Int) : (cutS z lo hi).length = min (HT.sIx z.length z.length hi - HT.sIx z.length 0 lo) (z.length - HT.sIx z.length 0 lo) := by
  rw [← len_list, cut_list, List.length_take, List.length_drop, len_list]
theorem cut_mem {z : Str} {lo hi : Option Int} {c : Nat} (h : c ∈ (cutS z lo hi).cps.toList) : c ∈ z.cps.toList := by
  rw [cut_list] at h
  exact List.mem_of_mem_drop (List.mem_of_mem_take h)
theorem app_list (a b : Str) : (a ++ b).cps.toList = a.cps.toList ++ b.cps.toList := by
  show (a.cps ++ b.cps).toList = _
  exact Array.toList_append
theorem app_len (a b : Str) : (a ++ b).length = a.length + b.length := by rw [← len_list, app_list, List.length_append, len_list, len_list]
theorem rev_list (z : Str) : (revS z).cps.toList = z.cps.toList.reverse := by unfold revS; simp
theorem Tx.rev {beads z : Str} {m : Nat} (h : Tx beads m z) : Tx beads m (revS z) := by
  refine ⟨by rw [← len_list, rev_list, List.length_reverse, len_list]; exact h.1, fun c hc => h.2 c ?_⟩
  rw [rev_list] at hc
  simpa using hc
theorem Tx.rot {beads z : Str} {m : Nat} (h : Tx beads m z) : Tx beads m (cutS z (some 1) none ++ cutS z none (some 1)) := by
  refine ⟨?_, fun c hc => ?_⟩
  · rw [app_len, cut_len, cut_len]
    have e1 : HT.sIx z.length 0 (some 1) = min 1 z.length := HT.sIx_nat _ _ 1
    have e2 : HT.sIx z.length z.length (some 1) = min 1 z.length := HT.sIx_nat _ _ 1
    rw [e1, e2]
    show min (z.length - _) _ + min (_ - 0) (z.length - 0) = m
    have := h.1
    omega
  · rw [app_list] at hc
    rcases List.mem_append.mp hc with hc | hc <;> exact h.2 c (cut_mem hc)
/-- the beads of the games drawn -/
def Bd (beads : Str) : Prop := beads ∈ [Str.ofString ".xo", Str.ofString ".x", Str.ofString "x.o", Str.ofString ".abz"]
theorem Bd.all {p : Str → Bool} (hp : ([Str.ofString ".xo", Str.ofString ".x", Str.ofString "x.o", Str.ofString ".abz"].all p) = true) {beads : Str} (h : Bd beads) : p beads = true := List.all_eq_true.mp hp _ h
theorem Bd.len {beads : Str} (h : Bd beads) : 2 ≤ beads.length ∧ beads.length ≤ 4 := of_decide_eq_true (h.all (p := fun b => decide (2 ≤ b.length ∧ b.length ≤ 4)) (by decide))
theorem Bd.small {beads : Str} (h : Bd beads) : ∀ c ∈ beads.cps.toList, c < 128 := of_decide_eq_true (h.all (p := fun b => decide (∀ c ∈ b.cps.toList, c < 128)) (by decide))
theorem strOk_of {z : Str} (h : ∀ c ∈ z.cps.toList, c < 128) : PyData.strOk z = true := by
  unfold PyData.strOk
  rw [Array.all_eq_true]
  intro i hi
  have := h z.cps[i] (by simp)
  exact decide_eq_true (by omega)
theorem Tx.ok {beads z : Str} {m : Nat} (hb : Bd beads) (h : Tx beads m z) : PyData.strOk z = true := strOk_of fun c hc => hb.small c (h.2 c hc)
/-! ### data of one form -/
theorem canAll : ∀ {ds : List D}, (∀ d ∈ ds, d.canLay0 = true) → PyData.canLayAll0 ds = true
  | [], _ => rfl
  | d :: r, h => by
    show (d.canLay0 && PyData.canLayAll0 r) = true
    rw [h d (List.mem_cons_self ..), canAll fun x hx => h x (List.mem_cons_of_mem _ hx)]
    rfl
theorem depAll {n : Nat} : ∀ {ds : List D}, (∀ d ∈ ds, d.depth ≤ n) → PyData.depthAll ds ≤ n
  | [], _ => Nat.zero_le _
  | d :: r, h => by
    show max d.depth (PyData.depthAll r) ≤ n
    have h1 := h d (List.mem_cons_self ..)
    have h2 := depAll (n := n) fun x hx => h x (List.mem_cons_of_mem _ hx)
    omega
def Sd (n : Nat) (d : D) : Prop := d.canLay0 = true ∧ d.depth ≤ n
theorem Sd.int {n : Nat} (i : Int) : Sd n (.int i) := ⟨rfl, Nat.zero_le _⟩
theorem Sd.str {n : Nat} {z : Str} (h : PyData.strOk z = true) : Sd n (.str z) := ⟨h, Nat.zero_le _⟩
theorem Sd.lst {n : Nat} {ds : List D} (h : ∀ d ∈ ds, Sd n d) : Sd (n + 1) (.list ds) := ⟨canAll fun d hd => (h d hd).1, Nat.succ_le_succ (depAll fun d hd => (h d hd).2)⟩
theorem Sd.tup {n : Nat} {ds : List D} (h : ∀ d ∈ ds, Sd n d) : Sd (n + 1) (.tuple ds) := ⟨canAll fun d hd => (h d hd).1, Nat.succ_le_succ (depAll fun d hd => (h d hd).2)⟩
theorem Sd.shaped {n : Nat} {d : D} (h : Sd n d) (hn : n ≤ 64) : SeqAt.shaped d = true := by
  unfold SeqAt.shaped
  rw [h.1, Bool.true_and]
  exact decide_eq_true (Nat.le_trans h.2 hn)
theorem Sd.key {n : Nat} {ks : List Key} (h : ∀ x, Sum.inr x ∈ ks → PyData.strOk x = true) : Sd (n + 1) (tupK ks) := Sd.tup fun d hd => by
  obtain ⟨k, hk, rfl⟩ := List.mem_map.mp hd
  cases k with
  | inl i => exact Sd.int i
  | inr x => exact Sd.str (h x hk)
theorem eqvAll_keys : ∀ (a b : List Key), a.map isInt = b.map isInt → PyData.eqvAll (a.map kD) (b.map kD) = decide (a = b)
  | [], [], _ => rfl
  | [], _ :: _, h => nomatch h
  | _ :: _, [], h => nomatch h
  | x :: xs, y :: ys, h => by
    rw [List.map_cons, List.map_cons] at h
    injection h with h1 h2
    show (PyData.eqv (kD x) (kD y) && PyData.eqvAll (xs.map kD) (ys.map kD)) = _
    rw [eqvAll_keys xs ys h2]
    have e : PyData.eqv (kD x) (kD y) = decide (x = y) := by
      cases x with
      | inl i =>
        cases y with
        | inl j => simp only [kD, PyData.eqv]; by_cases z : i = j <;> simp [z]
        | inr j => cases h1
      | inr i =>
        cases y with
        | inl j => cases h1
        | inr j => simp only [kD, PyData.eqv]; by_cases z : i = j <;> simp [z]
    rw [e]
    by_cases z1 : x = y <;> by_cases z2 : xs = ys <;> simp [z1, z2]
theorem eqv_tupK {a b : List Key} (h : a.map isInt = b.map isInt) : PyData.eqv (tupK a) (tupK b) = decide (a = b) := eqvAll_keys a b h
theorem any_tupK {kss : List (List Key)} {a : List Key} (h : ∀ ks ∈ kss, ks.map isInt = a.map isInt) : ((kss.map tupK).any fun z => PyData.eqv z (tupK a)) = true ↔ a ∈ kss := by
  rw [List.any_map, List.any_eq_true]
  constructor
  · rintro ⟨k, hk, e⟩
    have e' : PyData.eqv (tupK k) (tupK a) = true := e
    rw [eqv_tupK (h k hk)] at e'
    rw [← of_decide_eq_true e']
    exact hk
  · intro hk
    refine ⟨a, hk, ?_⟩
    show PyData.eqv (tupK a) (tupK a) = true
    rw [eqv_tupK rfl]
    exact decide_eq_true rfl
end Wq

namespace Wq
open PySem L2
local macro_rules | `(tactic| walk_at "a") => `(tactic| first
  | refine wd_int ?_ | refine wd_str ?_ | refine wd_bl ?_ | refine wd_non ?_ | refine wa_nil ?_ | refine wa_cons ?_
  | refine nm 0 ?_ | refine nm 1 ?_ | refine nm 2 ?_ | refine nm 3 ?_ | refine nm 4 ?_ | refine nm 5 ?_ | refine nm 6 ?_ | refine nm 7 ?_)
abbrev sRules : Stmt := topS 10
abbrev nRules : List Str := ["_law_box_here", "_law_beads", "_law_long", "_law_found", "_law_turn", "_law_old", "_law_new"]
theorem scRules : FnScope nRules ["_law_box_here", "_law_beads", "_law_long"] (defScope sRules) := ⟨rfl, rfl, rfl, by decide +kernel, rfl, by decide +kernel, by decide +kernel⟩
/-- no owned list in a slot -/
def Nw (s : Sl) : Prop := ∀ d, s ≠ Sl.own d
theorem Nw.no : Nw .no := fun _ z => by cases z
theorem Nw.dat {d : D} : Nw (.dat d) := fun _ z => by cases z
def RuleK (beads : Str) (long : Nat) (ks : List Key) : Prop := ∃ (a b : Str) (m : Nat), ks = [.inr a, .inr b] ∧ 1 ≤ m ∧ m ≤ 3 ∧ m ≤ long ∧ Tx beads m a ∧ Tx beads m b ∧ a ≠ b
structure RulesK (beads : Str) (long : Nat) (kss : List (List Key)) : Prop where
  few : kss.length ≤ 4
  each : ∀ ks ∈ kss, RuleK beads long ks
  nodup : kss.Nodup
  up : kss.Pairwise (fun x y => lexK y x = false)
theorem RuleK.sig {beads : Str} {long : Nat} {ks : List Key} (h : RuleK beads long ks) : ks.map isInt = false :: [false] := by
  obtain ⟨a, b, m, rfl, _⟩ := h
  rfl
theorem RuleK.sd {beads : Str} {long n : Nat} {ks : List Key} (hb : Bd beads) (h : RuleK beads long ks) : Sd (n + 1) (tupK ks) := Sd.key fun x hx => by
  obtain ⟨a, b, m, rfl, _, _, _, h1, h2, _⟩ := h
  simp at hx
  rcases hx with rfl | rfl
  · exact h1.ok hb
  · exact h2.ok hb
section
variable {P : Program} {w : World} {K : PySem.W.Frag} {mg : Str → Option Value} {base : Heap}
def cRules : D → List D → (Sl → D → Prop) → Prop := fun b ds post => ∃ (n long : Nat) (beads : Str), ds = [.str beads, .int (long : Int)] ∧ Bd beads ∧ 1 ≤ long ∧ long ≤ 1000 ∧ Bx n b ∧ n < 900000000 ∧ ∀ kss, RulesK beads long kss → ∀ b', Bx (n + 33) b' → post (.dat (.tuple (kss.map tupK))) b'
theorem ok_rules {f : Addr} {fd : FuncData} (F : Fun K "_law_rules" "_law_rules" sRules f fd) (hrange : mg "range" = none) (hlen : mg "len" = none) (hmin : mg "min" = none) (htup : mg "tuple" = none) (hsort : mg "sorted" = none)
    (hTake : CallG P w K mg base "_law_take" 1 ["_law_box_here", "_law_room"] (spB K cTake)) (hText : CallG P w K mg base "_law_text" 3 ["_law_box_here", "_law_beads", "_law_size"] (spB K cText)) : FnG P w K mg base 4 f fd ["_law_box_here", "_law_beads", "_law_long"] (spB K cRules) := by
  refine def_B F scRules ?_ ?_
  · rintro b ds post ⟨n, long, beads, rfl, _⟩
    rfl
  · rintro b ds post ⟨n, long, beads, rfl, hbd, hl1, hl2, hb, hn, hpost⟩
    obtain ⟨hb2, hb4⟩ := hbd.len
    show WpSs (sxOf P w K mg base nRules (defScope sRules) 3) [0] (defBody sRules) [.own b, .dat (.str beads), .dat (.int (long : Int)), .no, .no, .no, .no] _
    refine ss_cons (s_set (i := 3) rfl (.inl rfl) rfl (by simp) (wp_lst ?_))
    walk_at "a"
    refine ⟨Nat.zero_le _, Nat.le_of_ble_eq_true rfl, ?_⟩
    refine ss_cons (s_for [4] ?_)
    refine wi_range1 rfl hrange (wd_of (wcB 0 hTake ?_))
    walk_at "a"
    walk_at "a"
    walk_at "a"
    refine ⟨_, rfl, n, 5, rfl, by decide, by decide, hb, by omega, fun turns b1 hturns hb1 => ?_⟩
    refine ⟨_, rfl, _, rfl, by omega, by omega, ?_⟩
    refine ⟨fun t Et => ∃ (kss : List (List Key)) (b' : D) (s4 s5 s6 : Sl), Et = [.own b', .dat (.str beads), .dat (.int (long : Int)), .own (.list (kss.map tupK)), s4, s5, s6] ∧ Nw s4 ∧ Bx (n + 1 + 8 * t) b' ∧ kss.length ≤ t ∧ (∀ ks ∈ kss, RuleK beads long ks) ∧ kss.Nodup,
      ⟨[], b1, .no, .no, .no, rfl, Nw.no, hb1, Nat.le_refl _, (fun _ h => nomatch h), List.nodup_nil⟩, ?_, ?_⟩
    · rintro t Et d hd ⟨kss, b', s4, s5, s6, rfl, h4, hb', hkl, hk, hnd⟩
      obtain ⟨ht', rfl⟩ := intsD_get hd
      have ht5 : t < 5 := by omega
      refine g_name (i := 4) rfl (.inl rfl) rfl (by simp) (no_i rfl h4) ?_
      refine ss_cons (s_set (i := 5) rfl (.inl rfl) rfl (by simp) (WpD.wp (wd_of (wcB 0 hText ?_))))
      walk_at "a"
      walk_at "a"
      walk_at "a"
      refine wd_add ?_
      walk_at "a"
      refine wd_of (wcB 0 hTake ?_)
      walk_at "a"
      refine wd_min2 rfl hmin ?_
      walk_at "a"
      walk_at "a"
      refine ⟨_, _, rfl, rfl, ?_⟩
      walk_at "a"
      refine ⟨_, rfl, n + 1 + 8 * t, _, rfl, ?_, ?_, hb', by omega, fun r b2 hr hb2 => ?_⟩
      · split <;> omega
      · split <;> omega
      have hr3 : r < 3 ∧ r < long := by
        split at hr <;> omega
      refine ⟨_, rfl, _, _, rfl, rfl, ?_⟩
      walk_at "a"
      have e1 : (1 : Int) + (r : Int) = ((1 + r : Nat) : Int) := by omega
      rw [e1]
      refine ⟨_, rfl, n + 1 + 8 * t + 1, 1 + r, beads, rfl, by omega, by omega, by omega, hb2, by omega, fun old hold b3 hb3 => ?_⟩
      refine ⟨_, rfl, Nat.le_of_ble_eq_true rfl, ?_⟩
      refine ss_cons (s_set (i := 6) rfl (.inl rfl) rfl (by simp) (WpD.wp (wd_ix (Wp.d (wp_lst ?_)))))
      refine wa_cons (wd_revS ?_)
      walk_at "a"
      have hol : old.length ≤ 3 := by rw [hold.1]; omega
      refine ⟨_, rfl, by omega, ?_⟩
      refine wa_cons (wd_of (wcB 0 hText ?_))
      walk_at "a"
      walk_at "a"
      walk_at "a"
      refine wd_len rfl hlen (WpD.k ?_)
      walk_at "a"
      refine ⟨_, .str (by omega), ?_⟩
      walk_at "a"
      refine ⟨_, rfl, n + 1 + 8 * t + 1 + (1 + r), 1 + r, beads, by rw [hold.1], by omega, by omega, by omega, hb3, by omega, fun any hany b4 hb4 => ?_⟩
      refine ⟨_, rfl, ?_⟩
      refine wa_cons (wd_adds (wd_slS ?_))
      walk_at "a"
      refine wo_some ?_
      walk_at "a"
      refine ⟨_, rfl, wo_none ?_⟩
      refine ⟨_, rfl, by omega, wd_slS ?_⟩
      walk_at "a"
      refine wo_none (wo_some ?_)
      walk_at "a"
      refine ⟨_, rfl, _, rfl, by omega, _, _, rfl, rfl, ?_, ?_⟩
      · rw [cut_len, cut_len]
        show _ ≤ 16777216
        omega
      walk_at "a"
      refine ⟨Nat.le_of_ble_eq_true rfl, wd_of (wcB 0 hTake ?_)⟩
      walk_at "a"
      walk_at "a"
      walk_at "a"
      refine ⟨_, rfl, n + 1 + 8 * t + 1 + (1 + r) + (1 + r), 3, rfl, by decide, by decide, hb4, by omega, fun q b5 hq hb5 => ?_⟩
      have key : ∀ new : Str, Tx beads (1 + r) new → WpSs (sxOf P w K mg base nRules (defScope sRules) 3) [0] [((defBody sRules).getD 1 (.Pass ⟨0, 0, 0, 0⟩)) |> fun | .For _ _ bd _ _ => bd.getD 2 (.Pass ⟨0, 0, 0, 0⟩) | s => s]
          [.own b5, .dat (.str beads), .dat (.int (long : Int)), .own (.list (kss.map tupK)), .dat (.int (0 + (t : Int))), .dat (.str old), .dat (.str new)]
          { nx := fun Et => ∃ (kss : List (List Key)) (b' : D) (s4 s5 s6 : Sl), Et = [.own b', .dat (.str beads), .dat (.int (long : Int)), .own (.list (kss.map tupK)), s4, s5, s6] ∧ Nw s4 ∧ Bx (n + 1 + 8 * (t + 1)) b' ∧ kss.length ≤ t + 1 ∧ (∀ ks ∈ kss, RuleK beads long ks) ∧ kss.Nodup, rt := fun r E => ∃ b', E[0]? = some (Sl.own b') ∧ post r b', bk := fun Et => WpSs (sxOf P w K mg base nRules (defScope sRules) 3) [0] ((defBody sRules).drop 2) Et { nx := fun E => ∃ b', E[0]? = some (Sl.own b') ∧ post (.dat .none) b', rt := fun r E => ∃ b', E[0]? = some (Sl.own b') ∧ post r b', bk := fun _ => False, ct := fun _ => False }, ct := fun Et => ∃ (kss : List (List Key)) (b' : D) (s4 s5 s6 : Sl), Et = [.own b', .dat (.str beads), .dat (.int (long : Int)), .own (.list (kss.map tupK)), s4, s5, s6] ∧ Nw s4 ∧ Bx (n + 1 + 8 * (t + 1)) b' ∧ kss.length ≤ t + 1 ∧ (∀ ks ∈ kss, RuleK beads long ks) ∧ kss.Nodup } := fun new hnew => by
        have hb5' : Bx (n + 1 + 8 * (t + 1)) b5 := hb5.mono (by omega)
        refine ss_one (s_if (ww_and (wt_ne ?_)).t)
        walk_at "a"
        walk_at "a"
        have hR : ¬ old = new → RuleK beads long [.inr old, .inr new] := fun ne => ⟨old, new, 1 + r, rfl, by omega, by omega, by omega, hold, hnew, ne⟩
        refine ⟨rfl, and_tf (fun h => ww_and1 (wt_notIn (wd_tup ?_))) fun _ => and_tf (fun h => by cases h) fun _ => ?_⟩
        · have hne : ¬ old = new := by
            intro e
            subst e
            simp [sameD] at h
          walk_at "a"
          walk_at "a"
          walk_at "a"
          walk_at "a"
          walk_at "a"
          refine ⟨Nat.le_of_ble_eq_true rfl, nmo 3 ?_⟩
          have hs := (hR hne).sd (n := 0) hbd
          have e : PyData.tuple [.str old, .str new] = tupK [.inr old, .inr new] := rfl
          rw [e]
          have hsig : ∀ ks ∈ kss, ks.map isInt = ([.inr old, .inr new] : List Key).map isInt := fun ks hks => (hk ks hks).sig
          refine ⟨_, rfl, hs.shaped (by decide), (Sd.lst (n := 1) fun d hd => ?_).shaped (by decide), and_tf (fun h1 => ?_) fun h1 => ?_⟩
          · obtain ⟨ks, hks, rfl⟩ := List.mem_map.mp hd
            exact (hk ks hks).sd hbd
          · have hnin : ¬ ([.inr old, .inr new] : List Key) ∈ kss := fun hin => by
              rw [(any_tupK hsig).mpr hin] at h1
              cases h1
            refine ss_one (s_append (i := 3) rfl (.inl rfl) ⟨_, rfl⟩ (wd_tup ?_))
            walk_at "a"
            walk_at "a"
            walk_at "a"
            walk_at "a"
            walk_at "a"
            refine ⟨Nat.le_of_ble_eq_true rfl, _, rfl, ?_, kss ++ [[.inr old, .inr new]], b5, .dat (.int (0 + (t : Int))), .dat (.str old), .dat (.str new), ?_, Nw.dat, hb5', ?_, ?_, ?_⟩
            · rw [List.length_map]; omega
            · rw [List.map_append]; rfl
            · rw [List.length_append]; exact Nat.succ_le_succ hkl
            · intro ks hks
              rcases List.mem_append.mp hks with h2 | h2
              · exact hk ks h2
              · rw [List.mem_singleton.mp h2]; exact hR hne
            · rw [List.nodup_append]
              refine ⟨hnd, by simp, fun a ha b hb => ?_⟩
              rw [List.mem_singleton.mp hb]
              intro e
              exact hnin (e ▸ ha)
          · exact ss_nil ⟨kss, b5, _, _, _, rfl, Nw.dat, hb5', by omega, hk, hnd⟩
        · exact ss_nil ⟨kss, b5, _, _, _, rfl, Nw.dat, hb5', by omega, hk, hnd⟩
      have h3 : q = 0 ∨ q = 1 ∨ q = 2 := by omega
      rcases h3 with rfl | rfl | rfl
      · refine ⟨_, rfl, _, _, rfl, .lst rfl, Nat.le_of_ble_eq_true rfl, ?_⟩
        exact key _ hold.rev
      · refine ⟨_, rfl, _, _, rfl, .lst rfl, Nat.le_of_ble_eq_true rfl, ?_⟩
        exact key _ hany
      · refine ⟨_, rfl, _, _, rfl, .lst rfl, Nat.le_of_ble_eq_true rfl, ?_⟩
        exact key _ hold.rot
    · rintro Et ⟨kss, b', s4, s5, s6, rfl, h4, hb', hkl, hk, hnd⟩
      rw [intsD_len] at hb' hkl
      refine ss_one (s_ret (WpD.wp (wd_tuple rfl htup (WpD.k (Wp.d (wp_sorted rfl hsort (nmo 3 ?_)))))))
      refine ⟨kss, false, [false], rfl, fun ks hks => (hk ks hks).sig, fun ls pl pw => ?_⟩
      refine ⟨_, .inl rfl, _, rfl, hpost ls ⟨?_, ?_, ?_, pw⟩ _ (hb'.mono ?_)⟩
      · rw [pl.length_eq]; omega
      · exact fun ks hks => hk ks (pl.mem_iff.mp hks)
      · exact pl.nodup_iff.mpr hnd
      · omega
end
end Wq

namespace Wq
open PySem L2
local macro_rules | `(tactic| walk_at "a") => `(tactic| first
  | refine wd_int ?_ | refine wd_str ?_ | refine wd_bl ?_ | refine wd_non ?_ | refine wa_nil ?_ | refine wa_cons ?_
  | refine nm 0 ?_ | refine nm 1 ?_ | refine nm 2 ?_ | refine nm 3 ?_ | refine nm 4 ?_ | refine nm 5 ?_ | refine nm 6 ?_ | refine nm 7 ?_ | refine nm 8 ?_)
abbrev sEnds : Stmt := topS 12
abbrev nEnds : List Str := ["_law_box_here", "_law_beads", "_law_long", "_law_found", "_law_turn", "_law_worth", "_law_pattern", "_law_one", "_law_row"]
theorem scEnds : FnScope nEnds ["_law_box_here", "_law_beads", "_law_long"] (defScope sEnds) := ⟨rfl, rfl, rfl, by decide +kernel, rfl, by decide +kernel, by decide +kernel⟩
def worths : List Int := [9, -9, 1, -1, 3, -4]
def EndK (beads : Str) (long : Nat) (ks : List Key) : Prop := ∃ (side m : Nat) (pat : Str) (worth : Int), ks = [.inl (side : Int), .inr pat, .inl worth] ∧ side < 3 ∧ 1 ≤ m ∧ m ≤ long ∧ Tx beads m pat ∧ worth ∈ worths
structure EndsK (beads : Str) (long : Nat) (kss : List (List Key)) : Prop where
  some1 : 1 ≤ kss.length
  few : kss.length ≤ 4
  each : ∀ ks ∈ kss, EndK beads long ks
  nodup : (kss.map (List.take 2)).Nodup
  up : kss.Pairwise (fun x y => lexK y x = false)
theorem EndK.sig {beads : Str} {long : Nat} {ks : List Key} (h : EndK beads long ks) : ks.map isInt = true :: [false, true] := by
  obtain ⟨s, m, p, w, rfl, _⟩ := h
  rfl
theorem EndK.sd {beads : Str} {long n : Nat} {ks : List Key} (hb : Bd beads) (h : EndK beads long ks) : Sd (n + 1) (tupK ks) := Sd.key fun x hx => by
  obtain ⟨s, m, p, w, rfl, _, _, _, h1, _⟩ := h
  simp at hx
  subst hx
  exact h1.ok hb
theorem EndK.sd2 {beads : Str} {long n : Nat} {ks : List Key} (hb : Bd beads) (h : EndK beads long ks) : Sd (n + 1) (tupK (ks.take 2)) := Sd.key fun x hx => by
  obtain ⟨s, m, p, w, rfl, _, _, _, h1, _⟩ := h
  simp at hx
  subst hx
  exact h1.ok hb
section
variable {P : Program} {w : World} {K : PySem.W.Frag} {mg : Str → Option Value} {base : Heap}
def cEnds : D → List D → (Sl → D → Prop) → Prop := fun b ds post => ∃ (n long : Nat) (beads : Str), ds = [.str beads, .int (long : Int)] ∧ Bd beads ∧ 1 ≤ long ∧ long ≤ 100 ∧ Bx n b ∧ n < 900000000 ∧ ∀ kss, EndsK beads long kss → ∀ b', Bx (n + 1 + 4 * (3 + long)) b' → post (.dat (.tuple (kss.map tupK))) b'
theorem ok_ends {f : Addr} {fd : FuncData} (F : Fun K "_law_ends" "_law_ends" sEnds f fd) (hrange : mg "range" = none) (htup : mg "tuple" = none) (hsort : mg "sorted" = none)
    (hTake : CallG P w K mg base "_law_take" 1 ["_law_box_here", "_law_room"] (spB K cTake)) (hOf : CallG P w K mg base "_law_of" 2 ["_law_box_here", "_law_some"] (spB K cOf)) (hText : CallG P w K mg base "_law_text" 3 ["_law_box_here", "_law_beads", "_law_size"] (spB K cText)) : FnG P w K mg base 4 f fd ["_law_box_here", "_law_beads", "_law_long"] (spB K cEnds) := by
  refine def_B F scEnds ?_ ?_
  · rintro b ds post ⟨n, long, beads, rfl, _⟩
    rfl
  · rintro b ds post ⟨n, long, beads, rfl, hbd, hl1, hl2, hb, hn, hpost⟩
    obtain ⟨hb2, hb4⟩ := hbd.len
    show WpSs (sxOf P w K mg base nEnds (defScope sEnds) 3) [0] (defBody sEnds) [.own b, .dat (.str beads), .dat (.int (long : Int)), .no, .no, .no, .no, .no, .no] _
    refine ss_cons (s_set (i := 3) rfl (.inl rfl) rfl (by simp) (wp_lst ?_))
    walk_at "a"
    refine ⟨Nat.zero_le _, Nat.le_of_ble_eq_true rfl, ?_⟩
    refine ss_cons (s_for [4] ?_)
    refine wi_range1 rfl hrange (wd_add ?_)
    walk_at "a"
    refine wd_of (wcB 0 hTake ?_)
    walk_at "a"
    walk_at "a"
    walk_at "a"
    refine ⟨_, rfl, n, 4, rfl, by decide, by decide, hb, by omega, fun turns b1 hturns hb1 => ?_⟩
    refine ⟨_, rfl, _, _, rfl, rfl, _, rfl, by omega, by omega, ?_⟩
    refine ⟨fun t Et => ∃ (kss : List (List Key)) (b' : D) (s4 s5 s6 s7 : Sl), Et = [.own b', .dat (.str beads), .dat (.int (long : Int)), .own (.list (kss.map tupK)), s4, s5, s6, s7, .no] ∧ Nw s4 ∧ Bx (n + 1 + t * (3 + long)) b' ∧ kss.length ≤ t ∧ (1 ≤ t → 1 ≤ kss.length) ∧ (∀ ks ∈ kss, EndK beads long ks) ∧ (kss.map (List.take 2)).Nodup,
      ⟨[], b1, .no, .no, .no, .no, rfl, Nw.no, hb1.mono (by omega), Nat.le_refl _, (fun h => by omega), (fun _ h => nomatch h), List.nodup_nil⟩, ?_, ?_⟩
    · rintro t Et d hd ⟨kss, b', s4, s5, s6, s7, rfl, h4, hb', hkl, hk1, hk, hnd⟩
      obtain ⟨ht', rfl⟩ := intsD_get hd
      have ht5 : t < 4 := by omega
      have hmul : (t + 1) * (3 + long) = t * (3 + long) + (3 + long) := Nat.succ_mul _ _
      have hsm : t * (3 + long) ≤ 4 * 103 := Nat.mul_le_mul (by omega) (by omega)
      refine g_name (i := 4) rfl (.inl rfl) rfl (by simp) (no_i rfl h4) ?_
      refine ss_cons (s_set (i := 5) rfl (.inl rfl) rfl (by simp) (WpD.wp (wd_of (wcB 0 hOf (wa_cons (Wp.d (wp_lst ?_)))))))
      walk_at "a"
      walk_at "a"
      refine wa_cons (wd_neg ?_)
      walk_at "a"
      refine ⟨_, rfl, ?_⟩
      walk_at "a"
      walk_at "a"
      refine wa_cons (wd_neg ?_)
      walk_at "a"
      refine ⟨_, rfl, ?_⟩
      walk_at "a"
      walk_at "a"
      refine wa_cons (wd_neg ?_)
      walk_at "a"
      refine ⟨_, rfl, ?_⟩
      walk_at "a"
      refine ⟨Nat.le_of_ble_eq_true rfl, ?_⟩
      walk_at "a"
      refine ⟨_, rfl, n + 1 + t * (3 + long), _, worths.map PyData.int, rfl, .lst, Nat.le_of_ble_eq_true rfl, Nat.le_of_ble_eq_true rfl, hb', by omega, fun d hd b2 hb2 => ?_⟩
      obtain ⟨worth, hworth, rfl⟩ := List.mem_map.mp hd
      refine ⟨_, rfl, Nat.le_of_ble_eq_true rfl, ?_⟩
      refine ss_cons (s_set (i := 6) rfl (.inl rfl) rfl (by simp) (WpD.wp (wd_of (wcB 0 hText ?_))))
      walk_at "a"
      walk_at "a"
      refine wa_cons (wd_add ?_)
      walk_at "a"
      refine wd_of (wcB 0 hTake ?_)
      walk_at "a"
      walk_at "a"
      walk_at "a"
      refine ⟨_, rfl, n + 1 + t * (3 + long) + 1, _, rfl, by omega, by omega, hb2, by omega, fun r b3 hr hb3 => ?_⟩
      refine ⟨_, rfl, _, _, rfl, rfl, ?_⟩
      walk_at "a"
      have e1 : (1 : Int) + (r : Int) = ((1 + r : Nat) : Int) := by omega
      rw [e1]
      refine ⟨_, rfl, n + 1 + t * (3 + long) + 1 + 1, 1 + r, beads, rfl, by omega, by omega, by omega, hb3, by omega, fun pat hpat b4 hb4 => ?_⟩
      refine ⟨_, rfl, Nat.le_of_ble_eq_true rfl, ?_⟩
      refine ss_cons (s_set (i := 7) rfl (.inl rfl) rfl (by simp) (WpD.wp (wd_tup (wa_cons (wd_of (wcB 0 hTake ?_))))))
      walk_at "a"
      walk_at "a"
      walk_at "a"
      refine ⟨_, rfl, n + 1 + t * (3 + long) + 1 + 1 + (1 + r), 3, rfl, by decide, by decide, hb4, by omega, fun side b5 hside hb5 => ?_⟩
      refine ⟨_, rfl, ?_⟩
      walk_at "a"
      walk_at "a"
      walk_at "a"
      refine ⟨Nat.le_of_ble_eq_true rfl, Nat.le_of_ble_eq_true rfl, ?_⟩
      have hb5' : Bx (n + 1 + (t + 1) * (3 + long)) b5 := hb5.mono (by omega)
      have hE : EndK beads long [.inl (side : Int), .inr pat, .inl worth] := ⟨side, 1 + r, pat, worth, rfl, by omega, by omega, by omega, hpat, hworth⟩
      refine ss_one (s_if (wt_notIn ?_))
      walk_at "a"
      refine WpD.k (Wp.d (wp_lcOwn (i := 3) [("_law_row", 8)] (blkOk_by (N := nEnds) (sc := defScope sEnds) (by decide +kernel)) rfl (.inl rfl) rfl (by simp) ?_))
      refine ⟨fun i hi => ?_, fun t' acc Et => acc = (kss.take t').map (fun ks => tupK (ks.take 2)) ∧ Et = [.own b5, .dat (.str beads), .dat (.int (long : Int)), .no, .dat (.int (0 + (t : Int))), .dat (.int worth), .dat (.str pat), .dat (.tuple [.int (side : Int), .str pat]), .no], ⟨rfl, rfl⟩, ?_, ?_⟩
      · have : i = 8 := by simpa using hi
        subst this
        exact no_i rfl fun _ z => by cases z
      · rintro t' acc Et d hd ⟨rfl, rfl⟩
        rw [List.getElem?_map] at hd
        cases hz : kss[t']? with
        | none => rw [hz] at hd; cases hd
        | some ks =>
          rw [hz] at hd
          obtain rfl : tupK ks = d := Option.some.inj hd
          have hlt : t' < kss.length := (List.getElem?_eq_some_iff.mp hz).1
          obtain ⟨s, m, p, w, rfl, _⟩ := hk ks (List.mem_of_getElem? hz)
          refine g_name (i := 8) rfl (.inl rfl) rfl (by simp) (no_i rfl fun _ z => by cases z) (wts_nil (and_tf (fun _ => ?_) fun h => by cases h))
          refine wd_slT ?_
          walk_at "a"
          refine wo_none (wo_some ?_)
          walk_at "a"
          refine ⟨_, rfl, _, rfl, ?_, ?_, ?_, rfl⟩
          · rw [List.length_map, List.length_take]; omega
          · intro i hi
            have : i = 8 := by simpa using hi
            subst this
            exact no_i rfl fun _ z => by cases z
          · rw [List.take_add_one, hz, List.map_append]
            rfl
      · rintro acc Et ⟨rfl, rfl⟩
        refine ⟨rfl, ?_⟩
        rw [List.length_map, List.take_length]
        have e : PyData.tuple [.int (side : Int), .str pat] = tupK ([.inl (side : Int), .inr pat, .inl worth].take 2) := rfl
        have e2 : (kss.map fun ks => tupK (ks.take 2)) = (kss.map (List.take 2)).map tupK := by rw [List.map_map]; rfl
        have hsig : ∀ ks ∈ kss.map (List.take 2), ks.map isInt = (([.inl (side : Int), .inr pat, .inl worth] : List Key).take 2).map isInt := fun ks hks => by
          obtain ⟨k0, hk0, rfl⟩ := List.mem_map.mp hks
          obtain ⟨s, m, p, w, rfl, _⟩ := hk k0 hk0
          rfl
        refine ⟨_, rfl, ?_, ?_, ?_⟩
        · rw [e]
          exact (hE.sd2 (n := 0) hbd).shaped (by decide)
        · refine (Sd.lst (n := 1) fun d hd => ?_).shaped (by decide)
          obtain ⟨ks, hks, rfl⟩ := List.mem_map.mp hd
          exact (hk ks hks).sd2 hbd
        rw [e2, e]
        refine and_tf (fun h1 => ?_) fun h1 => ?_
        · have hnin : ¬ (([.inl (side : Int), .inr pat, .inl worth] : List Key).take 2) ∈ kss.map (List.take 2) := fun hin => by
            rw [(any_tupK hsig).mpr hin] at h1
            cases h1
          refine ss_one (s_append (i := 3) rfl (.inl rfl) ⟨_, rfl⟩ (wd_addT ?_))
          walk_at "a"
          refine wd_tup ?_
          walk_at "a"
          walk_at "a"
          walk_at "a"
          refine ⟨Nat.le_of_ble_eq_true rfl, _, _, rfl, rfl, Nat.le_of_ble_eq_true rfl, _, rfl, ?_, kss ++ [[.inl (side : Int), .inr pat, .inl worth]], b5, .dat (.int (0 + (t : Int))), .dat (.int worth), .dat (.str pat), .dat (.tuple [.int (side : Int), .str pat]), ?_, Nw.dat, hb5', ?_, ?_, ?_, ?_⟩
          · rw [List.length_map]; omega
          · rw [List.map_append]; rfl
          · rw [List.length_append]; exact Nat.succ_le_succ hkl
          · intro _; rw [List.length_append]; exact Nat.le_add_left _ _
          · intro ks hks
            rcases List.mem_append.mp hks with h2 | h2
            · exact hk ks h2
            · rw [List.mem_singleton.mp h2]; exact hE
          · rw [List.map_append, List.nodup_append]
            refine ⟨hnd, by simp, fun a ha b hb => ?_⟩
            rw [List.mem_singleton.mp hb]
            intro e
            exact hnin (e ▸ ha)
        · refine ss_nil ⟨kss, b5, _, _, _, _, rfl, Nw.dat, hb5', by omega, fun _ => ?_, hk, hnd⟩
          have hin : (([.inl (side : Int), .inr pat, .inl worth] : List Key).take 2) ∈ kss.map (List.take 2) := by
            apply (any_tupK hsig).mp
            cases hq : ((kss.map (List.take 2)).map tupK).any fun z => PyData.eqv z (tupK (([.inl (side : Int), .inr pat, .inl worth] : List Key).take 2)) with
            | true => rfl
            | false => rw [hq] at h1; cases h1
          obtain ⟨k0, hk0, _⟩ := List.mem_map.mp hin
          exact List.length_pos_of_mem hk0
    · rintro Et ⟨kss, b', s4, s5, s6, s7, rfl, h4, hb', hkl, hk1, hk, hnd⟩
      have el : (intsD 0 ((1 : Int) + (turns : Int)).toNat).length = 1 + turns := by rw [intsD_len]; omega
      rw [el] at hb' hkl hk1
      refine ss_one (s_ret (WpD.wp (wd_tuple rfl htup (WpD.k (Wp.d (wp_sorted rfl hsort (nmo 3 ?_)))))))
      refine ⟨kss, true, [false, true], rfl, fun ks hks => (hk ks hks).sig, fun ls pl pw => ?_⟩
      refine ⟨_, .inl rfl, _, rfl, hpost ls ⟨?_, ?_, ?_, ?_, pw⟩ _ (hb'.mono ?_)⟩
      · rw [pl.length_eq]; exact hk1 (by omega)
      · rw [pl.length_eq]; omega
      · exact fun ks hks => hk ks (pl.mem_iff.mp hks)
      · exact (pl.map _).nodup_iff.mpr hnd
      · have : (1 + turns) * (3 + long) ≤ 4 * (3 + long) := Nat.mul_le_mul_right _ (by omega)
        omega
end
end Wq

namespace Wq
open PySem L2
local macro_rules | `(tactic| walk_at "a") => `(tactic| first
  | refine wd_int ?_ | refine wd_str ?_ | refine wd_bl ?_ | refine wd_non ?_ | refine wa_nil ?_ | refine wa_cons ?_
  | refine nm 0 ?_ | refine nm 1 ?_ | refine nm 2 ?_ | refine nm 3 ?_ | refine nm 4 ?_ | refine nm 5 ?_ | refine nm 6 ?_ | refine nm 7 ?_ | refine nm 8 ?_)
abbrev sAt : Stmt := topS 14
abbrev sSpots : Stmt := topS 15
abbrev nAt : List Str := ["_law_game", "_law_row", "_law_place", "_law_size"]
abbrev nSpots : List Str := ["_law_game", "_law_row", "_law_text_here", "_law_place"]
abbrev nPlaces : List Str := ["game", "row", "text", "place"]
theorem scAt : FnScope nAt ["_law_game", "_law_row", "_law_place", "_law_size"] (defScope sAt) := ⟨rfl, rfl, rfl, by decide +kernel, rfl, by decide +kernel, by decide +kernel⟩
theorem scSpots : FnScope nSpots ["_law_game", "_law_row", "_law_text_here"] (defScope sSpots) := ⟨rfl, rfl, rfl, by decide +kernel, rfl, by decide +kernel, by decide +kernel⟩
theorem scPlaces : FnScope nPlaces ["game", "row", "text"] (defScope sPlaces) := ⟨rfl, rfl, rfl, by decide +kernel, rfl, by decide +kernel, by decide +kernel⟩
theorem ItemsD.at {d : D} {ds : List D} (h : ItemsD d ds) {r : Nat} {x : D} (e : ds[r]? = some x) : ItemD d (r : Int) x := by
  obtain ⟨hr, rfl⟩ := List.getElem?_eq_some_iff.mp e
  exact h.item hr
def ringS : Str := Str.ofString "ring"
def atM (ring : Bool) (row : Str) (p s : Nat) : Str := cutS (if ring then row ++ row else row) (some (p : Int)) (some ((p : Int) + (s : Int)))
def spotsM (ring : Bool) (long : Nat) (row text : Str) : List Nat := (List.range long).filter fun p => decide (atM ring row p text.length = text)
def placesM (line : Bool) (row text : Str) : List Nat := (List.range row.length).filter fun p => standsM line row text p
def natD (i : Nat) : D := .int (i : Int)
section
variable {P : Program} {w : World} {K : PySem.W.Frag} {mg : Str → Option Value} {base : Heap}
def cAt : List D → (Sl → Prop) → Prop := fun ds post => ∃ (game : D) (gs : List D) (sh row : Str) (p s : Nat), ds = [game, .str row, .int (p : Int), .int (s : Int)] ∧ ItemsD game gs ∧ gs[1]? = some (.str sh) ∧ row.length ≤ 1000 ∧ post (.dat (.str (atM (decide (sh = ringS)) row p s)))
theorem ok_at {f : Addr} {fd : FuncData} (F : Fun K "_law_beads_at" "_law_beads_at" sAt f fd) : FnG P w K mg base 1 f fd ["_law_game", "_law_row", "_law_place", "_law_size"] (spP K cAt) := by
  refine def_P F scAt ?_ ?_
  · rintro ds post ⟨game, gs, sh, row, p, s, rfl, _⟩
    rfl
  · rintro ds post ⟨game, gs, sh, row, p, s, rfl, hg, h1, hr, hpost⟩
    show WpSs (sxOf P w K mg base nAt (defScope sAt) 0) [] (defBody sAt) [.dat game, .dat (.str row), .dat (.int (p : Int)), .dat (.int (s : Int))] _
    refine ss_one (s_ret (WpD.wp (wd_if (wt_eq (wd_ix ?_)))))
    walk_at "a"
    walk_at "a"
    refine ⟨_, _, rfl, hg.at (r := 1) h1, ?_⟩
    walk_at "a"
    refine ⟨rfl, and_tf (fun h => wd_slS (wd_adds ?_)) fun h => wd_slS ?_⟩
    · walk_at "a"
      walk_at "a"
      refine ⟨_, _, rfl, rfl, ?_, ?_⟩
      · show _ ≤ 16777216
        omega
      refine wo_some ?_
      walk_at "a"
      refine ⟨_, rfl, wo_some (wd_add ?_)⟩
      walk_at "a"
      walk_at "a"
      have e : sh = ringS := of_decide_eq_true h
      refine ⟨_, _, rfl, rfl, _, rfl, _, rfl, by rw [app_len]; omega, ?_⟩
      simp only [atM, e, decide_true, if_true] at hpost
      exact hpost
    · walk_at "a"
      refine wo_some ?_
      walk_at "a"
      refine ⟨_, rfl, wo_some (wd_add ?_)⟩
      walk_at "a"
      walk_at "a"
      have e : ¬ sh = ringS := of_decide_eq_false h
      refine ⟨_, _, rfl, rfl, _, rfl, _, rfl, by omega, ?_⟩
      simp only [atM, e, decide_false, Bool.false_eq_true, if_false] at hpost
      exact hpost
def cSpots : List D → (Sl → Prop) → Prop := fun ds post => ∃ (game : D) (gs : List D) (sh row text : Str) (long : Nat), ds = [game, .str row, .str text] ∧ ItemsD game gs ∧ gs[1]? = some (.str sh) ∧ gs[3]? = some (.int (long : Int)) ∧ long ≤ 1000 ∧ row.length ≤ 1000 ∧ text.length ≤ 1000 ∧
  post (.own (.list ((spotsM (decide (sh = ringS)) long row text).map natD)))
theorem ok_spots {f : Addr} {fd : FuncData} (F : Fun K "_law_spots" "_law_spots" sSpots f fd) (hlen : mg "len" = none) (hrange : mg "range" = none) (hAt : CallG P w K mg base "_law_beads_at" 1 ["_law_game", "_law_row", "_law_place", "_law_size"] (spP K cAt)) : FnG P w K mg base 2 f fd ["_law_game", "_law_row", "_law_text_here"] (spP K cSpots) := by
  refine def_P F scSpots ?_ ?_
  · rintro ds post ⟨game, gs, sh, row, text, long, rfl, _⟩
    rfl
  · rintro ds post ⟨game, gs, sh, row, text, long, rfl, hg, h1, h3, hl, hr, ht, hpost⟩
    show WpSs (sxOf P w K mg base nSpots (defScope sSpots) 1) [] (defBody sSpots) [.dat game, .dat (.str row), .dat (.str text), .no] _
    refine ss_one (s_ret (wp_lc [("_law_place", 3)] (blkOk_by (N := nSpots) (sc := defScope sSpots) (by decide +kernel)) ?_))
    refine wi_range1 rfl hrange (wd_ix ?_)
    walk_at "a"
    walk_at "a"
    refine ⟨_, _, rfl, hg.at (r := 3) h3, _, rfl, by omega, by omega, ?_⟩
    refine ⟨fun i hi => ?_, fun t acc Et => acc = ((List.range t).filter fun p => decide (atM (decide (sh = ringS)) row p text.length = text)).map natD ∧ Et = [.dat game, .dat (.str row), .dat (.str text), .no], ⟨rfl, rfl⟩, ?_, ?_⟩
    · have : i = 3 := by simpa using hi
      subst this
      exact no_i rfl fun _ z => by cases z
    · rintro t acc Et d hd ⟨rfl, rfl⟩
      obtain ⟨ht', rfl⟩ := intsD_get hd
      refine g_name (i := 3) rfl (.inl rfl) rfl (by simp) (no_i rfl fun _ z => by cases z) (wts_one (wt_eq (wd_of (wcPb hAt ?_))))
      walk_at "a"
      walk_at "a"
      walk_at "a"
      walk_at "a"
      walk_at "a"
      walk_at "a"
      refine wa_cons (wd_len rfl hlen (WpD.k ?_))
      walk_at "a"
      refine ⟨_, .str (by omega), ?_⟩
      walk_at "a"
      refine ⟨game, gs, sh, row, t, text.length, by rw [Int.zero_add], hg, h1, hr, _, rfl, ?_⟩
      walk_at "a"
      have hw : ∀ i ∈ [3], notOwn [Sl.dat game, Sl.dat (.str row), Sl.dat (.str text), Sl.dat (.int (0 + (t : Int)))] i := fun i hi => by
        have : i = 3 := by simpa using hi
        subst this
        exact no_i rfl fun _ z => by cases z
      refine ⟨rfl, and_tf (fun h => ?_) fun h => ⟨hw, ?_, rfl⟩⟩
      · walk_at "a"
        refine ⟨?_, hw, ?_, rfl⟩
        · rw [List.length_map]
          have := List.length_filter_le (fun p => decide (atM (decide (sh = ringS)) row p text.length = text)) (List.range t)
          rw [List.length_range] at this
          omega
        · have h' : decide (atM (decide (sh = ringS)) row t text.length = text) = true := h
          rw [List.range_succ, List.filter_append, List.map_append]
          simp only [List.filter_cons, h', if_true, List.filter_nil]
          rw [Int.zero_add]
          rfl
      · have h' : decide (atM (decide (sh = ringS)) row t text.length = text) = false := h
        rw [List.range_succ, List.filter_append, List.map_append]
        simp only [List.filter_cons, h', Bool.false_eq_true, if_false, List.filter_nil, List.map_nil, List.append_nil]
    · rintro acc Et ⟨rfl, rfl⟩
      have el : (intsD 0 ((long : Int)).toNat).length = long := by rw [intsD_len]; omega
      rw [el]
      exact hpost
def cPlaces : List D → (Sl → Prop) → Prop := fun ds post => ∃ (game : D) (gs : List D) (sh row text : Str), ds = [game, .str row, .str text] ∧ ItemsD game gs ∧ gs[1]? = some (.str sh) ∧ row.length ≤ 1000 ∧ text.length ≤ 1000 ∧
  post (.own (.list ((placesM (decide (sh = lineS)) row text).map natD)))
theorem ok_places {f : Addr} {fd : FuncData} (F : Fun K "places_of" "places_of" sPlaces f fd) (hlen : mg "len" = none) (hrange : mg "range" = none) (hSt : CallG P w K mg base "stands" 1 ["shape", "row", "text", "place"] (spP K cStands)) : FnG P w K mg base 2 f fd ["game", "row", "text"] (spP K cPlaces) := by
  refine def_P F scPlaces ?_ ?_
  · rintro ds post ⟨game, gs, sh, row, text, rfl, _⟩
    rfl
  · rintro ds post ⟨game, gs, sh, row, text, rfl, hg, h1, hr, ht, hpost⟩
    show WpSs (sxOf P w K mg base nPlaces (defScope sPlaces) 1) [] (defBody sPlaces) [.dat game, .dat (.str row), .dat (.str text), .no] _
    refine ss_one (s_ret (wp_lc [("place", 3)] (blkOk_by (N := nPlaces) (sc := defScope sPlaces) (by decide +kernel)) ?_))
    refine wi_range1 rfl hrange (wd_len rfl hlen (WpD.k ?_))
    walk_at "a"
    refine ⟨_, .str (by omega), _, rfl, by omega, by omega, ?_⟩
    refine ⟨fun i hi => ?_, fun t acc Et => acc = ((List.range t).filter fun p => standsM (decide (sh = lineS)) row text p).map natD ∧ Et = [.dat game, .dat (.str row), .dat (.str text), .no], ⟨rfl, rfl⟩, ?_, ?_⟩
    · have : i = 3 := by simpa using hi
      subst this
      exact no_i rfl fun _ z => by cases z
    · rintro t acc Et d hd ⟨rfl, rfl⟩
      obtain ⟨ht', rfl⟩ := intsD_get hd
      refine g_name (i := 3) rfl (.inl rfl) rfl (by simp) (no_i rfl fun _ z => by cases z) (wts_one (wt_val (wd_of (wcPb hSt (wa_cons (wd_ix ?_))))))
      walk_at "a"
      walk_at "a"
      refine ⟨_, _, rfl, hg.at (r := 1) h1, ?_⟩
      walk_at "a"
      walk_at "a"
      walk_at "a"
      walk_at "a"
      walk_at "a"
      walk_at "a"
      walk_at "a"
      have hw : ∀ i ∈ [3], notOwn [Sl.dat game, Sl.dat (.str row), Sl.dat (.str text), Sl.dat (.int (0 + (t : Int)))] i := fun i hi => by
        have : i = 3 := by simpa using hi
        subst this
        exact no_i rfl fun _ z => by cases z
      refine ⟨sh, row, text, t, by rw [Int.zero_add], by omega, hr, ht, _, rfl, _, rfl, and_tf (fun h => ?_) fun h => ⟨hw, ?_, rfl⟩⟩
      · walk_at "a"
        refine ⟨?_, hw, ?_, rfl⟩
        · rw [List.length_map]
          have := List.length_filter_le (fun p => standsM (decide (sh = lineS)) row text p) (List.range t)
          rw [List.length_range] at this
          omega
        · rw [List.range_succ, List.filter_append, List.map_append]
          simp only [List.filter_cons, h, if_true, List.filter_nil]
          rw [Int.zero_add]
          rfl
      · rw [List.range_succ, List.filter_append, List.map_append]
        simp only [List.filter_cons, h, Bool.false_eq_true, if_false, List.filter_nil, List.map_nil, List.append_nil]
    · rintro acc Et ⟨rfl, rfl⟩
      have el : (intsD 0 ((row.length : Int)).toNat).length = row.length := by rw [intsD_len]; omega
      rw [el]
      exact hpost
end
end Wq

namespace Wq
open PySem L2
local macro_rules | `(tactic| walk_at "a") => `(tactic| first
  | refine wd_int ?_ | refine wd_str ?_ | refine wd_bl ?_ | refine wd_non ?_ | refine wa_nil ?_ | refine wa_cons ?_
  | refine nm 0 ?_ | refine nm 1 ?_ | refine nm 2 ?_ | refine nm 3 ?_ | refine nm 4 ?_ | refine nm 5 ?_ | refine nm 6 ?_ | refine nm 7 ?_ | refine nm 8 ?_)
abbrev sSame : Stmt := topS 7
abbrev nSame : List Str := ["_law_found", "_law_due", "_law_one", "_law_other"]
theorem scSame : FnScope nSame ["_law_found", "_law_due"] (defScope sSame) := ⟨rfl, rfl, rfl, by decide +kernel, rfl, by decide +kernel, by decide +kernel⟩
theorem zip_all : ∀ (xs ys : List Nat), xs.length = ys.length → (((xs.zip ys).map fun p => decide ((p.1 : Int) = (p.2 : Int))).all id) = decide (xs = ys)
  | [], [], _ => rfl
  | [], _ :: _, h => nomatch h
  | _ :: _, [], h => nomatch h
  | x :: r, y :: r', h => by
    have := zip_all r r' (by simpa using h)
    rw [List.zip_cons_cons, List.map_cons, List.all_cons, this]
    have e : id (decide ((x : Int) = (y : Int))) = decide (x = y) := by
      apply Bool.eq_iff_iff.mpr
      simp only [id, decide_eq_true_iff]
      omega
    show (id (decide ((x : Int) = (y : Int))) && _) = _
    rw [e]
    by_cases z1 : x = y <;> by_cases z2 : r = r' <;> simp [z1, z2]
section
variable {P : Program} {w : World} {K : PySem.W.Frag} {mg : Str → Option Value} {base : Heap}
def cSameI : List D → (Sl → Prop) → Prop := fun ds post => ∃ i j : Int, ds = [.int i, .int j] ∧ post (.dat (.bool (decide (i = j))))
theorem ok_sameI {f : Addr} {fd : FuncData} (F : Fun K "_law_same" "_law_same" sSame f fd) (hisi : mg "isinstance" = none) (hlist : mg "list" = none) (htup : mg "tuple" = none) (hstr : mg "str" = none) (hint : mg "int" = none) (hbool : mg "bool" = none) : FnG P w K mg base 1 f fd ["_law_found", "_law_due"] (spP K cSameI) := by
  refine def_P F scSame ?_ ?_
  · rintro ds post ⟨i, j, rfl, _⟩
    rfl
  · rintro ds post ⟨i, j, rfl, hpost⟩
    show WpSs (sxOf P w K mg base nSame (defScope sSame) 0) [] (defBody sSame) [.dat (.int i), .dat (.int j), .no, .no] _
    refine ss_cons (s_if (wt_val (wd_isiLT rfl hisi rfl hlist rfl htup (WpD.k ?_))))
    walk_at "a"
    refine ⟨_, rfl, and_tf (fun h => by cases h) fun _ => ss_nil ?_⟩
    refine ss_cons (s_if (ww_or (wt_isN ?_)).t)
    walk_at "a"
    refine and_tf (fun h => by cases h) fun _ => ww_or1 (wt_val (wd_isi rfl hisi rfl hstr PyProof.Rows.boot_str (by decide) (WpD.k ?_)))
    walk_at "a"
    refine ⟨_, rfl, and_tf (fun h => by cases h) fun _ => ss_nil ?_⟩
    refine ss_one (s_ret (WpD.wp (wd_and (wd_isi rfl hisi rfl hint PyProof.Rows.boot_int (by decide) (WpD.k ?_)))))
    walk_at "a"
    refine ⟨_, rfl, and_tf (fun _ => ?_) fun h => by cases h⟩
    refine wd_and (wd_eq (wd_isi rfl hisi rfl hbool PyProof.Rows.boot_bool (by decide) (WpD.k ?_)))
    walk_at "a"
    refine wd_isi rfl hisi rfl hbool PyProof.Rows.boot_bool (by decide) (WpD.k ?_)
    walk_at "a"
    refine ⟨rfl, _, rfl, and_tf (fun _ => wd_one (wd_eq ?_)) fun h => by cases h⟩
    walk_at "a"
    walk_at "a"
    exact ⟨rfl, hpost⟩
def cSameL : List D → (Sl → Prop) → Prop := fun ds post => ∃ xs ys : List Nat, ds = [.list (xs.map natD), .list (ys.map natD)] ∧ xs.length ≤ 100000 ∧ post (.dat (.bool (decide (xs = ys))))
theorem ok_sameL {f : Addr} {fd : FuncData} (F : Fun K "_law_same" "_law_same" sSame f fd) (hisi : mg "isinstance" = none) (hlist : mg "list" = none) (htup : mg "tuple" = none) (hlen : mg "len" = none) (hall : mg "all" = none) (hzip : mg "zip" = none)
    (hI : CallG P w K mg base "_law_same" 1 ["_law_found", "_law_due"] (spP K cSameI)) : FnG P w K mg base 2 f fd ["_law_found", "_law_due"] (spP K cSameL) := by
  refine def_P F scSame ?_ ?_
  · rintro ds post ⟨i, j, rfl, _⟩
    rfl
  · rintro ds post ⟨xs, ys, rfl, hl, hpost⟩
    show WpSs (sxOf P w K mg base nSame (defScope sSame) 1) [] (defBody sSame) [.dat (.list (xs.map natD)), .dat (.list (ys.map natD)), .no, .no] _
    refine ss_cons (s_if (wt_val (wd_isiLT rfl hisi rfl hlist rfl htup (WpD.k ?_))))
    walk_at "a"
    refine ⟨_, rfl, and_tf (fun _ => ?_) fun h => by cases h⟩
    refine ss_cons (s_if (WpW.t (ww_or (wt_ne ?_))))
    refine wd_isi rfl hisi rfl hlist PyProof.Rows.boot_list (by decide) (WpD.k ?_)
    walk_at "a"
    refine wd_isi rfl hisi rfl hlist PyProof.Rows.boot_list (by decide) (WpD.k ?_)
    walk_at "a"
    refine ⟨rfl, and_tf (fun h => by cases h) fun _ => ww_or1 (wt_ne (wd_isi rfl hisi rfl htup PyProof.Rows.boot_tuple (by decide) (WpD.k ?_)))⟩
    walk_at "a"
    refine wd_isi rfl hisi rfl htup PyProof.Rows.boot_tuple (by decide) (WpD.k ?_)
    walk_at "a"
    refine ⟨rfl, and_tf (fun h => by cases h) fun _ => ss_nil ?_⟩
    refine ss_one (s_ret (WpD.wp (wd_and (wd_eq (wd_len rfl hlen (WpD.k ?_))))))
    walk_at "a"
    refine ⟨_, .lst, wd_len rfl hlen (WpD.k ?_)⟩
    walk_at "a"
    refine ⟨_, .lst, rfl, _, rfl, and_tf (fun h => ?_) fun h => ?_⟩
    · have hll : xs.length = ys.length := by
        have h' : (((xs.map natD).length : Nat) : Int) = ((ys.map natD).length : Nat) := of_decide_eq_true h
        rw [List.length_map, List.length_map] at h'
        omega
      refine wd_one (wd_all rfl hall (WpD.k (Wp.d (wp_lc [("_law_one", 2), ("_law_other", 3)] (blkOk_by (N := nSame) (sc := defScope sSame) (by decide +kernel)) ?_))))
      refine wi_zip rfl hzip ?_
      walk_at "a"
      walk_at "a"
      refine ⟨_, _, .inl ⟨rfl, rfl⟩, ?_⟩
      have hw : ∀ (q1 q2 : Sl), Nw q1 → Nw q2 → ∀ i ∈ [2, 3], notOwn [Sl.dat (.list (xs.map natD)), Sl.dat (.list (ys.map natD)), q1, q2] i := fun q1 q2 h1 h2 i hi => by
        have : i = 2 ∨ i = 3 := by simpa using hi
        rcases this with rfl | rfl
        · exact no_i rfl h1
        · exact no_i rfl h2
      refine ⟨hw .no .no Nw.no Nw.no, fun t acc Et => acc = (((xs.zip ys).take t).map fun p => decide ((p.1 : Int) = (p.2 : Int))).map PyData.bool ∧ Et = [.dat (.list (xs.map natD)), .dat (.list (ys.map natD)), .no, .no], ⟨rfl, rfl⟩, ?_, ?_⟩
      · rintro t acc Et d hd ⟨rfl, rfl⟩
        have ez : zipD (xs.map natD) (ys.map natD) = (xs.zip ys).map fun p => PyData.tuple [natD p.1, natD p.2] := by
          unfold zipD
          rw [List.zip_map, List.map_map]
          rfl
        rw [ez, List.getElem?_map] at hd
        cases hz : (xs.zip ys)[t]? with
        | none => rw [hz] at hd; cases hd
        | some q =>
          rw [hz] at hd
          obtain rfl : PyData.tuple [natD q.1, natD q.2] = d := Option.some.inj hd
          have hlt : t < (xs.zip ys).length := (List.getElem?_eq_some_iff.mp hz).1
          rw [List.length_zip] at hlt
          refine g_two (i := 2) (j := 3) rfl (.inl rfl) rfl (by simp) (no_i rfl Nw.no) rfl (.inl rfl) rfl (by simp) (no_i rfl Nw.no) (wts_nil (and_tf (fun _ => ?_) fun h => by cases h))
          refine wd_of (wcPb hI ?_)
          walk_at "a"
          walk_at "a"
          walk_at "a"
          walk_at "a"
          walk_at "a"
          refine ⟨(q.1 : Int), (q.2 : Int), rfl, _, rfl, ?_, hw _ _ Nw.dat Nw.dat, ?_, rfl⟩
          · rw [List.length_map, List.length_map, List.length_take, List.length_zip]
            omega
          · rw [List.take_add_one, hz, List.map_append, List.map_append]
            rfl
      · rintro acc Et ⟨rfl, rfl⟩
        have el : (zipD (xs.map natD) (ys.map natD)).length = (xs.zip ys).length := by
          unfold zipD
          rw [List.length_map, List.length_zip, List.length_zip, List.length_map, List.length_map]
        rw [el, List.take_length]
        refine ⟨_, rfl, ?_⟩
        have e := zip_all xs ys hll
        rw [e]
        exact hpost
    · have hll : ¬ xs.length = ys.length := fun e => by
        have h' : ¬ (((xs.map natD).length : Nat) : Int) = ((ys.map natD).length : Nat) := of_decide_eq_false h
        rw [List.length_map, List.length_map] at h'
        omega
      have hne : ¬ xs = ys := fun e => hll (by rw [e])
      rw [decide_eq_false hne] at hpost
      exact hpost
end
/-! ### what stands where -/
theorem line_eq (row text : Str) (p : Nat) : standsM true row text p = decide (atM false row p text.length = text) := rfl
theorem atM_ring_list {row : Str} {p s : Nat} (hs : s ≤ row.length) (hp : p < row.length) : (atM true row p s).cps.toList = (List.range s).map fun i => (row.cps.toList[(p + i) % row.length]?).getD 0 := by
  have hl : (row ++ row).length = row.length + row.length := app_len _ _
  unfold atM
  rw [if_pos rfl, cut_list]
  have e1 : HT.sIx (row ++ row).length 0 (some (p : Int)) = p := by rw [HT.sIx_nat]; omega
  have e2 : HT.sIx (row ++ row).length (row ++ row).length (some ((p : Int) + (s : Int))) = p + s := by
    rw [← Int.natCast_add, HT.sIx_nat]; omega
  rw [e1, e2, app_list]
  apply List.ext_getElem?
  intro i
  by_cases hi : i < s
  · rw [List.getElem?_take, if_pos (by omega), List.getElem?_drop, List.getElem?_map, List.getElem?_range hi]
    have hrl : row.cps.toList.length = row.length := len_list row
    have hlt : (p + i) % row.length < row.cps.toList.length := by rw [hrl]; exact Nat.mod_lt _ (by omega)
    show _ = some ((row.cps.toList[(p + i) % row.length]?).getD 0)
    rw [List.getElem?_eq_getElem hlt]
    by_cases h2 : p + i < row.length
    · rw [List.getElem?_append_left (by omega), List.getElem?_eq_getElem (by omega)]
      simp only [Nat.mod_eq_of_lt h2, Option.getD_some]
    · have h3 : (p + i) % row.length = p + i - row.length := by
        rw [Nat.mod_eq_sub_mod (by omega), Nat.mod_eq_of_lt (by omega)]
      rw [List.getElem?_append_right (by omega), List.getElem?_eq_getElem (by omega)]
      simp only [h3, hrl, Option.getD_some]
  · rw [List.getElem?_take, if_neg (by omega), List.getElem?_map, List.getElem?_eq_none (by rw [List.length_range]; omega)]
    rfl
theorem ring_eq {row text : Str} {p : Nat} (ht : text.length ≤ row.length) (hp : p < row.length) : standsM false row text p = decide (atM true row p text.length = text) := by
  have hrl : row.cps.toList.length = row.length := len_list row
  have htl : text.cps.toList.length = text.length := len_list text
  unfold standsM
  rw [if_neg Bool.false_ne_true]
  apply Bool.eq_iff_iff.mpr
  rw [List.all_eq_true, decide_eq_true_iff]
  constructor
  · intro h
    apply str_ext
    rw [atM_ring_list ht hp]
    apply List.ext_getElem?
    intro i
    rw [List.getElem?_map]
    by_cases hi : i < text.length
    · rw [List.getElem?_range hi]
      have := of_decide_eq_true (h i (List.mem_range.mpr hi))
      show some ((row.cps.toList[(p + i) % row.length]?).getD 0) = _
      rw [this, List.getElem?_eq_getElem (by omega)]
      rfl
    · rw [List.getElem?_eq_none (by rw [List.length_range]; omega), List.getElem?_eq_none (by omega)]
      rfl
  · intro h i hi
    have hi' := List.mem_range.mp hi
    apply decide_eq_true
    have e := atM_ring_list ht hp
    rw [h] at e
    rw [e, List.getElem?_map, List.getElem?_range hi']
    have hlt : (p + i) % row.length < row.cps.toList.length := by rw [hrl]; exact Nat.mod_lt _ (by omega)
    show _ = some ((row.cps.toList[(p + i) % row.length]?).getD 0)
    rw [List.getElem?_eq_getElem hlt]
    rfl
theorem places_spots {sh row text : Str} (hs : sh = lineS ∨ sh = ringS) (ht : text.length ≤ row.length) : placesM (decide (sh = lineS)) row text = spotsM (decide (sh = ringS)) row.length row text := by
  unfold placesM spotsM
  apply List.filter_congr
  intro p hp
  have hp' := List.mem_range.mp hp
  have hne : ¬ lineS = ringS := by decide
  have hne' : ¬ ringS = lineS := by decide
  rcases hs with rfl | rfl
  · have e1 : decide (lineS = lineS) = true := decide_eq_true rfl
    have e2 : decide (lineS = ringS) = false := decide_eq_false hne
    simp only [e1, e2]
    exact line_eq _ _ _
  · have e1 : decide (ringS = ringS) = true := decide_eq_true rfl
    have e2 : decide (ringS = lineS) = false := decide_eq_false hne'
    simp only [e1, e2]
    exact ring_eq ht hp'
end Wq

namespace Wq
open PySem L2
local macro_rules | `(tactic| walk_at "a") => `(tactic| first
  | refine wd_int ?_ | refine wd_str ?_ | refine wd_bl ?_ | refine wd_non ?_ | refine wa_nil ?_ | refine wa_cons ?_
  | refine nm 0 ?_ | refine nm 1 ?_ | refine nm 2 ?_ | refine nm 3 ?_ | refine nm 4 ?_ | refine nm 5 ?_ | refine nm 6 ?_ | refine nm 7 ?_ | refine nm 8 ?_)
abbrev sLists : Stmt := topS 16
abbrev nLists : List Str := ["_law_thing", "_law_one"]
theorem scLists : FnScope nLists ["_law_thing"] (defScope sLists) := ⟨rfl, rfl, rfl, by decide +kernel, rfl, by decide +kernel, by decide +kernel⟩
mutual
def listsM : D → D
  | .list ds => .list (listsAll ds)
  | .tuple ds => .list (listsAll ds)
  | .none => .none
  | .bool b => .bool b
  | .int i => .int i
  | .str z => .str z
  | .dict kvs => .dict kvs
def listsAll : List D → List D
  | [] => []
  | d :: r => listsM d :: listsAll r
end
theorem listsAll_map : ∀ ds : List D, listsAll ds = ds.map listsM
  | [] => rfl
  | d :: r => by rw [List.map_cons, ← listsAll_map r]; rfl
/-- plain data, so deep at most -/
inductive Pl : Nat → D → Prop where
  | int {k} (i : Int) : Pl k (.int i)
  | str {k} (z : Str) : Pl k (.str z)
  | lst {k} {ds : List D} (hl : ds.length ≤ 1000) (h : ∀ d ∈ ds, Pl k d) : Pl (k + 1) (.list ds)
  | tup {k} {ds : List D} (hl : ds.length ≤ 1000) (h : ∀ d ∈ ds, Pl k d) : Pl (k + 1) (.tuple ds)
def listsSl : D → Sl
  | .list ds => .own (.list (ds.map listsM))
  | .tuple ds => .own (.list (ds.map listsM))
  | d => .dat d
theorem Pl.sl {k : Nat} {d : D} (h : Pl k d) : (listsSl d = .dat d ∧ listsM d = d) ∨ listsSl d = .own (listsM d) := by
  cases h with
  | int i => exact .inl ⟨rfl, rfl⟩
  | str z => exact .inl ⟨rfl, rfl⟩
  | lst hl h => right; show Sl.own _ = Sl.own (.list (listsAll _)); rw [listsAll_map]
  | tup hl h => right; show Sl.own _ = Sl.own (.list (listsAll _)); rw [listsAll_map]
section
variable {P : Program} {w : World} {K : PySem.W.Frag} {mg : Str → Option Value} {base : Heap}
def cLists (k : Nat) : List D → (Sl → Prop) → Prop := fun ds post => ∃ d : D, ds = [d] ∧ Pl k d ∧ post (listsSl d)
theorem lists_comp {k : Nat} {d : D} {ds : List D} {post : Sl → Prop} (hd : d = .list ds ∨ d = .tuple ds) (hl : ds.length ≤ 1000) (h : ∀ x ∈ ds, Pl k x) (C : CallG P w K mg base "_law_lists" (k + 1) ["_law_thing"] (spP K (cLists k))) (hisi : mg "isinstance" = none) (hlist : mg "list" = none) (htup : mg "tuple" = none)
    (hpost : post (.own (.list (ds.map listsM)))) : WpSs (sxOf P w K mg base nLists (defScope sLists) (k + 1)) [] (defBody sLists) [.dat d, .no] ⟨fun _ => post (.dat .none), fun r _ => post r, fun _ => False, fun _ => False⟩ := by
  refine ss_one (s_ret (wp_if (wt_val (wd_isiLT rfl hisi rfl hlist rfl htup (WpD.k ?_)))))
  walk_at "a"
  refine ⟨_, rfl, and_tf (fun _ => ?_) fun h => ?_⟩
  · refine wp_lc [("_law_one", 1)] (blkOk_by (N := nLists) (sc := defScope sLists) (by decide +kernel)) ?_
    rcases hd with rfl | rfl
    · refine wi_list ?_
      walk_at "a"
      refine ⟨_, rfl, ?_⟩
      have hw : ∀ q : Sl, Nw q → ∀ i ∈ [1], notOwn [Sl.dat (.list ds), q] i := fun q hq i hi => by
        have : i = 1 := by simpa using hi
        subst this
        exact no_i rfl hq
      refine ⟨hw _ Nw.no, fun t acc Et => acc = (ds.take t).map listsM ∧ Et = [.dat (.list ds), .no], ⟨rfl, rfl⟩, ?_, ?_⟩
      · rintro t acc Et x hx ⟨rfl, rfl⟩
        have hlt : t < ds.length := (List.getElem?_eq_some_iff.mp hx).1
        have hp : Pl k x := h x (List.mem_of_getElem? hx)
        refine g_name (i := 1) rfl (.inl rfl) rfl (by simp) (no_i rfl Nw.no) (wts_nil (and_tf (fun _ => ?_) fun h => by cases h))
        refine Wp.d (wcPb C ?_ (Nat.le_refl _))
        walk_at "a"
        walk_at "a"
        walk_at "a"
        refine ⟨x, rfl, hp, ?_⟩
        have e : (listsSl x).d = listsM x := by
          rcases hp.sl with ⟨e1, e2⟩ | e1
          · rw [e1, e2]; rfl
          · rw [e1]; rfl
        refine ⟨?_, hw _ Nw.dat, ?_, rfl⟩
        · rw [List.length_map, List.length_take]; omega
        · show _ ++ [(listsSl x).d] = _
          rw [e, List.take_add_one, hx, List.map_append]
          rfl
      · rintro acc Et ⟨rfl, rfl⟩
        rw [List.take_length]
        exact hpost
    · refine wi_tup ?_
      walk_at "a"
      refine ⟨_, rfl, ?_⟩
      have hw : ∀ q : Sl, Nw q → ∀ i ∈ [1], notOwn [Sl.dat (.tuple ds), q] i := fun q hq i hi => by
        have : i = 1 := by simpa using hi
        subst this
        exact no_i rfl hq
      refine ⟨hw _ Nw.no, fun t acc Et => acc = (ds.take t).map listsM ∧ Et = [.dat (.tuple ds), .no], ⟨rfl, rfl⟩, ?_, ?_⟩
      · rintro t acc Et x hx ⟨rfl, rfl⟩
        have hlt : t < ds.length := (List.getElem?_eq_some_iff.mp hx).1
        have hp : Pl k x := h x (List.mem_of_getElem? hx)
        refine g_name (i := 1) rfl (.inl rfl) rfl (by simp) (no_i rfl Nw.no) (wts_nil (and_tf (fun _ => ?_) fun h => by cases h))
        refine Wp.d (wcPb C ?_ (Nat.le_refl _))
        walk_at "a"
        walk_at "a"
        walk_at "a"
        refine ⟨x, rfl, hp, ?_⟩
        have e : (listsSl x).d = listsM x := by
          rcases hp.sl with ⟨e1, e2⟩ | e1
          · rw [e1, e2]; rfl
          · rw [e1]; rfl
        refine ⟨?_, hw _ Nw.dat, ?_, rfl⟩
        · rw [List.length_map, List.length_take]; omega
        · show _ ++ [(listsSl x).d] = _
          rw [e, List.take_add_one, hx, List.map_append]
          rfl
      · rintro acc Et ⟨rfl, rfl⟩
        rw [List.take_length]
        exact hpost
  · rcases hd with rfl | rfl <;> cases h
theorem lists_leaf {k : Nat} {d : D} {post : Sl → Prop} (hd : (isI "list" d || isI "tuple" d) = false) (hisi : mg "isinstance" = none) (hlist : mg "list" = none) (htup : mg "tuple" = none)
    (hpost : post (.dat d)) : WpSs (sxOf P w K mg base nLists (defScope sLists) k) [] (defBody sLists) [.dat d, .no] ⟨fun _ => post (.dat .none), fun r _ => post r, fun _ => False, fun _ => False⟩ := by
  refine ss_one (s_ret (wp_if (wt_val (wd_isiLT rfl hisi rfl hlist rfl htup (WpD.k ?_)))))
  walk_at "a"
  refine ⟨_, rfl, and_tf (fun h => ?_) fun _ => ?_⟩
  · rw [hd] at h; cases h
  · refine WpD.wp ?_
    walk_at "a"
    exact hpost
theorem ok_lists {f : Addr} {fd : FuncData} (F : Fun K "_law_lists" "_law_lists" sLists f fd) (hisi : mg "isinstance" = none) (hlist : mg "list" = none) (htup : mg "tuple" = none)
    (hC : ∀ k, FnG P w K mg base (k + 1) f fd ["_law_thing"] (spP K (cLists k)) → CallG P w K mg base "_law_lists" (k + 1) ["_law_thing"] (spP K (cLists k))) : ∀ k, FnG P w K mg base (k + 1) f fd ["_law_thing"] (spP K (cLists k)) := by
  intro k
  induction k with
  | zero =>
    refine def_P F scLists ?_ ?_
    · rintro ds post ⟨d, rfl, _⟩
      rfl
    · rintro ds post ⟨d, rfl, hp, hpost⟩
      cases hp with
      | int i => exact lists_leaf rfl hisi hlist htup hpost
      | str z => exact lists_leaf rfl hisi hlist htup hpost
  | succ k ih =>
    refine def_P F scLists ?_ ?_
    · rintro ds post ⟨d, rfl, _⟩
      rfl
    · rintro ds post ⟨d, rfl, hp, hpost⟩
      cases hp with
      | int i => exact lists_leaf rfl hisi hlist htup hpost
      | str z => exact lists_leaf rfl hisi hlist htup hpost
      | lst hl h => exact lists_comp (.inl rfl) hl h (hC k ih) hisi hlist htup hpost
      | tup hl h => exact lists_comp (.inr rfl) hl h (hC k ih) hisi hlist htup hpost
end
end Wq

namespace Wq
open PySem L2
local macro_rules | `(tactic| walk_at "a") => `(tactic| first
  | refine wd_int ?_ | refine wd_str ?_ | refine wd_bl ?_ | refine wd_non ?_ | refine wa_nil ?_ | refine wa_cons ?_
  | refine nm 0 ?_ | refine nm 1 ?_ | refine nm 2 ?_ | refine nm 3 ?_ | refine nm 4 ?_ | refine nm 5 ?_ | refine nm 6 ?_ | refine nm 7 ?_ | refine nm 8 ?_)
abbrev sTurn : Stmt := topS 11
abbrev nTurn : List Str := ["_law_text_here", "_law_beads", "_law_to", "_law_sign"]
theorem scTurn : FnScope nTurn ["_law_text_here", "_law_beads"] (defScope sTurn) := ⟨rfl, rfl, rfl, by decide +kernel, rfl, by decide +kernel, by decide +kernel⟩
def backB (beads : Str) (k : Int) : Nat := (atI beads.cps.toList k).getD 0
def turnedB (beads : Str) : Str := cutS beads none (some (-2)) ++ one (backB beads (-1)) ++ one (backB beads (-2))
def swapB (beads : Str) (c : Nat) : Nat := match valV (mergeK [] (zipK beads (turnedB beads))) (.inr (one c)) with
  | some (.str z) => z.cps.toList.headD 0
  | _ => 0
def turnM (beads z : Str) : Str := ⟨(z.cps.toList.reverse.map (swapB beads)).toArray⟩
theorem Bd.back {beads : Str} (h : Bd beads) : atI beads.cps.toList (-1) = some (backB beads (-1)) ∧ atI beads.cps.toList (-2) = some (backB beads (-2)) :=
  of_decide_eq_true (h.all (p := fun b => decide (atI b.cps.toList (-1) = some (backB b (-1)) ∧ atI b.cps.toList (-2) = some (backB b (-2)))) (by decide))
theorem Bd.plain {beads : Str} (h : Bd beads) : beads.cps.all (· < 128) = true ∧ (turnedB beads).cps.all (· < 128) = true := by
  have := h.all (p := fun b => b.cps.all (· < 128) && (turnedB b).cps.all (· < 128)) (by decide +kernel)
  exact Bool.and_eq_true_iff.mp this
theorem Bd.swap {beads : Str} (h : Bd beads) : ∀ c ∈ beads.cps.toList, valV (mergeK [] (zipK beads (turnedB beads))) (.inr (one c)) = some (.str (one (swapB beads c))) ∧ swapB beads c ∈ beads.cps.toList := by
  have := h.all (p := fun b => decide (∀ c ∈ b.cps.toList, valV (mergeK [] (zipK b (turnedB b))) (.inr (one c)) = some (.str (one (swapB b c))) ∧ swapB b c ∈ b.cps.toList)) (by decide +kernel)
  exact of_decide_eq_true this
theorem Tx.turn {beads z : Str} {m : Nat} (hb : Bd beads) (h : Tx beads m z) : Tx beads m (turnM beads z) := by
  refine ⟨?_, fun c hc => ?_⟩
  · rw [← len_list]
    unfold turnM
    simp only [List.toList_toArray, List.length_map, List.length_reverse]
    rw [len_list]
    exact h.1
  · unfold turnM at hc
    simp only [List.toList_toArray] at hc
    obtain ⟨d, hd, rfl⟩ := List.mem_map.mp hc
    exact (hb.swap d (h.2 d (List.mem_reverse.mp hd))).2
section
variable {P : Program} {w : World} {K : PySem.W.Frag} {mg : Str → Option Value} {base : Heap}
def cTurn : List D → (Sl → Prop) → Prop := fun ds post => ∃ (z beads : Str) (m : Nat), ds = [.str z, .str beads] ∧ Bd beads ∧ Tx beads m z ∧ m ≤ 1000 ∧ post (.dat (.str (turnM beads z)))
theorem ok_turn {f : Addr} {fd : FuncData} (F : Fun K "_law_turned_text" "_law_turned_text" sTurn f fd) (hdict : mg "dict" = none) (hzip : mg "zip" = none) : FnG P w K mg base 2 f fd ["_law_text_here", "_law_beads"] (spP K cTurn) := by
  refine def_P F scTurn ?_ ?_
  · rintro ds post ⟨z, beads, m, rfl, _⟩
    rfl
  · rintro ds post ⟨z, beads, m, rfl, hb, hz, hm, hpost⟩
    show WpSs (sxOf P w K mg base nTurn (defScope sTurn) 1) [] (defBody sTurn) [.dat (.str z), .dat (.str beads), .no, .no] _
    obtain ⟨hb2, hb4⟩ := hb.len
    obtain ⟨e1, e2⟩ := hb.back
    obtain ⟨q1, q2⟩ := hb.plain
    refine ss_dictJoin (i := 2) (jt := 0) (jv := 3) rfl (by first | exact Or.inl rfl | exact Or.inr rfl | exact Or.inr (Or.inl rfl) | exact Or.inr (Or.inr rfl)) rfl (by simp) rfl (by first | exact Or.inl rfl | exact Or.inr rfl | exact Or.inr (Or.inl rfl) | exact Or.inr (Or.inr rfl)) rfl (blkOk_by (N := nTurn) (sc := defScope sTurn) (by decide +kernel)) (by first | exact Or.inl rfl | exact Or.inr rfl | exact Or.inr (Or.inl rfl) | exact Or.inr (Or.inr rfl)) rfl (by first | exact Or.inl rfl | exact Or.inr rfl | exact Or.inr (Or.inl rfl) | exact Or.inr (Or.inr rfl)) (by first | exact Or.inl rfl | exact Or.inr rfl | exact Or.inr (Or.inl rfl) | exact Or.inr (Or.inr rfl)) (by decide) (by decide) (by decide) (Nat.le_refl _) rfl hdict rfl hzip ?_
    walk_at "a"
    walk_at "a"
    refine wa_cons (wd_adds (wd_adds (wd_slS ?_)))
    walk_at "a"
    refine wo_none (wo_some (wd_neg ?_))
    walk_at "a"
    refine ⟨_, rfl, _, rfl, _, rfl, by omega, wd_ix ?_⟩
    walk_at "a"
    refine wd_neg ?_
    walk_at "a"
    refine ⟨_, rfl, _, _, rfl, .str (by omega) e1, _, _, rfl, rfl, ?_, wd_ix ?_⟩
    · rw [cut_len]
      show _ ≤ 16777216
      have : (⟨#[backB beads (-1)]⟩ : Str).length = 1 := rfl
      omega
    walk_at "a"
    refine wd_neg ?_
    walk_at "a"
    refine ⟨_, rfl, _, _, rfl, .str (by omega) e2, _, _, rfl, rfl, ?_, ?_⟩
    · rw [app_len, cut_len]
      show _ ≤ 16777216
      have : (⟨#[backB beads (-1)]⟩ : Str).length = 1 := rfl
      have : (⟨#[backB beads (-2)]⟩ : Str).length = 1 := rfl
      omega
    walk_at "a"
    refine ⟨beads, turnedB beads, z, swapB beads, rfl, q1, q2, by omega, Nat.le_of_ble_eq_true rfl, Nat.le_of_ble_eq_true rfl, rfl, by rw [hz.1]; exact hm, fun c hc => (hb.swap c (hz.2 c hc)).1, hpost⟩
end
end Wq

namespace Wq
open PySem L2
local macro_rules | `(tactic| walk_at "a") => `(tactic| first
  | refine wd_int ?_ | refine wd_str ?_ | refine wd_bl ?_ | refine wd_non ?_ | refine wa_nil ?_ | refine wa_cons ?_
  | refine nm 0 ?_ | refine nm 1 ?_ | refine nm 2 ?_ | refine nm 3 ?_ | refine nm 4 ?_ | refine nm 5 ?_ | refine nm 6 ?_ | refine nm 7 ?_ | refine nm 8 ?_ | refine nm 9 ?_ | refine nm 10 ?_)
abbrev sGame : Stmt := topS 13
abbrev nGame : List Str := ["_law_box_here", "_law_name", "_law_longest", "_law_beads", "_law_long", "_law_shape", "_law_rules_here", "_law_others", "_law_old", "_law_new", "_law_stuck"]
theorem scGame : FnScope nGame ["_law_box_here", "_law_name", "_law_longest"] (defScope sGame) := ⟨rfl, rfl, rfl, by decide +kernel, rfl, by decide +kernel, by decide +kernel⟩
structure Gm where
  shape : Str
  beads : Str
  long : Nat
  r1 : List (List Key)
  r2 : List (List Key)
  ends : List (List Key)
  s1 : Int
  s2 : Int
def gameL (name : Str) (g : Gm) : List D := [.str name, .str g.shape, .str g.beads, .int (g.long : Int), .tuple [.tuple (g.r1.map tupK), .tuple (g.r2.map tupK)], .tuple (g.ends.map tupK), .tuple [.int g.s1, .int g.s2]]
structure GmOk (longest : Nat) (g : Gm) : Prop where
  shape : g.shape = lineS ∨ g.shape = ringS
  beads : Bd g.beads
  long2 : 2 ≤ g.long
  long : g.long ≤ longest
  r1 : RulesK g.beads g.long g.r1
  r2 : RulesK g.beads g.long g.r2
  ends : EndsK g.beads g.long g.ends
  s1 : g.s1 ∈ ([0, 9, -9, -2] : List Int)
  s2 : g.s2 ∈ ([0, -9, 9, 2] : List Int)
theorem Bd.inj {beads : Str} (h : Bd beads) : ∀ c ∈ beads.cps.toList, ∀ d ∈ beads.cps.toList, swapB beads c = swapB beads d → c = d := by
  have := h.all (p := fun b => decide (∀ c ∈ b.cps.toList, ∀ d ∈ b.cps.toList, swapB b c = swapB b d → c = d)) (by decide +kernel)
  exact of_decide_eq_true this
theorem map_inj_on {f : Nat → Nat} : ∀ {xs ys : List Nat}, (∀ c ∈ xs, ∀ d ∈ ys, f c = f d → c = d) → xs.map f = ys.map f → xs = ys
  | [], [], _, _ => rfl
  | [], _ :: _, _, h => nomatch h
  | _ :: _, [], _, h => nomatch h
  | x :: xs, y :: ys, hf, h => by
    rw [List.map_cons, List.map_cons] at h
    injection h with h1 h2
    rw [hf x (List.mem_cons_self ..) y (List.mem_cons_self ..) h1, map_inj_on (fun c hc d hd => hf c (List.mem_cons_of_mem _ hc) d (List.mem_cons_of_mem _ hd)) h2]
theorem turn_inj {beads a b : Str} {m k : Nat} (hb : Bd beads) (ha : Tx beads m a) (hb' : Tx beads k b) (h : turnM beads a = turnM beads b) : a = b := by
  unfold turnM at h
  injection h with h
  have h' := congrArg Array.toList h
  simp only [List.toList_toArray] at h'
  have e := map_inj_on (fun c hc d hd => hb.inj c (ha.2 c (List.mem_reverse.mp hc)) d (hb'.2 d (List.mem_reverse.mp hd))) h'
  apply str_ext
  rw [← List.reverse_reverse a.cps.toList, e, List.reverse_reverse]
def turnK (beads : Str) : List Key → List Key
  | [.inr a, .inr b] => [.inr (turnM beads a), .inr (turnM beads b)]
  | ks => ks
theorem RuleK.turn {beads : Str} {long : Nat} {ks : List Key} (hb : Bd beads) (h : RuleK beads long ks) : RuleK beads long (turnK beads ks) := by
  obtain ⟨a, b, m, rfl, h1, h2, h3, h4, h5, h6⟩ := h
  exact ⟨_, _, m, rfl, h1, h2, h3, h4.turn hb, h5.turn hb, fun e => h6 (turn_inj hb h4 h5 e)⟩
theorem turnK_inj {beads : Str} {long : Nat} (hb : Bd beads) {x y : List Key} (hx : RuleK beads long x) (hy : RuleK beads long y) (h : turnK beads x = turnK beads y) : x = y := by
  obtain ⟨a, b, m, rfl, _, _, _, h4, h5, _⟩ := hx
  obtain ⟨c, d, k, rfl, _, _, _, h6, h7, _⟩ := hy
  have h' : ([.inr (turnM beads a), .inr (turnM beads b)] : List Key) = [.inr (turnM beads c), .inr (turnM beads d)] := h
  injection h' with e1 e2
  injection e2 with e2 _
  rw [turn_inj hb h4 h6 (Sum.inr.inj e1), turn_inj hb h5 h7 (Sum.inr.inj e2)]
theorem nodup_map_on {α β : Type} {f : α → β} : ∀ {xs : List α}, xs.Nodup → (∀ x ∈ xs, ∀ y ∈ xs, f x = f y → x = y) → (xs.map f).Nodup
  | [], _, _ => List.nodup_nil
  | x :: xs, h, hf => by
    rw [List.nodup_cons] at h
    rw [List.map_cons, List.nodup_cons]
    refine ⟨fun hm => ?_, nodup_map_on h.2 fun a ha b hb => hf a (List.mem_cons_of_mem _ ha) b (List.mem_cons_of_mem _ hb)⟩
    obtain ⟨y, hy, e⟩ := List.mem_map.mp hm
    exact h.1 (hf y (List.mem_cons_of_mem _ hy) x (List.mem_cons_self ..) e ▸ hy)
section
variable {P : Program} {w : World} {K : PySem.W.Frag} {mg : Str → Option Value} {base : Heap}
def cGame : D → List D → (Sl → D → Prop) → Prop := fun b ds post => ∃ (n longest : Nat) (name : Str), ds = [.str name, .int (longest : Int)] ∧ 2 ≤ longest ∧ longest ≤ 100 ∧ Bx n b ∧ n < 800000000 ∧ ∀ g, GmOk longest g → ∀ b', Bx (n + 600) b' → post (.dat (.tuple (gameL name g))) b'
theorem ok_game {f : Addr} {fd : FuncData} (F : Fun K "_law_any_game" "_law_any_game" sGame f fd) (htup : mg "tuple" = none) (hsort : mg "sorted" = none)
    (hTake : CallG P w K mg base "_law_take" 1 ["_law_box_here", "_law_room"] (spB K cTake)) (hOf : CallG P w K mg base "_law_of" 2 ["_law_box_here", "_law_some"] (spB K cOf))
    (hRules : CallG P w K mg base "_law_rules" 4 ["_law_box_here", "_law_beads", "_law_long"] (spB K cRules)) (hTurn : CallG P w K mg base "_law_turned_text" 2 ["_law_text_here", "_law_beads"] (spP K cTurn))
    (hEnds : CallG P w K mg base "_law_ends" 4 ["_law_box_here", "_law_beads", "_law_long"] (spB K cEnds)) : FnG P w K mg base 5 f fd ["_law_box_here", "_law_name", "_law_longest"] (spB K cGame) := by
  refine def_B F scGame ?_ ?_
  · rintro b ds post ⟨n, longest, name, rfl, _⟩
    rfl
  · rintro b ds post ⟨n, longest, name, rfl, hl2, hl100, hb, hn, hpost⟩
    show WpSs (sxOf P w K mg base nGame (defScope sGame) 4) [0] (defBody sGame) [.own b, .dat (.str name), .dat (.int (longest : Int)), .no, .no, .no, .no, .no, .no, .no, .no] _
    refine ss_cons (s_unpack2 (i := 3) (j := 4) rfl (.inr rfl) rfl rfl (.inl rfl) rfl (wd_tup (wa_cons (wd_of (wcB 0 hOf (wa_cons (Wp.d (wp_lst ?_))))))) (fun env he => by cases env; cases he; rfl))
    walk_at "a"
    walk_at "a"
    walk_at "a"
    walk_at "a"
    walk_at "a"
    walk_at "a"
    walk_at "a"
    walk_at "a"
    walk_at "a"
    walk_at "a"
    walk_at "a"
    refine ⟨Nat.le_of_ble_eq_true rfl, ?_⟩
    walk_at "a"
    refine ⟨_, rfl, n, _, [Str.ofString ".xo", Str.ofString ".xo", Str.ofString ".x", Str.ofString "x.o", Str.ofString ".abz"].map PyData.str, rfl, .lst, Nat.le_of_ble_eq_true rfl, Nat.le_of_ble_eq_true rfl, hb, by omega, fun d hd b1 hb1 => ?_⟩
    obtain ⟨beads, hbm, rfl⟩ := List.mem_map.mp hd
    have hbd : Bd beads := by
      unfold Bd
      simp at hbm ⊢
      exact hbm
    refine ⟨_, rfl, wa_cons (wd_add ?_)⟩
    walk_at "a"
    refine wd_of (wcB 0 hTake (wa_cons (wd_sub ?_)))
    walk_at "a"
    walk_at "a"
    refine ⟨_, _, rfl, rfl, ?_⟩
    walk_at "a"
    refine ⟨_, rfl, n + 1, _, rfl, by omega, by omega, hb1, by omega, fun r b2 hr hb2 => ?_⟩
    refine ⟨_, rfl, _, _, rfl, rfl, ?_⟩
    walk_at "a"
    refine ⟨Nat.le_of_ble_eq_true rfl, _, _, rfl, no_i rfl Nw.no, no_i rfl Nw.no, ?_⟩
    have e2 : (2 : Int) + (r : Int) = ((2 + r : Nat) : Int) := by omega
    rw [e2]
    generalize hlong : 2 + r = long
    have hlo2 : 2 ≤ long := by omega
    have hlo : long ≤ longest := by omega
    refine ss_cons (s_par (i := 5) (j := 6) rfl rfl rfl rfl (by decide) (by simp) (by simp) (WpD.wp (wd_of (wcB 0 hOf (wa_cons (Wp.d (wp_lst ?_)))))) (fun env he => by cases env; cases he; rfl))
    walk_at "a"
    walk_at "a"
    walk_at "a"
    walk_at "a"
    walk_at "a"
    refine ⟨Nat.le_of_ble_eq_true rfl, ?_⟩
    walk_at "a"
    refine ⟨_, rfl, n + 1 + 1, _, [lineS, ringS].map PyData.str, rfl, .lst, Nat.le_of_ble_eq_true rfl, Nat.le_of_ble_eq_true rfl, hb2, by omega, fun d hd b3 hb3 => ?_⟩
    obtain ⟨shape, hsh, rfl⟩ := List.mem_map.mp hd
    have hshape : shape = lineS ∨ shape = ringS := by simpa using hsh
    refine ⟨_, rfl, _, rfl, wcB 0 hRules ?_⟩
    walk_at "a"
    walk_at "a"
    walk_at "a"
    walk_at "a"
    walk_at "a"
    refine ⟨_, rfl, n + 1 + 1 + 1, long, beads, rfl, hbd, by omega, by omega, hb3, by omega, fun r1 hr1 b4 hb4 => ?_⟩
    refine ⟨Nat.le_of_ble_eq_true rfl, Nat.le_of_ble_eq_true rfl, ?_⟩
    refine ss_cons (s_set (i := 7) rfl (.inl rfl) rfl (by simp) (wcB 0 hRules ?_))
    walk_at "a"
    walk_at "a"
    walk_at "a"
    walk_at "a"
    walk_at "a"
    refine ⟨_, rfl, n + 1 + 1 + 1 + 33, long, beads, rfl, hbd, by omega, by omega, hb4, by omega, fun r2 hr2 b5 hb5 => ?_⟩
    refine ⟨Nat.le_of_ble_eq_true rfl, ?_⟩
    have key : ∀ (b6 : D) (r2 : List (List Key)), RulesK beads long r2 → Bx (n + 1 + 1 + 1 + 33 + 33 + 1) b6 → WpSs (sxOf P w K mg base nGame (defScope sGame) 4) [0] ((defBody sGame).drop 4)
        [.own b6, .dat (.str name), .dat (.int (longest : Int)), .dat (.str beads), .dat (.int (long : Int)), .dat (.str shape), .dat (.tuple (r1.map tupK)), .dat (.tuple (r2.map tupK)), .no, .no, .no] { nx := fun E => ∃ b', E[0]? = some (Sl.own b') ∧ post (.dat .none) b', rt := fun r E => ∃ b', E[0]? = some (Sl.own b') ∧ post r b', bk := fun _ => False, ct := fun _ => False } := fun b6 r2 hr2 hb6 => by
      refine ss_cons (s_set (i := 10) rfl (.inl rfl) rfl (by simp) (WpD.wp (wd_tup (wa_cons (wd_of (wcB 0 hOf (wa_cons (Wp.d (wp_lst ?_)))))))))
      walk_at "a"
      walk_at "a"
      walk_at "a"
      walk_at "a"
      refine wa_cons (wd_neg ?_)
      walk_at "a"
      refine ⟨_, rfl, wa_cons (wd_neg ?_)⟩
      walk_at "a"
      refine ⟨_, rfl, ?_⟩
      walk_at "a"
      refine ⟨Nat.le_of_ble_eq_true rfl, ?_⟩
      walk_at "a"
      refine ⟨_, rfl, n + 1 + 1 + 1 + 33 + 33 + 1, _, ([0, 9, -9, -2] : List Int).map PyData.int, rfl, .lst, Nat.le_of_ble_eq_true rfl, Nat.le_of_ble_eq_true rfl, hb6, by omega, fun d hd b7 hb7 => ?_⟩
      obtain ⟨s1, hs1, rfl⟩ := List.mem_map.mp hd
      refine ⟨_, rfl, wa_cons (wd_of (wcB 0 hOf (wa_cons (Wp.d (wp_lst ?_)))))⟩
      walk_at "a"
      walk_at "a"
      refine wa_cons (wd_neg ?_)
      walk_at "a"
      refine ⟨_, rfl, ?_⟩
      walk_at "a"
      walk_at "a"
      walk_at "a"
      walk_at "a"
      walk_at "a"
      refine ⟨Nat.le_of_ble_eq_true rfl, ?_⟩
      walk_at "a"
      refine ⟨_, rfl, n + 1 + 1 + 1 + 33 + 33 + 1 + 1, _, ([0, -9, 9, 2] : List Int).map PyData.int, rfl, .lst, Nat.le_of_ble_eq_true rfl, Nat.le_of_ble_eq_true rfl, hb7, by omega, fun d hd b8 hb8 => ?_⟩
      obtain ⟨s2, hs2, rfl⟩ := List.mem_map.mp hd
      refine ⟨_, rfl, ?_⟩
      walk_at "a"
      refine ⟨Nat.le_of_ble_eq_true rfl, Nat.le_of_ble_eq_true rfl, ?_⟩
      refine ss_one (s_ret (WpD.wp (wd_tup ?_)))
      walk_at "a"
      walk_at "a"
      walk_at "a"
      walk_at "a"
      walk_at "a"
      walk_at "a"
      walk_at "a"
      walk_at "a"
      refine wa_cons (wd_tup ?_)
      walk_at "a"
      walk_at "a"
      walk_at "a"
      walk_at "a"
      walk_at "a"
      refine ⟨Nat.le_of_ble_eq_true rfl, wa_cons (wd_of (wcB 0 hEnds ?_))⟩
      walk_at "a"
      walk_at "a"
      walk_at "a"
      walk_at "a"
      walk_at "a"
      refine ⟨_, rfl, n + 1 + 1 + 1 + 33 + 33 + 1 + 1 + 1, long, beads, rfl, hbd, by omega, by omega, hb8, by omega, fun ends hends b9 hb9 => ?_⟩
      refine ⟨_, rfl, ?_⟩
      walk_at "a"
      walk_at "a"
      walk_at "a"
      refine ⟨Nat.le_of_ble_eq_true rfl, _, rfl, hpost ⟨shape, beads, long, r1, r2, ends, s1, s2⟩ ⟨hshape, hbd, hlo2, hlo, hr1, hr2, hends, hs1, hs2⟩ _ (hb9.mono ?_)⟩
      omega
    refine ss_cons (s_if (wt_eq (wd_of (wcB 0 hTake ?_))))
    walk_at "a"
    walk_at "a"
    walk_at "a"
    refine ⟨_, rfl, n + 1 + 1 + 1 + 33 + 33, 3, rfl, by decide, by decide, hb5, by omega, fun q b6 hq hb6 => ?_⟩
    refine ⟨_, rfl, ?_⟩
    walk_at "a"
    refine ⟨rfl, and_tf (fun _ => ?_) fun _ => ss_nil (key b6 r2 hr2 hb6)⟩
    refine ss_one (s_set (i := 7) rfl (.inl rfl) rfl (by simp) (WpD.wp (wd_tuple rfl htup (WpD.k (Wp.d (wp_sorted rfl hsort (WpD.k (Wp.d (wp_lc [("_law_old", 8), ("_law_new", 9)] (blkOk_by (N := nGame) (sc := defScope sGame) (by decide +kernel)) ?_)))))))))
    refine wi_tup ?_
    walk_at "a"
    have hw : ∀ (c1 c2 : Sl), Nw c1 → Nw c2 → ∀ i ∈ [8, 9], notOwn [Sl.own b6, .dat (.str name), .dat (.int (longest : Int)), .dat (.str beads), .dat (.int (long : Int)), .dat (.str shape), .dat (.tuple (r1.map tupK)), .dat (.tuple (r2.map tupK)), c1, c2, .no] i := fun c1 c2 h1 h2 i hi => by
      have : i = 8 ∨ i = 9 := by simpa using hi
      rcases this with rfl | rfl
      · exact no_i rfl h1
      · exact no_i rfl h2
    refine ⟨_, rfl, hw _ _ Nw.no Nw.no, fun t acc Et => acc = (r1.take t).map (fun ks => tupK (turnK beads ks)) ∧ Et = [.own b6, .dat (.str name), .dat (.int (longest : Int)), .dat (.str beads), .dat (.int (long : Int)), .dat (.str shape), .dat (.tuple (r1.map tupK)), .dat (.tuple (r2.map tupK)), .no, .no, .no], ⟨rfl, rfl⟩, ?_, ?_⟩
    · rintro t acc Et d hd ⟨rfl, rfl⟩
      rw [List.getElem?_map] at hd
      cases hz : r1[t]? with
      | none => rw [hz] at hd; cases hd
      | some ks =>
        rw [hz] at hd
        obtain rfl : tupK ks = d := Option.some.inj hd
        have hlt : t < r1.length := (List.getElem?_eq_some_iff.mp hz).1
        obtain ⟨a, c, m, rfl, hm1, hm3, hml, ha, hc, hne⟩ := hr1.each ks (List.mem_of_getElem? hz)
        refine g_two (i := 8) (j := 9) rfl (.inl rfl) rfl (by simp) (no_i rfl Nw.no) rfl (.inl rfl) rfl (by simp) (no_i rfl Nw.no) (wts_nil (and_tf (fun _ => ?_) fun h => by cases h))
        refine wd_tup (wa_cons (wd_of (wcPb hTurn ?_)))
        walk_at "a"
        walk_at "a"
        walk_at "a"
        walk_at "a"
        walk_at "a"
        refine ⟨a, beads, m, rfl, hbd, ha, by omega, _, rfl, wa_cons (wd_of (wcPb hTurn ?_))⟩
        walk_at "a"
        walk_at "a"
        walk_at "a"
        walk_at "a"
        walk_at "a"
        refine ⟨c, beads, m, rfl, hbd, hc, by omega, _, rfl, ?_⟩
        walk_at "a"
        refine ⟨Nat.le_of_ble_eq_true rfl, ?_, hw _ _ Nw.dat Nw.dat, ?_, rfl⟩
        · rw [List.length_map, List.length_take]
          have := hr1.few
          omega
        · rw [List.take_add_one, hz, List.map_append]
          rfl
    · rintro acc Et ⟨rfl, rfl⟩
      have hTe : ∀ ks ∈ r1.map (turnK beads), RuleK beads long ks := fun ks hks => by
        obtain ⟨k0, hk0, rfl⟩ := List.mem_map.mp hks
        exact (hr1.each k0 hk0).turn hbd
      have hTn : (r1.map (turnK beads)).Nodup := nodup_map_on hr1.nodup fun x hx y hy => turnK_inj hbd (hr1.each x hx) (hr1.each y hy)
      refine ⟨r1.map (turnK beads), false, [false], ?_, fun ks hks => (hTe ks hks).sig, fun ls pl pw => ?_⟩
      · rw [List.length_map, List.take_length, List.map_map]
        rfl
      refine ⟨_, .inl rfl, Nat.le_of_ble_eq_true rfl, key b6 ls ⟨?_, fun ks hks => hTe ks (pl.mem_iff.mp hks), pl.nodup_iff.mpr hTn, pw⟩ hb6⟩
      rw [pl.length_eq, List.length_map]
      exact hr1.few
end
end Wq

namespace Wq
open PySem L2
local macro_rules | `(tactic| walk_at "a") => `(tactic| first
  | refine wd_int ?_ | refine wd_str ?_ | refine wd_bl ?_ | refine wd_non ?_ | refine wa_nil ?_ | refine wa_cons ?_
  | refine nm 0 ?_ | refine nm 1 ?_ | refine nm 2 ?_ | refine nm 3 ?_ | refine nm 4 ?_ | refine nm 5 ?_ | refine nm 6 ?_ | refine nm 7 ?_ | refine nm 8 ?_ | refine nm 9 ?_ | refine nm 10 ?_)
abbrev sFolded : Stmt := topS 6
abbrev nFolded : List Str := ["_law_script", "_law_room", "_law_cells", "_law_k", "_law_cell"]
theorem scFolded : FnScope nFolded ["_law_script", "_law_room"] (defScope sFolded) := ⟨rfl, rfl, rfl, by decide +kernel, rfl, by decide +kernel, by decide +kernel⟩
def intL (xs : List Int) : D := .list (xs.map PyData.int)
theorem cutD_map (xs : List Int) (lo hi : Option Int) : cutD (xs.map PyData.int) lo hi = ((xs.drop (HT.sIx xs.length 0 lo)).take (HT.sIx xs.length xs.length hi - HT.sIx xs.length 0 lo)).map PyData.int := by
  unfold cutD
  rw [List.length_map, ← List.map_drop, ← List.map_take]
section
variable {P : Program} {w : World} {K : PySem.W.Frag} {mg : Str → Option Value} {base : Heap}
def cFolded : List D → (Sl → Prop) → Prop := fun ds post => ∃ xs : List Int, ds = [intL xs, .int 4] ∧ ∀ ys : List Int, 1 ≤ ys.length → ys.length ≤ 4 → post (.own (intL ys))
theorem ok_folded {f : Addr} {fd : FuncData} (F : Fun K "_law_folded" "_law_folded" sFolded f fd) (hlist : mg "list" = none) (henum : mg "enumerate" = none) : FnG P w K mg base 1 f fd ["_law_script", "_law_room"] (spP K cFolded) := by
  refine def_P F scFolded ?_ ?_
  · rintro ds post ⟨xs, rfl, _⟩
    rfl
  · rintro ds post ⟨xs, rfl, hpost⟩
    show WpSs (sxOf P w K mg base nFolded (defScope sFolded) 0) [] (defBody sFolded) [.dat (intL xs), .dat (.int 4), .no, .no, .no] _
    refine ss_cons (s_set (i := 2) rfl (.inl rfl) rfl (by simp) (wp_list rfl hlist (WpD.k (Wp.d (wp_slL ?_)))))
    walk_at "a"
    refine wo_none (wo_some ?_)
    walk_at "a"
    refine ⟨_, rfl, _, rfl, _, .inl rfl, Nat.le_of_ble_eq_true rfl, ?_⟩
    rw [cutD_map]
    have e4 : HT.sIx xs.length xs.length (some 4) = min 4 xs.length := HT.sIx_nat _ _ 4
    have e4' : HT.sIx xs.length 0 (some 4) = min 4 xs.length := HT.sIx_nat _ _ 4
    have e63 : HT.sIx xs.length xs.length (some 63) = min 63 xs.length := HT.sIx_nat _ _ 63
    rw [HT.sIx_none, e4, List.drop_zero, Nat.sub_zero]
    refine ss_cons (s_for [3, 4] (wi_enum rfl henum (Wp.d (wp_slL ?_))))
    walk_at "a"
    refine wo_some ?_
    walk_at "a"
    refine ⟨_, rfl, wo_some ?_⟩
    walk_at "a"
    refine ⟨_, rfl, _, rfl, ?_⟩
    rw [cutD_map, e4', e63]
    refine ⟨_, rfl, ?_⟩
    refine ⟨fun t Et => ∃ (ys : List Int) (s3 s4 : Sl), Et = [.dat (intL xs), .dat (.int 4), .own (intL ys), s3, s4] ∧ Nw s3 ∧ Nw s4 ∧ ys.length = min 4 xs.length, ⟨_, .no, .no, rfl, Nw.no, Nw.no, ?_⟩, ?_, ?_⟩
    · rw [List.length_take]
      omega
    · rintro t Et d hd ⟨ys, s3, s4, rfl, h3, h4, hy⟩
      unfold enumD at hd
      rw [List.getElem?_mapIdx, List.getElem?_map] at hd
      cases hz : ((xs.drop (min 4 xs.length)).take (min 63 xs.length - min 4 xs.length))[t]? with
      | none => rw [hz] at hd; cases hd
      | some q =>
        rw [hz] at hd
        obtain rfl : PyData.tuple [.int (t : Int), .int q] = d := Option.some.inj hd
        have hlt := (List.getElem?_eq_some_iff.mp hz).1
        rw [List.length_take, List.length_drop] at hlt
        have hy4 : ys.length = 4 := by omega
        have ht : t < 63 := by omega
        refine g_two (i := 3) (j := 4) rfl (.inl rfl) rfl (by simp) (no_i rfl h3) rfl (.inl rfl) rfl (by simp) (no_i rfl h4) ?_
        have em : (t : Int) % 4 = ((t % 4 : Nat) : Int) := (Int.natCast_emod t 4).symm
        have hm : t % 4 < ys.length := by rw [hy4]; exact Nat.mod_lt _ (by decide)
        have hat : atI (ys.map PyData.int) ((t % 4 : Nat) : Int) = some (.int ys[t % 4]) := atI_nat (by rw [List.getElem?_map, List.getElem?_eq_getElem hm]; rfl)
        refine ss_one (s_store (i := 2) rfl (.inl rfl) ⟨_, rfl⟩ (wd_add (wd_ixOwn (i := 2) rfl (.inl rfl) ⟨_, rfl⟩ (wd_mod ?_))))
        walk_at "a"
        walk_at "a"
        refine ⟨_, _, rfl, rfl, by decide, _, _, _, rfl, rfl, em ▸ hat, wd_mul ?_⟩
        walk_at "a"
        refine wd_add ?_
        walk_at "a"
        walk_at "a"
        refine ⟨_, _, rfl, rfl, _, _, rfl, rfl, .inr ⟨by omega, by omega⟩, _, _, rfl, rfl, ⟨_, rfl⟩, wd_mod ?_⟩
        walk_at "a"
        walk_at "a"
        refine ⟨_, _, rfl, rfl, by decide, _, _, t % 4, rfl, rfl, ?_, ys.set (t % 4) (ys[t % 4] + q * ((t : Int) + 2)), .dat (.int (t : Int)), .dat (.int q), ?_, Nw.dat, Nw.dat, ?_⟩
        · rw [em]
          have hm' : t % 4 < (ys.map PyData.int).length := by rw [List.length_map]; exact hm
          unfold ixN
          rw [if_pos (by omega), if_pos (by omega), Int.toNat_natCast]
        · unfold intL
          rw [List.map_set]
          rfl
        · rw [List.length_set]; exact hy
    · rintro Et ⟨ys, s3, s4, rfl, h3, h4, hy⟩
      refine ss_one (s_retIf (i := 2) rfl (.inl rfl) (by simp) (wt_neNil (i := 2) rfl (.inl rfl) rfl ?_ ?_))
      · refine (Sd.lst (n := 0) fun d hd => ?_).shaped (by decide)
        obtain ⟨q, _, rfl⟩ := List.mem_map.mp hd
        exact Sd.int q
      · refine and_tf (fun h => ⟨_, rfl, ?_⟩) fun h => wp_lst ?_
        · refine hpost ys ?_ (by omega)
          cases ys with
          | nil => cases h
          | cons y r => exact Nat.succ_le_succ (Nat.zero_le _)
        · walk_at "a"
          walk_at "a"
          walk_at "a"
          exact ⟨Nat.le_of_ble_eq_true rfl, hpost [0] (Nat.le_refl _) (by decide)⟩
end
end Wq

namespace Wq
open PySem L2
local macro_rules | `(tactic| walk_at "a") => `(tactic| first
  | refine wd_int ?_ | refine wd_str ?_ | refine wd_bl ?_ | refine wd_non ?_ | refine wa_nil ?_ | refine wa_cons ?_
  | refine nm 0 ?_ | refine nm 1 ?_ | refine nm 2 ?_ | refine nm 3 ?_ | refine nm 4 ?_ | refine nm 5 ?_ | refine nm 6 ?_ | refine nm 7 ?_ | refine nm 8 ?_ | refine nm 9 ?_ | refine nm 10 ?_)
abbrev sTexts : Stmt := topS 17
abbrev nTexts : List Str := ["_law_box_here", "_law_game", "_law_row", "_law_beads", "_law_long", "_law_twice", "_law_found", "_law_turn", "_law_at", "_law_size"]
theorem scTexts : FnScope nTexts ["_law_box_here", "_law_game", "_law_row"] (defScope sTexts) := ⟨rfl, rfl, rfl, by decide +kernel, rfl, by decide +kernel, by decide +kernel⟩
/-- a text of at most so many signs of the beads -/
def Tl (beads : Str) (long : Nat) (z : Str) : Prop := z.length ≤ long ∧ ∀ c ∈ z.cps.toList, c ∈ beads.cps.toList
theorem Tx.tl {beads z : Str} {m long : Nat} (h : Tx beads m z) (hm : m ≤ long) : Tl beads long z := ⟨by rw [h.1]; exact hm, h.2⟩
theorem Tl.cut {beads z : Str} {k long : Nat} {lo hi : Option Int} (h : Tl beads k z) (hl : (cutS z lo hi).length ≤ long) : Tl beads long (cutS z lo hi) := ⟨hl, fun c hc => h.2 c (cut_mem hc)⟩
theorem Tl.app {beads a b : Str} {k l long : Nat} (ha : Tl beads k a) (hb : Tl beads l b) (hl : (a ++ b).length ≤ long) : Tl beads long (a ++ b) := ⟨hl, fun c hc => by
  rw [app_list] at hc
  rcases List.mem_append.mp hc with h | h
  · exact ha.2 c h
  · exact hb.2 c h⟩
theorem Tl.one {beads : Str} {c long : Nat} (h : c ∈ beads.cps.toList) (hl : 1 ≤ long) : Tl beads long ⟨#[c]⟩ := ⟨hl, fun d hd => by
  have : d = c := by simpa using hd
  rw [this]; exact h⟩
theorem atI_mem {xs : List Nat} {k : Int} {c : Nat} (h : atI xs k = some c) : c ∈ xs := by
  unfold atI at h
  cases z : ixN xs.length k with
  | none => rw [z] at h; cases h
  | some j => rw [z] at h; exact List.mem_of_getElem? h
theorem Bd.first {beads : Str} (h : Bd beads) : ∃ c, atI beads.cps.toList 0 = some c := by
  have := h.all (p := fun b => (atI b.cps.toList 0).isSome) (by decide)
  exact Option.isSome_iff_exists.mp this
section
variable {P : Program} {w : World} {K : PySem.W.Frag} {mg : Str → Option Value} {base : Heap}
def cTexts : D → List D → (Sl → D → Prop) → Prop := fun b ds post => ∃ (n longest : Nat) (name row : Str) (g : Gm), ds = [.tuple (gameL name g), .str row] ∧ GmOk longest g ∧ longest ≤ 100 ∧ Tx g.beads g.long row ∧ Bx n b ∧ n < 800000000 ∧
  ∀ ts : List Str, ts.length = 18 → (∀ t ∈ ts, Tl g.beads g.long t) → ∀ b', Bx (n + 612) b' → post (.own (.list (ts.map PyData.str))) b'
theorem ok_texts {f : Addr} {fd : FuncData} (F : Fun K "_law_some_texts" "_law_some_texts" sTexts f fd) (hrange : mg "range" = none)
    (hTake : CallG P w K mg base "_law_take" 1 ["_law_box_here", "_law_room"] (spB K cTake)) (hText : CallG P w K mg base "_law_text" 3 ["_law_box_here", "_law_beads", "_law_size"] (spB K cText)) : FnG P w K mg base 4 f fd ["_law_box_here", "_law_game", "_law_row"] (spB K cTexts) := by
  refine def_B F scTexts ?_ ?_
  · rintro b ds post ⟨n, longest, name, row, g, rfl, _⟩
    rfl
  · rintro b ds post ⟨n, longest, name, row, g, rfl, hg, hl100, hrow, hb, hn, hpost⟩
    obtain ⟨hb2, hb4⟩ := hg.beads.len
    have hl := hg.long
    have hl2 := hg.long2
    have hrl := hrow.1
    obtain ⟨c0, hc0⟩ := hg.beads.first
    obtain ⟨e1, _⟩ := hg.beads.back
    show WpSs (sxOf P w K mg base nTexts (defScope sTexts) 3) [0] (defBody sTexts) [.own b, .dat (.tuple (gameL name g)), .dat (.str row), .no, .no, .no, .no, .no, .no, .no] _
    refine ss_cons (s_par3 (i := 3) (j := 4) (l := 5) rfl rfl rfl rfl rfl rfl (by decide) (by decide) (by decide) (by simp) (by simp) (by simp) (wa_cons (wd_ix ?_)) (fun env he => by cases env; cases he; rfl))
    walk_at "a"
    walk_at "a"
    refine ⟨_, _, rfl, .tup (atI_nat (j := 2) rfl), wa_cons (wd_ix ?_)⟩
    walk_at "a"
    walk_at "a"
    refine ⟨_, _, rfl, .tup (atI_nat (j := 3) rfl), wa_cons (wd_adds ?_)⟩
    walk_at "a"
    walk_at "a"
    have hS : ∀ k : Nat, k ≤ 1000000 → k ≤ sizeLine := fun k hk => Nat.le_trans hk (by decide)
    refine ⟨_, _, rfl, rfl, hS _ (by omega), ?_⟩
    walk_at "a"
    refine ⟨_, _, _, rfl, Nat.le_of_ble_eq_true rfl, Nat.le_of_ble_eq_true rfl, Nat.le_of_ble_eq_true rfl, ?_⟩
    refine ss_cons (s_set (i := 6) rfl (.inl rfl) rfl (by simp) (wp_lst ?_))
    walk_at "a"
    walk_at "a"
    refine wa_cons (wd_revS ?_)
    walk_at "a"
    refine ⟨_, rfl, by omega, wa_cons (wd_ix ?_)⟩
    walk_at "a"
    walk_at "a"
    refine ⟨_, _, rfl, .str (by omega) hc0, wa_cons (wd_ix ?_)⟩
    walk_at "a"
    refine wd_neg ?_
    walk_at "a"
    refine ⟨_, rfl, _, _, rfl, .str (by omega) e1, wa_cons (wd_adds (wd_slS ?_))⟩
    walk_at "a"
    refine wo_some (wd_neg ?_)
    walk_at "a"
    refine ⟨_, rfl, _, rfl, wo_none ?_⟩
    refine ⟨_, rfl, by omega, wd_slS ?_⟩
    walk_at "a"
    refine wo_none (wo_some ?_)
    walk_at "a"
    have q1 : HT.sIx row.length 0 (some (-1)) = row.length - 1 := by
      show (if (-1 : Int) < 0 then ((-1 : Int) + (row.length : Int)).toNat else min (-1 : Int).toNat row.length) = _
      rw [if_pos (by decide)]
      omega
    have q2 : HT.sIx row.length row.length (some 1) = min 1 row.length := HT.sIx_nat _ _ 1
    have q3 : HT.sIx row.length row.length (some 2) = min 2 row.length := HT.sIx_nat _ _ 2
    have hT := hrow.tl (Nat.le_refl _)
    refine ⟨_, rfl, _, rfl, by omega, _, _, rfl, rfl, ?_, wa_cons (wd_slS ?_)⟩
    · rw [cut_len, cut_len]
      exact hS _ (by omega)
    walk_at "a"
    refine wo_none (wo_some ?_)
    walk_at "a"
    refine ⟨_, rfl, _, rfl, by omega, ?_⟩
    walk_at "a"
    refine ⟨Nat.le_of_ble_eq_true rfl, Nat.le_of_ble_eq_true rfl, ?_⟩
    refine ss_cons (s_for [7] ?_)
    refine wi_range1 rfl hrange ?_
    walk_at "a"
    refine ⟨_, rfl, by decide, by decide, ?_⟩
    refine ⟨fun t Et => ∃ (ts : List Str) (b' : D) (s7 s8 s9 : Sl), Et = [.own b', .dat (.tuple (gameL name g)), .dat (.str row), .dat (.str g.beads), .dat (.int (g.long : Int)), .dat (.str (row ++ row)), .own (.list (ts.map PyData.str)), s7, s8, s9] ∧ Nw s7 ∧ Bx (n + t * (2 + g.long)) b' ∧ ts.length = 6 + 2 * t ∧ ∀ z ∈ ts, Tl g.beads g.long z,
      ⟨[row, revS row, ⟨#[c0]⟩, ⟨#[backB g.beads (-1)]⟩, cutS row (some (-1)) none ++ cutS row none (some 1), cutS row none (some 2)], b, .no, .no, .no, rfl, Nw.no, hb.mono (by omega), rfl, ?_⟩, ?_, ?_⟩
    · intro z hz
      have hz' : z = row ∨ z = revS row ∨ z = ⟨#[c0]⟩ ∨ z = ⟨#[backB g.beads (-1)]⟩ ∨ z = cutS row (some (-1)) none ++ cutS row none (some 1) ∨ z = cutS row none (some 2) := by simpa using hz
      rcases hz' with rfl | rfl | rfl | rfl | rfl | rfl
      · exact hT
      · exact hrow.rev.tl (Nat.le_refl _)
      · exact Tl.one (atI_mem hc0) (by omega)
      · exact Tl.one (atI_mem e1) (by omega)
      · refine Tl.app (k := g.long) (l := g.long) (hT.cut ?_) (hT.cut ?_) ?_
        · rw [cut_len]; omega
        · rw [cut_len]; omega
        · rw [app_len, cut_len, cut_len, q1, q2]
          show min (row.length - _) _ + min (_ - 0) (row.length - 0) ≤ _
          omega
      · refine hT.cut ?_
        rw [cut_len]
        omega
    · rintro t Et d hd ⟨ts, b', s7, s8, s9, rfl, h7, hb', htl, hts⟩
      obtain ⟨ht', rfl⟩ := intsD_get hd
      have ht6 : t < 6 := by
        have : (6 : Int).toNat = 6 := rfl
        omega
      have hmul : (t + 1) * (2 + g.long) = t * (2 + g.long) + (2 + g.long) := Nat.succ_mul _ _
      have hsm : t * (2 + g.long) ≤ 6 * 102 := Nat.mul_le_mul (by omega) (by omega)
      refine g_name (i := 7) rfl (.inl rfl) rfl (by simp) (no_i rfl h7) ?_
      refine ss_cons (s_par (i := 8) (j := 9) rfl rfl rfl rfl (by decide) (by simp) (by simp) (WpD.wp (wd_of (wcB 0 hTake ?_))) (fun env he => by cases env; cases he; rfl))
      walk_at "a"
      walk_at "a"
      walk_at "a"
      refine ⟨_, rfl, n + t * (2 + g.long), _, rfl, by omega, by omega, hb', by omega, fun r b2 hr hb2 => ?_⟩
      refine ⟨_, rfl, _, rfl, WpD.wp (wd_add ?_)⟩
      walk_at "a"
      refine wd_of (wcB 0 hTake ?_)
      walk_at "a"
      walk_at "a"
      walk_at "a"
      refine ⟨_, rfl, n + t * (2 + g.long) + 1, _, rfl, by omega, by omega, hb2, by omega, fun m b3 hm hb3 => ?_⟩
      refine ⟨_, rfl, _, _, rfl, rfl, Nat.le_of_ble_eq_true rfl, Nat.le_of_ble_eq_true rfl, ?_⟩
      have em : (1 : Int) + (m : Int) = ((1 + m : Nat) : Int) := by omega
      rw [em]
      refine ss_one (s_set (i := 6) rfl (.inl rfl) rfl (by simp) (wp_catOwn (i := 6) rfl (.inl rfl) rfl (wp_lst (wa_cons (wd_slS ?_)))))
      walk_at "a"
      refine wo_some ?_
      walk_at "a"
      refine ⟨_, rfl, wo_some (wd_add ?_)⟩
      walk_at "a"
      walk_at "a"
      refine ⟨_, _, rfl, rfl, _, rfl, _, rfl, by rw [app_len]; omega, wa_cons (wd_of (wcB 0 hText ?_))⟩
      walk_at "a"
      walk_at "a"
      walk_at "a"
      walk_at "a"
      walk_at "a"
      refine ⟨_, rfl, n + t * (2 + g.long) + 1 + 1, 1 + m, g.beads, rfl, by omega, by omega, by omega, hb3, by omega, fun any hany b4 hb4 => ?_⟩
      refine ⟨_, rfl, ?_⟩
      walk_at "a"
      refine ⟨Nat.le_of_ble_eq_true rfl, _, rfl, rfl, ?_, Nat.le_of_ble_eq_true rfl, ts ++ [cutS (row ++ row) (some (r : Int)) (some ((r : Int) + ((1 + m : Nat) : Int))), any], b4, .dat (.int (0 + (t : Int))), .dat (.int (r : Int)), .dat (.int ((1 + m : Nat) : Int)), ?_, Nw.dat, hb4.mono (by omega), ?_, ?_⟩
      · rw [List.length_map, htl]
        show 6 + 2 * t + 2 ≤ _
        omega
      · rw [List.map_append]; rfl
      · rw [List.length_append, htl]
        show 6 + 2 * t + 2 = _
        omega
      · intro z hz
        rcases List.mem_append.mp hz with h | h
        · exact hts z h
        · have h' : z = cutS (row ++ row) (some (r : Int)) (some ((r : Int) + ((1 + m : Nat) : Int))) ∨ z = any := by simpa using h
          rcases h' with rfl | rfl
          · have hRR : Tl g.beads (g.long + g.long) (row ++ row) := hT.app hT (by rw [app_len]; omega)
            refine hRR.cut ?_
            rw [cut_len]
            have z1 : HT.sIx (row ++ row).length 0 (some (r : Int)) = min r (row ++ row).length := HT.sIx_nat _ _ _
            have z2 : HT.sIx (row ++ row).length (row ++ row).length (some ((r : Int) + ((1 + m : Nat) : Int))) = min (r + (1 + m)) (row ++ row).length := by
              rw [← Int.natCast_add]
              exact HT.sIx_nat _ _ _
            rw [z1, z2]
            omega
          · exact hany.tl (by omega)
    · rintro Et ⟨ts, b', s7, s8, s9, rfl, h7, hb', htl, hts⟩
      have el : (intsD 0 (6 : Int).toNat).length = 6 := by rw [intsD_len]; rfl
      rw [el] at hb' htl
      refine ss_one (s_retOwn (i := 6) rfl (.inl rfl) rfl (by simp) ?_ (by decide +kernel) (by decide +kernel))
      exact ⟨_, rfl, hpost ts (by omega) hts _ (hb'.mono (by omega))⟩
end
end Wq

namespace Wq
open PySem L2
/-! ### what repr can tell -/
structure Rp (k W : Nat) (d : D) : Prop where
  can : d.canLay0 = true
  dep : d.depth ≤ k
  ish : d.intsShort 13 = true
  sho : d.showable = true
  nod : d.hasDict = false
  wei : d.weight ≤ W
theorem Rp.mono {k W k' W' : Nat} {d : D} (h : Rp k W d) (hk : k ≤ k') (hW : W ≤ W') : Rp k' W' d := ⟨h.can, Nat.le_trans h.dep hk, h.ish, h.sho, h.nod, Nat.le_trans h.wei hW⟩
theorem Rp.str {k W : Nat} {z : Str} (h : PyData.strOk z = true) (hl : z.length ≤ W) : Rp k W (.str z) := ⟨h, Nat.zero_le _, rfl, rfl, rfl, hl⟩
theorem small_ints : ∀ n ∈ List.range 120, (PyData.int ((n : Int) - 10)).intsShort 13 = true ∧ (PyData.int ((n : Int) - 10)).showable = true ∧ (PyData.int ((n : Int) - 10)).weight ≤ 8 := by decide +kernel
theorem Rp.int {k W : Nat} {i : Int} (h1 : -10 ≤ i) (h2 : i < 110) (hW : 8 ≤ W) : Rp k W (.int i) := by
  obtain ⟨n, hn⟩ : ∃ n : Nat, i = (n : Int) - 10 := ⟨(i + 10).toNat, by omega⟩
  subst hn
  obtain ⟨a, b, c⟩ := small_ints n (List.mem_range.mpr (by omega))
  exact ⟨rfl, Nat.zero_le _, a, b, rfl, Nat.le_trans c hW⟩
theorem Rp.all {k W : Nat} : ∀ {ds : List D}, (∀ d ∈ ds, Rp k W d) → PyData.intsShortAll 13 ds = true ∧ PyData.showableAll ds = true ∧ PyData.hasDictAll ds = false ∧ PyData.weightAll ds ≤ ds.length * (W + 1)
  | [], _ => ⟨rfl, rfl, rfl, Nat.zero_le _⟩
  | d :: r, h => by
    obtain ⟨a1, a2, a3, a4⟩ := Rp.all fun x hx => h x (List.mem_cons_of_mem _ hx)
    have q := h d (List.mem_cons_self ..)
    refine ⟨?_, ?_, ?_, ?_⟩
    · show (d.intsShort 13 && PyData.intsShortAll 13 r) = true
      rw [q.ish, a1]; rfl
    · show (d.showable && PyData.showableAll r) = true
      rw [q.sho, a2]; rfl
    · show (d.hasDict || PyData.hasDictAll r) = false
      rw [q.nod, a3]; rfl
    · show d.weight + 1 + PyData.weightAll r ≤ (r.length + 1) * (W + 1)
      rw [Nat.succ_mul]
      have := q.wei
      omega
theorem Rp.lst {k W : Nat} {ds : List D} (h : ∀ d ∈ ds, Rp k W d) {W' : Nat} (hW : ds.length * (W + 1) ≤ W') : Rp (k + 1) W' (.list ds) := by
  obtain ⟨a1, a2, a3, a4⟩ := Rp.all h
  exact ⟨canAll fun d hd => (h d hd).can, Nat.succ_le_succ (depAll fun d hd => (h d hd).dep), a1, a2, a3, Nat.le_trans a4 hW⟩
theorem Rp.tup {k W : Nat} {ds : List D} (h : ∀ d ∈ ds, Rp k W d) {W' : Nat} (hW : ds.length * (W + 1) ≤ W') : Rp (k + 1) W' (.tuple ds) := by
  obtain ⟨a1, a2, a3, a4⟩ := Rp.all h
  exact ⟨canAll fun d hd => (h d hd).can, Nat.succ_le_succ (depAll fun d hd => (h d hd).dep), a1, a2, a3, Nat.le_trans a4 hW⟩
theorem Rp.fits {k W : Nat} {d : D} (h : Rp k W d) (hW : W ≤ 1048576) : d.shown.length ≤ sizeLine :=
  PyData.shown_fits (B := 13) (by decide) (Nat.le_refl _) (PyData.leavesShort_of_canLay0 13 d h.can h.ish) (Nat.le_trans h.wei hW)
/-- what a key of a game's rows may be -/
def KeyOk : Key → Prop
  | .inl i => -10 ≤ i ∧ i < 110
  | .inr z => PyData.strOk z = true ∧ z.length ≤ 1000
theorem KeyOk.rp {k : Key} (h : KeyOk k) : Rp 0 1000 (kD k) := by
  cases k with
  | inl i => exact Rp.int h.1 h.2 (by decide)
  | inr z => exact Rp.str h.1 h.2
theorem keys_rp {ks : List Key} (h : ∀ k ∈ ks, KeyOk k) (hl : ks.length ≤ 3) : Rp 1 3003 (tupK ks) := Rp.tup (k := 0) (W := 1000) (fun d hd => by
  obtain ⟨k, hk, rfl⟩ := List.mem_map.mp hd
  exact (h k hk).rp) (by rw [List.length_map]; omega)
theorem rows_rp {kss : List (List Key)} (h : ∀ ks ∈ kss, (∀ k ∈ ks, KeyOk k) ∧ ks.length ≤ 3) (hl : kss.length ≤ 4) : Rp 2 12016 (.tuple (kss.map tupK)) := Rp.tup (k := 1) (W := 3003) (fun d hd => by
  obtain ⟨ks, hk, rfl⟩ := List.mem_map.mp hd
  exact keys_rp (h ks hk).1 (h ks hk).2) (by rw [List.length_map]; omega)
theorem RuleK.keys {beads : Str} {long : Nat} {ks : List Key} (hb : Bd beads) (h : RuleK beads long ks) : (∀ k ∈ ks, KeyOk k) ∧ ks.length ≤ 3 := by
  obtain ⟨a, b, m, rfl, h1, h2, h3, h4, h5, _⟩ := h
  refine ⟨fun k hk => ?_, Nat.le_of_ble_eq_true rfl⟩
  have hk' : k = .inr a ∨ k = .inr b := by simpa using hk
  rcases hk' with rfl | rfl
  · exact ⟨h4.ok hb, by rw [h4.1]; omega⟩
  · exact ⟨h5.ok hb, by rw [h5.1]; omega⟩
theorem EndK.keys {beads : Str} {long : Nat} {ks : List Key} (hb : Bd beads) (hl : long ≤ 100) (h : EndK beads long ks) : (∀ k ∈ ks, KeyOk k) ∧ ks.length ≤ 3 := by
  obtain ⟨s, m, p, v, rfl, h1, h2, h3, h4, h5⟩ := h
  refine ⟨fun k hk => ?_, Nat.le_of_ble_eq_true rfl⟩
  have hk' : k = .inl (s : Int) ∨ k = .inr p ∨ k = .inl v := by simpa using hk
  rcases hk' with rfl | rfl | rfl
  · exact ⟨by omega, by omega⟩
  · exact ⟨h4.ok hb, by rw [h4.1]; omega⟩
  · have : ∀ v ∈ worths, -10 ≤ v ∧ v < 110 := by decide
    exact this v h5
theorem GmOk.rp {longest : Nat} {name : Str} {g : Gm} (h : GmOk longest g) (hl : longest ≤ 100) (hn : PyData.strOk name = true) (hnl : name.length ≤ 1000) : Rp 4 168245 (.tuple (gameL name g)) := by
  have hlo := h.long
  have hlo2 := h.long2
  have b2 := h.beads.len
  refine Rp.tup (k := 3) (W := 24034) (fun d hd => ?_) (by show 7 * _ ≤ _; decide)
  have hd' : d = .str name ∨ d = .str g.shape ∨ d = .str g.beads ∨ d = .int (g.long : Int) ∨ d = .tuple [.tuple (g.r1.map tupK), .tuple (g.r2.map tupK)] ∨ d = .tuple (g.ends.map tupK) ∨ d = .tuple [.int g.s1, .int g.s2] := by simpa [gameL] using hd
  rcases hd' with rfl | rfl | rfl | rfl | rfl | rfl | rfl
  · exact Rp.str hn (by omega)
  · rcases h.shape with e | e
    · rw [e]; exact Rp.str (strOk_of (by decide)) (by decide)
    · rw [e]; exact Rp.str (strOk_of (by decide)) (by decide)
  · exact Rp.str (strOk_of h.beads.small) (by omega)
  · exact Rp.int (by omega) (by omega) (by decide)
  · refine Rp.tup (k := 2) (W := 12016) (fun d hd => ?_) (by show 2 * _ ≤ _; decide)
    have hd' : d = .tuple (g.r1.map tupK) ∨ d = .tuple (g.r2.map tupK) := by simpa using hd
    rcases hd' with rfl | rfl
    · exact rows_rp (fun ks hk => (h.r1.each ks hk).keys h.beads) h.r1.few
    · exact rows_rp (fun ks hk => (h.r2.each ks hk).keys h.beads) h.r2.few
  · exact (rows_rp (fun ks hk => (h.ends.each ks hk).keys h.beads (by omega)) h.ends.few).mono (by decide) (by decide)
  · refine (Rp.tup (k := 0) (W := 8) (W' := 18) (fun d hd => ?_) (by show 2 * _ ≤ _; decide)).mono (by decide) (by decide)
    have hd' : d = .int g.s1 ∨ d = .int g.s2 := by simpa using hd
    have q1 : ∀ v ∈ ([0, 9, -9, -2] : List Int), -10 ≤ v ∧ v < 110 := by decide
    have q2 : ∀ v ∈ ([0, -9, 9, 2] : List Int), -10 ≤ v ∧ v < 110 := by decide
    rcases hd' with rfl | rfl
    · exact Rp.int (q1 _ h.s1).1 (q1 _ h.s1).2 (by decide)
    · exact Rp.int (q2 _ h.s2).1 (q2 _ h.s2).2 (by decide)
theorem Pl.keys {k : Nat} {ks : List Key} (hl : ks.length ≤ 1000) : Pl (k + 1) (tupK ks) := .tup (by rw [List.length_map]; exact hl) fun d hd => by
  obtain ⟨x, _, rfl⟩ := List.mem_map.mp hd
  cases x with
  | inl i => exact .int i
  | inr z => exact .str z
theorem Pl.rows {k : Nat} {kss : List (List Key)} (hl : kss.length ≤ 1000) (h : ∀ ks ∈ kss, ks.length ≤ 1000) : Pl (k + 2) (.tuple (kss.map tupK)) := .tup (by rw [List.length_map]; exact hl) fun d hd => by
  obtain ⟨ks, hk, rfl⟩ := List.mem_map.mp hd
  exact Pl.keys (h ks hk)
theorem GmOk.pl {longest : Nat} {name : Str} {g : Gm} (h : GmOk longest g) (hl : longest ≤ 100) : Pl 4 (.tuple (gameL name g)) := by
  refine .tup (by show 7 ≤ _; decide) fun d hd => ?_
  have hd' : d = .str name ∨ d = .str g.shape ∨ d = .str g.beads ∨ d = .int (g.long : Int) ∨ d = .tuple [.tuple (g.r1.map tupK), .tuple (g.r2.map tupK)] ∨ d = .tuple (g.ends.map tupK) ∨ d = .tuple [.int g.s1, .int g.s2] := by simpa [gameL] using hd
  have f1 := h.r1.few
  have f2 := h.r2.few
  have f3 := h.ends.few
  have hlo := h.long
  rcases hd' with rfl | rfl | rfl | rfl | rfl | rfl | rfl
  · exact .str _
  · exact .str _
  · exact .str _
  · exact .int _
  · refine .tup (by show 2 ≤ _; decide) fun d hd => ?_
    have hd' : d = .tuple (g.r1.map tupK) ∨ d = .tuple (g.r2.map tupK) := by simpa using hd
    rcases hd' with rfl | rfl
    · exact Pl.rows (by omega) fun ks hk => Nat.le_trans ((h.r1.each ks hk).keys h.beads).2 (by decide)
    · exact Pl.rows (by omega) fun ks hk => Nat.le_trans ((h.r2.each ks hk).keys h.beads).2 (by decide)
  · exact Pl.rows (by omega) fun ks hk => Nat.le_trans ((h.ends.each ks hk).keys h.beads (by omega)).2 (by decide)
  · refine .tup (by show 2 ≤ _; decide) fun d hd => ?_
    have hd' : d = .int g.s1 ∨ d = .int g.s2 := by simpa using hd
    rcases hd' with rfl | rfl <;> exact .int _
theorem rep_tx {beads : Str} {c m : Nat} (h : c ∈ beads.cps.toList) : Tx beads m (repS ⟨#[c]⟩ m) := by
  refine ⟨by rw [repS_len]; show m * 1 = m; omega, fun d hd => ?_⟩
  unfold repS at hd
  have hd' : d ∈ (List.replicate m [c]).flatten := by simpa using hd
  obtain ⟨l, hl, hdl⟩ := List.mem_flatten.mp hd'
  rw [(List.mem_replicate.mp hl).2] at hdl
  rw [List.mem_singleton.mp hdl]
  exact h
end Wq

namespace Wq
open PySem L2
local macro_rules | `(tactic| walk_at "a") => `(tactic| first
  | refine wd_int ?_ | refine wd_str ?_ | refine wd_bl ?_ | refine wd_non ?_ | refine wa_nil ?_ | refine wa_cons ?_
  | refine nm 0 ?_ | refine nm 1 ?_ | refine nm 2 ?_ | refine nm 3 ?_ | refine nm 4 ?_ | refine nm 5 ?_ | refine nm 6 ?_ | refine nm 7 ?_ | refine nm 8 ?_ | refine nm 9 ?_ | refine nm 10 ?_)
abbrev sRight : Stmt := topS 18
abbrev nRight : List Str := ["_law_box_here", "_law_game", "_law_turn", "_law_rows", "_law_row", "_law_text_here", "_law_due", "_law_before", "_law_found"]
theorem scRight : FnScope nRight ["_law_box_here"] (defScope sRight) := ⟨rfl, rfl, rfl, by decide +kernel, rfl, by decide +kernel, by decide +kernel⟩
def gameS : Str := Str.ofString "game"
abbrev gmD (g : Gm) : D := .tuple (gameL gameS g)
theorem all_rp {g : Gm} {row text : Str} (hg : GmOk 7 g) (hr : Tx g.beads g.long row) (ht : Tl g.beads g.long text) : Rp 5 504738 (.list [gmD g, .str row, .str text]) := by
  have hlo := hg.long
  have t1 := hr.1
  have t2 := ht.1
  refine Rp.lst (k := 4) (W := 168245) (fun d hd => ?_) (by show 3 * _ ≤ _; decide)
  have hd' : d = gmD g ∨ d = .str row ∨ d = .str text := by simpa using hd
  rcases hd' with rfl | rfl | rfl
  · exact hg.rp (by decide) (strOk_of (by decide)) (by decide)
  · exact Rp.str (hr.ok hg.beads) (by omega)
  · exact Rp.str (strOk_of fun c hc => hg.beads.small c (ht.2 c hc)) (by omega)
section
variable {P : Program} {w : World} {K : PySem.W.Frag} {mg : Str → Option Value} {base : Heap}
def cRight : D → List D → (Sl → D → Prop) → Prop := fun b ds post => ∃ (n : Nat), ds = [] ∧ Bx n b ∧ n < 700000000 ∧ ∀ b', Bx (n + 4000) b' → post (.dat (.bool true)) b'
theorem ok_right {f : Addr} {fd : FuncData} (F : Fun K "_law_right" "_law_right" sRight f fd) (hrange : mg "range" = none) (hrepr : mg "repr" = none)
    (hGame : CallG P w K mg base "_law_any_game" 5 ["_law_box_here", "_law_name", "_law_longest"] (spB K cGame)) (hText : CallG P w K mg base "_law_text" 3 ["_law_box_here", "_law_beads", "_law_size"] (spB K cText))
    (hTexts : CallG P w K mg base "_law_some_texts" 4 ["_law_box_here", "_law_game", "_law_row"] (spB K cTexts)) (hSpots : CallG P w K mg base "_law_spots" 2 ["_law_game", "_law_row", "_law_text_here"] (spP K cSpots))
    (hPlaces : CallG P w K mg base "places_of" 2 ["game", "row", "text"] (spP K cPlaces)) (hSame : CallG P w K mg base "_law_same" 2 ["_law_found", "_law_due"] (spP K cSameL)) (hLists : CallG P w K mg base "_law_lists" 5 ["_law_thing"] (spP K (cLists 4))) :
    FnG P w K mg base 6 f fd ["_law_box_here"] (spB K cRight) := by
  refine def_B F scRight ?_ ?_
  · rintro b ds post ⟨n, rfl, _⟩
    rfl
  · rintro b ds post ⟨n, rfl, hb, hn, hpost⟩
    show WpSs (sxOf P w K mg base nRight (defScope sRight) 5) [0] (defBody sRight) [.own b, .no, .no, .no, .no, .no, .no, .no, .no] _
    refine ss_cons (s_set (i := 1) rfl (.inr rfl) rfl (by simp) (wcB 0 hGame ?_))
    walk_at "a"
    walk_at "a"
    walk_at "a"
    walk_at "a"
    walk_at "a"
    refine ⟨_, rfl, n, 7, gameS, rfl, by decide, by decide, hb, by omega, fun g hg b1 hb1 => ?_⟩
    refine ⟨Nat.le_of_ble_eq_true rfl, ?_⟩
    obtain ⟨hbl2, hbl4⟩ := hg.beads.len
    have hlo := hg.long
    have hlo2 := hg.long2
    refine ss_cons (s_setLc (i := 3) [("_law_turn", 2)] (blkOk_by (N := nRight) (sc := defScope sRight) (by decide +kernel)) rfl rfl (by simp) rfl rfl rfl ?_)
    refine wi_range1 rfl hrange ?_
    walk_at "a"
    refine ⟨_, rfl, by decide, by decide, ?_⟩
    have hw2 : ∀ (b' : D) (q : Sl), Nw q → ∀ i ∈ [2], notOwn [Sl.own b', .dat (gmD g), q, .no, .no, .no, .no, .no, .no] i := fun b' q hq i hi => by
      have : i = 2 := by simpa using hi
      subst this
      exact no_i rfl hq
    refine ⟨hw2 _ _ Nw.no, fun t acc Et => ∃ (rows : List Str) (b' : D), acc = rows.map PyData.str ∧ rows.length = t ∧ (∀ z ∈ rows, Tx g.beads g.long z) ∧ Bx (n + 600 + t * g.long) b' ∧ Et = [.own b', .dat (gmD g), .no, .no, .no, .no, .no, .no, .no], ⟨[], b1, rfl, rfl, (fun _ h => nomatch h), hb1.mono (by omega), rfl⟩, ?_, ?_⟩
    · rintro t acc Et d hd ⟨rows, b', rfl, hrl, hrows, hb', rfl⟩
      obtain ⟨ht', rfl⟩ := intsD_get hd
      have ht3 : t < 3 := by
        have : (3 : Int).toNat = 3 := rfl
        omega
      have hmul : (t + 1) * g.long = t * g.long + g.long := Nat.succ_mul _ _
      have hsm : t * g.long ≤ 3 * 7 := Nat.mul_le_mul (by omega) (by omega)
      refine g_name (i := 2) rfl (.inl rfl) rfl (by simp) (no_i rfl Nw.no) (wts_nil (and_tf (fun _ => ?_) fun h => by cases h))
      refine wd_of (wcBb 0 hText (wa_cons (wd_ix ?_)))
      walk_at "a"
      walk_at "a"
      refine ⟨_, _, rfl, .tup (atI_nat (j := 2) rfl), wa_cons (wd_ix ?_)⟩
      walk_at "a"
      walk_at "a"
      refine ⟨_, _, rfl, .tup (atI_nat (j := 3) rfl), ?_⟩
      walk_at "a"
      refine ⟨_, rfl, n + 600 + t * g.long, g.long, g.beads, rfl, by omega, by omega, by omega, hb', by omega, fun z hz b2 hb2 => ?_⟩
      refine ⟨_, rfl, ?_, hw2 _ _ Nw.dat, rows ++ [z], b2, ?_, ?_, ?_, hb2.mono (by omega), rfl⟩
      · rw [List.length_map]; omega
      · simp
      · simp [hrl]
      · intro y hy
        rcases List.mem_append.mp hy with h | h
        · exact hrows y h
        · rw [List.mem_singleton.mp h]; exact hz
    rintro acc Et ⟨rows, b', rfl, hrl, hrows, hb', rfl⟩
    have el : (intsD 0 (3 : Int).toNat).length = 3 := by rw [intsD_len]; rfl
    rw [el] at hb' hrl
    obtain ⟨c0, hc0⟩ := hg.beads.first
    refine ⟨Nat.le_of_ble_eq_true rfl, ?_⟩
    refine ss_cons (s_for [4] (wi_list (Wp.d (wp_catOwn (i := 3) rfl (.inl rfl) rfl (wp_lst (wa_cons (wd_mulS (wd_ix (wd_ix ?_)))))))))
    walk_at "a"
    walk_at "a"
    refine ⟨_, _, rfl, .tup (atI_nat (j := 2) rfl), ?_⟩
    walk_at "a"
    refine ⟨_, _, rfl, .str (by omega) hc0, wd_ix ?_⟩
    walk_at "a"
    walk_at "a"
    refine ⟨_, _, rfl, .tup (atI_nat (j := 3) rfl), _, g.long, rfl, rfl, by omega, Nat.le_of_ble_eq_true rfl, ?_⟩
    walk_at "a"
    refine ⟨Nat.le_of_ble_eq_true rfl, _, rfl, rfl, ?_, _, rfl, ?_⟩
    · rw [List.length_map, hrl]
      exact Nat.le_of_ble_eq_true rfl
    have hall : ∀ z ∈ rows ++ [repS ⟨#[c0]⟩ g.long], Tx g.beads g.long z := fun z hz => by
      rcases List.mem_append.mp hz with h | h
      · exact hrows z h
      · rw [List.mem_singleton.mp h]; exact rep_tx (atI_mem hc0)
    have el4 : (rows.map PyData.str ++ [PyData.str (repS ⟨#[c0]⟩ g.long)]) = (rows ++ [repS ⟨#[c0]⟩ g.long]).map PyData.str := by rw [List.map_append]; rfl
    have hl4 : (rows ++ [repS ⟨#[c0]⟩ g.long]).length = 4 := by rw [List.length_append, hrl]; rfl
    generalize rows.map PyData.str = rowsD at el4
    generalize hRR : rows ++ [repS ⟨#[c0]⟩ g.long] = RR at hall el4 hl4
    have hN0 : n + 600 + 3 * g.long ≤ n + 700 := by omega
    refine ⟨fun t Et => ∃ (b' : D) (s4 s5 s6 s7 s8 : Sl), Et = [.own b', .dat (gmD g), .no, .own (.list rowsD), s4, s5, s6, s7, s8] ∧ Nw s4 ∧ Nw s5 ∧ Bx (n + 700 + t * 612) b', ⟨b', .no, .no, .no, .no, .no, rfl, Nw.no, Nw.no, hb'.mono (by omega)⟩, ?_, ?_⟩
    · rintro t Et d hd ⟨b2, s4, s5, s6, s7, s8, rfl, h4, h5, hb2⟩
      rw [el4, List.getElem?_map] at hd
      cases hz : RR[t]? with
      | none => rw [hz] at hd; cases hd
      | some row =>
        rw [hz] at hd
        obtain rfl : PyData.str row = d := Option.some.inj hd
        have ht4 : t < 4 := by
          have := (List.getElem?_eq_some_iff.mp hz).1
          omega
        have hrow : Tx g.beads g.long row := hall row (List.mem_of_getElem? hz)
        have hrowl := hrow.1
        refine g_name (i := 4) rfl (.inl rfl) rfl (by simp) (no_i rfl h4) ?_
        refine ss_one (s_for [5] (wi_list (Wp.d (wcB 0 hTexts ?_))))
        walk_at "a"
        walk_at "a"
        walk_at "a"
        walk_at "a"
        walk_at "a"
        refine ⟨_, rfl, n + 700 + t * 612, 7, gameS, row, g, rfl, hg, by decide, hrow, hb2, by omega, fun ts hts hTs b3 hb3 => ?_⟩
        refine ⟨_, rfl, ?_⟩
        refine ⟨fun t' Et => ∃ (s5 s6 s7 s8 : Sl), Et = [.own b3, .dat (gmD g), .no, .own (.list rowsD), .dat (.str row), s5, s6, s7, s8] ∧ Nw s5, ⟨s5, s6, s7, s8, rfl, h5⟩, ?_, ?_⟩
        · rintro t' Et d hd ⟨s5, s6, s7, s8, rfl, h5⟩
          rw [List.getElem?_map] at hd
          cases hz' : ts[t']? with
          | none => rw [hz'] at hd; cases hd
          | some text =>
            rw [hz'] at hd
            obtain rfl : PyData.str text = d := Option.some.inj hd
            have htx : Tl g.beads g.long text := hTs text (List.mem_of_getElem? hz')
            have htl := htx.1
            have hRp := all_rp hg hrow htx
            have hIt : ItemsD (gmD g) (gameL gameS g) := .tup
            have hps : placesM (decide (g.shape = lineS)) row text = spotsM (decide (g.shape = ringS)) g.long row text := by
              rw [places_spots hg.shape (by omega), hrowl]
            refine g_name (i := 5) rfl (.inl rfl) rfl (by simp) (no_i rfl h5) ?_
            refine ss_cons (s_par (i := 6) (j := 7) rfl rfl rfl rfl (by decide) (by simp) (by simp) (WpD.wp (Wp.d (wcP hSpots ?_))) (fun env he => by cases env; cases he; rfl))
            walk_at "a"
            walk_at "a"
            walk_at "a"
            walk_at "a"
            walk_at "a"
            walk_at "a"
            walk_at "a"
            refine ⟨gmD g, gameL gameS g, g.shape, row, text, g.long, rfl, hIt, rfl, rfl, by omega, by omega, by omega, _, rfl, WpD.wp (wd_repr rfl hrepr (WpD.k (Wp.d (wp_lst ?_))))⟩
            walk_at "a"
            walk_at "a"
            walk_at "a"
            walk_at "a"
            walk_at "a"
            walk_at "a"
            walk_at "a"
            refine ⟨Nat.le_of_ble_eq_true rfl, rfl, hRp.sho, hRp.nod, Nat.le_trans hRp.dep (by decide), hRp.fits (by decide), Nat.le_of_ble_eq_true rfl, Nat.le_of_ble_eq_true rfl, ?_⟩
            refine ss_cons (s_set (i := 8) rfl (.inl rfl) rfl (by simp) (wcP hPlaces ?_))
            walk_at "a"
            walk_at "a"
            walk_at "a"
            walk_at "a"
            walk_at "a"
            walk_at "a"
            walk_at "a"
            refine ⟨gmD g, gameL gameS g, g.shape, row, text, rfl, hIt, rfl, by omega, by omega, Nat.le_of_ble_eq_true rfl, ?_⟩
            rw [hps]
            have hml : (spotsM (decide (g.shape = ringS)) g.long row text).length ≤ 1000 := by
              have := List.length_filter_le (fun p => decide (atM (decide (g.shape = ringS)) row p text.length = text)) (List.range g.long)
              rw [List.length_range] at this
              exact Nat.le_trans this (by omega)
            generalize hM : spotsM (decide (g.shape = ringS)) g.long row text = M at hml ⊢
            refine ss_cons (s_if (WpW.t (ww_or (wt_not (wt_val (wcPo 8 hSame ?_))))))
            walk_at "a"
            walk_at "a"
            walk_at "a"
            refine ⟨_, rfl, M, M, rfl, by omega, _, rfl, rfl, _, rfl, and_tf (fun h => ?_) fun _ => ww_or1 (wt_ne (wd_repr rfl hrepr (WpD.k (Wp.d (wp_lst ?_)))))⟩
            · rw [decide_eq_true rfl] at h
              cases h
            walk_at "a"
            walk_at "a"
            walk_at "a"
            walk_at "a"
            walk_at "a"
            walk_at "a"
            walk_at "a"
            refine ⟨Nat.le_of_ble_eq_true rfl, rfl, hRp.sho, hRp.nod, Nat.le_trans hRp.dep (by decide), hRp.fits (by decide), ?_⟩
            walk_at "a"
            refine ⟨rfl, and_tf (fun h => ?_) fun _ => ss_nil ?_⟩
            · simp [sameD] at h
            refine ss_cons (s_append (i := 8) rfl (.inl rfl) ⟨_, rfl⟩ ?_)
            walk_at "a"
            refine ⟨_, rfl, by rw [List.length_map]; omega, ?_⟩
            refine ss_cons (s_reverse (i := 8) rfl (.inl rfl) rfl ?_)
            refine ss_one (s_if (wt_not (wt_val (wd_of (wcP hSame (wa_cons (Wp.d (wcP hPlaces (wa_cons (Wp.d (wcP hLists ?_)))))))))))
            walk_at "a"
            walk_at "a"
            walk_at "a"
            refine ⟨gmD g, rfl, hg.pl (by decide), ?_⟩
            walk_at "a"
            walk_at "a"
            walk_at "a"
            walk_at "a"
            walk_at "a"
            refine ⟨.list ((gameL gameS g).map listsM), (gameL gameS g).map listsM, g.shape, row, text, rfl, .lst, rfl, by omega, by omega, ?_⟩
            rw [hps, hM]
            walk_at "a"
            walk_at "a"
            walk_at "a"
            refine ⟨M, M, rfl, by omega, _, rfl, _, rfl, and_tf (fun h => ?_) fun _ => ss_nil ⟨.dat (.str text), _, _, _, rfl, Nw.dat⟩⟩
            rw [decide_eq_true rfl] at h
            cases h
        · rintro Et ⟨s5, s6, s7, s8, rfl, h5⟩
          exact ⟨b3, .dat (.str row), s5, s6, s7, s8, rfl, Nw.dat, h5, hb3.mono (by omega)⟩
    · rintro Et ⟨b2, s4, s5, s6, s7, s8, rfl, h4, h5, hb2⟩
      rw [el4, List.length_map, hl4] at hb2
      refine ss_one (s_ret (WpD.wp ?_))
      walk_at "a"
      exact ⟨_, rfl, hpost _ (hb2.mono (by omega))⟩
end
end Wq

namespace Wq
open PySem L2
local macro_rules | `(tactic| walk_at "a") => `(tactic| first
  | refine wd_int ?_ | refine wd_str ?_ | refine wd_bl ?_ | refine wd_non ?_ | refine wa_nil ?_ | refine wa_cons ?_
  | refine nm 0 ?_ | refine nm 1 ?_ | refine nm 2 ?_ | refine nm 3 ?_ | refine nm 4 ?_ | refine nm 5 ?_ | refine nm 6 ?_ | refine nm 7 ?_ | refine nm 8 ?_ | refine nm 9 ?_ | refine nm 10 ?_)
abbrev sLaw : Stmt := topS 19
abbrev nLaw : List Str := ["_law_script", "_law_cells", "_law_k", "_law_box_here", "_law_turn"]
theorem scLaw : FnScope nLaw ["_law_script"] (defScope sLaw) := ⟨rfl, rfl, rfl, by decide +kernel, rfl, by decide +kernel, by decide +kernel⟩
section
variable {P : Program} {w : World} {K : PySem.W.Frag} {mg : Str → Option Value} {base : Heap}
def cLaw : List D → (Sl → Prop) → Prop := fun ds post => ∃ ns : List Int, ds = [intL ns] ∧ post (.dat (.bool true))
theorem ok_law {f : Addr} {fd : FuncData} (F : Fun K "law" "law" sLaw f fd) (hrange : mg "range" = none) (hlen : mg "len" = none) (hall : mg "all" = none)
    (hFold : CallG P w K mg base "_law_folded" 1 ["_law_script", "_law_room"] (spP K cFolded)) (hBox : CallG P w K mg base "_law_box" 1 ["_law_script", "_law_k"] (spP K cBox)) (hRight : CallG P w K mg base "_law_right" 6 ["_law_box_here"] (spB K cRight)) :
    FnG P w K mg base 7 f fd ["_law_script"] (spP K cLaw) := by
  refine def_P F scLaw ?_ ?_
  · rintro ds post ⟨ns, rfl, _⟩
    rfl
  · rintro ds post ⟨ns, rfl, hpost⟩
    show WpSs (sxOf P w K mg base nLaw (defScope sLaw) 6) [] (defBody sLaw) [.dat (intL ns), .no, .no, .no, .no] _
    refine ss_cons (s_set (i := 1) rfl (.inl rfl) rfl (by simp) (wcP hFold ?_))
    walk_at "a"
    walk_at "a"
    walk_at "a"
    walk_at "a"
    walk_at "a"
    refine ⟨ns, rfl, fun ys hy1 hy4 => ⟨Nat.le_of_ble_eq_true rfl, ?_⟩⟩
    refine ss_freeze (i := 1) rfl (by simp) ?_
    refine ss_cons (s_for [2] (wi_range1 rfl hrange (wd_len rfl hlen (WpD.k ?_))))
    walk_at "a"
    have hyl : (ys.map PyData.int).length = ys.length := List.length_map ..
    refine ⟨_, .lst, _, rfl, by omega, by omega, ?_⟩
    refine ⟨fun t Et => ∃ s2 s3 : Sl, Et = [.dat (intL ns), .dat (intL ys), s2, s3, .no] ∧ Nw s2, ⟨.no, .no, rfl, Nw.no⟩, ?_, ?_⟩
    · rintro t Et d hd ⟨s2, s3, rfl, h2⟩
      obtain ⟨ht', rfl⟩ := intsD_get hd
      refine g_name (i := 2) rfl (.inl rfl) rfl (by simp) (no_i rfl h2) ?_
      refine ss_cons (s_set (i := 3) rfl (.inr rfl) rfl (by simp) (wcP hBox ?_))
      walk_at "a"
      walk_at "a"
      walk_at "a"
      walk_at "a"
      walk_at "a"
      refine ⟨ys, t, by rw [Int.zero_add]; rfl, by omega, fun b hb => ⟨Nat.le_of_ble_eq_true rfl, ?_⟩⟩
      refine ss_one (s_if (wt_not (wt_val (wd_all rfl hall (WpD.k (Wp.d (wp_lc [("_law_turn", 4)] (blkOk_by (N := nLaw) (sc := defScope sLaw) (by decide +kernel)) ?_)))))))
      refine wi_range1 rfl hrange ?_
      walk_at "a"
      refine ⟨_, rfl, by decide, by decide, ?_⟩
      have hw : ∀ (b' : D) (q : Sl), Nw q → ∀ i ∈ [4], notOwn [Sl.dat (intL ns), .dat (intL ys), .dat (.int (0 + (t : Int))), .own b', q] i := fun b' q hq i hi => by
        have : i = 4 := by simpa using hi
        subst this
        exact no_i rfl hq
      refine ⟨hw _ _ Nw.no, fun t' acc Et => ∃ b' : D, acc = (List.replicate t' true).map PyData.bool ∧ Bx (t' * 4000) b' ∧ Et = [.dat (intL ns), .dat (intL ys), .dat (.int (0 + (t : Int))), .own b', .no], ⟨b, rfl, hb.mono (by omega), rfl⟩, ?_, ?_⟩
      · rintro t' acc Et d hd ⟨b', rfl, hb', rfl⟩
        obtain ⟨ht'', rfl⟩ := intsD_get hd
        have h4 : t' < 4 := by
          have : (4 : Int).toNat = 4 := rfl
          omega
        refine g_name (i := 4) rfl (.inl rfl) rfl (by simp) (no_i rfl Nw.no) (wts_nil (and_tf (fun _ => ?_) fun h => by cases h))
        refine wd_of (wcBb 3 hRight ?_)
        walk_at "a"
        refine ⟨_, rfl, t' * 4000, rfl, hb', by omega, fun b2 hb2 => ?_⟩
        refine ⟨_, rfl, ?_, hw _ _ Nw.dat, b2, ?_, hb2.mono (by omega), rfl⟩
        · rw [List.length_map, List.length_replicate]; omega
        · rw [List.replicate_succ', List.map_append]; rfl
      · rintro acc Et ⟨b', rfl, hb', rfl⟩
        refine ⟨_, rfl, _, rfl, and_tf (fun h => ?_) fun _ => ss_nil ⟨_, _, rfl, Nw.dat⟩⟩
        rw [show ∀ m : Nat, (List.replicate m true).all id = true from fun m => List.all_eq_true.mpr fun x hx => by rw [(List.mem_replicate.mp hx).2]; rfl] at h
        cases h
    · rintro Et ⟨s2, s3, rfl, h2⟩
      refine ss_one (s_ret (WpD.wp ?_))
      walk_at "a"
      exact hpost
end
/-! ### the whole -/
theorem all_mk {l : PySem.W.OpenLaw} {w : World} {K : PySem.W.Frag} {h : Heap} {mg : Str → Option Value} {fa f0 f1 f2 f3 f4 f5 f6 f7 f8 f9 f10 f11 f12 f13 f14 f15 f16 f17 : Addr} (X : K.In h) (G : h.Ns mainGlobals mg) (hfa : mg "law" = some (.ref fa))
    {od0 an0 od1 an1 od2 an2 od3 an3 od4 an4 od5 an5 od6 an6 od7 an7 od8 an8 od9 an9 od10 an10 od11 an11 od12 an12 od13 an13 od14 an14 od15 an15 od16 an16 od17 an17 : Option Addr} {sl0 sl1 sl2 sl3 sl4 sl5 sl6 sl7 sl8 sl9 sl10 sl11 sl12 sl13 sl14 sl15 sl16 sl17 : Array (Option Value)} {oc0 kv0 dc0 pm0 cd0 ct0 oc1 kv1 dc1 pm1 cd1 ct1 oc2 kv2 dc2 pm2 cd2 ct2 oc3 kv3 dc3 pm3 cd3 ct3 oc4 kv4 dc4 pm4 cd4 ct4 oc5 kv5 dc5 pm5 cd5 ct5 oc6 kv6 dc6 pm6 cd6 ct6 oc7 kv7 dc7 pm7 cd7 ct7 oc8 kv8 dc8 pm8 cd8 ct8 oc9 kv9 dc9 pm9 cd9 ct9 oc10 kv10 dc10 pm10 cd10 ct10 oc11 kv11 dc11 pm11 cd11 ct11 oc12 kv12 dc12 pm12 cd12 ct12 oc13 kv13 dc13 pm13 cd13 ct13 oc14 kv14 dc14 pm14 cd14 ct14 oc15 kv15 dc15 pm15 cd15 ct15 oc16 kv16 dc16 pm16 cd16 ct16 oc17 kv17 dc17 pm17 cd17 ct17 : Value}
    (a0 : PySem.W.nsIn K mainGlobals "places_of" = some (some (.ref f0))) (l0 : K.lookup f0 = some ⟨oc0, od0, .func (PySem.W.fnOf "places_of" "places_of" (defArgs sPlaces) (defBody sPlaces) (defScope sPlaces) .none kv0 dc0 pm0 an0 cd0 ct0), sl0⟩) (c0 : PySem.W.codeIn K cd0 "places_of" = true) (k0 : PySem.W.keepIn K (.ref f0) = true)
    (a1 : PySem.W.nsIn K mainGlobals "stands" = some (some (.ref f1))) (l1 : K.lookup f1 = some ⟨oc1, od1, .func (PySem.W.fnOf "stands" "stands" (defArgs sStands) (defBody sStands) (defScope sStands) .none kv1 dc1 pm1 an1 cd1 ct1), sl1⟩) (c1 : PySem.W.codeIn K cd1 "stands" = true) (k1 : PySem.W.keepIn K (.ref f1) = true)
    (a2 : PySem.W.nsIn K mainGlobals "_law_box" = some (some (.ref f2))) (l2 : K.lookup f2 = some ⟨oc2, od2, .func (PySem.W.fnOf "_law_box" "_law_box" (defArgs sBox) (defBody sBox) (defScope sBox) .none kv2 dc2 pm2 an2 cd2 ct2), sl2⟩) (c2 : PySem.W.codeIn K cd2 "_law_box" = true) (k2 : PySem.W.keepIn K (.ref f2) = true)
    (a3 : PySem.W.nsIn K mainGlobals "_law_take" = some (some (.ref f3))) (l3 : K.lookup f3 = some ⟨oc3, od3, .func (PySem.W.fnOf "_law_take" "_law_take" (defArgs sTake) (defBody sTake) (defScope sTake) .none kv3 dc3 pm3 an3 cd3 ct3), sl3⟩) (c3 : PySem.W.codeIn K cd3 "_law_take" = true) (k3 : PySem.W.keepIn K (.ref f3) = true)
    (a4 : PySem.W.nsIn K mainGlobals "_law_folded" = some (some (.ref f4))) (l4 : K.lookup f4 = some ⟨oc4, od4, .func (PySem.W.fnOf "_law_folded" "_law_folded" (defArgs sFolded) (defBody sFolded) (defScope sFolded) .none kv4 dc4 pm4 an4 cd4 ct4), sl4⟩) (c4 : PySem.W.codeIn K cd4 "_law_folded" = true) (k4 : PySem.W.keepIn K (.ref f4) = true)
    (a5 : PySem.W.nsIn K mainGlobals "_law_same" = some (some (.ref f5))) (l5 : K.lookup f5 = some ⟨oc5, od5, .func (PySem.W.fnOf "_law_same" "_law_same" (defArgs sSame) (defBody sSame) (defScope sSame) .none kv5 dc5 pm5 an5 cd5 ct5), sl5⟩) (c5 : PySem.W.codeIn K cd5 "_law_same" = true) (k5 : PySem.W.keepIn K (.ref f5) = true)
    (a6 : PySem.W.nsIn K mainGlobals "_law_of" = some (some (.ref f6))) (l6 : K.lookup f6 = some ⟨oc6, od6, .func (PySem.W.fnOf "_law_of" "_law_of" (defArgs sOf) (defBody sOf) (defScope sOf) .none kv6 dc6 pm6 an6 cd6 ct6), sl6⟩) (c6 : PySem.W.codeIn K cd6 "_law_of" = true) (k6 : PySem.W.keepIn K (.ref f6) = true)
    (a7 : PySem.W.nsIn K mainGlobals "_law_text" = some (some (.ref f7))) (l7 : K.lookup f7 = some ⟨oc7, od7, .func (PySem.W.fnOf "_law_text" "_law_text" (defArgs sText) (defBody sText) (defScope sText) .none kv7 dc7 pm7 an7 cd7 ct7), sl7⟩) (c7 : PySem.W.codeIn K cd7 "_law_text" = true) (k7 : PySem.W.keepIn K (.ref f7) = true)
    (a8 : PySem.W.nsIn K mainGlobals "_law_rules" = some (some (.ref f8))) (l8 : K.lookup f8 = some ⟨oc8, od8, .func (PySem.W.fnOf "_law_rules" "_law_rules" (defArgs sRules) (defBody sRules) (defScope sRules) .none kv8 dc8 pm8 an8 cd8 ct8), sl8⟩) (c8 : PySem.W.codeIn K cd8 "_law_rules" = true) (k8 : PySem.W.keepIn K (.ref f8) = true)
    (a9 : PySem.W.nsIn K mainGlobals "_law_turned_text" = some (some (.ref f9))) (l9 : K.lookup f9 = some ⟨oc9, od9, .func (PySem.W.fnOf "_law_turned_text" "_law_turned_text" (defArgs sTurn) (defBody sTurn) (defScope sTurn) .none kv9 dc9 pm9 an9 cd9 ct9), sl9⟩) (c9 : PySem.W.codeIn K cd9 "_law_turned_text" = true) (k9 : PySem.W.keepIn K (.ref f9) = true)
    (a10 : PySem.W.nsIn K mainGlobals "_law_ends" = some (some (.ref f10))) (l10 : K.lookup f10 = some ⟨oc10, od10, .func (PySem.W.fnOf "_law_ends" "_law_ends" (defArgs sEnds) (defBody sEnds) (defScope sEnds) .none kv10 dc10 pm10 an10 cd10 ct10), sl10⟩) (c10 : PySem.W.codeIn K cd10 "_law_ends" = true) (k10 : PySem.W.keepIn K (.ref f10) = true)
    (a11 : PySem.W.nsIn K mainGlobals "_law_any_game" = some (some (.ref f11))) (l11 : K.lookup f11 = some ⟨oc11, od11, .func (PySem.W.fnOf "_law_any_game" "_law_any_game" (defArgs sGame) (defBody sGame) (defScope sGame) .none kv11 dc11 pm11 an11 cd11 ct11), sl11⟩) (c11 : PySem.W.codeIn K cd11 "_law_any_game" = true) (k11 : PySem.W.keepIn K (.ref f11) = true)
    (a12 : PySem.W.nsIn K mainGlobals "_law_beads_at" = some (some (.ref f12))) (l12 : K.lookup f12 = some ⟨oc12, od12, .func (PySem.W.fnOf "_law_beads_at" "_law_beads_at" (defArgs sAt) (defBody sAt) (defScope sAt) .none kv12 dc12 pm12 an12 cd12 ct12), sl12⟩) (c12 : PySem.W.codeIn K cd12 "_law_beads_at" = true) (k12 : PySem.W.keepIn K (.ref f12) = true)
    (a13 : PySem.W.nsIn K mainGlobals "_law_spots" = some (some (.ref f13))) (l13 : K.lookup f13 = some ⟨oc13, od13, .func (PySem.W.fnOf "_law_spots" "_law_spots" (defArgs sSpots) (defBody sSpots) (defScope sSpots) .none kv13 dc13 pm13 an13 cd13 ct13), sl13⟩) (c13 : PySem.W.codeIn K cd13 "_law_spots" = true) (k13 : PySem.W.keepIn K (.ref f13) = true)
    (a14 : PySem.W.nsIn K mainGlobals "_law_lists" = some (some (.ref f14))) (l14 : K.lookup f14 = some ⟨oc14, od14, .func (PySem.W.fnOf "_law_lists" "_law_lists" (defArgs sLists) (defBody sLists) (defScope sLists) .none kv14 dc14 pm14 an14 cd14 ct14), sl14⟩) (c14 : PySem.W.codeIn K cd14 "_law_lists" = true) (k14 : PySem.W.keepIn K (.ref f14) = true)
    (a15 : PySem.W.nsIn K mainGlobals "_law_some_texts" = some (some (.ref f15))) (l15 : K.lookup f15 = some ⟨oc15, od15, .func (PySem.W.fnOf "_law_some_texts" "_law_some_texts" (defArgs sTexts) (defBody sTexts) (defScope sTexts) .none kv15 dc15 pm15 an15 cd15 ct15), sl15⟩) (c15 : PySem.W.codeIn K cd15 "_law_some_texts" = true) (k15 : PySem.W.keepIn K (.ref f15) = true)
    (a16 : PySem.W.nsIn K mainGlobals "_law_right" = some (some (.ref f16))) (l16 : K.lookup f16 = some ⟨oc16, od16, .func (PySem.W.fnOf "_law_right" "_law_right" (defArgs sRight) (defBody sRight) (defScope sRight) .none kv16 dc16 pm16 an16 cd16 ct16), sl16⟩) (c16 : PySem.W.codeIn K cd16 "_law_right" = true) (k16 : PySem.W.keepIn K (.ref f16) = true)
    (a17 : PySem.W.nsIn K mainGlobals "law" = some (some (.ref f17))) (l17 : K.lookup f17 = some ⟨oc17, od17, .func (PySem.W.fnOf "law" "law" (defArgs sLaw) (defBody sLaw) (defScope sLaw) .none kv17 dc17 pm17 an17 cd17 ct17), sl17⟩) (c17 : PySem.W.codeIn K cd17 "law" = true) (k17 : PySem.W.keepIn K (.ref f17) = true)
    (z0 : PySem.W.nsIn K mainGlobals "all" = some none) (z1 : PySem.W.nsIn K mainGlobals "len" = some none) (z2 : PySem.W.nsIn K mainGlobals "range" = some none) (z3 : PySem.W.nsIn K mainGlobals "abs" = some none) (z4 : PySem.W.nsIn K mainGlobals "int" = some none) (z5 : PySem.W.nsIn K mainGlobals "divmod" = some none) (z6 : PySem.W.nsIn K mainGlobals "min" = some none) (z7 : PySem.W.nsIn K mainGlobals "tuple" = some none) (z8 : PySem.W.nsIn K mainGlobals "sorted" = some none) (z9 : PySem.W.nsIn K mainGlobals "isinstance" = some none) (z10 : PySem.W.nsIn K mainGlobals "list" = some none) (z11 : PySem.W.nsIn K mainGlobals "str" = some none) (z12 : PySem.W.nsIn K mainGlobals "bool" = some none) (z13 : PySem.W.nsIn K mainGlobals "zip" = some none) (z14 : PySem.W.nsIn K mainGlobals "enumerate" = some none) (z15 : PySem.W.nsIn K mainGlobals "dict" = some none) (z16 : PySem.W.nsIn K mainGlobals "repr" = some none) :
    ∃ fd : FuncData, (∀ (s : Shared) (v : Value), BindsTo s fd ⟨[v], []⟩ [("_law_script", v)]) ∧ ∀ base : Heap, K.In base → base.Ns mainGlobals mg → FnG l.prog w K mg base 7 fa fd ["_law_script"] (spP K cLaw) := by
  have e := hfa.symm.trans (PySem.W.mg_of X G a17)
  cases e
  have h_all := PySem.W.mg_none_of X G z0
  have h_len := PySem.W.mg_none_of X G z1
  have h_range := PySem.W.mg_none_of X G z2
  have h_abs := PySem.W.mg_none_of X G z3
  have h_int := PySem.W.mg_none_of X G z4
  have h_divmod := PySem.W.mg_none_of X G z5
  have h_min := PySem.W.mg_none_of X G z6
  have h_tuple := PySem.W.mg_none_of X G z7
  have h_sorted := PySem.W.mg_none_of X G z8
  have h_isinstance := PySem.W.mg_none_of X G z9
  have h_list := PySem.W.mg_none_of X G z10
  have h_str := PySem.W.mg_none_of X G z11
  have h_bool := PySem.W.mg_none_of X G z12
  have h_zip := PySem.W.mg_none_of X G z13
  have h_enumerate := PySem.W.mg_none_of X G z14
  have h_dict := PySem.W.mg_none_of X G z15
  have h_repr := PySem.W.mg_none_of X G z16
  have F0 := fun_mk (st := sPlaces) l0 c0 k0
  have b0 := F0.binds (ps := ["game", "row", "text"]) fun _ _ _ _ _ _ us hl => match us, hl with | [_, _, _], _ => rfl
  have m0 := PySem.W.mg_of X G a0
  have F1 := fun_mk (st := sStands) l1 c1 k1
  have b1 := F1.binds (ps := ["shape", "row", "text", "place"]) fun _ _ _ _ _ _ us hl => match us, hl with | [_, _, _, _], _ => rfl
  have m1 := PySem.W.mg_of X G a1
  have F2 := fun_mk (st := sBox) l2 c2 k2
  have b2 := F2.binds (ps := ["_law_script", "_law_k"]) fun _ _ _ _ _ _ us hl => match us, hl with | [_, _], _ => rfl
  have m2 := PySem.W.mg_of X G a2
  have F3 := fun_mk (st := sTake) l3 c3 k3
  have b3 := F3.binds (ps := ["_law_box_here", "_law_room"]) fun _ _ _ _ _ _ us hl => match us, hl with | [_, _], _ => rfl
  have m3 := PySem.W.mg_of X G a3
  have F4 := fun_mk (st := sFolded) l4 c4 k4
  have b4 := F4.binds (ps := ["_law_script", "_law_room"]) fun _ _ _ _ _ _ us hl => match us, hl with | [_, _], _ => rfl
  have m4 := PySem.W.mg_of X G a4
  have F5 := fun_mk (st := sSame) l5 c5 k5
  have b5 := F5.binds (ps := ["_law_found", "_law_due"]) fun _ _ _ _ _ _ us hl => match us, hl with | [_, _], _ => rfl
  have m5 := PySem.W.mg_of X G a5
  have F6 := fun_mk (st := sOf) l6 c6 k6
  have b6 := F6.binds (ps := ["_law_box_here", "_law_some"]) fun _ _ _ _ _ _ us hl => match us, hl with | [_, _], _ => rfl
  have m6 := PySem.W.mg_of X G a6
  have F7 := fun_mk (st := sText) l7 c7 k7
  have b7 := F7.binds (ps := ["_law_box_here", "_law_beads", "_law_size"]) fun _ _ _ _ _ _ us hl => match us, hl with | [_, _, _], _ => rfl
  have m7 := PySem.W.mg_of X G a7
  have F8 := fun_mk (st := sRules) l8 c8 k8
  have b8 := F8.binds (ps := ["_law_box_here", "_law_beads", "_law_long"]) fun _ _ _ _ _ _ us hl => match us, hl with | [_, _, _], _ => rfl
  have m8 := PySem.W.mg_of X G a8
  have F9 := fun_mk (st := sTurn) l9 c9 k9
  have b9 := F9.binds (ps := ["_law_text_here", "_law_beads"]) fun _ _ _ _ _ _ us hl => match us, hl with | [_, _], _ => rfl
  have m9 := PySem.W.mg_of X G a9
  have F10 := fun_mk (st := sEnds) l10 c10 k10
  have b10 := F10.binds (ps := ["_law_box_here", "_law_beads", "_law_long"]) fun _ _ _ _ _ _ us hl => match us, hl with | [_, _, _], _ => rfl
  have m10 := PySem.W.mg_of X G a10
  have F11 := fun_mk (st := sGame) l11 c11 k11
  have b11 := F11.binds (ps := ["_law_box_here", "_law_name", "_law_longest"]) fun _ _ _ _ _ _ us hl => match us, hl with | [_, _, _], _ => rfl
  have m11 := PySem.W.mg_of X G a11
  have F12 := fun_mk (st := sAt) l12 c12 k12
  have b12 := F12.binds (ps := ["_law_game", "_law_row", "_law_place", "_law_size"]) fun _ _ _ _ _ _ us hl => match us, hl with | [_, _, _, _], _ => rfl
  have m12 := PySem.W.mg_of X G a12
  have F13 := fun_mk (st := sSpots) l13 c13 k13
  have b13 := F13.binds (ps := ["_law_game", "_law_row", "_law_text_here"]) fun _ _ _ _ _ _ us hl => match us, hl with | [_, _, _], _ => rfl
  have m13 := PySem.W.mg_of X G a13
  have F14 := fun_mk (st := sLists) l14 c14 k14
  have b14 := F14.binds (ps := ["_law_thing"]) fun _ _ _ _ _ _ us hl => match us, hl with | [_], _ => rfl
  have m14 := PySem.W.mg_of X G a14
  have F15 := fun_mk (st := sTexts) l15 c15 k15
  have b15 := F15.binds (ps := ["_law_box_here", "_law_game", "_law_row"]) fun _ _ _ _ _ _ us hl => match us, hl with | [_, _, _], _ => rfl
  have m15 := PySem.W.mg_of X G a15
  have F16 := fun_mk (st := sRight) l16 c16 k16
  have b16 := F16.binds (ps := ["_law_box_here"]) fun _ _ _ _ _ _ us hl => match us, hl with | [_], _ => rfl
  have m16 := PySem.W.mg_of X G a16
  have F17 := fun_mk (st := sLaw) l17 c17 k17
  refine ⟨PySem.W.fnOf "law" "law" (defArgs sLaw) (defBody sLaw) (defScope sLaw) .none kv17 dc17 pm17 an17 cd17 ct17, fun s v => .of_eq rfl, fun base _ _ => ?_⟩
  have cST : CallG l.prog w K mg base "stands" 1 ["shape", "row", "text", "place"] (spP K cStands) := ⟨f1, _, ok_stands F1 h_all h_len h_range, m1, k1, b1⟩
  have cPL : CallG l.prog w K mg base "places_of" 2 ["game", "row", "text"] (spP K cPlaces) := ⟨f0, _, ok_places F0 h_len h_range cST, m0, k0, b0⟩
  have cBX : CallG l.prog w K mg base "_law_box" 1 ["_law_script", "_law_k"] (spP K cBox) := ⟨f2, _, ok_box F2 h_len h_abs h_int, m2, k2, b2⟩
  have cTK : CallG l.prog w K mg base "_law_take" 1 ["_law_box_here", "_law_room"] (spB K cTake) := ⟨f3, _, ok_take F3 h_divmod, m3, k3, b3⟩
  have cFO : CallG l.prog w K mg base "_law_folded" 1 ["_law_script", "_law_room"] (spP K cFolded) := ⟨f4, _, ok_folded F4 h_list h_enumerate, m4, k4, b4⟩
  have cSI : CallG l.prog w K mg base "_law_same" 1 ["_law_found", "_law_due"] (spP K cSameI) := ⟨f5, _, ok_sameI F5 h_isinstance h_list h_tuple h_str h_int h_bool, m5, k5, b5⟩
  have cSL : CallG l.prog w K mg base "_law_same" 2 ["_law_found", "_law_due"] (spP K cSameL) := ⟨f5, _, ok_sameL F5 h_isinstance h_list h_tuple h_len h_all h_zip cSI, m5, k5, b5⟩
  have cOF : CallG l.prog w K mg base "_law_of" 2 ["_law_box_here", "_law_some"] (spB K cOf) := ⟨f6, _, ok_of F6 h_len cTK, m6, k6, b6⟩
  have cTX : CallG l.prog w K mg base "_law_text" 3 ["_law_box_here", "_law_beads", "_law_size"] (spB K cText) := ⟨f7, _, ok_text F7 h_range cOF, m7, k7, b7⟩
  have cRU : CallG l.prog w K mg base "_law_rules" 4 ["_law_box_here", "_law_beads", "_law_long"] (spB K cRules) := ⟨f8, _, ok_rules F8 h_range h_len h_min h_tuple h_sorted cTK cTX, m8, k8, b8⟩
  have cTU : CallG l.prog w K mg base "_law_turned_text" 2 ["_law_text_here", "_law_beads"] (spP K cTurn) := ⟨f9, _, ok_turn F9 h_dict h_zip, m9, k9, b9⟩
  have cEN : CallG l.prog w K mg base "_law_ends" 4 ["_law_box_here", "_law_beads", "_law_long"] (spB K cEnds) := ⟨f10, _, ok_ends F10 h_range h_tuple h_sorted cTK cOF cTX, m10, k10, b10⟩
  have cGA : CallG l.prog w K mg base "_law_any_game" 5 ["_law_box_here", "_law_name", "_law_longest"] (spB K cGame) := ⟨f11, _, ok_game F11 h_tuple h_sorted cTK cOF cRU cTU cEN, m11, k11, b11⟩
  have cAT : CallG l.prog w K mg base "_law_beads_at" 1 ["_law_game", "_law_row", "_law_place", "_law_size"] (spP K cAt) := ⟨f12, _, ok_at F12, m12, k12, b12⟩
  have cSP : CallG l.prog w K mg base "_law_spots" 2 ["_law_game", "_law_row", "_law_text_here"] (spP K cSpots) := ⟨f13, _, ok_spots F13 h_len h_range cAT, m13, k13, b13⟩
  have cLI : CallG l.prog w K mg base "_law_lists" 5 ["_law_thing"] (spP K (cLists 4)) := ⟨f14, _, ok_lists F14 h_isinstance h_list h_tuple (fun k G => ⟨f14, _, G, m14, k14, b14⟩) 4, m14, k14, b14⟩
  have cTS : CallG l.prog w K mg base "_law_some_texts" 4 ["_law_box_here", "_law_game", "_law_row"] (spB K cTexts) := ⟨f15, _, ok_texts F15 h_range cTK cTX, m15, k15, b15⟩
  have cRI : CallG l.prog w K mg base "_law_right" 6 ["_law_box_here"] (spB K cRight) := ⟨f16, _, ok_right F16 h_range h_repr cGA cTX cTS cSP cPL cSL cLI, m16, k16, b16⟩
  exact ok_law F17 h_range h_len h_all cFO cBX cRI
theorem ints_dp {K : PySem.W.Frag} {H : Hp} : ∀ ns : List Int, DpAll K H (ns.map V.int) (ns.map PyData.int)
  | [] => .nil
  | n :: r => .cons (.int n) (ints_dp r)
theorem rel_data {K : PySem.W.Frag} {H : Hp} {vs : List V} {ds : List D} (h : DpAll K H vs ds) : Rel K ⟨H, H, []⟩ (vs.map some) (ds.map Sl.dat) H H where
  len := by rw [List.length_map, List.length_map, dpAll_len h]
  sub := Same.refl _
  sub0 := Same.refl _
  keep := fun _ _ e _ => e
  new := fun a o e => .inl ⟨o, e⟩
  giv := fun p hp => nomatch hp
  dat := fun j d e => by
    rw [List.getElem?_map] at e
    cases z : ds[j]? with
    | none => rw [z] at e; cases e
    | some d' =>
      rw [z] at e
      cases e
      obtain ⟨v, g1, g2⟩ := dpAll_get h z
      exact ⟨v, by rw [List.getElem?_map, g1]; rfl, g2⟩
  own := fun j d e => by
    rw [List.getElem?_map] at e
    cases z : ds[j]? with
    | none => rw [z] at e; cases e
    | some d' => rw [z] at e; cases e
  inj := fun j l d d' a e => by
    rw [List.getElem?_map] at e
    cases z : ds[j]? with
    | none => rw [z] at e; cases e
    | some d' => rw [z] at e; cases e
theorem walk {l : PySem.W.OpenLaw} {q : Program} {loose : List Str} {XP : (Str → Option Value) → Heap → Prop} {YP : World → Heap → Prop} {d : DefRec} {K : Params → PySem.W.Frag} (hn : l.most = some 63) (hdf : d.params.defaults = [])
    (hY : ∀ (w : World) (h : Heap), YP w h → (K w.params).In h)
    (F : ∀ (w : World) (mg : Str → Option Value) (fa : Addr) (h : Heap), (K w.params).In h → h.Ns mainGlobals mg → mg d.name = some (.ref fa) →
      ∃ fd : FuncData, (∀ (s : Shared) (u : Value), BindsTo s fd ⟨[u], []⟩ [("_law_script", u)]) ∧ ∀ base : Heap, (K w.params).In base → base.Ns mainGlobals mg → FnG l.prog w (K w.params) mg base 7 fa fd ["_law_script"] (spP (K w.params) cLaw)) :
    PySem.W.WalkO q loose XP YP l.row.toRowW d [] (fun f vs => PySem.call f vs) := by
  refine walk_by (n := 63) (k := 7) (x := "_law_script") (sp := fun w => spP (K w.params) cLaw) hn (by decide) hdf ⟨rfl, by decide, by decide⟩ hY F fun w H a ns hl hO hS => ?_
  refine ⟨H, [], [Sl.dat (intL ns)], fun r _ => r = .dat (.bool true), rfl, rel_data (vs := [.ref a]) (ds := [intL ns]) (.cons (.lst hS (ints_dp ns)) .nil), ⟨[intL ns], rfl, ns, rfl, fun _ => rfl⟩, fun v r outs R' H' _ _ ok e => ?_⟩
  subst e
  cases ok
  rfl
end Wq

open PySem PySem.W PyProof.Rows
set_option maxRecDepth 100000 in
set_option maxHeartbeats 0 in
theorem PySem.Challenge.cw_solvedplay_k07_places_of_texts_holds : PySem.Challenge.rw_solvedplay_k07_places_of_texts.Holds := by
  w_on; o_law; k_head; (case hw => w_witness2)
  k_fill
  refine Wq.walk (l := PySem.Challenge.rw_solvedplay_k07_places_of_texts) rfl rfl (fun w h Y => PySem.W.kIn_of Y) ?F
  case F =>
    intro w mg fa h KX G hmg
    refine' Wq.all_mk KX G hmg ?a0 ?l0 ?c0 ?k0 ?a1 ?l1 ?c1 ?k1 ?a2 ?l2 ?c2 ?k2 ?a3 ?l3 ?c3 ?k3 ?a4 ?l4 ?c4 ?k4 ?a5 ?l5 ?c5 ?k5 ?a6 ?l6 ?c6 ?k6 ?a7 ?l7 ?c7 ?k7 ?a8 ?l8 ?c8 ?k8 ?a9 ?l9 ?c9 ?k9 ?a10 ?l10 ?c10 ?k10 ?a11 ?l11 ?c11 ?k11 ?a12 ?l12 ?c12 ?k12 ?a13 ?l13 ?c13 ?k13 ?a14 ?l14 ?c14 ?k14 ?a15 ?l15 ?c15 ?k15 ?a16 ?l16 ?c16 ?k16 ?a17 ?l17 ?c17 ?k17 ?z0 ?z1 ?z2 ?z3 ?z4 ?z5 ?z6 ?z7 ?z8 ?z9 ?z10 ?z11 ?z12 ?z13 ?z14 ?z15 ?z16
    (case a0 => k_is); (case l0 => k_is); (case c0 => k_is); (case k0 => k_is); (case a1 => k_is); (case l1 => k_is); (case c1 => k_is); (case k1 => k_is)
    (case a2 => k_is); (case l2 => k_is); (case c2 => k_is); (case k2 => k_is); (case a3 => k_is); (case l3 => k_is); (case c3 => k_is); (case k3 => k_is)
    (case a4 => k_is); (case l4 => k_is); (case c4 => k_is); (case k4 => k_is); (case a5 => k_is); (case l5 => k_is); (case c5 => k_is); (case k5 => k_is)
    (case a6 => k_is); (case l6 => k_is); (case c6 => k_is); (case k6 => k_is); (case a7 => k_is); (case l7 => k_is); (case c7 => k_is); (case k7 => k_is)
    (case a8 => k_is); (case l8 => k_is); (case c8 => k_is); (case k8 => k_is); (case a9 => k_is); (case l9 => k_is); (case c9 => k_is); (case k9 => k_is)
    (case a10 => k_is); (case l10 => k_is); (case c10 => k_is); (case k10 => k_is); (case a11 => k_is); (case l11 => k_is); (case c11 => k_is); (case k11 => k_is)
    (case a12 => k_is); (case l12 => k_is); (case c12 => k_is); (case k12 => k_is); (case a13 => k_is); (case l13 => k_is); (case c13 => k_is); (case k13 => k_is)
    (case a14 => k_is); (case l14 => k_is); (case c14 => k_is); (case k14 => k_is); (case a15 => k_is); (case l15 => k_is); (case c15 => k_is); (case k15 => k_is)
    (case a16 => k_is); (case l16 => k_is); (case c16 => k_is); (case k16 => k_is); (case a17 => k_is); (case l17 => k_is); (case c17 => k_is); (case k17 => k_is)
    (case z0 => k_is); (case z1 => k_is); (case z2 => k_is); (case z3 => k_is); (case z4 => k_is); (case z5 => k_is); (case z6 => k_is); (case z7 => k_is)
    (case z8 => k_is); (case z9 => k_is); (case z10 => k_is); (case z11 => k_is); (case z12 => k_is); (case z13 => k_is); (case z14 => k_is); (case z15 => k_is)
    (case z16 => k_is)
#print axioms PySem.Challenge.cw_solvedplay_k07_places_of_texts_holds
