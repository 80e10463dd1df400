import PyProof.Rows.All
import Wide.All
import OpenK.AllK
import Wide.FinOn
import HandS.Base
import HandS.Call
import HandS.List
import HandS.Comp
import HandS.Dict
import HandS.Iter
import HandS.Text
import HandS.Ends
import HandS.Words
import HandS.IsInst
import HandS.TupAny
import HandS.Deep
import HandS.Style
import HandS.Zip
import HandS.SortRule
import PyProof.Rows.SortKeyStr
import KE.KRevSl
import PyProof.SliceStr2
import PyProof.StrOps2
import KE.GoesZip
import KE.KDictZip
import PyProof.Draws
import HandS.NoneIn
import PyProof.EnumMake
import PyProof.ListNew
import PyProof.CollectIter
import PyProof.StrWalks
import PySem.Challenge.RW_solvedplay_k08_ended_or_not
set_option Elab.async false
set_option maxRecDepth 100000
set_option linter.all false
set_option maxHeartbeats 1000000
namespace Wq
open PySem L2 PySem.Spec PyProof.Rows

/-! ### a def's promise where no repr is under way -/
structure FnG (P : Program) (w : World) (K : PySem.W.Frag) (mg : Str → Option Value) (base : Heap)
    (k : Nat) (f : Addr) (fd : FuncData) (ps : List Str) (sp : Sp) : Prop where
  len : ∀ vs H Q E, sp vs H Q E → vs.length = ps.length
  run : ∀ (A : Around) (outer : List Env) (s : Shared) (H : Hp) (args : Args) (us : List Value) (vs : List V) (Q : VK) (E : XK),
    Room k A → A.guards = some [] → Env0 P w K mg base A outer s H → BindsTo s fd args (ps.zip us) → Vals vs us →
    sp vs H Q E → codeAny (model P w) A (.call (.ref f) args) (CR CX0 outer P w H s Q E) s
theorem FnG.mono {P : Program} {w : World} {K : PySem.W.Frag} {mg : Str → Option Value} {base : Heap} {j k : Nat} {f : Addr} {fd : FuncData} {ps : List Str} {sp : Sp}
    (G : FnG P w K mg base j f fd ps sp) (h : j ≤ k) : FnG P w K mg base k f fd ps sp :=
  { len := G.len, run := fun A o s H args us vs Q E hr => G.run A o s H args us vs Q E (hr.mono h) }
section
variable {P : Program} {w : World} {K : PySem.W.Frag} {mg : Str → Option Value} {base : Heap}
theorem fng_of {x qual : Str} {st : Stmt} {f : Addr} {fd : FuncData} {N ps : List Str} {k : Nat} {sp : Sp} (F : Fun K x qual st f fd)
    (Sc : FnScope N ps (defScope st)) (len : ∀ vs H Q E, sp vs H Q E → vs.length = ps.length)
    (body : ∀ (cdv : Value) (A : Around) (outer : List Env) (s : Shared) (H : Hp) (vs : List V) (Q : VK) (E : XK),
      Room k (A.deeper (envOfC qual (defScope st) s.heap.objs.size f cdv)) → A.guards = some [] → sp vs H Q E →
      ∃ t, PSs (cxOf CX0 P w K mg base N qual (defScope st) f cdv A outer s H E).nox (defBody st) t ∧
        t { nx := fun _ H' => Q .non H', rt := Q } (L2.start N vs) H) : FnG P w K mg base (k + 1) f fd ps sp := by
  obtain ⟨oc, od, kV, doc, pm, an, cdv, ct, osl, rfl, lk, hcd⟩ := F.ex
  constructor
  · exact len
  intro A outer s H args us vs Q E hr gr e0 hb r hsp
  have KX : K.In s.heap := e0.mod.kin.keeps fun b o e => (e0.bs b o e).1
  have hkd : ∀ y ∈ ps.zip us, (defScope st).names.lookup y.1 = some .local ∨
      ((defScope st).names.lookup y.1 = some .cell ∧ ((cellsFrom (s.heap.objs.size + 1) (defScope st).names []).lookup y.1).isSome = true) := by
    rintro ⟨n, v⟩ hy
    have hn := (List.of_mem_zip hy).1
    rcases Sc.par n hn with q | q
    · left; exact q
    · right; exact ⟨q, PySem.W.cellsFrom_some _ _ _ (.inl q)⟩
  refine codeAny_call_function hr.depth (KX _ _ lk) rfl Sc.co Sc.gen rfl (PySem.W.codeRec_of KX hcd) ?_
  refine hb _ _ _ _ (wpAny_newFunctionEnv_cells Sc.kind hkd ?_)
  intro env he s1 x1
  subst he
  have lim : s.heap.NoLimit := e0.mod.nolimit.keeps fun b o e => (e0.bs b o e).1
  refine ⟨lim.keeps x1.toInCall.keep, ?_⟩
  apply codeAny_func
  obtain ⟨t, ht, hq⟩ := body cdv A outer s H vs Q E (hr.deeper _) gr hsp
  have J0 := inv_start (CX := CX0) (E := E) Sc hr.hd e0 (len _ _ _ _ hsp) r x1
  have run := ht.nox.run [] s1 (L2.start N vs) H _ J0 hq
  refine wpAny_mono run ?_ fun _ _ z => z
  intro fl s2 hs
  cases fl with
  | brk =>
    obtain ⟨_, _, _, z⟩ := hs
    exact z.elim
  | cont =>
    obtain ⟨_, _, _, z⟩ := hs
    exact z.elim
  | next =>
    obtain ⟨_, H2, J, z⟩ := hs
    show CE outer P w H s Q Value.none s2
    exact ⟨V.non, H2, J.os, J.bare, J.base, J.hok, rfl, z⟩
  | ret u =>
    obtain ⟨v, _, H2, J, rv, z⟩ := hs
    show CE outer P w H s Q u s2
    exact ⟨v, H2, J.os, J.bare, J.base, J.hok, rv, z⟩
end
/-- f(e, ..) -/
theorem peg_call {X : Cx} {k : Nat} {f : Addr} {fd : FuncData} {ps : List Str} {sp : Sp} {x : Str} {p pos : Pos} {e : Expr} {es : List Expr} {t : TA}
    (G : FnG X.prog X.w X.K X.mg X.base k f fd ps sp) (hr : Room k X.A) (gr : X.A.guards = some []) (hg : Gl X x) (hm : X.mg x = some (.ref f))
    (hk : PySem.W.keepIn X.K (.ref f) = true) (hb : Binds X.K fd ps []) (ha : PA X (e :: es) t) (hdb : (x == ("__debug__" : Str)) = false)
    (he : starEach (e :: es) X.env = (false, eval e X.env) :: starEach es X.env)
    (hpl : (backTo pos (starEach es X.env)).any (·.1) = false) : PE X (.Call (.Name x p) (e :: es) [] pos) (tCall sp [] E0 t) := by
  constructor
  intro pins s σ H Q I h
  refine wpAny_Call_Name_kw (ld_glob I hg hm ?_ hdb)
  refine PySem.W.callWith_K (h₀ := X.base) I.ok.mod.kin hk ?_ he hpl
  refine thn (ha.run pos pins s σ H _ I h) ?_
  rintro us s1 ⟨vs, H1, I1, r, q⟩
  refine ⟨I1.kIn, ?_⟩
  have q' : sp vs H1 Q E0 := by
    have q0 : sp (vs ++ []) H1 Q E0 := q
    rwa [List.append_nil] at q0
  have hl : (us ++ []).length = ps.length := by
    rw [List.append_nil, ← r.length]
    exact G.len _ _ _ _ q'
  have hb1 := hb s1 us I1.kIn hl
  rw [List.append_nil] at hb1
  apply wpAny_call
  refine codeAny_mono (G.run X.A X.stack s1 H1 ⟨us, []⟩ us vs Q E0 hr gr I1.env0 hb1 r q') ?_
  intro res s2 hq
  match res, hq with
  | .ok (.ret u), hq => exact I1.after hq
/-- the law itself, called by the claim's caller -/
theorem law_by {P : Program} {w : World} {K : PySem.W.Frag} {mg mb : Str → Option Value} {k : Nat} {fa a : Addr} {fd : FuncData} {x : Str} {sp : Sp}
    {s1 : Shared} {vs : List Value} {ns : List Int} (KX : K.In s1.heap) (hns : s1.heap.Ns mainGlobals mg) (hb : s1.heap.Ns builtinsNs mb)
    (hbb : ∀ x : Str, x ≠ "__name__" → mb x = bootBuiltins x) (hlim : s1.heap.NoLimit) (hg : s1.gens = #[])
    (ha : s1.heap.get? a = some { cls := .type "list", data := .seq vs.toArray }) (hi : IntsAre vs ns) (hl : ns.length ≤ sizeLine)
    (hr : Room k callerA) (F : ∀ base : Heap, K.In base → base.Ns mainGlobals mg → FnG P w K mg base k fa fd [x] sp)
    (hbind : ∀ (s : Shared) (u : Value), BindsTo s fd ⟨[u], []⟩ [(x, u)])
    (hsp : ∀ H : Hp, Only H → SqL K H a (ns.map V.int) → sp [.ref a] H (fun v _ => v = .bl true) fun _ _ _ => False) :
    codeAny (model P w) callerA (.call (.ref fa) ⟨[.ref a], []⟩)
      (fun r s' => r = .ok (.ret (.bool true)) ∧ OldK s1.heap s'.heap ∧ s'.os = s1.os ∧ AllBare s'.gens) s1 := by
  have rv := vals_ints hi
  suffices main : ∀ H : Hp, Only H → SqL K H a (ns.map V.int) → HOk P w H s1.heap → (∀ b, H b ≠ none → b = a) → (H a ≠ none → K.lookup a = none) →
      codeAny (model P w) callerA (.call (.ref fa) ⟨[.ref a], []⟩)
        (fun r s' => r = .ok (.ret (.bool true)) ∧ OldK s1.heap s'.heap ∧ s'.os = s1.os ∧ AllBare s'.gens) s1 by
    cases hk : K.lookup a with
    | none =>
      let ob : Obj := { cls := .type "list", data := .seq vs.toArray }
      let H0 : Hp := fun b => if b = a then some (.frz ob (.lst (ns.map V.int))) else none
      have hin : H0 a = some (.frz ob (.lst (ns.map V.int))) := if_pos rfl
      have hout : ∀ b, b ≠ a → H0 b = none := fun b n => if_neg n
      refine main H0 ?_ (.inl (.inr ⟨ob, hin⟩)) ?_ ?_ fun _ => hk
      · intro b
        by_cases e : b = a
        · subst e; exact .inr ⟨_, _, hin⟩
        · exact .inl (hout b e)
      · intro b u z
        by_cases e : b = a
        · subst e
          rw [hin] at z
          cases z
          exact ⟨ha, by rw [List.length_map]; exact hl, vs, _, rv, ha⟩
        · rw [hout b e] at z
          cases z
      · intro b z
        by_cases e : b = a
        · exact e
        · exact absurd (hout b e) z
    | some o =>
      have e := KX a o hk
      rw [ha] at e
      cases e
      have lv : vs.length ≤ sizeLine := by rw [hi.length]; exact hl
      refine main (fun _ => none) (fun _ => .inl rfl) (.inr ⟨_, vs.toArray, _, hk, rfl, rfl, rfl, ?_, ?_⟩) ?_ (fun _ z => (z rfl).elim) fun z => (z rfl).elim
      · rw [List.size_toArray]; exact lv
      · simpa using rv
      · intro b u z
        cases z
  intro H hO hS hok hA hK
  have isDict : ∀ {b : Addr} {o : Obj} {es : Array DictEntry} {ep : Nat}, s1.heap.get? b = some o → o.data = .dict es ep → H b = none := by
    intro b o es ep e d
    apply Classical.byContradiction
    intro z
    have e' := hA b z
    subst e'
    rw [ha] at e
    cases e
    cases d
  have nsB : ∀ {b : Addr} {m : Str → Option Value}, s1.heap.Ns b m → (hidT s1.heap H).Ns b m := by
    rintro b m ⟨o, es, ep, e, d, r⟩
    exact ⟨o, es, ep, hidT_get e (isDict e d), d, r⟩
  have KB : K.In (hidT s1.heap H) := by
    intro b o e
    refine hidT_get (KX b o e) ?_
    apply Classical.byContradiction
    intro z
    have e' := hA b z
    subst e'
    rw [hK z] at e
    cases e
  have hM : Mod K mg (hidT s1.heap H) := by
    obtain ⟨mc, h1, h2⟩ := hlim
    exact ⟨KB, nsB hns, ⟨mb, nsB hb, hbb⟩, ⟨mc, nsB h1, h2⟩⟩
  have e0 : Env0 P w K mg (hidT s1.heap H) callerA [] s1 H :=
    { frames := rfl, mod := hM, bs := fun b o e => of_hidT e, bsz := Nat.le_of_eq (hidT_size _ _), funs := trivial,
      frf := fun b hb => (nomatch hb), hok := hok, bare := .of_eq hg }
  have run := (F _ KB (nsB hns)).run callerA [] s1 H ⟨[.ref a], []⟩ [.ref a] [.ref a] _ _ hr rfl e0 (hbind s1 (.ref a)) (.cons rfl .nil) (hsp H hO hS)
  refine codeAny_mono run ?_
  intro res s2 h
  match res, h with
  | .ok (.ret u), h =>
    obtain ⟨v, H2, os, bare, un, hok2, r2, q⟩ := h
    have q2 : v = .bl true := q
    subst q2
    have r3 : u = Value.bool true := r2
    subst r3
    refine ⟨rfl, OldK.of_keep ?_, os, bare⟩
    intro b o e
    rcases hO b with z | ⟨ob, xs, z⟩
    · exact un.keep b o e z (fun y => by cases y) (by simp)
    · have e1 := (hok b _ z).1
      have e2 := (hok2 b _ (un.frzs b ob _ z)).1
      rw [e] at e1
      cases e1
      exact e2
theorem walk_by {l : PySem.W.OpenLaw} {n k : Nat} {q : Program} {loose : List Str} {XP : (Str → Option Value) → Heap → Prop} {YP : World → Heap → Prop}
    {d : DefRec} {K : Params → PySem.W.Frag} {sp : World → Sp} {x : Str} (hn : l.most = some n) (hn2 : n ≤ sizeLine) (hdf : d.params.defaults = [])
    (hr : Room k callerA) (hY : ∀ (w : World) (h : Heap), YP w h → (K w.params).In h)
    (F : ∀ (w : World) (mg : Str → Option Value) (fa : Addr) (h : Heap), (K w.params).In h → h.Ns mainGlobals mg → mg d.name = some (.ref fa) →
      ∃ fd : FuncData, (∀ (s : Shared) (u : Value), BindsTo s fd ⟨[u], []⟩ [(x, u)]) ∧
        ∀ base : Heap, (K w.params).In base → base.Ns mainGlobals mg → FnG l.prog w (K w.params) mg base k fa fd [x] (sp w))
    (hsp : ∀ (w : World) (H : Hp) (a : Addr) (ns : List Int), ns.length ≤ n → Only H → SqL (K w.params) H a (ns.map V.int) →
      sp w [.ref a] H (fun v _ => v = .bl true) fun _ _ _ => False) : PySem.W.WalkO q loose XP YP l.row.toRowW d [] (fun f vs => PySem.call f vs) := by
  apply Att.attach_call hn hdf
  intro w s0 s1 mg mb fa o pm cd doc a vs ns G Y ho hd hcd hmg hobj hints hlen hg
  have KX := hY w _ Y
  obtain ⟨fd, hbd, hF⟩ := F w mg fa _ KX G.T.g hmg
  exact law_by KX G.T.g G.T.b G.T.builtins G.T.nolimit hg hobj hints (Nat.le_trans hlen hn2) hr hF hbd fun H hO hS => hsp w H a ns hlen hO hS
end Wq
set_option maxHeartbeats 1000000
namespace Wq
open PySem L2

abbrev D := PyData

/-! ### data in a region of the heap -/
theorem same_t {K : PySem.W.Frag} {H H' : Hp} {a : Addr} {xs : List V} (e : Same H H') (h : SqT K H a xs) : SqT K H' a xs := by
  rcases h with (h | ⟨o, h⟩) | h
  · exact .inl (.inl (e _ _ h))
  · exact .inl (.inr ⟨o, e _ _ h⟩)
  · exact .inr h
mutual
theorem dp_mono {K : PySem.W.Frag} {R R' : Hp} (e : Same R R') : ∀ (d : D) (v : V), Dp K R v d → Dp K R' v d
  | .none, _, h => by cases h; exact .non
  | .bool _, _, h => by cases h; exact .bl _
  | .int _, _, h => by cases h; exact .int _
  | .str _, _, h => by cases h; exact .str _
  | .list ds, _, h => by
    cases h with
    | lst h1 h2 => exact .lst (e.seq h1) (dpAll_mono e ds _ h2)
  | .tuple ds, _, h => by
    cases h with
    | tup h1 h2 => exact .tup (same_t e h1) (dpAll_mono e ds _ h2)
  | .dict _, _, h => by cases h
theorem dpAll_mono {K : PySem.W.Frag} {R R' : Hp} (e : Same R R') : ∀ (ds : List D) (vs : List V), DpAll K R vs ds → DpAll K R' vs ds
  | [], _, h => by cases h; exact .nil
  | d :: ds, _, h => by
    cases h with
    | cons h1 h2 => exact .cons (dp_mono e d _ h1) (dpAll_mono e ds _ h2)
end
theorem dpAll_len {K : PySem.W.Frag} {R : Hp} : ∀ {vs : List V} {ds : List D}, DpAll K R vs ds → vs.length = ds.length
  | _, _, .nil => rfl
  | _, _, .cons _ h => by rw [List.length_cons, List.length_cons, dpAll_len h]
theorem dpAll_get {K : PySem.W.Frag} {R : Hp} : ∀ {vs : List V} {ds : List D} {i : Nat} {d : D}, DpAll K R vs ds → ds[i]? = some d → ∃ v, vs[i]? = some v ∧ Dp K R v d
  | _, _, _, _, .nil, e => by simp at e
  | _, _, 0, _, .cons h _, e => by simp at e; subst e; exact ⟨_, rfl, h⟩
  | _, _, i + 1, d, .cons _ h, e => by
    obtain ⟨v, h1, h2⟩ := dpAll_get (i := i) (d := d) h (by simpa using e)
    exact ⟨v, by simpa using h1, h2⟩
theorem dpAll_get' {K : PySem.W.Frag} {R : Hp} : ∀ {vs : List V} {ds : List D} {i : Nat} {v : V}, DpAll K R vs ds → vs[i]? = some v → ∃ d, ds[i]? = some d ∧ Dp K R v d
  | _, _, _, _, .nil, e => by simp at e
  | _, _, 0, _, .cons h _, e => by simp at e; subst e; exact ⟨_, rfl, h⟩
  | _, _, i + 1, d, .cons _ h, e => by
    obtain ⟨v, h1, h2⟩ := dpAll_get' (i := i) (v := d) h (by simpa using e)
    exact ⟨v, by simpa using h1, h2⟩
theorem dpAll_app {K : PySem.W.Frag} {R : Hp} : ∀ {vs us : List V} {ds es : List D}, DpAll K R vs ds → DpAll K R us es → DpAll K R (vs ++ us) (ds ++ es)
  | _, _, _, _, .nil, h => h
  | _, _, _, _, .cons h1 h2, h => .cons h1 (dpAll_app h2 h)
theorem dpAll_one {K : PySem.W.Frag} {R : Hp} {v : V} {d : D} (h : Dp K R v d) : DpAll K R [v] [d] := .cons h .nil
theorem dpAll_set {K : PySem.W.Frag} {R : Hp} {v : V} {d : D} (hv : Dp K R v d) : ∀ {vs : List V} {ds : List D} (i : Nat), DpAll K R vs ds → DpAll K R (vs.set i v) (ds.set i d)
  | _, _, _, .nil => .nil
  | _, _, 0, .cons _ h => .cons hv h
  | _, _, i + 1, .cons h1 h => .cons h1 (dpAll_set hv i h)

/-! ### slots -/
inductive Sl where
  | no
  | dat (d : D)
  | own (d : D)
abbrev En := List Sl
def Sl.d : Sl → D
  | .no => .none
  | .dat d => d
  | .own d => d
/-- an owned list stands at a -/
def OwnAt (K : PySem.W.Frag) (R H : Hp) (a : Addr) : D → Prop
  | .list ds => ∃ vs, H a = some (.lst vs) ∧ DpAll K R vs ds
  | _ => False
theorem OwnAt.some {K : PySem.W.Frag} {R H : Hp} {a : Addr} {d : D} (h : OwnAt K R H a d) : ∃ o, H a = some o := by
  cases d with
  | list ds => obtain ⟨vs, h, _⟩ := h; exact ⟨_, h⟩
  | _ => exact h.elim
theorem OwnAt.mono {K : PySem.W.Frag} {R H R' H' : Hp} {a : Addr} {d : D} (h : OwnAt K R H a d) (hR : Same R R') (hH : H' a = H a) : OwnAt K R' H' a d := by
  cases d with
  | list ds => obtain ⟨vs, h, q⟩ := h; exact ⟨vs, by rw [hH]; exact h, dpAll_mono hR _ _ q⟩
  | _ => exact h.elim

structure Fx where
  H0 : Hp
  R0 : Hp
  g : List (Nat × Addr)
structure Rel (K : PySem.W.Frag) (F : Fx) (s : St) (E : En) (R H : Hp) : Prop where
  len : E.length = s.length
  sub : Same R H
  sub0 : Same F.R0 R
  keep : ∀ a o, F.H0 a = some o → (∀ p ∈ F.g, p.2 ≠ a) → H a = some o
  new : ∀ a o, R a = some o → (∃ o', F.R0 a = some o') ∨ F.H0 a = none
  giv : ∀ p ∈ F.g, s[p.1]? = some (some (.ref p.2)) ∧ ∃ d, E[p.1]? = some (.own d)
  dat : ∀ (i : Nat) (d : D), E[i]? = some (Sl.dat d) → ∃ v, s[i]? = some (some v) ∧ Dp K R v d
  own : ∀ (i : Nat) (d : D), E[i]? = some (Sl.own d) → ∃ a : Addr, s[i]? = some (some (V.ref a)) ∧ R a = none ∧ OwnAt K R H a d ∧ (F.H0 a = none ∨ (i, a) ∈ F.g)
  inj : ∀ (i j : Nat) (d d' : D) (a : Addr), E[i]? = some (Sl.own d) → E[j]? = some (Sl.own d') → s[i]? = some (some (V.ref a)) → s[j]? = some (some (V.ref a)) → i = j

section
variable {K : PySem.W.Frag} {F : Fx} {s : St} {E : En} {R H : Hp}
/-- what is free now was free at the start -/
theorem Rel.free0 (r : Rel K F s E R H) {p : Addr} (h : H p = none) : F.H0 p = none := by
  cases q : F.H0 p with
  | none => rfl
  | some o =>
    by_cases hg : ∃ x ∈ F.g, x.2 = p
    · obtain ⟨x, hx, e⟩ := hg
      obtain ⟨h1, d, h2⟩ := r.giv x hx
      obtain ⟨a, h3, _, h4, _⟩ := r.own _ _ h2
      rw [h1] at h3
      cases h3
      obtain ⟨o, h5⟩ := h4.some
      rw [e, h] at h5
      cases h5
    · have := r.keep p o q fun x hx e => hg ⟨x, hx, e⟩
      rw [h] at this
      cases this
theorem Rel.freeR (r : Rel K F s E R H) {p : Addr} (h : H p = none) : R p = none := by
  cases q : R p with
  | none => rfl
  | some o => rw [r.sub p o q] at h; cases h
theorem same_upd {H : Hp} {p : Addr} {o : HO} (h : H p = none) : Same H (upd H p o) := fun a u e => by
  rw [upd_ne (ne_of_none e h)]; exact e
theorem same_updB {R H : Hp} {p : Addr} {o : HO} (e : Same R H) (h : H p = none) : Same (upd R p o) (upd H p o) := fun a u q => by
  by_cases ha : a = p
  · subst ha; rw [upd_same] at q ⊢; exact q
  · rw [upd_ne ha] at q ⊢; exact e a u q
/-- a new object, not in the region -/
theorem Rel.grow (r : Rel K F s E R H) {p : Addr} {o : HO} (h : H p = none) : Rel K F s E R (upd H p o) where
  len := r.len
  sub := r.sub.trans (same_upd h)
  sub0 := r.sub0
  keep := fun a u e hg => same_upd h a u (r.keep a u e hg)
  new := r.new
  giv := r.giv
  dat := r.dat
  own := fun i d e => by
    obtain ⟨a, h1, h2, h3, h4⟩ := r.own i d e
    refine ⟨a, h1, h2, h3.mono (Same.refl _) ?_, h4⟩
    obtain ⟨o', ho⟩ := h3.some
    exact upd_ne (ne_of_none ho h)
  inj := r.inj
/-- an object that no slot owns and that was free at the start goes to the region -/
theorem Rel.into (r : Rel K F s E R H) {p : Addr} {o : HO} (h : H p = some o) (h0 : F.H0 p = none) (hn : ∀ (i : Nat) (d : D), E[i]? = some (Sl.own d) → s[i]? ≠ some (some (V.ref p))) (hR : R p = none) : Rel K F s E (upd R p o) H where
  len := r.len
  sub := fun a u q => by
    by_cases ha : a = p
    · subst ha; rw [upd_same] at q; cases q; exact h
    · rw [upd_ne ha] at q; exact r.sub a u q
  sub0 := r.sub0.trans (same_upd hR)
  keep := r.keep
  new := fun a u q => by
    by_cases ha : a = p
    · subst ha; exact .inr h0
    · rw [upd_ne ha] at q; exact r.new a u q
  giv := r.giv
  dat := fun i d e => by
    obtain ⟨v, h1, h2⟩ := r.dat i d e
    exact ⟨v, h1, dp_mono (same_upd hR) _ _ h2⟩
  own := fun i d e => by
    obtain ⟨a, h1, h2, h3, h4⟩ := r.own i d e
    have ha : a ≠ p := fun z => hn i d e (by rw [h1, z])
    exact ⟨a, h1, by rw [upd_ne ha]; exact h2, h3.mono (same_upd hR) rfl, h4⟩
  inj := r.inj
/-- a new object that is data at once -/
theorem Rel.growR (r : Rel K F s E R H) {p : Addr} {o : HO} (h : H p = none) : Rel K F s E (upd R p o) (upd H p o) := by
  refine (r.grow (o := o) h).into upd_same (r.free0 h) (fun i d e z => ?_) (r.freeR h)
  obtain ⟨a, h1, h2, h3, h4⟩ := r.own i d e
  rw [h1] at z
  cases z
  obtain ⟨o', ho⟩ := h3.some
  rw [h] at ho
  cases ho
end

/-! ### what comes of an expression -/
def RsOk (K : PySem.W.Frag) (F : Fx) (s : St) (E : En) (R H : Hp) (v : V) : Sl → Prop
  | .no => False
  | .dat d => Dp K R v d
  | .own d => ∃ a, v = .ref a ∧ R a = none ∧ OwnAt K R H a d ∧ F.H0 a = none ∧ ∀ (i : Nat) (d' : D), E[i]? = some (Sl.own d') → s[i]? ≠ some (some (V.ref a))

/-! ### the static side -/
structure Sx where
  P : Program
  w : World
  K : PySem.W.Frag
  mg : Str → Option Value
  base : Heap
  N : List Str
  sc : Scope
  k : Nat
  asg : Str → Bool
structure Has (S : Sx) (X : Cx) : Prop where
  prog : X.prog = S.P
  w : X.w = S.w
  K : X.K = S.K
  mg : X.mg = S.mg
  base : X.base = S.base
  N : X.N = S.N
  sc : X.env.scope = S.sc
  calm : X.calm = true
  room : Room S.k X.A
  xe : X.xe = fun _ _ => False
  grd : X.A.guards = some []
  nd : X.N.Nodup
  fnl : ∀ x, S.asg x = true → X.fn x = true ∨ X.env.scope.names.lookup x = some .local

def RdE (X : Cx) (e : Expr) : TE := fun s H Q => ∃ t, PE X e t ∧ t s H Q
def RdT (X : Cx) (e : Expr) : TT := fun s H Q => ∃ t, PT X e t ∧ t s H Q
def RdA (X : Cx) (es : List Expr) : TA := fun s H Q => ∃ t, PA X es t ∧ t s H Q
def RdS (X : Cx) (st : Stmt) : TS := fun D s H => ∃ t, PS X st t ∧ t D s H
def RdSs (X : Cx) (st : List Stmt) : TS := fun D s H => ∃ t, PSs X st t ∧ t D s H
theorem pe_rd {X : Cx} {e : Expr} : PE X e (RdE X e) := ⟨fun pins s σ H Q I ⟨_, ht, q⟩ => ht.run pins s σ H Q I q⟩
theorem pt_rd {X : Cx} {e : Expr} : PT X e (RdT X e) := ⟨fun pins s σ H Q I ⟨_, ht, q⟩ => ht.run pins s σ H Q I q⟩
theorem pa_rd {X : Cx} {e : List Expr} : PA X e (RdA X e) := ⟨fun pos pins s σ H Q I ⟨_, ht, q⟩ => ht.run pos pins s σ H Q I q⟩
theorem ps_rd {X : Cx} {e : Stmt} : PS X e (RdS X e) := ⟨fun pins s σ H Q I ⟨_, ht, q⟩ => ht.run pins s σ H Q I q⟩
theorem pss_rd {X : Cx} {e : List Stmt} : PSs X e (RdSs X e) := ⟨fun pins s σ H Q I ⟨_, ht, q⟩ => ht.run pins s σ H Q I q⟩

/-! ### the calculus: expressions -/
def Wp (S : Sx) (e : Expr) (E : En) (P : Sl → En → Prop) : Prop :=
  ∀ X, Has S X → ∀ F s R H, Rel S.K F s E R H → ∀ Q : VK,
    (∀ v r E' R' H', Same R R' → Rel S.K F s E' R' H' → RsOk S.K F s E' R' H' v r → P r E' → Q v H') → RdE X e s H Q
def WpD (S : Sx) (e : Expr) (E : En) (P : D → En → Prop) : Prop :=
  ∀ X, Has S X → ∀ F s R H, Rel S.K F s E R H → ∀ Q : VK,
    (∀ v d E' R' H', Same R R' → Rel S.K F s E' R' H' → Dp S.K R' v d → P d E' → Q v H') → RdE X e s H Q
def WpT (S : Sx) (e : Expr) (E : En) (P : Bool → En → Prop) : Prop :=
  ∀ X, Has S X → ∀ F s R H, Rel S.K F s E R H → ∀ Q : Bool → Hp → Prop,
    (∀ b E' R' H', Same R R' → Rel S.K F s E' R' H' → P b E' → Q b H') → RdT X e s H Q
def WpA (S : Sx) (es : List Expr) (E : En) (P : List D → En → Prop) : Prop :=
  ∀ X, Has S X → ∀ F s R H, Rel S.K F s E R H → ∀ Q : List V → Hp → Prop,
    (∀ vs ds E' R' H', Same R R' → Rel S.K F s E' R' H' → DpAll S.K R' vs ds → P ds E' → Q vs H') → RdA X es s H Q

section
variable {S : Sx} {e : Expr} {es : List Expr} {E : En} {a b c : Expr} {pos : Pos}
theorem Wp.mono {P P' : Sl → En → Prop} (h : Wp S e E P) (f : ∀ r E', P r E' → P' r E') : Wp S e E P' := fun X hX F s R H r Q k => h X hX F s R H r Q fun v r E' R' H' h1 h2 h3 h4 => k v r E' R' H' h1 h2 h3 (f _ _ h4)
theorem WpD.mono {P P' : D → En → Prop} (h : WpD S e E P) (f : ∀ r E', P r E' → P' r E') : WpD S e E P' := fun X hX F s R H r Q k => h X hX F s R H r Q fun v r E' R' H' h1 h2 h3 h4 => k v r E' R' H' h1 h2 h3 (f _ _ h4)
theorem WpT.mono {P P' : Bool → En → Prop} (h : WpT S e E P) (f : ∀ r E', P r E' → P' r E') : WpT S e E P' := fun X hX F s R H r Q k => h X hX F s R H r Q fun b E' R' H' h1 h2 h4 => k b E' R' H' h1 h2 (f _ _ h4)
/-- data is a result -/
theorem WpD.wp {P : Sl → En → Prop} (h : WpD S e E fun d E' => P (.dat d) E') : Wp S e E P := fun X hX F s R H r Q k => h X hX F s R H r Q fun v d E' R' H' h1 h2 h3 h4 => k v (.dat d) E' R' H' h1 h2 h3 h4
/-- a result is data: a new list goes to the region -/
theorem Wp.d {P : D → En → Prop} (h : Wp S e E fun r E' => P r.d E') : WpD S e E P := fun X hX F s R H r Q k => h X hX F s R H r Q fun v r E' R' H' h1 h2 h3 h4 => by
  cases r with
  | no => exact h3.elim
  | dat d => exact k v d E' R' H' h1 h2 h3 h4
  | own d =>
    obtain ⟨p, rfl, hp, ho, h0, hn⟩ := h3
    cases d with
    | list ds =>
      obtain ⟨vs, hH, hd⟩ := ho
      refine k _ _ _ (upd R' p (.lst vs)) H' (h1.trans (same_upd hp)) (h2.into hH h0 hn hp) (.lst (SqL.of upd_same) (dpAll_mono (same_upd hp) _ _ hd)) h4
    | _ => exact ho.elim
theorem wa_nil {P : List D → En → Prop} (h : P [] E) : WpA S [] E P := fun X hX F s R H r Q k => ⟨_, pa_nil, k [] [] E R H (Same.refl _) r .nil h⟩
theorem wa_cons {P : List D → En → Prop} (h : WpD S e E fun d E1 => WpA S es E1 fun ds E2 => P (d :: ds) E2) (hst : ∀ env : Env, starEach (e :: es) env = (false, eval e env) :: starEach es env := by intro _; rfl) : WpA S (e :: es) E P := fun X hX F s R H r Q k => by
  refine ⟨_, pa_cons pe_rd pa_rd (hst _), ?_⟩
  refine h X hX F s R H r _ fun v d E1 R1 H1 s1 r1 d1 h1 => ?_
  refine h1 X hX F s R1 H1 r1 _ fun vs ds E2 R2 H2 s2 r2 d2 h2 => ?_
  exact k (v :: vs) (d :: ds) E2 R2 H2 (s1.trans s2) r2 (.cons (dp_mono s2 _ _ d1) d2) h2
/-- names, constants -/
theorem wd_name {P : D → En → Prop} {x : Str} {i : Nat} {d : D} (hN : S.N[i]? = some x) (hv : Vis S.sc x) (hE : E[i]? = some (.dat d)) (h : P d E) (hd : (x == ("__debug__" : Str)) = false := by decide) (hcd : (x == ("__classdict__" : Str)) = false := by decide) : WpD S (.Name x pos) E P := fun X hX F s R H r Q k => by
  refine ⟨_, pe_var (i := i) (by rw [hX.N]; exact hN) (by rw [hX.sc]; exact hv) hd hcd, ?_⟩
  obtain ⟨v, h1, h2⟩ := r.dat i d hE
  exact ⟨v, h1, k v d E R H (Same.refl _) r h2 h⟩
theorem wd_int {P : D → En → Prop} {i : Int} {j} (h : P (.int i) E) : WpD S (.Constant (.int i) j pos) E P := fun X hX F s R H r Q k => ⟨_, pe_int, k _ _ E R H (Same.refl _) r (.int _) h⟩
theorem wd_str {P : D → En → Prop} {i : Str} {j} (h : P (.str i) E) : WpD S (.Constant (.str i) j pos) E P := fun X hX F s R H r Q k => ⟨_, pe_str, k _ _ E R H (Same.refl _) r (.str _) h⟩
theorem wd_bl {P : D → En → Prop} {i : Bool} {j} (h : P (.bool i) E) : WpD S (.Constant (.bool i) j pos) E P := fun X hX F s R H r Q k => ⟨_, pe_bl, k _ _ E R H (Same.refl _) r (.bl _) h⟩
theorem wd_non {P : D → En → Prop} {j} (h : P .none E) : WpD S (.Constant .none j pos) E P := fun X hX F s R H r Q k => ⟨_, pe_non, k _ _ E R H (Same.refl _) r .non h⟩
end
end Wq
set_option maxHeartbeats 1000000
namespace Wq
open PySem L2

section
variable {S : Sx} {e : Expr} {es : List Expr} {E : En} {a b c : Expr} {pos : Pos} {P : D → En → Prop}

/-! ### operators -/
def OpD (S : Sx) (r : R2) (d1 d2 d : D) : Prop := ∀ F s E R H v1 v2, Rel S.K F s E R H → Dp S.K R v1 d1 → Dp S.K R v2 d2 → ∀ Q : VK,
  (∀ v R' H', Same R R' → Rel S.K F s E R' H' → Dp S.K R' v d → Q v H') → r v1 v2 H Q
theorem wd_bin {op : Operator} {r : R2} (hop : ∀ X, Has S X → OpR X (binaryOp op) r) (h : WpD S a E fun d1 E1 => WpD S b E1 fun d2 E2 => ∃ d, OpD S r d1 d2 d ∧ P d E2) : WpD S (.BinOp a op b pos) E P := fun X hX F s R H r0 Q k => by
  refine ⟨_, pe_op (hop X hX) pe_rd pe_rd, ?_⟩
  refine h X hX F s R H r0 _ fun v1 d1 E1 R1 H1 s1 r1 p1 h1 => ?_
  refine h1 X hX F s R1 H1 r1 _ fun v2 d2 E2 R2 H2 s2 r2 p2 ⟨d, h2, h3⟩ => ?_
  exact h2 F s E2 R2 H2 v1 v2 r2 (dp_mono s2 _ _ p1) p2 Q fun v R' H' s3 r3 p3 => k v d E2 R' H' ((s1.trans s2).trans s3) r3 p3 h3
theorem opd_i0 {g : Int → Int → V} {i j : Int} {d : D} (hg : ∀ R, Dp S.K R (g i j) d) : OpD S (rI0 g) (.int i) (.int j) d := fun F s E R H v1 v2 r p1 p2 Q k => by
  cases p1; cases p2
  exact ⟨i, j, rfl, rfl, k _ R H (Same.refl _) r (hg R)⟩
theorem opd_i {C : Int → Int → Prop} {g : Int → Int → V} {i j : Int} {d : D} (hc : C i j) (hg : ∀ R, Dp S.K R (g i j) d) : OpD S (rI C g) (.int i) (.int j) d := fun F s E R H v1 v2 r p1 p2 Q k => by
  cases p1; cases p2
  exact ⟨i, j, rfl, rfl, hc, k _ R H (Same.refl _) r (hg R)⟩
theorem wd_add (h : WpD S a E fun d1 E1 => WpD S b E1 fun d2 E2 => ∃ i j, d1 = .int i ∧ d2 = .int j ∧ P (.int (i + j)) E2) : WpD S (.BinOp a .Add b pos) E P :=
  wd_bin (r := rI0 fun i j => .int (i + j)) (fun _ _ => op_add) (h.mono fun _ _ h => h.mono fun _ _ ⟨i, j, h1, h2, h3⟩ => ⟨_, by subst h1 h2; exact opd_i0 fun _ => .int _, h3⟩)
theorem wd_sub (h : WpD S a E fun d1 E1 => WpD S b E1 fun d2 E2 => ∃ i j, d1 = .int i ∧ d2 = .int j ∧ P (.int (i - j)) E2) : WpD S (.BinOp a .Sub b pos) E P :=
  wd_bin (r := rI0 fun i j => .int (i - j)) (fun _ _ => op_sub) (h.mono fun _ _ h => h.mono fun _ _ ⟨i, j, h1, h2, h3⟩ => ⟨_, by subst h1 h2; exact opd_i0 fun _ => .int _, h3⟩)
theorem wd_mul (h : WpD S a E fun d1 E1 => WpD S b E1 fun d2 E2 => ∃ i j, d1 = .int i ∧ d2 = .int j ∧ CMul i j ∧ P (.int (i * j)) E2) : WpD S (.BinOp a .Mult b pos) E P :=
  wd_bin (r := rI CMul fun i j => .int (i * j)) (fun _ _ => op_mul) (h.mono fun _ _ h => h.mono fun _ _ ⟨i, j, h1, h2, hc, h3⟩ => ⟨_, by subst h1 h2; exact opd_i hc fun _ => .int _, h3⟩)
theorem wd_fdiv (h : WpD S a E fun d1 E1 => WpD S b E1 fun d2 E2 => ∃ i j, d1 = .int i ∧ d2 = .int j ∧ CDiv i j ∧ P (.int (i / j)) E2) : WpD S (.BinOp a .FloorDiv b pos) E P :=
  wd_bin (r := rI CDiv fun i j => .int (i / j)) (fun _ _ => op_fdiv) (h.mono fun _ _ h => h.mono fun _ _ ⟨i, j, h1, h2, hc, h3⟩ => ⟨_, by subst h1 h2; exact opd_i hc fun _ => .int _, h3⟩)
theorem wd_mod (h : WpD S a E fun d1 E1 => WpD S b E1 fun d2 E2 => ∃ i j, d1 = .int i ∧ d2 = .int j ∧ 0 < j ∧ P (.int (i % j)) E2) : WpD S (.BinOp a .Mod b pos) E P :=
  wd_bin (r := rI (fun _ j => 0 < j) fun i j => .int (i % j)) (fun _ _ => op_mod) (h.mono fun _ _ h => h.mono fun _ _ ⟨i, j, h1, h2, hc, h3⟩ => ⟨_, by subst h1 h2; exact opd_i hc fun _ => .int _, h3⟩)
theorem wd_pow (h : WpD S a E fun d1 E1 => WpD S b E1 fun d2 E2 => ∃ i j, d1 = .int i ∧ d2 = .int j ∧ CPow i j ∧ P (.int (i ^ j.toNat)) E2) : WpD S (.BinOp a .Pow b pos) E P :=
  wd_bin (r := rI CPow fun i j => .int (i ^ j.toNat)) (fun _ _ => op_pow) (h.mono fun _ _ h => h.mono fun _ _ ⟨i, j, h1, h2, hc, h3⟩ => ⟨_, by subst h1 h2; exact opd_i hc fun _ => .int _, h3⟩)
theorem wd_adds (h : WpD S a E fun d1 E1 => WpD S b E1 fun d2 E2 => ∃ i j, d1 = .str i ∧ d2 = .str j ∧ i.length + j.length ≤ sizeLine ∧ P (.str (i ++ j)) E2) : WpD S (.BinOp a .Add b pos) E P :=
  wd_bin (r := fun x y H Q => ∃ i j, x = .str i ∧ y = .str j ∧ i.length + j.length ≤ sizeLine ∧ Q (.str (i ++ j)) H) (fun _ _ => op_add_str) (h.mono fun _ _ h => h.mono fun _ _ ⟨i, j, h1, h2, hc, h3⟩ => ⟨_, by
    subst h1 h2
    intro F s E R H v1 v2 r p1 p2 Q k
    cases p1; cases p2
    exact ⟨i, j, rfl, rfl, hc, k _ R H (Same.refl _) r (.str _)⟩, h3⟩)
theorem wd_neg (h : WpD S a E fun d E1 => ∃ i, d = .int i ∧ P (.int (-i)) E1) : WpD S (.UnaryOp .USub a pos) E P := fun X hX F s R H r0 Q k => by
  refine ⟨_, pe_un un_neg pe_rd, ?_⟩
  refine h X hX F s R H r0 _ fun v1 d1 E1 R1 H1 s1 r1 p1 ⟨i, hi, h1⟩ => ?_
  subst hi
  cases p1
  exact ⟨i, rfl, k _ _ E1 R1 H1 s1 r1 (.int _) h1⟩

/-! ### comparisons -/
theorem wd_cmp {op : CmpOp} {r : R2} (hop : ∀ X, Has S X → OpR X (compareOp op) r) (hm : behindInMarks op b = false) (h : WpD S a E fun d1 E1 => WpD S b E1 fun d2 E2 => ∃ d, OpD S r d1 d2 d ∧ P d E2) : WpD S (.Compare a [op] [b] pos) E P := fun X hX F s R H r0 Q k => by
  refine ⟨_, pe_cmpR (hop X hX) pe_rd pe_rd hm, ?_⟩
  refine h X hX F s R H r0 _ fun v1 d1 E1 R1 H1 s1 r1 p1 h1 => ?_
  refine h1 X hX F s R1 H1 r1 _ fun v2 d2 E2 R2 H2 s2 r2 p2 ⟨d, h2, h3⟩ => ?_
  exact h2 F s E2 R2 H2 v1 v2 r2 (dp_mono s2 _ _ p1) p2 Q fun v R' H' s3 r3 p3 => k v d E2 R' H' ((s1.trans s2).trans s3) r3 p3 h3
theorem wt_cmp {op : CmpOp} {r : R2} {P : Bool → En → Prop} (hop : ∀ X, Has S X → OpR X (compareOp op) r) (hm : behindInMarks op b = false) (h : WpD S a E fun d1 E1 => WpD S b E1 fun d2 E2 => ∃ t, OpD S r d1 d2 (.bool t) ∧ P t E2) : WpT S (.Compare a [op] [b] pos) E P := fun X hX F s R H r0 Q k => by
  refine ⟨_, pt_cmpR (hop X hX) pe_rd pe_rd hm, ?_⟩
  refine h X hX F s R H r0 _ fun v1 d1 E1 R1 H1 s1 r1 p1 h1 => ?_
  refine h1 X hX F s R1 H1 r1 _ fun v2 d2 E2 R2 H2 s2 r2 p2 ⟨d, h2, h3⟩ => ?_
  refine h2 F s E2 R2 H2 v1 v2 r2 (dp_mono s2 _ _ p1) p2 _ fun v R' H' s3 r3 p3 => ?_
  cases p3
  exact ⟨d, rfl, k d E2 R' H' ((s1.trans s2).trans s3) r3 h3⟩
/-- ints compared -/
def cmpI : CmpOp → Int → Int → Bool
  | .Lt, i, j => decide (i < j)
  | .LtE, i, j => decide (i ≤ j)
  | .Gt, i, j => decide (j < i)
  | .GtE, i, j => decide (j ≤ i)
  | _, _, _ => false
def ordOp : CmpOp → Bool
  | .Lt | .LtE | .Gt | .GtE => true
  | _ => false
theorem op_ord {X : Cx} {op : CmpOp} (h : ordOp op = true) : OpR X (compareOp op) (rI0 fun i j => .bl (cmpI op i j)) := by
  cases op with
  | Lt => exact op_lt
  | LtE => exact op_le
  | Gt => exact op_gt
  | GtE => exact op_ge
  | _ => cases h
theorem mark_ord {op : CmpOp} (h : ordOp op = true) (b : Expr) : behindInMarks op b = false := by
  cases op <;> first | exact nomark _ | cases h
theorem wd_ord {op : CmpOp} (h : WpD S a E fun d1 E1 => WpD S b E1 fun d2 E2 => ∃ i j, d1 = .int i ∧ d2 = .int j ∧ P (.bool (cmpI op i j)) E2) (ho : ordOp op = true := by rfl) : WpD S (.Compare a [op] [b] pos) E P :=
  wd_cmp (fun _ _ => op_ord ho) (mark_ord ho b) (h.mono fun _ _ h => h.mono fun _ _ ⟨i, j, h1, h2, h3⟩ => ⟨_, by subst h1 h2; exact opd_i0 fun _ => .bl _, h3⟩)
theorem wt_ord {op : CmpOp} {P : Bool → En → Prop} (h : WpD S a E fun d1 E1 => WpD S b E1 fun d2 E2 => ∃ i j, d1 = .int i ∧ d2 = .int j ∧ P (cmpI op i j) E2) (ho : ordOp op = true := by rfl) : WpT S (.Compare a [op] [b] pos) E P :=
  wt_cmp (fun _ _ => op_ord ho) (mark_ord ho b) (h.mono fun _ _ h => h.mono fun _ _ ⟨i, j, h1, h2, h3⟩ => ⟨_, by subst h1 h2; exact opd_i0 fun _ => .bl _, h3⟩)
/-- plain things compared by ==, != -/
def scalD : D → D → Bool
  | .none, .none => true
  | .none, .int _ => true
  | .int _, .none => true
  | .none, .bool _ => true
  | .bool _, .none => true
  | .none, .str _ => true
  | .str _, .none => true
  | .int _, .int _ => true
  | .bool _, .bool _ => true
  | .str _, .str _ => true
  | .int _, .str _ => true
  | .str _, .int _ => true
  | .bool _, .str _ => true
  | .str _, .bool _ => true
  | _, _ => false
def sameD : D → D → Bool
  | .none, .none => true
  | .int i, .int j => decide (i = j)
  | .bool i, .bool j => decide (i = j)
  | .str i, .str j => decide (i = j)
  | _, _ => false
theorem scal_same {K : PySem.W.Frag} {R : Hp} {d1 d2 : D} {v1 v2 : V} (p1 : Dp K R v1 d1) (p2 : Dp K R v2 d2) (h : scalD d1 d2 = true) : scal v1 v2 = true ∧ decide (v1 = v2) = sameD d1 d2 := by
  cases p1 <;> cases p2 <;> first | exact ⟨rfl, by simp [sameD]⟩ | cases h
theorem opd_eq {d1 d2 : D} (h : scalD d1 d2 = true) : OpD S rEq d1 d2 (.bool (sameD d1 d2)) := fun F s E R H v1 v2 r p1 p2 Q k => by
  obtain ⟨h1, h2⟩ := scal_same p1 p2 h
  exact ⟨h1, by rw [h2]; exact k _ R H (Same.refl _) r (.bl _)⟩
theorem opd_ne {d1 d2 : D} (h : scalD d1 d2 = true) : OpD S rNe d1 d2 (.bool (!sameD d1 d2)) := fun F s E R H v1 v2 r p1 p2 Q k => by
  obtain ⟨h1, h2⟩ := scal_same p1 p2 h
  exact ⟨h1, by rw [h2]; exact k _ R H (Same.refl _) r (.bl _)⟩
theorem wd_eq (h : WpD S a E fun d1 E1 => WpD S b E1 fun d2 E2 => scalD d1 d2 = true ∧ P (.bool (sameD d1 d2)) E2) : WpD S (.Compare a [.Eq] [b] pos) E P :=
  wd_cmp (fun _ _ => op_eq) (nomark _) (h.mono fun _ _ h => h.mono fun _ _ ⟨h1, h2⟩ => ⟨_, opd_eq h1, h2⟩)
theorem wd_ne (h : WpD S a E fun d1 E1 => WpD S b E1 fun d2 E2 => scalD d1 d2 = true ∧ P (.bool (!sameD d1 d2)) E2) : WpD S (.Compare a [.NotEq] [b] pos) E P :=
  wd_cmp (fun _ _ => op_ne) (nomark _) (h.mono fun _ _ h => h.mono fun _ _ ⟨h1, h2⟩ => ⟨_, opd_ne h1, h2⟩)
theorem wt_eq {P : Bool → En → Prop} (h : WpD S a E fun d1 E1 => WpD S b E1 fun d2 E2 => scalD d1 d2 = true ∧ P (sameD d1 d2) E2) : WpT S (.Compare a [.Eq] [b] pos) E P :=
  wt_cmp (fun _ _ => op_eq) (nomark _) (h.mono fun _ _ h => h.mono fun _ _ ⟨h1, h2⟩ => ⟨_, opd_eq h1, h2⟩)
theorem wt_ne {P : Bool → En → Prop} (h : WpD S a E fun d1 E1 => WpD S b E1 fun d2 E2 => scalD d1 d2 = true ∧ P (!sameD d1 d2) E2) : WpT S (.Compare a [.NotEq] [b] pos) E P :=
  wt_cmp (fun _ _ => op_ne) (nomark _) (h.mono fun _ _ h => h.mono fun _ _ ⟨h1, h2⟩ => ⟨_, opd_ne h1, h2⟩)
/-- is None -/
def isNo : D → Bool
  | .none => true
  | _ => false
theorem wt_isN {P : Bool → En → Prop} {j p'} (h : WpD S a E fun d E1 => P (isNo d) E1) : WpT S (.Compare a [.Is] [.Constant .none j p'] pos) E P := fun X hX F s R H r0 Q k => by
  refine ⟨_, pt_cmpR op_isN pe_rd pe_non (nomark _), ?_⟩
  refine h X hX F s R H r0 _ fun v1 d1 E1 R1 H1 s1 r1 p1 h1 => ?_
  have e : decide (v1 = V.non) = isNo d1 := by cases p1 <;> simp [isNo]
  exact ⟨rfl, isNo d1, by rw [e], k _ E1 R1 H1 s1 r1 h1⟩

/-! ### tests -/
def plainT (e : Expr) : Prop := ∀ (env : Env) (whole : Sem Value), isTrue e env whole = (do let v ← whole; standAt e.pos; holding [v] (truthy v))
theorem wt_val {P : Bool → En → Prop} (h : WpD S e E fun d E1 => ∃ t, d = .bool t ∧ P t E1) (he : plainT e := by intro _ _; rfl) : WpT S e E P := fun X hX F s R H r0 Q k => by
  refine ⟨_, pt_val pe_rd (he _), ?_⟩
  refine h X hX F s R H r0 _ fun v1 d1 E1 R1 H1 s1 r1 p1 ⟨t, ht, h1⟩ => ?_
  subst ht
  cases p1
  exact ⟨t, rfl, k t E1 R1 H1 s1 r1 h1⟩
theorem wt_not {P : Bool → En → Prop} (h : WpT S a E fun t E1 => P (!t) E1) : WpT S (.UnaryOp .Not a pos) E P := fun X hX F s R H r0 Q k => by
  refine ⟨_, pt_not pt_rd, ?_⟩
  exact h X hX F s R H r0 _ fun t E1 R1 H1 s1 r1 h1 => k _ E1 R1 H1 s1 r1 h1
def RdW (X : Cx) (e : Expr) : TT := fun s H Q => ∃ t, PW X e t ∧ t s H Q
theorem pw_rd {X : Cx} {e : Expr} : PW X e (RdW X e) := ⟨fun wh pins s σ H Q I ⟨_, ht, q⟩ => ht.run wh pins s σ H Q I q⟩
def WpW (S : Sx) (e : Expr) (E : En) (P : Bool → En → Prop) : Prop :=
  ∀ X, Has S X → ∀ F s R H, Rel S.K F s E R H → ∀ Q : Bool → Hp → Prop,
    (∀ b E' R' H', Same R R' → Rel S.K F s E' R' H' → P b E' → Q b H') → RdW X e s H Q
theorem WpW.t {P : Bool → En → Prop} (h : WpW S e E P) : WpT S e E P := fun X hX F s R H r0 Q k => by
  obtain ⟨t, h1, h2⟩ := h X hX F s R H r0 Q k
  exact ⟨t, h1.pt, h2⟩
variable {rest : List Expr}
theorem ww_and1 {P : Bool → En → Prop} (h : WpT S a E P) : WpW S (.BoolOp .And [a] pos) E P := fun X hX F s R H r0 Q k => ⟨_, pw_and1 pt_rd, h X hX F s R H r0 Q k⟩
theorem ww_or1 {P : Bool → En → Prop} (h : WpT S a E P) : WpW S (.BoolOp .Or [a] pos) E P := fun X hX F s R H r0 Q k => ⟨_, pw_or1 pt_rd, h X hX F s R H r0 Q k⟩
theorem ww_and {P : Bool → En → Prop} (h : WpT S a E fun t E1 => (t = true → WpW S (.BoolOp .And (b :: rest) pos) E1 P) ∧ (t = false → P false E1)) : WpW S (.BoolOp .And (a :: b :: rest) pos) E P := fun X hX F s R H r0 Q k => by
  refine ⟨_, pw_and pt_rd pw_rd, ?_⟩
  refine h X hX F s R H r0 _ fun t E1 R1 H1 s1 r1 ⟨h1, h2⟩ => ?_
  cases t with
  | true =>
    rw [if_pos rfl]
    exact h1 rfl X hX F s R1 H1 r1 Q fun b E2 R2 H2 s2 r2 h3 => k b E2 R2 H2 (s1.trans s2) r2 h3
  | false =>
    rw [if_neg Bool.false_ne_true]
    exact k false E1 R1 H1 s1 r1 (h2 rfl)
theorem ww_or {P : Bool → En → Prop} (h : WpT S a E fun t E1 => (t = true → P true E1) ∧ (t = false → WpW S (.BoolOp .Or (b :: rest) pos) E1 P)) : WpW S (.BoolOp .Or (a :: b :: rest) pos) E P := fun X hX F s R H r0 Q k => by
  refine ⟨_, pw_or pt_rd pw_rd, ?_⟩
  refine h X hX F s R H r0 _ fun t E1 R1 H1 s1 r1 ⟨h1, h2⟩ => ?_
  cases t with
  | true =>
    rw [if_pos rfl]
    exact k true E1 R1 H1 s1 r1 (h1 rfl)
  | false =>
    rw [if_neg Bool.false_ne_true]
    exact h2 rfl X hX F s R1 H1 r1 Q fun b E2 R2 H2 s2 r2 h3 => k b E2 R2 H2 (s1.trans s2) r2 h3
/-- and, or, not as values -/
theorem wd_one {op} (h : WpD S a E P) : WpD S (.BoolOp op [a] pos) E P := fun X hX F s R H r0 Q k => ⟨_, pe_one pe_rd, h X hX F s R H r0 Q k⟩
theorem wd_and (h : WpD S a E fun d E1 => ∃ t, d = .bool t ∧ (t = true → WpD S (.BoolOp .And (b :: rest) pos) E1 P) ∧ (t = false → P (.bool false) E1)) : WpD S (.BoolOp .And (a :: b :: rest) pos) E P := fun X hX F s R H r0 Q k => by
  refine ⟨_, pe_and pe_rd pe_rd, ?_⟩
  refine h X hX F s R H r0 _ fun v d E1 R1 H1 s1 r1 p1 ⟨t, ht, h1, h2⟩ => ?_
  subst ht
  cases p1
  refine ⟨t, rfl, ?_⟩
  cases t with
  | true =>
    rw [if_pos rfl]
    exact h1 rfl X hX F s R1 H1 r1 Q fun v b E2 R2 H2 s2 r2 p2 h3 => k v b E2 R2 H2 (s1.trans s2) r2 p2 h3
  | false =>
    rw [if_neg Bool.false_ne_true]
    exact k _ _ E1 R1 H1 s1 r1 (.bl _) (h2 rfl)
theorem wd_or (h : WpD S a E fun d E1 => ∃ t, d = .bool t ∧ (t = true → P (.bool true) E1) ∧ (t = false → WpD S (.BoolOp .Or (b :: rest) pos) E1 P)) : WpD S (.BoolOp .Or (a :: b :: rest) pos) E P := fun X hX F s R H r0 Q k => by
  refine ⟨_, pe_or pe_rd pe_rd, ?_⟩
  refine h X hX F s R H r0 _ fun v d E1 R1 H1 s1 r1 p1 ⟨t, ht, h1, h2⟩ => ?_
  subst ht
  cases p1
  refine ⟨t, rfl, ?_⟩
  cases t with
  | true =>
    rw [if_pos rfl]
    exact k _ _ E1 R1 H1 s1 r1 (.bl _) (h1 rfl)
  | false =>
    rw [if_neg Bool.false_ne_true]
    exact h2 rfl X hX F s R1 H1 r1 Q fun v b E2 R2 H2 s2 r2 p2 h3 => k v b E2 R2 H2 (s1.trans s2) r2 p2 h3
theorem wd_not (h : WpD S a E fun d E1 => ∃ t, d = .bool t ∧ P (.bool (!t)) E1) : WpD S (.UnaryOp .Not a pos) E P := fun X hX F s R H r0 Q k => by
  refine ⟨_, pe_not pe_rd, ?_⟩
  refine h X hX F s R H r0 _ fun v d E1 R1 H1 s1 r1 p1 ⟨t, ht, h1⟩ => ?_
  subst ht
  cases p1
  exact ⟨t, rfl, k _ _ E1 R1 H1 s1 r1 (.bl _) h1⟩
/-- a if t else b -/
theorem wp_if {P : Sl → En → Prop} (h : WpT S c E fun t E1 => (t = true → Wp S a E1 P) ∧ (t = false → Wp S b E1 P)) : Wp S (.IfExp c a b pos) E P := fun X hX F s R H r0 Q k => by
  refine ⟨_, pe_ifExp pt_rd pe_rd pe_rd, ?_⟩
  refine h X hX F s R H r0 _ fun t E1 R1 H1 s1 r1 ⟨h1, h2⟩ => ?_
  cases t with
  | true =>
    rw [if_pos rfl]
    exact h1 rfl X hX F s R1 H1 r1 Q fun v b E2 R2 H2 s2 r2 p2 h3 => k v b E2 R2 H2 (s1.trans s2) r2 p2 h3
  | false =>
    rw [if_neg Bool.false_ne_true]
    exact h2 rfl X hX F s R1 H1 r1 Q fun v b E2 R2 H2 s2 r2 p2 h3 => k v b E2 R2 H2 (s1.trans s2) r2 p2 h3
theorem wd_if (h : WpT S c E fun t E1 => (t = true → WpD S a E1 P) ∧ (t = false → WpD S b E1 P)) : WpD S (.IfExp c a b pos) E P := fun X hX F s R H r0 Q k => by
  refine ⟨_, pe_ifExp pt_rd pe_rd pe_rd, ?_⟩
  refine h X hX F s R H r0 _ fun t E1 R1 H1 s1 r1 ⟨h1, h2⟩ => ?_
  cases t with
  | true =>
    rw [if_pos rfl]
    exact h1 rfl X hX F s R1 H1 r1 Q fun v b E2 R2 H2 s2 r2 p2 h3 => k v b E2 R2 H2 (s1.trans s2) r2 p2 h3
  | false =>
    rw [if_neg Bool.false_ne_true]
    exact h2 rfl X hX F s R1 H1 r1 Q fun v b E2 R2 H2 s2 r2 p2 h3 => k v b E2 R2 H2 (s1.trans s2) r2 p2 h3

/-! ### displays -/
theorem own_no {K : PySem.W.Frag} {F : Fx} {s : St} {E : En} {R H : Hp} (r : Rel K F s E R H) {p : Addr} (h : H p = none) : ∀ (i : Nat) (d : D), E[i]? = some (Sl.own d) → s[i]? ≠ some (some (V.ref p)) := fun i d e z => by
  obtain ⟨a, h1, h2, h3, h4⟩ := r.own i d e
  rw [h1] at z
  cases z
  obtain ⟨o, ho⟩ := h3.some
  rw [h] at ho
  cases ho
theorem wd_tup {x1} (h : WpA S es E fun ds E1 => ds.length ≤ 1000 ∧ P (.tuple ds) E1) : WpD S (.Tuple es x1 pos) E P := fun X hX F s R H r0 Q k => by
  refine ⟨_, pe_tup pa_rd, ?_⟩
  refine h X hX F s R H r0 _ fun vs ds E1 R1 H1 s1 r1 p1 ⟨hl, h1⟩ => ?_
  refine ⟨Nat.le_trans (by rw [dpAll_len p1]; exact hl) (by decide : 1000 ≤ sizeLine), fun p hp => ?_⟩
  refine k _ _ E1 (upd R1 p (.tup vs)) _ (s1.trans (same_upd (r1.freeR hp))) (r1.growR hp) (.tup (SqT.of upd_same) (dpAll_mono (same_upd (r1.freeR hp)) _ _ p1)) h1
theorem wp_lst {P : Sl → En → Prop} (h : WpA S es E fun ds E1 => ds.length ≤ 1000 ∧ P (.own (.list ds)) E1) : Wp S (.List es pos) E P := fun X hX F s R H r0 Q k => by
  refine ⟨_, pe_lst pa_rd, ?_⟩
  refine h X hX F s R H r0 _ fun vs ds E1 R1 H1 s1 r1 p1 ⟨hl, h1⟩ => ?_
  refine ⟨Nat.le_trans (by rw [dpAll_len p1]; exact hl) (by decide : 1000 ≤ sizeLine), fun p hp => ?_⟩
  exact k _ (.own (.list ds)) E1 R1 _ s1 (r1.grow hp) ⟨p, rfl, r1.freeR hp, ⟨vs, upd_same, p1⟩, r1.free0 hp, own_no r1 hp⟩ h1
end
end Wq
set_option maxHeartbeats 1000000
namespace Wq
open PySem L2

/-! ### slots set -/
section
variable {K : PySem.W.Frag} {F : Fx} {s : St} {E : En} {R H : Hp}
theorem get_set {α : Type} {l : List α} {i j : Nat} {x y : α} (h : (l.set i x)[j]? = some y) : (i = j ∧ x = y) ∨ (i ≠ j ∧ l[j]? = some y) := by
  rw [List.getElem?_set] at h
  split at h
  · split at h
    · cases h; exact .inl ⟨by assumption, rfl⟩
    · cases h
  · exact .inr ⟨by assumption, h⟩
theorem set_ne {α : Type} {l : List α} {i j : Nat} {x : α} (h : i ≠ j) : (l.set i x)[j]? = l[j]? := List.getElem?_set_ne h
theorem Rel.setDat (r : Rel K F s E R H) {i : Nat} {v : V} {d : D} (hi : i < E.length) (hg : ∀ p ∈ F.g, p.1 ≠ i) (h : Dp K R v d) : Rel K F (s.set i (some v)) (E.set i (.dat d)) R H where
  len := by rw [List.length_set, List.length_set, r.len]
  sub := r.sub
  sub0 := r.sub0
  keep := r.keep
  new := r.new
  giv := fun p hp => by
    have q := r.giv p hp
    rw [set_ne (hg p hp).symm, set_ne (hg p hp).symm]
    exact q
  dat := fun j d' e => by
    rcases get_set e with ⟨rfl, e1⟩ | ⟨hn, e1⟩
    · cases e1
      exact ⟨v, by rw [List.getElem?_set_self (by rw [← r.len]; exact hi)], h⟩
    · obtain ⟨u, h1, h2⟩ := r.dat j d' e1
      exact ⟨u, by rw [set_ne hn]; exact h1, h2⟩
  own := fun j d' e => by
    rcases get_set e with ⟨rfl, e1⟩ | ⟨hn, e1⟩
    · cases e1
    · obtain ⟨a, h1, h2⟩ := r.own j d' e1
      exact ⟨a, by rw [set_ne hn]; exact h1, h2⟩
  inj := fun j k d1 d2 a e1 e2 h1 h2 => by
    rcases get_set e1 with ⟨rfl, e⟩ | ⟨n1, e1⟩
    · cases e
    rcases get_set e2 with ⟨rfl, e⟩ | ⟨n2, e2⟩
    · cases e
    rw [set_ne n1] at h1
    rw [set_ne n2] at h2
    exact r.inj j k d1 d2 a e1 e2 h1 h2
theorem Rel.setOwn (r : Rel K F s E R H) {i : Nat} {a : Addr} {d : D} (hi : i < E.length) (hg : ∀ p ∈ F.g, p.1 ≠ i) (h : RsOk K F s E R H (.ref a) (.own d)) : Rel K F (s.set i (some (.ref a))) (E.set i (.own d)) R H := by
  obtain ⟨a', ea, hR, hO, h0, hn⟩ := h
  cases ea
  exact {
    len := by rw [List.length_set, List.length_set, r.len]
    sub := r.sub
    sub0 := r.sub0
    keep := r.keep
    new := r.new
    giv := fun p hp => by
      have q := r.giv p hp
      rw [set_ne (hg p hp).symm, set_ne (hg p hp).symm]
      exact q
    dat := fun j d' e => by
      rcases get_set e with ⟨rfl, e1⟩ | ⟨hn, e1⟩
      · cases e1
      · obtain ⟨u, h1, h2⟩ := r.dat j d' e1
        exact ⟨u, by rw [set_ne hn]; exact h1, h2⟩
    own := fun j d' e => by
      rcases get_set e with ⟨rfl, e1⟩ | ⟨hn, e1⟩
      · cases e1
        exact ⟨a, by rw [List.getElem?_set_self (by rw [← r.len]; exact hi)], hR, hO, .inl h0⟩
      · obtain ⟨b, h1, h2⟩ := r.own j d' e1
        exact ⟨b, by rw [set_ne hn]; exact h1, h2⟩
    inj := fun j k d1 d2 b e1 e2 h1 h2 => by
      rcases get_set e1 with ⟨rfl, _⟩ | ⟨n1, e1⟩
      · rcases get_set e2 with ⟨rfl, _⟩ | ⟨n2, e2⟩
        · rfl
        · rw [set_ne n2] at h2
          rw [List.getElem?_set_self (by rw [← r.len]; exact hi)] at h1
          cases h1
          exact absurd h2 (hn k d2 e2)
      · rcases get_set e2 with ⟨rfl, _⟩ | ⟨n2, e2⟩
        · rw [set_ne n1] at h1
          rw [List.getElem?_set_self (by rw [← r.len]; exact hi)] at h2
          cases h2
          exact absurd h1 (hn j d1 e1)
        · rw [set_ne n1] at h1
          rw [set_ne n2] at h2
          exact r.inj j k d1 d2 b e1 e2 h1 h2 }
theorem Rel.setNo (r : Rel K F s E R H) {i : Nat} {o : Option V} (hg : ∀ p ∈ F.g, p.1 ≠ i) : Rel K F (s.set i o) (E.set i .no) R H where
  len := by rw [List.length_set, List.length_set, r.len]
  sub := r.sub
  sub0 := r.sub0
  keep := r.keep
  new := r.new
  giv := fun p hp => by
    have q := r.giv p hp
    rw [set_ne (hg p hp).symm, set_ne (hg p hp).symm]
    exact q
  dat := fun j d' e => by
    rcases get_set e with ⟨rfl, e1⟩ | ⟨hn, e1⟩
    · cases e1
    · obtain ⟨u, h1, h2⟩ := r.dat j d' e1
      exact ⟨u, by rw [set_ne hn]; exact h1, h2⟩
  own := fun j d' e => by
    rcases get_set e with ⟨rfl, e1⟩ | ⟨hn, e1⟩
    · cases e1
    · obtain ⟨a, h1, h2⟩ := r.own j d' e1
      exact ⟨a, by rw [set_ne hn]; exact h1, h2⟩
  inj := fun j k d1 d2 a e1 e2 h1 h2 => by
    rcases get_set e1 with ⟨rfl, e⟩ | ⟨n1, e1⟩
    · cases e
    rcases get_set e2 with ⟨rfl, e⟩ | ⟨n2, e2⟩
    · cases e
    rw [set_ne n1] at h1
    rw [set_ne n2] at h2
    exact r.inj j k d1 d2 a e1 e2 h1 h2
theorem Rel.noGiv (r : Rel K F s E R H) {i : Nat} (h : ∀ d, E[i]? ≠ some (Sl.own d)) : ∀ p ∈ F.g, p.1 ≠ i := fun p hp e => by
  obtain ⟨_, d, h1⟩ := r.giv p hp
  rw [e] at h1
  exact h d h1
/-- the slot's value may be anything where nothing is said of it -/
theorem Rel.anyNo (r : Rel K F s E R H) {i : Nat} {o : Option V} (h : E[i]? = some Sl.no) : Rel K F (s.set i o) E R H := by
  have q := r.setNo (i := i) (o := o) (r.noGiv fun d z => by rw [h] at z; cases z)
  have e : E.set i .no = E := by
    apply List.ext_getElem?
    intro j
    rw [List.getElem?_set]
    split
    · rename_i hj
      subst hj
      split
      · exact h.symm
      · rename_i hl
        rw [List.getElem?_eq_none (by omega)] at h
        cases h
    · rfl
  rw [e] at q
  exact q
/-- an owned list is written -/
theorem Rel.write (r : Rel K F s E R H) {i : Nat} {a : Addr} {d d' : D} {vs : List V} {ds : List D} (hE : E[i]? = some (.own d)) (ha : s[i]? = some (some (.ref a))) (hd : d' = .list ds) (hv : DpAll K R vs ds) : Rel K F s (E.set i (.own d')) R (upd H a (.lst vs)) := by
  have hiE : i < E.length := (List.getElem?_eq_some_iff.mp hE).1
  obtain ⟨a', ha', hR, hO, hg⟩ := r.own i d hE
  rw [ha] at ha'
  cases ha'
  obtain ⟨o, hH⟩ := hO.some
  exact {
    len := by rw [List.length_set, r.len]
    sub := fun b u q => by
      rw [upd_ne (ne_of_none q hR)]
      exact r.sub b u q
    sub0 := r.sub0
    keep := fun b u q hb => by
      have hn : b ≠ a := fun z => by
        subst z
        rcases hg with h0 | h0
        · rw [h0] at q; cases q
        · exact hb _ h0 rfl
      rw [upd_ne hn]
      exact r.keep b u q hb
    new := r.new
    giv := fun p hp => by
      obtain ⟨h1, d1, h2⟩ := r.giv p hp
      refine ⟨h1, ?_⟩
      by_cases hi : i = p.1
      · exact ⟨d', by rw [hi, List.getElem?_set_self (by rw [← hi]; exact hiE)]⟩
      · exact ⟨d1, by rw [set_ne hi]; exact h2⟩
    dat := fun j d1 e => by
      rcases get_set e with ⟨rfl, e1⟩ | ⟨hn, e1⟩
      · cases e1
      · exact r.dat j d1 e1
    own := fun j d1 e => by
      rcases get_set e with ⟨rfl, e1⟩ | ⟨hn, e1⟩
      · cases e1
        exact ⟨a, ha, hR, by rw [hd]; exact ⟨vs, upd_same, hv⟩, hg⟩
      · obtain ⟨b, h1, h2, h3, h4⟩ := r.own j d1 e1
        refine ⟨b, h1, h2, h3.mono (Same.refl _) (upd_ne fun z => ?_), h4⟩
        subst z
        exact hn (r.inj i j d d1 b hE e1 ha h1)
    inj := fun j k d1 d2 b e1 e2 h1 h2 => by
      have g : ∀ (j : Nat) (d1 : D), (E.set i (Sl.own d'))[j]? = some (Sl.own d1) → ∃ d2, E[j]? = some (Sl.own d2) := fun j d1 e => by
        rcases get_set e with ⟨rfl, _⟩ | ⟨_, e1⟩
        · exact ⟨_, hE⟩
        · exact ⟨_, e1⟩
      obtain ⟨d3, e3⟩ := g j d1 e1
      obtain ⟨d4, e4⟩ := g k d2 e2
      exact r.inj j k d3 d4 b e3 e4 h1 h2 }
/-- an owned list that isn't given becomes data -/
theorem Rel.freeze (r : Rel K F s E R H) {i : Nat} {d : D} (hE : E[i]? = some (.own d)) (hg : ∀ p ∈ F.g, p.1 ≠ i) : ∃ R', Same R R' ∧ Rel K F s (E.set i (.dat d)) R' H := by
  obtain ⟨a, ha, hR, hO, h0⟩ := r.own i d hE
  have hiE : i < E.length := (List.getElem?_eq_some_iff.mp hE).1
  have h0' : F.H0 a = none := by
    rcases h0 with h | h
    · exact h
    · exact absurd rfl (hg _ h)
  cases d with
  | list ds =>
    obtain ⟨vs, hH, hv⟩ := hO
    have r1 := r.setNo (i := i) (o := some (.ref a)) hg
    have es : s.set i (some (V.ref a)) = s := by
      apply List.ext_getElem?
      intro j
      rw [List.getElem?_set]
      split
      · rename_i hj; subst hj
        rw [if_pos (by rw [← r.len]; exact hiE)]
        exact ha.symm
      · rfl
    rw [es] at r1
    have r2 : Rel K F s (E.set i .no) (upd R a (.lst vs)) H := r1.into hH h0' (fun j d' e z => by
      rcases get_set e with ⟨_, e1⟩ | ⟨hn, e1⟩
      · cases e1
      · exact hn (r.inj i j _ d' a hE e1 ha z)) hR
    refine ⟨upd R a (.lst vs), same_upd hR, ?_⟩
    have r3 := r2.setDat (i := i) (v := .ref a) (d := .list ds) (by rw [List.length_set]; exact hiE) hg (.lst (SqL.of upd_same) (dpAll_mono (same_upd hR) _ _ hv))
    rw [es, List.set_set] at r3
    exact r3
  | _ => exact hO.elim
end

/-! ### statements -/
structure EnS where
  nx : En → Prop
  rt : Sl → En → Prop
  bk : En → Prop := fun _ => False
  ct : En → Prop := fun _ => False
structure Wish (S : Sx) (F : Fx) (R : Hp) (Z : EnS) (D : Ends) : Prop where
  nx : ∀ E' s' R' H', Same R R' → Rel S.K F s' E' R' H' → Z.nx E' → D.nx s' H'
  rt : ∀ v r E' s' R' H', Same R R' → Rel S.K F s' E' R' H' → RsOk S.K F s' E' R' H' v r → Z.rt r E' → D.rt v H'
  bk : ∀ E' s' R' H', Same R R' → Rel S.K F s' E' R' H' → Z.bk E' → D.bk s' H'
  ct : ∀ E' s' R' H', Same R R' → Rel S.K F s' E' R' H' → Z.ct E' → D.ct s' H'
theorem Wish.later {S : Sx} {F : Fx} {R R1 : Hp} {Z : EnS} {D : Ends} (h : Wish S F R Z D) (e : Same R R1) : Wish S F R1 Z D :=
  ⟨fun E' s' R' H' a => h.nx E' s' R' H' (e.trans a), fun v r E' s' R' H' a => h.rt v r E' s' R' H' (e.trans a), fun E' s' R' H' a => h.bk E' s' R' H' (e.trans a), fun E' s' R' H' a => h.ct E' s' R' H' (e.trans a)⟩
def WpS (S : Sx) (G : List Nat) (st : Stmt) (E : En) (Z : EnS) : Prop := ∀ X, Has S X → ∀ F s R H, F.g.map (·.1) = G → Rel S.K F s E R H → ∀ D : Ends, Wish S F R Z D → RdS X st D s H
def WpSs (S : Sx) (G : List Nat) (sts : List Stmt) (E : En) (Z : EnS) : Prop := ∀ X, Has S X → ∀ F s R H, F.g.map (·.1) = G → Rel S.K F s E R H → ∀ D : Ends, Wish S F R Z D → RdSs X sts D s H
section
variable {S : Sx} {G : List Nat} {e : Expr} {es : List Expr} {E : En} {a b c : Expr} {pos : Pos} {st : Stmt} {sts : List Stmt} {Z : EnS}
theorem ss_nil (h : Z.nx E) : WpSs S G [] E Z := fun X hX F s R H hg r D W => ⟨_, pss_nil, W.nx E s R H (Same.refl _) r h⟩
theorem ss_cons (h : WpS S G st E { Z with nx := fun E1 => WpSs S G sts E1 Z }) : WpSs S G (st :: sts) E Z := fun X hX F s R H hg r D W => by
  refine ⟨_, pss_cons ps_rd pss_rd, ?_⟩
  refine h X hX F s R H hg r _ ⟨fun E' s' R' H' a r' q => ?_, W.rt, W.bk, W.ct⟩
  exact q X hX F s' R' H' hg r' D (W.later a)
theorem ss_one (h : WpS S G st E Z) : WpSs S G [st] E Z := fun X hX F s R H hg r D W => ⟨_, pss_one ps_rd, h X hX F s R H hg r D W⟩
/-- an owned list becomes data, between two statements -/
theorem ss_freeze {i : Nat} {d : D} (hE : E[i]? = some (.own d)) (hG : i ∉ G) (h : WpSs S G sts (E.set i (.dat d)) Z) : WpSs S G sts E Z := fun X hX F s R H hg r D W => by
  obtain ⟨R', a, r'⟩ := r.freeze hE fun p hp e => hG (by rw [← hg, ← e]; exact List.mem_map_of_mem hp)
  exact h X hX F s R' H hg r' D (W.later a)
theorem ss_forget {i : Nat} (hG : i ∉ G) (h : WpSs S G sts (E.set i .no) Z) : WpSs S G sts E Z := fun X hX F s R H hg r D W => by
  have r1 := r.setNo (i := i) (o := (s[i]?).getD none) fun p hp e => hG (by rw [← hg, ← e]; exact List.mem_map_of_mem hp)
  have es : s.set i ((s[i]?).getD none) = s := by
    apply List.ext_getElem?
    intro j
    rw [List.getElem?_set]
    split
    · rename_i hj; subst hj
      split
      · rename_i hl
        rw [List.getElem?_eq_getElem hl]
        rfl
      · rename_i hl
        rw [List.getElem?_eq_none (by omega)]
    · rfl
  rw [es] at r1
  exact h X hX F s R H hg r1 D W
theorem s_ret (h : Wp S e E fun r E' => Z.rt r E') : WpS S G (.Return (some e) pos) E Z := fun X hX F s R H hg r D W =>
  ⟨_, ps_ret pe_rd, h X hX F s R H r _ fun v r' E' R' H' a r1 p q => W.rt v r' E' s R' H' a r1 p q⟩
theorem s_retN (h : Z.rt (.dat .none) E) : WpS S G (.Return none pos) E Z := fun X hX F s R H hg r D W => ⟨_, ps_retN, W.rt .non (.dat .none) E s R H (Same.refl _) r .non h⟩
/-- return x, x an owned list of the def's own -/
theorem s_retOwn {x : Str} {i : Nat} {d : D} (hN : S.N[i]? = some x) (hv : Vis S.sc x) (hE : E[i]? = some (.own d)) (hG : i ∉ G) (h : Z.rt (.own d) (E.set i .no)) {p : Pos} (hd : (x == ("__debug__" : Str)) = false := by decide) (hcd : (x == ("__classdict__" : Str)) = false := by decide) :
    WpS S G (.Return (some (.Name x p)) pos) E Z := fun X hX F s R H hg r D W => by
  refine ⟨_, ps_ret (pe_var (i := i) (by rw [hX.N]; exact hN) (by rw [hX.sc]; exact hv) hd hcd), ?_⟩
  obtain ⟨a, ha, hR, hO, h0⟩ := r.own i d hE
  have hgi : ∀ p ∈ F.g, p.1 ≠ i := fun p hp e => hG (by rw [← hg, ← e]; exact List.mem_map_of_mem hp)
  refine ⟨_, ha, W.rt (.ref a) (.own d) (E.set i .no) (s.set i none) R H (Same.refl _) (r.setNo hgi) ⟨a, rfl, hR, hO, ?_, fun j d' e z => ?_⟩ h⟩
  · rcases h0 with q | q
    · exact q
    · exact absurd rfl (hgi _ q)
  · rcases get_set e with ⟨_, e1⟩ | ⟨hn, e1⟩
    · cases e1
    · rw [set_ne hn] at z
      exact hn (r.inj i j _ d' a hE e1 ha z)
theorem s_expr (h : Wp S e E fun _ E' => Z.nx E') (hs : ∀ env : Env, swapsWith e none pos.line env = pure false := by intro _; rfl) : WpS S G (.Expr e pos) E Z := fun X hX F s R H hg r D W =>
  ⟨_, ps_expr pe_rd (hs _), h X hX F s R H r _ fun v r' E' R' H' a r1 p q => W.nx E' s R' H' a r1 q⟩
theorem s_pass (h : Z.nx E) : WpS S G (.Pass pos) E Z := fun X hX F s R H hg r D W => ⟨_, ps_pass, W.nx E s R H (Same.refl _) r h⟩
theorem s_if {y n : List Stmt} (h : WpT S c E fun t E1 => (t = true → WpSs S G y E1 Z) ∧ (t = false → WpSs S G n E1 Z)) : WpS S G (.If c y n pos) E Z := fun X hX F s R H hg r D W => by
  refine ⟨_, ps_if pt_rd pss_rd pss_rd, ?_⟩
  refine h X hX F s R H r _ fun t E1 R1 H1 a r1 ⟨h1, h2⟩ => ?_
  cases t with
  | true => rw [if_pos rfl]; exact h1 rfl X hX F s R1 H1 hg r1 D (W.later a)
  | false => rw [if_neg Bool.false_ne_true]; exact h2 rfl X hX F s R1 H1 hg r1 D (W.later a)
/-- x = e -/
theorem s_set {x : Str} {i : Nat} {p : Pos} (hN : S.N[i]? = some x) (hx : Loc S.sc x) (hA : S.asg x = true) (hG : i ∉ G) (h : Wp S e E fun r E' => i < E'.length ∧ Z.nx (E'.set i r)) (hs : ∀ env : Env, swapsWith e (some (.Name x p)) pos.line env = pure false := by intro _; rfl) :
    WpS S G (.Assign [.Name x p] e pos) E Z := fun X hX F s R H hg r D W => by
  have hl : Loc X.env.scope x := by rw [hX.sc]; exact hx
  refine ⟨_, ps_set (i := i) hX.nd (by rw [hX.N]; exact hN) hl pe_rd (hs _) (hX.fnl x hA), ?_⟩
  have hgi : ∀ p ∈ F.g, p.1 ≠ i := fun p hp e => hG (by rw [← hg, ← e]; exact List.mem_map_of_mem hp)
  refine h X hX F s R H r _ fun v r' E' R' H' a r1 p q => ?_
  cases r' with
  | no => exact p.elim
  | dat d => exact W.nx _ _ R' H' a (r1.setDat q.1 hgi p) q.2
  | own d =>
    obtain ⟨b, rfl, z⟩ := id p
    exact W.nx _ _ R' H' a (r1.setOwn q.1 hgi p) q.2
end
end Wq
set_option maxHeartbeats 1000000
namespace Wq
open PySem L2

section
variable {K : PySem.W.Frag} {F : Fx} {s : St} {E : En} {R H : Hp}
/-- only what is said of matters -/
theorem Rel.cong (r : Rel K F s E R H) {s' : St} (hl : s'.length = s.length) (h : ∀ i : Nat, E[i]? = some Sl.no ∨ s'[i]? = s[i]?) : Rel K F s' E R H := by
  have g : ∀ (i : Nat), E[i]? ≠ some Sl.no → s'[i]? = s[i]? := fun i n => (h i).resolve_left n
  exact {
    len := by rw [hl, r.len]
    sub := r.sub
    sub0 := r.sub0
    keep := r.keep
    new := r.new
    giv := fun p hp => by
      obtain ⟨h1, d, h2⟩ := r.giv p hp
      exact ⟨by rw [g p.1 (by rw [h2]; exact fun z => by cases z)]; exact h1, d, h2⟩
    dat := fun i d e => by
      obtain ⟨v, h1, h2⟩ := r.dat i d e
      exact ⟨v, by rw [g i (by rw [e]; exact fun z => by cases z)]; exact h1, h2⟩
    own := fun i d e => by
      obtain ⟨v, h1, h2⟩ := r.own i d e
      exact ⟨v, by rw [g i (by rw [e]; exact fun z => by cases z)]; exact h1, h2⟩
    inj := fun i j d d' a e1 e2 h1 h2 => by
      rw [g i (by rw [e1]; exact fun z => by cases z)] at h1
      rw [g j (by rw [e2]; exact fun z => by cases z)] at h2
      exact r.inj i j d d' a e1 e2 h1 h2 }
/-- the owners -/
def owners (s : St) (E : En) : List (Nat × Addr) := (List.range E.length).filterMap fun (i : Nat) => match E[i]?, s[i]? with
  | some (Sl.own _), some (some (V.ref a)) => some (i, a)
  | _, _ => none
theorem mem_owners {i : Nat} {a : Addr} : (i, a) ∈ owners s E ↔ (∃ d, E[i]? = some (Sl.own d)) ∧ s[i]? = some (some (V.ref a)) := by
  unfold owners
  rw [List.mem_filterMap]
  constructor
  · rintro ⟨j, hj, e⟩
    split at e
    · rename_i h1 h2
      cases e
      exact ⟨⟨_, h1⟩, h2⟩
    · cases e
  · rintro ⟨⟨d, h1⟩, h2⟩
    refine ⟨i, List.mem_range.mpr (List.getElem?_eq_some_iff.mp h1).1, ?_⟩
    rw [h1, h2]
theorem Rel.nest (r : Rel K F s E R H) : Rel K ⟨H, R, owners s E⟩ s E R H where
  len := r.len
  sub := r.sub
  sub0 := Same.refl _
  keep := fun _ _ e _ => e
  new := fun a o e => .inl ⟨o, e⟩
  giv := fun p hp => by
    obtain ⟨h1, h2⟩ := mem_owners.mp hp
    exact ⟨h2, h1⟩
  dat := r.dat
  own := fun i d e => by
    obtain ⟨a, h1, h2, h3, h4⟩ := r.own i d e
    exact ⟨a, h1, h2, h3, .inr (mem_owners.mpr ⟨⟨d, e⟩, h1⟩)⟩
  inj := r.inj
theorem Rel.unnest (r : Rel K F s E R H) {s' : St} {E' : En} {R' H' : Hp} (q : Rel K ⟨H, R, owners s E⟩ s' E' R' H') : Rel K F s' E' R' H' where
  len := q.len
  sub := q.sub
  sub0 := r.sub0.trans q.sub0
  keep := fun a o e hg => by
    refine q.keep a o (r.keep a o e hg) fun p hp z => ?_
    obtain ⟨⟨d, h1⟩, h2⟩ := mem_owners.mp hp
    obtain ⟨a', h3, h4, h5, h6⟩ := r.own _ _ h1
    rw [h2] at h3
    cases h3
    rcases h6 with h6 | h6
    · rw [z, e] at h6; cases h6
    · exact hg _ h6 z
  new := fun a o e => by
    rcases q.new a o e with ⟨o', h⟩ | h
    · exact r.new a o' h
    · exact .inr (r.free0 h)
  giv := fun p hp => by
    obtain ⟨h1, h2⟩ := r.giv p hp
    exact q.giv p (mem_owners.mpr ⟨h2, h1⟩)
  dat := q.dat
  own := fun i d e => by
    obtain ⟨a, h1, h2, h3, h4⟩ := q.own i d e
    refine ⟨a, h1, h2, h3, ?_⟩
    rcases h4 with h4 | h4
    · exact .inl (r.free0 h4)
    · obtain ⟨⟨d1, k1⟩, k2⟩ := mem_owners.mp h4
      obtain ⟨a', h3, _, _, h6⟩ := r.own _ _ k1
      rw [k2] at h3
      cases h3
      exact h6
  inj := q.inj
/-- an object that is nobody's is written -/
theorem Rel.other (r : Rel K F s E R H) {p : Addr} {o : HO} (hR : R p = none) (h0 : F.H0 p = none) (hn : ∀ (i : Nat) (d : D), E[i]? = some (Sl.own d) → s[i]? ≠ some (some (V.ref p))) : Rel K F s E R (upd H p o) where
  len := r.len
  sub := fun a u q => by rw [upd_ne (ne_of_none q hR)]; exact r.sub a u q
  sub0 := r.sub0
  keep := fun a u e hg => by rw [upd_ne (ne_of_none e h0)]; exact r.keep a u e hg
  new := r.new
  giv := r.giv
  dat := r.dat
  own := fun i d e => by
    obtain ⟨a, h1, h2, h3, h4⟩ := r.own i d e
    exact ⟨a, h1, h2, h3.mono (Same.refl _) (upd_ne fun z => hn i d e (by rw [h1, z])), h4⟩
  inj := r.inj
def wipeE (E : En) : List Nat → En
  | [] => E
  | v :: vs => (wipeE E vs).set v .no
theorem Rel.wipe (r : Rel K F s E R H) : ∀ (vs : List Nat), (∀ i ∈ vs, ∀ d, E[i]? ≠ some (Sl.own d)) → Rel K F (L2.wipe s vs) (wipeE E vs) R H
  | [], _ => r
  | v :: vs, h => by
    have q := Rel.wipe r vs fun i hi => h i (List.mem_cons_of_mem _ hi)
    exact q.setNo (r.noGiv (h v List.mem_cons_self))
theorem wipe_get : ∀ {s : St} {vs : List Nat} {j : Nat}, j ∉ vs → (L2.wipe s vs)[j]? = s[j]?
  | s, [], j, _ => rfl
  | s, v :: vs, j, h => by
    unfold L2.wipe
    rw [set_ne (fun z => h (by rw [z]; exact List.mem_cons_self)), wipe_get fun z => h (List.mem_cons_of_mem _ z)]
theorem wipe_in : ∀ {s : St} {vs : List Nat} {j : Nat}, j ∈ vs → j < s.length → (L2.wipe s vs)[j]? = some none
  | s, v :: vs, j, h, hl => by
    unfold L2.wipe
    by_cases e : v = j
    · subst e
      rw [List.getElem?_set_self (by rw [wipe_length]; exact hl)]
    · rw [set_ne e]
      exact wipe_in ((List.mem_cons.mp h).resolve_left fun z => e z.symm) hl
theorem wipe_eq {s s' : St} {vs : List Nat} (hl : s'.length = s.length) (h : ∀ j, j ∉ vs → s'[j]? = s[j]?) : L2.wipe s' vs = L2.wipe s vs := by
  apply List.ext_getElem?
  intro j
  by_cases hj : j ∈ vs
  · by_cases hlt : j < s.length
    · rw [wipe_in hj hlt, wipe_in hj (by omega)]
    · rw [List.getElem?_eq_none (by rw [wipe_length]; omega), List.getElem?_eq_none (by rw [wipe_length]; omega)]
  · rw [wipe_get hj, wipe_get hj, h j hj]
theorem wipeE_len : ∀ (vs : List Nat), (wipeE E vs).length = E.length
  | [] => rfl
  | v :: vs => by unfold wipeE; rw [List.length_set, wipeE_len vs]
theorem wipeE_in : ∀ {vs : List Nat} {j : Nat}, j ∈ vs → j < E.length → (wipeE E vs)[j]? = some Sl.no
  | v :: vs, j, h, hl => by
    unfold wipeE
    by_cases e : v = j
    · subst e
      rw [List.getElem?_set_self (by rw [wipeE_len]; exact hl)]
    · rw [set_ne e]
      exact wipeE_in ((List.mem_cons.mp h).resolve_left fun z => e z.symm) hl
end

/-! ### targets -/
def RdG (X : Cx) (tg : Expr) : TG := fun v s H Q => ∃ t, PG X tg t ∧ t v s H Q
theorem pg_rd {X : Cx} {tg : Expr} : PG X tg (RdG X tg) := ⟨fun pins s σ H v u Q I r ⟨_, ht, q⟩ => ht.run pins s σ H v u Q I r q⟩
def WpG (S : Sx) (vs : List Nat) (tg : Expr) (d : D) (E : En) (P : En → Prop) : Prop := ∀ X, Has S X → ∀ F s R H v, Rel S.K F s E R H → Dp S.K R v d → ∀ Q : St → Hp → Prop,
  (∀ s' E', s'.length = s.length → (∀ j, j ∉ vs → s'[j]? = s[j]?) → Rel S.K F s' E' R H → P E' → Q s' H) → RdG X tg v s H Q
def notOwn (E : En) (i : Nat) : Prop := ∃ q, E[i]? = some q ∧ ∀ d, q ≠ Sl.own d
section
variable {S : Sx} {vs : List Nat} {e : Expr} {es : List Expr} {E : En} {a b c : Expr} {pos : Pos}
theorem g_name {x : Str} {i : Nat} {d : D} {P : En → Prop} (hN : S.N[i]? = some x) (hx : Loc S.sc x) (hA : S.asg x = true) (hi : i ∈ vs) (hE : notOwn E i) (h : P (E.set i (.dat d))) : WpG S vs (.Name x pos) d E P := fun X hX F s R H v r p Q k => by
  refine ⟨_, pg_name (i := i) hX.nd (by rw [hX.N]; exact hN) (by rw [hX.sc]; exact hx) (hX.fnl x hA), ?_⟩
  obtain ⟨q, hq, hn⟩ := hE
  refine k _ _ (List.length_set ..) (fun j hj => set_ne fun z => hj (by rw [← z]; exact hi)) (r.setDat (List.getElem?_eq_some_iff.mp hq).1 (r.noGiv fun d z => ?_) p) h
  rw [hq] at z
  exact hn d (Option.some.inj z)
theorem g_two {x y : Str} {i j : Nat} {d1 d2 : D} {k} {p1 p2 : Pos} {P : En → Prop} (hN : S.N[i]? = some x) (hx : Loc S.sc x) (hA : S.asg x = true) (hi : i ∈ vs) (hE : notOwn E i) (hN' : S.N[j]? = some y) (hx' : Loc S.sc y) (hA' : S.asg y = true) (hi' : j ∈ vs) (hE' : notOwn (E.set i (.dat d1)) j)
    (h : P ((E.set i (.dat d1)).set j (.dat d2))) : WpG S vs (.Tuple [.Name x p1, .Name y p2] k pos) (.tuple [d1, d2]) E P := fun X hX F s R H v r p Q kk => by
  refine ⟨_, pg_tup (n := 2) hX.calm (pgs_cons (pg_rd (tg := .Name x p1)) (pgs_cons (pg_rd (tg := .Name y p2)) pgs_nil)) rfl rfl, ?_⟩
  cases p with
  | tup hq hd =>
    cases hd with
    | cons h1 hd =>
      cases hd with
      | cons h2 hd =>
        cases hd
        have hqH := same_t r.sub hq
        rw [← hX.K] at hqH
        refine ⟨_, _, rfl, hqH, rfl, _, _, rfl, ?_⟩
        refine g_name (P := fun E' => E' = E.set i (.dat d1)) hN hx hA (show i ∈ [i] by simp) hE rfl X hX F s R H _ r h1 _ fun s1 E1 l1 k1 r1 e1 => ?_
        subst e1
        refine ⟨_, _, rfl, ?_⟩
        refine g_name (P := fun E' => E' = (E.set i (.dat d1)).set j (.dat d2)) hN' hx' hA' (show j ∈ [j] by simp) hE' rfl X hX F s1 R H _ r1 h2 _ fun s2 E2 l2 k2 r2 e2 => ?_
        subst e2
        refine ⟨rfl, kk s2 _ (l2.trans l1) (fun m hm => ?_) r2 h⟩
        rw [k2 m (by simp only [List.mem_singleton]; exact fun z => hm (by rw [z]; exact hi')), k1 m (by simp only [List.mem_singleton]; exact fun z => hm (by rw [z]; exact hi))]

/-! ### what is walked -/
def GlS (S : Sx) (x : Str) : Prop := S.sc.names.lookup x = some NameKind.globalImplicit
theorem GlS.gl {S : Sx} {X : Cx} {x : Str} (h : GlS S x) (hX : Has S X) : Gl X x := by
  show X.env.scope.names.lookup x = _
  rw [hX.sc]
  exact h
def RdI (X : Cx) (tg it : Expr) : TI := fun s H R => ∃ wi, PI X tg it wi ∧ wi s H R
theorem pi_rd {X : Cx} {tg it : Expr} : PI X tg it (RdI X tg it) := ⟨fun pins s σ H R I ⟨_, ht, q⟩ => ht.run pins s σ H R I q⟩
structure ItOk (K : PySem.W.Frag) (R : Hp) (J : It) (ds : List D) : Prop where
  go : ∀ F s E R2 H2 t d, Same R R2 → Rel K F s E R2 H2 → ds[t]? = some d → J.go t H2 ∧ ∀ x H3, J.yld t H2 x H3 → ∃ R3, Same R2 R3 ∧ Rel K F s E R3 H3 ∧ Dp K R3 x d
  stop : ∀ F s E R2 H2, Same R R2 → Rel K F s E R2 H2 → J.stop ds.length H2
def WpI (S : Sx) (tg it : Expr) (E : En) (P : List D → En → Prop) : Prop := ∀ X, Has S X → ∀ F s R H, Rel S.K F s E R H → ∀ Rr : It → Hp → Prop,
  (∀ J ds E' R' H', Same R R' → Rel S.K F s E' R' H' → ItOk S.K R' J ds → P ds E' → Rr J H') → RdI X tg it s H Rr
def intsD (lo : Int) (n : Nat) : List D := (List.range n).map fun (i : Nat) => (.int (lo + i) : D)
theorem intsD_len {lo : Int} {n : Nat} : (intsD lo n).length = n := by unfold intsD; rw [List.length_map, List.length_range]
theorem intsD_get {lo : Int} {n t : Nat} {d : D} (h : (intsD lo n)[t]? = some d) : t < n ∧ d = .int (lo + t) := by
  unfold intsD at h
  rw [List.getElem?_map] at h
  by_cases ht : t < n
  · rw [List.getElem?_range ht] at h
    exact ⟨ht, (Option.some.inj h).symm⟩
  · rw [List.getElem?_eq_none (by rw [List.length_range]; omega)] at h
    cases h
theorem it_range {K : PySem.W.Frag} {R : Hp} {lo : Int} {n : Nat} : ItOk K R (Itr lo n) (intsD lo n) where
  go := fun F s E R2 H2 t d _ r e => by
    obtain ⟨h1, rfl⟩ := intsD_get e
    exact ⟨h1, fun x H3 ⟨h2, h3⟩ => ⟨R2, Same.refl _, by rw [h2]; exact r, by rw [h3]; exact .int _⟩⟩
  stop := fun F s E R2 H2 _ r => by
    show n ≤ (intsD lo n).length
    rw [intsD_len]
    exact Nat.le_refl _
variable {tg it : Expr} {p : Pos}
theorem wi_range1 {P : List D → En → Prop} (hg : GlS S "range") (hm : S.mg "range" = none) (h : WpD S a E fun d E1 => ∃ n, d = .int n ∧ -(2 ^ 62) ≤ n ∧ n < 2 ^ 62 ∧ P (intsD 0 n.toNat) E1)
    (hst : ∀ env : Env, starEach [a] env = (false, eval a env) :: starEach [] env := by intro _; rfl) : WpI S tg (.Call (.Name "range" p) [a] [] pos) E P := fun X hX F s R H r Rr k => by
  refine ⟨_, pi_range1 (hg.gl hX) (by rw [hX.mg]; exact hm) (pa_cons pe_rd pa_nil (hst _)) (hst _), ?_⟩
  refine h X hX F s R H r _ fun v d E1 R1 H1 s1 r1 p1 ⟨n, hn, h1, h2, h3⟩ => ?_
  subst hn
  cases p1
  exact ⟨n, rfl, h1, h2, k _ _ E1 R1 H1 s1 r1 it_range h3⟩
theorem wi_range2 {P : List D → En → Prop} (hg : GlS S "range") (hm : S.mg "range" = none) (h : WpD S a E fun d E1 => WpD S b E1 fun d' E2 => ∃ m n, d = .int m ∧ d' = .int n ∧ (-(2 ^ 62) ≤ m ∧ m < 2 ^ 62 ∧ -(2 ^ 62) ≤ n ∧ n < 2 ^ 62) ∧ P (intsD m (n - m).toNat) E2)
    (hst : ∀ env : Env, starEach [a, b] env = (false, eval a env) :: starEach [b] env := by intro _; rfl) (hst2 : ∀ env : Env, starEach [b] env = (false, eval b env) :: starEach [] env := by intro _; rfl) : WpI S tg (.Call (.Name "range" p) [a, b] [] pos) E P := fun X hX F s R H r Rr k => by
  refine ⟨_, pi_range2 (hg.gl hX) (by rw [hX.mg]; exact hm) (pa_cons pe_rd (pa_cons pe_rd pa_nil (hst2 _)) (hst _)) (by rw [hst, hst2]; rfl) (hst2 _), ?_⟩
  refine h X hX F s R H r _ fun v d E1 R1 H1 s1 r1 p1 h1 => ?_
  refine h1 X hX F s R1 H1 r1 _ fun v2 d2 E2 R2 H2 s2 r2 p2 ⟨m, n, hm, hn, hb, h3⟩ => ?_
  subst hm hn
  cases p1
  cases p2
  exact ⟨m, n, rfl, hb, k _ _ E2 R2 H2 (s1.trans s2) r2 it_range h3⟩
theorem it_list {K : PySem.W.Frag} {R : Hp} {p : Addr} {vs : List V} {ds : List D} (h : SqL K R p vs) (hd : DpAll K R vs ds) : ItOk K R (Itl K p) ds where
  go := fun F s E R2 H2 t d e r hd' => by
    have q : SqL K H2 p vs := r.sub.seq (e.seq h)
    obtain ⟨v, h1, h2⟩ := dpAll_get hd hd'
    exact ⟨⟨vs, v, q, h1⟩, fun x H3 ⟨e1, e2⟩ => ⟨R2, Same.refl _, by rw [e1]; exact r, by
      have := e2 vs q
      rw [h1] at this
      cases this
      exact dp_mono e _ _ h2⟩⟩
  stop := fun F s E R2 H2 e r => ⟨vs, r.sub.seq (e.seq h), by rw [dpAll_len hd]; exact Nat.le_refl _⟩
theorem it_tup {K : PySem.W.Frag} {R : Hp} {p : Addr} {vs : List V} {ds : List D} (h : SqT K R p vs) (hd : DpAll K R vs ds) : ItOk K R (Itt K p) ds where
  go := fun F s E R2 H2 t d e r hd' => by
    have q : SqT K H2 p vs := same_t r.sub (same_t e h)
    obtain ⟨v, h1, h2⟩ := dpAll_get hd hd'
    exact ⟨⟨vs, v, q, h1⟩, fun x H3 ⟨e1, e2⟩ => ⟨R2, Same.refl _, by rw [e1]; exact r, by
      have := e2 vs q
      rw [h1] at this
      cases this
      exact dp_mono e _ _ h2⟩⟩
  stop := fun F s E R2 H2 e r => ⟨vs, same_t r.sub (same_t e h), by rw [dpAll_len hd]; exact Nat.le_refl _⟩
theorem wi_list {P : List D → En → Prop} (h : WpD S it E fun d E1 => ∃ ds, d = .list ds ∧ P ds E1) : WpI S tg it E P := fun X hX F s R H r Rr k => by
  refine ⟨_, pi_list pe_rd, ?_⟩
  refine h X hX F s R H r _ fun v d E1 R1 H1 s1 r1 p1 ⟨ds, hn, h3⟩ => ?_
  subst hn
  cases p1 with
  | lst hq hd =>
    rw [hX.K]
    exact ⟨_, rfl, ⟨_, r1.sub.seq hq⟩, k _ _ E1 R1 H1 s1 r1 (it_list hq hd) h3⟩
theorem wi_tup {P : List D → En → Prop} (h : WpD S it E fun d E1 => ∃ ds, d = .tuple ds ∧ P ds E1) : WpI S tg it E P := fun X hX F s R H r Rr k => by
  refine ⟨_, pi_tup pe_rd, ?_⟩
  refine h X hX F s R H r _ fun v d E1 R1 H1 s1 r1 p1 ⟨ds, hn, h3⟩ => ?_
  subst hn
  cases p1 with
  | tup hq hd =>
    rw [hX.K]
    exact ⟨_, rfl, ⟨_, same_t r1.sub hq⟩, k _ _ E1 R1 H1 s1 r1 (it_tup hq hd) h3⟩

/-! ### for -/
theorem s_for {G : List Nat} {body : List Stmt} {Z : EnS} (vs : List Nat) (h : WpI S tg it E fun ds E1 => ∃ Iv : Nat → En → Prop, Iv 0 E1 ∧
      (∀ t Et d, ds[t]? = some d → Iv t Et → WpG S vs tg d Et fun E2 => WpSs S G body E2 { Z with nx := Iv (t + 1), ct := Iv (t + 1), bk := Z.nx }) ∧ ∀ Et, Iv ds.length Et → Z.nx Et)
    (hs : ∀ (env : Env) x, foldedSetIterable it env x = pure x := by intro _ _; rfl) : WpS S G (.For tg it body [] pos) E Z := fun X hX F s R H hg r D W => by
  refine ⟨_, ps_for (by rw [hX.xe]; exact PassesOwn.never) hX.calm pi_rd pg_rd pss_rd (hs _), ?_⟩
  refine h X hX F s R H r _ fun J ds E1 R1 H1 s1 r1 J1 ⟨Iv, h0, hst, hd⟩ => ?_
  refine ⟨fun t m s2 H2 => m = ds.length - t ∧ t ≤ ds.length ∧ ∃ E2 R2, Same R1 R2 ∧ Rel S.K F s2 E2 R2 H2 ∧ Iv t E2, ⟨_, rfl, Nat.zero_le _, E1, R1, Same.refl _, r1, h0⟩, ?_⟩
  rintro t m s2 H2 ⟨rfl, ht, E2, R2, a2, r2, i2⟩
  by_cases hlt : t < ds.length
  · obtain ⟨g1, g2⟩ := J1.go F s2 E2 R2 H2 t ds[t] a2 r2 (List.getElem?_eq_getElem hlt)
    refine .inr ⟨g1, fun s3 H3 => ∃ E3 R3, Same R1 R3 ∧ Rel S.K F s3 E3 R3 H3 ∧ Iv (t + 1) E3, fun s3 H3 ⟨E3, R3, a3, r3, i3⟩ => ⟨ds.length - (t + 1), by omega, rfl, hlt, E3, R3, a3, r3, i3⟩, fun x H3 hy => ?_⟩
    obtain ⟨R3, a3, r3, p3⟩ := g2 x H3 hy
    refine hst t E2 ds[t] (List.getElem?_eq_getElem hlt) i2 X hX F s2 R3 H3 x r3 p3 _ fun s4 E4 l4 k4 r4 h4 => ?_
    have a4 : Same R R3 := (s1.trans a2).trans a3
    refine h4 X hX F s4 R3 H3 hg r4 _ ⟨fun E' s' R' H' b r' q => ⟨E', R', (a2.trans a3).trans b, r', q⟩, fun v q E' s' R' H' b r' p q' => W.rt v q E' s' R' H' (a4.trans b) r' p q', fun E' s' R' H' b r' q => W.nx E' s' R' H' (a4.trans b) r' q, fun E' s' R' H' b r' q => ⟨E', R', (a2.trans a3).trans b, r', q⟩⟩
  · have e : t = ds.length := by omega
    subst e
    exact .inl ⟨J1.stop F s2 E2 R2 H2 a2 r2, W.nx E2 s2 R2 H2 (s1.trans a2) r2 (hd E2 i2)⟩
end
end Wq
set_option maxHeartbeats 1000000
namespace Wq
open PySem L2

/-! ### the block of a comprehension -/
def blkS (S : Sx) (scope : Scope) : Sx := { S with sc := relS scope S.sc, asg := fun x => scope.names.lookup x == some NameKind.local || scope.names.lookup x == some NameKind.cell }
theorem has_blk {S : Sx} {X : Cx} {scope : Scope} (hX : Has S X) (s : Shared) (H : Hp) (C : Addr) (cl : List (Str × Addr)) (fp : List Addr) : Has (blkS S scope) (X.blk s H scope (compEnvC scope cl C X.env) fp) where
  prog := hX.prog
  w := hX.w
  K := hX.K
  mg := hX.mg
  base := hX.base
  N := hX.N
  sc := by
    show relS scope X.env.scope = relS scope S.sc
    rw [hX.sc]
  calm := hX.calm
  room := hX.room
  xe := rfl
  grd := hX.grd
  nd := hX.nd
  fnl := fun x h => by
    have h' : (scope.names.lookup x == some NameKind.local || scope.names.lookup x == some NameKind.cell) = true := h
    rw [Bool.or_eq_true] at h'
    rcases h' with h' | h'
    · right
      have e : scope.names.lookup x = some NameKind.local := by simpa using h'
      exact lookup_relS_keep (by decide) e
    · left
      exact h'
def RdTs (X : Cx) (ifs : List Expr) : TT := fun s H Q => ∃ t, PTs X ifs t ∧ t s H Q
theorem pts_rd {X : Cx} {ifs : List Expr} : PTs X ifs (RdTs X ifs) := ⟨fun pins s σ H Q I ⟨_, ht, q⟩ => ht.run pins s σ H Q I q⟩
def WpTs (S : Sx) (ifs : List Expr) (E : En) (P : Bool → En → Prop) : Prop :=
  ∀ X, Has S X → ∀ F s R H, Rel S.K F s E R H → ∀ Q : Bool → Hp → Prop,
    (∀ b E' R' H', Same R R' → Rel S.K F s E' R' H' → P b E' → Q b H') → RdTs X ifs s H Q
theorem wts_nil {S : Sx} {E : En} {P : Bool → En → Prop} (h : P true E) : WpTs S [] E P := fun X hX F s R H r Q k => ⟨_, pts_nil, k true E R H (Same.refl _) r h⟩
theorem wts_one {S : Sx} {E : En} {c : Expr} {P : Bool → En → Prop} (h : WpT S c E P) : WpTs S [c] E P := fun X hX F s R H r Q k => ⟨_, pts_one pt_rd, h X hX F s R H r Q k⟩
def AllG (S : Sx) (tg : Expr) : TG := fun v s H Q => ∀ Y, Has S Y → RdG Y tg v s H Q
def AllE (S : Sx) (e : Expr) : TE := fun s H Q => ∀ Y, Has S Y → RdE Y e s H Q
def AllTs (S : Sx) (e : List Expr) : TT := fun s H Q => ∀ Y, Has S Y → RdTs Y e s H Q
theorem pg_all {S : Sx} {Y : Cx} {tg : Expr} (hY : Has S Y) : PG Y tg (AllG S tg) := ⟨fun pins s σ H v u Q I r h => pg_rd.run pins s σ H v u Q I r (h Y hY)⟩
theorem pe_all {S : Sx} {Y : Cx} {tg : Expr} (hY : Has S Y) : PE Y tg (AllE S tg) := ⟨fun pins s σ H Q I h => pe_rd.run pins s σ H Q I (h Y hY)⟩
theorem pts_all {S : Sx} {Y : Cx} {tg : List Expr} (hY : Has S Y) : PTs Y tg (AllTs S tg) := ⟨fun pins s σ H Q I h => pts_rd.run pins s σ H Q I (h Y hY)⟩

/-- what a comprehension wants: an invariant by the turn, what is made so far, the slots -/
def WpLc (S S' : Sx) (vs : List Nat) (elt tg it : Expr) (ifs : List Expr) (E : En) (P : List D → En → Prop) : Prop :=
  WpI S tg it E fun ds E1 => (∀ i ∈ vs, notOwn E1 i) ∧ ∃ Iv : Nat → List D → En → Prop, Iv 0 [] (wipeE E1 vs) ∧
    (∀ t acc Et d, ds[t]? = some d → Iv t acc Et → WpG S' vs tg d Et fun E2 => WpTs S' ifs E2 fun b E3 =>
      (b = true → WpD S' elt E3 fun y E4 => acc.length < 1000000 ∧ (∀ i ∈ vs, notOwn E4 i) ∧ Iv (t + 1) (acc ++ [y]) (wipeE E4 vs)) ∧ (b = false → (∀ i ∈ vs, notOwn E3 i) ∧ Iv (t + 1) acc (wipeE E3 vs))) ∧
    ∀ acc Et, Iv ds.length acc Et → P acc Et
theorem notOwn.no {E : En} {i : Nat} (h : notOwn E i) : ∀ d, E[i]? ≠ some (Sl.own d) := fun d z => by
  obtain ⟨q, h1, h2⟩ := h
  rw [h1] at z
  exact h2 d (Option.some.inj z)
theorem notOwn.lt {E : En} {i : Nat} (h : notOwn E i) : i < E.length := by
  obtain ⟨q, h1, h2⟩ := h
  exact (List.getElem?_eq_some_iff.mp h1).1
section
variable {S : Sx} {vs : List Nat} {e : Expr} {es ifs : List Expr} {E : En} {elt tg it : Expr} {pos : Pos}
theorem lc_read {scope : Scope} {P : List D → En → Prop} (h : WpLc S (blkS S scope) vs elt tg it ifs E P) {X : Cx} (hX : Has S X) {F : Fx} {s : St} {R H : Hp} (r : Rel S.K F s E R H) {Q : VK}
    (k : ∀ v r E' R' H', Same R R' → Rel S.K F s E' R' H' → RsOk S.K F s E' R' H' v r → (∃ acc, r = .own (.list acc) ∧ P acc E') → Q v H') : tLc (RdI X tg it) (AllG (blkS S scope) tg) (AllTs (blkS S scope) ifs) (AllE (blkS S scope) elt) vs s H Q := by
  refine h X hX F s R H r _ fun J ds E1 R1 H1 s1 r1 J1 ⟨hno, Iv, h0, hst, hd⟩ => ?_
  intro D hD
  have hD0 := r1.free0 hD
  have ww : ∀ {s2 : St}, s2.length = (wipe s vs).length → (∀ j, j ∉ vs → s2[j]? = (wipe s vs)[j]?) → wipe s2 vs = wipe s vs := fun {s2} a b =>
    (wipe_eq a b).trans (wipe_eq (wipe_length ..) fun j hj => wipe_get hj)
  refine ⟨fun t m H2 => m = ds.length - t ∧ t ≤ ds.length ∧ ∃ av acc E2 R2, Same R1 R2 ∧ Rel S.K F (wipe s vs) E2 R2 H2 ∧ H2 D = some (.lst av) ∧ DpAll S.K R2 av acc ∧ R2 D = none ∧
    (∀ (i : Nat) (d : Wq.D), E2[i]? = some (Sl.own d) → (wipe s vs)[i]? ≠ some (some (V.ref D))) ∧ (∀ i ∈ vs, E2[i]? = some Sl.no) ∧ Iv t acc E2, ⟨_, rfl, Nat.zero_le _, [], [], wipeE E1 vs, R1, Same.refl _, ?_, upd_same, .nil, r1.freeR hD, ?_, ?_, h0⟩, ?_⟩
  · exact (r1.wipe vs fun i hi => (hno i hi).no).grow hD
  · exact own_no (r1.wipe vs fun i hi => (hno i hi).no) hD
  · exact fun i hi => wipeE_in hi (hno i hi).lt
  rintro t m H2 ⟨rfl, ht, av, acc, E2, R2, a2, r2, hD2, hv2, hR2, hn2, hi2, i2⟩
  by_cases hlt : t < ds.length
  · have q2 := r2.nest
    obtain ⟨g1, g2⟩ := J1.go _ _ E2 R2 H2 t ds[t] a2 q2 (List.getElem?_eq_getElem hlt)
    have noD : ∀ p ∈ owners (wipe s vs) E2, p.2 ≠ D := fun p hp z => by
      obtain ⟨⟨d, h1⟩, h2⟩ := mem_owners.mp hp
      exact hn2 _ _ h1 (by rw [h2, z])
    -- what stays true of the new list
    have stays : ∀ {s3 : St} {E3 : En} {R3 H3 : Hp}, Rel S.K ⟨H2, R2, owners (wipe s vs) E2⟩ s3 E3 R3 H3 → H3 D = some (.lst av) ∧ R3 D = none ∧ ∀ (i : Nat) (d : Wq.D), E3[i]? = some (Sl.own d) → s3[i]? ≠ some (some (V.ref D)) := fun {s3 E3 R3 H3} q => by
      refine ⟨q.keep D _ hD2 noD, ?_, fun i d e z => ?_⟩
      · cases e : R3 D with
        | none => rfl
        | some o =>
          rcases q.new D o e with ⟨o', z⟩ | z
          · exact nomatch hR2.symm.trans z
          · exact nomatch hD2.symm.trans z
      · obtain ⟨a, h1, h2, h3, h4⟩ := q.own i d e
        rw [h1] at z
        cases z
        rcases h4 with h4 | h4
        · exact nomatch hD2.symm.trans h4
        · exact noD _ h4 rfl
    refine .inr ⟨g1, fun H3 => ∃ av acc E3 R3, Same R1 R3 ∧ Rel S.K F (wipe s vs) E3 R3 H3 ∧ H3 D = some (.lst av) ∧ DpAll S.K R3 av acc ∧ R3 D = none ∧ (∀ (i : Nat) (d : Wq.D), E3[i]? = some (Sl.own d) → (wipe s vs)[i]? ≠ some (some (V.ref D))) ∧ (∀ i ∈ vs, E3[i]? = some Sl.no) ∧ Iv (t + 1) acc E3,
      fun H3 ⟨av3, acc3, E3, R3, z⟩ => ⟨ds.length - (t + 1), by omega, rfl, hlt, av3, acc3, E3, R3, z⟩, fun x H3 hy => ?_⟩
    obtain ⟨R3, a3, q3, p3⟩ := g2 x H3 hy
    intro Y hY
    refine hst t acc E2 ds[t] (List.getElem?_eq_getElem hlt) i2 Y hY _ _ R3 H3 x q3 p3 _ fun s4 E4 l4 k4 q4 h4 => ?_
    have w4 := ww l4 k4
    have nw : ∀ {E5 : En} {R5 H5 : Hp}, Rel S.K ⟨H2, R2, owners (wipe s vs) E2⟩ s4 E5 R5 H5 → (∀ i ∈ vs, notOwn E5 i) → Rel S.K F (wipe s vs) (wipeE E5 vs) R5 H5 ∧ (∀ (i : Nat) (d : Wq.D), (wipeE E5 vs)[i]? = some (Sl.own d) → (wipe s vs)[i]? ≠ some (some (V.ref D))) ∧ (∀ i ∈ vs, (wipeE E5 vs)[i]? = some Sl.no) := fun {E5 R5 H5} q hno5 => by
      have u := (r2.unnest q).wipe vs fun i hi => (hno5 i hi).no
      have u' := q.wipe vs fun i hi => (hno5 i hi).no
      rw [w4] at u u'
      exact ⟨u, (stays u').2.2, fun i hi => wipeE_in hi (hno5 i hi).lt⟩
    refine ⟨w4, fun Y hY => ?_⟩
    refine h4 Y hY _ _ R3 H3 q4 _ fun b E5 R5 H5 a5 q5 ⟨hb1, hb2⟩ => ?_
    cases b with
    | true =>
      rw [if_pos rfl]
      intro Y hY
      refine hb1 rfl Y hY _ _ R5 H5 q5 _ fun y d E6 R6 H6 a6 q6 p6 ⟨hl, hno6, i6⟩ => ?_
      obtain ⟨hD6, hR6, hn6⟩ := stays q6
      obtain ⟨u6, v6, w6⟩ := nw q6 hno6
      have hlen : av.length = acc.length := dpAll_len hv2
      have a26 : Same R2 R6 := (a3.trans a5).trans a6
      refine ⟨av, hD6, Nat.lt_of_lt_of_le (by rw [hlen]; exact hl) (by decide : 1000000 ≤ sizeLine), av ++ [y], acc ++ [d], wipeE E6 vs, R6, a2.trans a26, ?_, upd_same, dpAll_app (dpAll_mono a26 _ _ hv2) (dpAll_one p6), hR6, v6, w6, i6⟩
      exact u6.other hR6 hD0 v6
    | false =>
      rw [if_neg Bool.false_ne_true]
      obtain ⟨hno5, i5⟩ := hb2 rfl
      obtain ⟨hD5, hR5, hn5⟩ := stays q5
      obtain ⟨u5, v5, w5⟩ := nw q5 hno5
      exact ⟨av, acc, wipeE E5 vs, R5, a2.trans (a3.trans a5), u5, hD5, dpAll_mono (a3.trans a5) _ _ hv2, hR5, v5, w5, i5⟩
  · have e : t = ds.length := by omega
    subst e
    refine .inl ⟨J1.stop F _ E2 R2 H2 a2 r2, ?_⟩
    have rr : Rel S.K F s E2 R2 H2 := r2.cong (by rw [wipe_length]) fun i => by
      by_cases hi : i ∈ vs
      · exact .inl (hi2 i hi)
      · exact .inr (wipe_get hi).symm
    refine k (.ref D) (.own (.list acc)) E2 R2 H2 (s1.trans a2) rr ⟨D, rfl, hR2, ⟨av, hD2, hv2⟩, hD0, fun i d e z => ?_⟩ ⟨acc, rfl, hd acc E2 i2⟩
    by_cases hi : i ∈ vs
    · rw [hi2 i hi] at e; cases e
    · exact hn2 i d e (by rw [wipe_get hi]; exact z)
/-- [elt for tg in it if ..] -/
theorem wp_lc {scope : Scope} (own : List (Str × Nat)) {P : Sl → En → Prop} (ok : BlkOk S.N S.sc scope own) (h : WpLc S (blkS S scope) (own.map (·.2)) elt tg it ifs E fun acc E' => P (.own (.list acc)) E')
    (hs : ∀ (env : Env) x, foldedSetIterable it env x = pure x := by intro _ _; rfl) : Wp S (.ListComp elt [⟨tg, it, ifs, 0⟩] scope pos) E P := fun X hX F s R H r Q k => by
  refine ⟨_, pe_lc (own := own) hX.calm hX.nd pi_rd (by rw [hX.N, hX.sc]; exact ok) (fun s H C cl fp => pg_all (has_blk hX s H C cl fp)) (fun s H C cl fp => pts_all (has_blk hX s H C cl fp)) (fun s H C cl fp => pe_all (has_blk hX s H C cl fp)) (hs _), ?_⟩
  exact lc_read h hX r fun v r' E' R' H' a r1 p ⟨acc, e, q⟩ => k v r' E' R' H' a r1 p (by rw [e]; exact q)
/-- x = [elt for tg in it if ..] -/
theorem s_setLc {G : List Nat} {Z : EnS} {scope : Scope} (own : List (Str × Nat)) {x : Str} {i : Nat} {py spos : Pos} (ok : BlkOk S.N S.sc scope own) (hN : S.N[i]? = some x) (hx : S.sc.names.lookup x = some NameKind.local) (hG : i ∉ G)
    (hk : S.sc.kind = .function) (hl : (py.line == pos.line) = true) (hy : (scope.names.any fun (n, k) => n == x && (k == .local || k == .cell)) = false)
    (h : WpLc S (blkS S scope) (own.map (·.2)) elt tg it ifs E fun acc E' => i < E'.length ∧ Z.nx (E'.set i (.own (.list acc))))
    (hs : ∀ (env : Env) x, foldedSetIterable it env x = pure x := by intro _ _; rfl) : WpS S G (.Assign [.Name x py] (.ListComp elt [⟨tg, it, ifs, 0⟩] scope pos) spos) E Z := fun X hX F s R H hg r D W => by
  have hx' : X.env.scope.names.lookup x = some NameKind.local := by rw [hX.sc]; exact hx
  refine ⟨_, ps_setLc (i := i) (own := own) hX.calm hX.nd (by rw [hX.N]; exact hN) hx' (sw_true (by rw [hX.sc]; exact hk) hx' hl hy) pi_rd (by rw [hX.N, hX.sc]; exact ok)
    (fun s H C cl fp => pg_all (has_blk hX s H C cl fp)) (fun s H C cl fp => pts_all (has_blk hX s H C cl fp)) (fun s H C cl fp => pe_all (has_blk hX s H C cl fp)) (hs _), ?_⟩
  have hgi : ∀ p ∈ F.g, p.1 ≠ i := fun p hp e => hG (by rw [← hg, ← e]; exact List.mem_map_of_mem hp)
  refine lc_read h hX r fun v r' E' R' H' a r1 p ⟨acc, e, q⟩ => ?_
  subst e
  obtain ⟨b, rfl, z⟩ := id p
  exact W.nx _ _ R' H' a (r1.setOwn q.1 hgi p) q.2
end
end Wq
set_option maxHeartbeats 1000000
namespace Wq
open PySem L2

/-! ### promises over data -/
abbrev Ct := List Sl → (Sl → List Sl → Prop) → Prop
def spC (K : PySem.W.Frag) (G : List Nat) (ct : Ct) : Sp := fun vs H Q _ => ∃ (R : Hp) (g : List (Nat × Addr)) (args : List Sl) (post : Sl → List Sl → Prop),
  g.map (·.1) = G ∧ Rel K ⟨H, R, g⟩ (vs.map some) args R H ∧ ct args post ∧
    ∀ v r outs R' H', Same R R' → Rel K ⟨H, R, g⟩ (vs.map some) outs R' H' → RsOk K ⟨H, R, g⟩ (vs.map some) outs R' H' v r → post r outs → Q v H'
def outsOf (G : List Nat) (args E : En) : En := (List.range args.length).map fun (i : Nat) => if i ∈ G then (E[i]?).getD .no else (args[i]?).getD .no
theorem outs_get {G : List Nat} {args E : En} {i : Nat} {q : Sl} (h : (outsOf G args E)[i]? = some q) : i < args.length ∧ ((i ∈ G ∧ q = (E[i]?).getD .no) ∨ (i ∉ G ∧ args[i]? = some q)) := by
  unfold outsOf at h
  rw [List.getElem?_map] at h
  by_cases hi : i < args.length
  · rw [List.getElem?_range hi] at h
    refine ⟨hi, ?_⟩
    have h' : q = if i ∈ G then (E[i]?).getD .no else (args[i]?).getD .no := (Option.some.inj h).symm
    by_cases hG : i ∈ G
    · rw [if_pos hG] at h'
      exact .inl ⟨hG, h'⟩
    · rw [if_neg hG, List.getElem?_eq_getElem hi] at h'
      exact .inr ⟨hG, by rw [List.getElem?_eq_getElem hi, h']; rfl⟩
  · rw [List.getElem?_eq_none (by rw [List.length_range]; omega)] at h
    cases h
theorem outs_len {G : List Nat} {args E : En} : (outsOf G args E).length = args.length := by unfold outsOf; rw [List.length_map, List.length_range]
section
variable {K : PySem.W.Frag} {H R : Hp} {g : List (Nat × Addr)} {G : List Nat} {vs : List V} {args : En}
theorem rel_outs (hG : g.map (·.1) = G) (r : Rel K ⟨H, R, g⟩ (vs.map some) args R H) {s' : St} {E' : En} {R' H' : Hp} (q : Rel K ⟨H, R, g⟩ s' E' R' H') : Rel K ⟨H, R, g⟩ (vs.map some) (outsOf G args E') R' H' := by
  have gi : ∀ i, i ∈ G → ∃ a, (i, a) ∈ g := fun i hi => by
    rw [← hG] at hi
    obtain ⟨p, hp, e⟩ := List.mem_map.mp hi
    exact ⟨p.2, by rw [← e]; exact hp⟩
  have same : ∀ i, i ∈ G → s'[i]? = (vs.map some)[i]? := fun i hi => by
    obtain ⟨a, ha⟩ := gi i hi
    rw [(r.giv _ ha).1, (q.giv _ ha).1]
  have ownG : ∀ (i : Nat) (d : D), (outsOf G args E')[i]? = some (Sl.own d) → i ∈ G ∧ E'[i]? = some (Sl.own d) := fun i d e => by
    obtain ⟨hi, ⟨h1, h2⟩ | ⟨h1, h2⟩⟩ := outs_get e
    · refine ⟨h1, ?_⟩
      cases z : E'[i]? with
      | none => rw [z] at h2; cases h2
      | some w => rw [z] at h2; rw [h2]; rfl
    · obtain ⟨a, _, _, h3, h4⟩ := r.own i d h2
      rcases h4 with h4 | h4
      · obtain ⟨o, ho⟩ := h3.some
        exact nomatch ho.symm.trans h4
      · exact absurd (by rw [← hG]; exact List.mem_map_of_mem h4) h1
  exact {
    len := by rw [outs_len]; exact r.len
    sub := q.sub
    sub0 := q.sub0
    keep := q.keep
    new := q.new
    giv := fun p hp => by
      have h1 := r.giv p hp
      obtain ⟨h2, d, h3⟩ := q.giv p hp
      have hm : p.1 ∈ G := by rw [← hG]; exact List.mem_map_of_mem hp
      refine ⟨h1.1, d, ?_⟩
      unfold outsOf
      have hl : p.1 < args.length := by
        obtain ⟨_, d', z⟩ := h1
        exact (List.getElem?_eq_some_iff.mp z).1
      rw [List.getElem?_map, List.getElem?_range hl]
      show some (if p.1 ∈ G then _ else _) = _
      rw [if_pos hm, h3]
      rfl
    dat := fun i d e => by
      obtain ⟨hi, ⟨h1, h2⟩ | ⟨h1, h2⟩⟩ := outs_get e
      · obtain ⟨a, ha⟩ := gi i h1
        obtain ⟨_, d', z⟩ := q.giv _ ha
        rw [z] at h2
        cases h2
      · obtain ⟨v, h3, h4⟩ := r.dat i d h2
        exact ⟨v, h3, dp_mono q.sub0 _ _ h4⟩
    own := fun i d e => by
      obtain ⟨h1, h2⟩ := ownG i d e
      obtain ⟨a, h3, h4⟩ := q.own i d h2
      exact ⟨a, by rw [← same i h1]; exact h3, h4⟩
    inj := fun i j d d' a e1 e2 h1 h2 => by
      obtain ⟨g1, k1⟩ := ownG i d e1
      obtain ⟨g2, k2⟩ := ownG j d' e2
      rw [← same i g1] at h1
      rw [← same j g2] at h2
      exact q.inj i j d d' a k1 k2 h1 h2 }
theorem rs_outs (hG : g.map (·.1) = G) (r : Rel K ⟨H, R, g⟩ (vs.map some) args R H) {s' : St} {E' : En} {R' H' : Hp} (q : Rel K ⟨H, R, g⟩ s' E' R' H') {v : V} {x : Sl} (h : RsOk K ⟨H, R, g⟩ s' E' R' H' v x) : RsOk K ⟨H, R, g⟩ (vs.map some) (outsOf G args E') R' H' v x := by
  cases x with
  | no => exact h
  | dat d => exact h
  | own d =>
    obtain ⟨a, h1, h2, h3, h4, h5⟩ := h
    refine ⟨a, h1, h2, h3, h4, fun i d' e z => ?_⟩
    obtain ⟨b, k1, _, _, k2⟩ := (rel_outs hG r q).own i d' e
    rw [k1] at z
    cases z
    rcases k2 with k2 | k2
    · obtain ⟨hi, ⟨m1, m2⟩ | ⟨m1, m2⟩⟩ := outs_get e
      · have : ∃ p ∈ g, p.1 = i := by
          rw [← hG] at m1
          obtain ⟨p, hp, e'⟩ := List.mem_map.mp m1
          exact ⟨p, hp, e'⟩
        obtain ⟨p, hp, e'⟩ := this
        have z1 := (r.giv p hp).1
        rw [e', k1] at z1
        cases z1
        obtain ⟨_, d2, z2⟩ := r.giv p hp
        obtain ⟨b', w1, _, w3, _⟩ := r.own _ _ z2
        rw [e', k1] at w1
        cases w1
        obtain ⟨o, ho⟩ := w3.some
        exact nomatch ho.symm.trans k2
      · obtain ⟨b', w1, _, w3, _⟩ := r.own _ _ m2
        rw [k1] at w1
        cases w1
        obtain ⟨o, ho⟩ := w3.some
        exact nomatch ho.symm.trans k2
    · obtain ⟨w1, d2, w2⟩ := q.giv _ k2
      exact h5 i d2 w2 w1
end
/-- the slots at a def's start -/
def startE (N : List Str) (args : En) : En := args ++ List.replicate (N.length - args.length) .no
theorem rel_start {K : PySem.W.Frag} {F : Fx} {N : List Str} {vs : List V} {args : En} {R H : Hp} (r : Rel K F (vs.map some) args R H) : Rel K F (L2.start N vs) (startE N args) R H := by
  have hl : args.length = vs.length := by have := r.len; rw [List.length_map] at this; exact this
  have e1 : ∀ (i : Nat) (q : Sl), (startE N args)[i]? = some q → q ≠ Sl.no → args[i]? = some q := fun i q e hn => by
    unfold startE at e
    by_cases hi : i < args.length
    · rw [List.getElem?_append_left hi] at e; exact e
    · rw [List.getElem?_append_right (by omega), List.getElem?_replicate] at e
      split at e
      · exact absurd (Option.some.inj e).symm hn
      · cases e
  have e2 : ∀ (i : Nat), i < args.length → (L2.start N vs)[i]? = (vs.map some)[i]? := fun i hi => by
    unfold L2.start
    rw [List.getElem?_append_left (by rw [List.length_map]; omega)]
  have e3 : ∀ (i : Nat) (q : Sl), args[i]? = some q → (startE N args)[i]? = some q ∧ i < args.length := fun i q e => by
    have hi := (List.getElem?_eq_some_iff.mp e).1
    unfold startE
    rw [List.getElem?_append_left hi]
    exact ⟨e, hi⟩
  exact {
    len := by unfold startE L2.start; rw [List.length_append, List.length_append, List.length_map, List.length_replicate, List.length_replicate, hl]
    sub := r.sub
    sub0 := r.sub0
    keep := r.keep
    new := r.new
    giv := fun p hp => by
      obtain ⟨h1, d, h2⟩ := r.giv p hp
      obtain ⟨h3, h4⟩ := e3 _ _ h2
      exact ⟨by rw [e2 _ h4]; exact h1, d, h3⟩
    dat := fun i d e => by
      have h := e1 i _ e (fun z => by cases z)
      obtain ⟨v, h1, h2⟩ := r.dat i d h
      exact ⟨v, by rw [e2 _ (e3 _ _ h).2]; exact h1, h2⟩
    own := fun i d e => by
      have h := e1 i _ e (fun z => by cases z)
      obtain ⟨v, h1, h2⟩ := r.own i d h
      exact ⟨v, by rw [e2 _ (e3 _ _ h).2]; exact h1, h2⟩
    inj := fun i j d d' a k1 k2 h1 h2 => by
      have m1 := e1 i _ k1 (fun z => by cases z)
      have m2 := e1 j _ k2 (fun z => by cases z)
      rw [e2 _ (e3 _ _ m1).2] at h1
      rw [e2 _ (e3 _ _ m2).2] at h2
      exact r.inj i j d d' a m1 m2 h1 h2 }
def sxOf (P : Program) (w : World) (K : PySem.W.Frag) (mg : Str → Option Value) (base : Heap) (N : List Str) (sc : Scope) (k : Nat) : Sx := ⟨P, w, K, mg, base, N, sc, k, fun _ => true⟩
section
variable {P : Program} {w : World} {K : PySem.W.Frag} {mg : Str → Option Value} {base : Heap}
theorem def_ok {x qual : Str} {st : Stmt} {f : Addr} {fd : FuncData} {N ps : List Str} {k : Nat} {G : List Nat} {ct : Ct} (F : Fun K x qual st f fd) (Sc : FnScope N ps (defScope st)) (hlen : ∀ args post, ct args post → args.length = ps.length)
    (hbody : ∀ args post, ct args post → WpSs (sxOf P w K mg base N (defScope st) k) G (defBody st) (startE N args) ⟨fun E => post (.dat .none) (outsOf G args E), fun r E => post r (outsOf G args E), fun _ => False, fun _ => False⟩) : FnG P w K mg base (k + 1) f fd ps (spC K G ct) := by
  refine fng_of F Sc (fun vs H Q E h => ?_) (fun cdv A outer s H vs Q E hr gr h => ?_)
  · obtain ⟨R, g, args, post, hG, r, hc, _⟩ := h
    rw [← hlen args post hc, r.len, List.length_map]
  · obtain ⟨R, g, args, post, hG, r, hc, hQ⟩ := h
    have hX : Has (sxOf P w K mg base N (defScope st) k) (cxOf CX0 P w K mg base N qual (defScope st) f cdv A outer s H E).nox := ⟨rfl, rfl, rfl, rfl, rfl, rfl, rfl, rfl, hr, rfl, gr, Sc.nd, fun _ _ => .inl rfl⟩
    refine ⟨_, pss_rd, ?_⟩
    refine hbody args post hc _ hX ⟨H, R, g⟩ _ R H hG (rel_start r) _ ⟨fun E' s' R' H' a q z => ?_, fun v x E' s' R' H' a q p z => ?_, fun _ _ _ _ _ _ z => z.elim, fun _ _ _ _ _ _ z => z.elim⟩
    · exact hQ .non (.dat .none) _ R' H' a (rel_outs hG r q) Dp.non z
    · exact hQ _ _ _ R' H' a (rel_outs hG r q) (rs_outs hG r q p) z
end
/-! ### pure defs -/
def ctP (c : List D → (Sl → Prop) → Prop) : Ct := fun args post => ∃ ds : List D, args = ds.map Sl.dat ∧ c ds fun r => ∀ outs, post r outs
/-- defs that draw: the first argument is an owned list -/
def ctB (c : D → List D → (Sl → D → Prop) → Prop) : Ct := fun args post => ∃ (b : D) (ds : List D), args = Sl.own b :: ds.map Sl.dat ∧ c b ds fun r b' => ∀ outs, outs[0]? = some (Sl.own b') → post r outs
abbrev spP (K : PySem.W.Frag) (c : List D → (Sl → Prop) → Prop) : Sp := spC K [] (ctP c)
abbrev spB (K : PySem.W.Frag) (c : D → List D → (Sl → D → Prop) → Prop) : Sp := spC K [0] (ctB c)
section
variable {P : Program} {w : World} {K : PySem.W.Frag} {mg : Str → Option Value} {base : Heap}
theorem def_P {x qual : Str} {st : Stmt} {f : Addr} {fd : FuncData} {N ps : List Str} {k : Nat} {c : List D → (Sl → Prop) → Prop} (F : Fun K x qual st f fd) (Sc : FnScope N ps (defScope st)) (hlen : ∀ ds post, c ds post → ds.length = ps.length)
    (hbody : ∀ ds post, c ds post → WpSs (sxOf P w K mg base N (defScope st) k) [] (defBody st) (startE N (ds.map Sl.dat)) ⟨fun _ => post (.dat .none), fun r _ => post r, fun _ => False, fun _ => False⟩) : FnG P w K mg base (k + 1) f fd ps (spP K c) := by
  refine def_ok F Sc (fun args post h => ?_) fun args post h => ?_
  · obtain ⟨ds, rfl, h⟩ := h
    rw [List.length_map]
    exact hlen _ _ h
  · obtain ⟨ds, rfl, h⟩ := h
    refine fun X hX F s R H hg r D W => hbody ds _ h X hX F s R H hg r D ⟨fun E' s' R' H' a q z => W.nx E' s' R' H' a q (z _), fun v x E' s' R' H' a q p z => W.rt v x E' s' R' H' a q p (z _), W.bk, W.ct⟩
theorem def_B {x qual : Str} {st : Stmt} {f : Addr} {fd : FuncData} {N ps : List Str} {k : Nat} {c : D → List D → (Sl → D → Prop) → Prop} (F : Fun K x qual st f fd) (Sc : FnScope N ps (defScope st)) (hlen : ∀ b ds post, c b ds post → ds.length + 1 = ps.length)
    (hbody : ∀ b ds post, c b ds post → WpSs (sxOf P w K mg base N (defScope st) k) [0] (defBody st) (startE N (Sl.own b :: ds.map Sl.dat)) ⟨fun E => ∃ b', E[0]? = some (Sl.own b') ∧ post (.dat .none) b', fun r E => ∃ b', E[0]? = some (Sl.own b') ∧ post r b', fun _ => False, fun _ => False⟩) : FnG P w K mg base (k + 1) f fd ps (spB K c) := by
  refine def_ok F Sc (fun args post h => ?_) fun args post h => ?_
  · obtain ⟨b, ds, rfl, h⟩ := h
    rw [List.length_cons, List.length_map]
    exact hlen _ _ _ h
  · obtain ⟨b, ds, rfl, h⟩ := h
    have o0 : ∀ (E : En) b', E[0]? = some (Sl.own b') → (outsOf [0] (Sl.own b :: ds.map Sl.dat) E)[0]? = some (Sl.own b') := fun E b' e => by
      unfold outsOf
      rw [List.getElem?_map, List.getElem?_range (by simp)]
      show some (if 0 ∈ [0] then (E[0]?).getD Sl.no else _) = _
      rw [if_pos (by simp), e]
      rfl
    refine fun X hX F s R H hg r D W => hbody b ds _ h X hX F s R H hg r D ⟨fun E' s' R' H' a q ⟨b', e, z⟩ => W.nx E' s' R' H' a q (z _ (o0 _ _ e)), fun v x E' s' R' H' a q p ⟨b', e, z⟩ => W.rt v x E' s' R' H' a q p (z _ (o0 _ _ e)), W.bk, W.ct⟩
end
/-! ### calls -/
section
variable {K : PySem.W.Frag} {F : Fx} {s : St} {E : En} {R H : Hp}
theorem Rel.args (r : Rel K F s E R H) {vs : List V} {ds : List D} (h : DpAll K R vs ds) : Rel K ⟨H, R, []⟩ (vs.map some) (ds.map Sl.dat) R H where
  len := by rw [List.length_map, List.length_map, dpAll_len h]
  sub := r.sub
  sub0 := Same.refl _
  keep := fun _ _ e _ => e
  new := fun a o e => .inl ⟨o, e⟩
  giv := fun p hp => nomatch hp
  dat := fun i d e => by
    rw [List.getElem?_map] at e
    cases z : ds[i]? with
    | none => rw [z] at e; cases e
    | some d' =>
      rw [z] at e
      cases e
      obtain ⟨v, h1, h2⟩ := dpAll_get h z
      exact ⟨v, by rw [List.getElem?_map, h1]; rfl, h2⟩
  own := fun i d e => by
    rw [List.getElem?_map] at e
    cases z : ds[i]? with
    | none => rw [z] at e; cases e
    | some d' => rw [z] at e; cases e
  inj := fun i j d d' a e => by
    rw [List.getElem?_map] at e
    cases z : ds[i]? with
    | none => rw [z] at e; cases e
    | some d' => rw [z] at e; cases e
/-- behind a call of a pure def -/
theorem Rel.backP (r : Rel K F s E R H) {s' : St} {E' : En} {R' H' : Hp} (q : Rel K ⟨H, R, []⟩ s' E' R' H') : Rel K F s E R' H' where
  len := r.len
  sub := q.sub
  sub0 := r.sub0.trans q.sub0
  keep := fun a o e hg => q.keep a o (r.keep a o e hg) fun p hp => nomatch hp
  new := fun a o e => by
    rcases q.new a o e with ⟨o', h⟩ | h
    · exact r.new a o' h
    · exact .inr (r.free0 h)
  giv := r.giv
  dat := fun i d e => by
    obtain ⟨v, h1, h2⟩ := r.dat i d e
    exact ⟨v, h1, dp_mono q.sub0 _ _ h2⟩
  own := fun i d e => by
    obtain ⟨a, h1, h2, h3, h4⟩ := r.own i d e
    obtain ⟨o, ho⟩ := h3.some
    have hk := q.keep a o ho fun p hp => nomatch hp
    refine ⟨a, h1, ?_, h3.mono q.sub0 (by rw [hk, ho]), h4⟩
    cases z : R' a with
    | none => rfl
    | some u =>
      rcases q.new a u z with ⟨o', w⟩ | w
      · exact nomatch h2.symm.trans w
      · exact nomatch ho.symm.trans w
  inj := r.inj
theorem rs_backP (r : Rel K F s E R H) {s' : St} {E' : En} {R' H' : Hp} {v : V} {x : Sl} (h : RsOk K ⟨H, R, []⟩ s' E' R' H' v x) : RsOk K F s E R' H' v x := by
  cases x with
  | no => exact h
  | dat d => exact h
  | own d =>
    obtain ⟨a, h1, h2, h3, h4, h5⟩ := h
    exact ⟨a, h1, h2, h3, r.free0 h4, own_no r h4⟩
end
section
variable {S : Sx} {e : Expr} {es : List Expr} {E : En} {pos p : Pos} {f : Addr} {fd : FuncData} {ps : List Str} {k : Nat} {x : Str} {P : Sl → En → Prop}
structure CallOk (S : Sx) (x : Str) (k : Nat) (ps : List Str) (sp : Sp) : Prop where
  ex : ∃ (f : Addr) (fd : FuncData), FnG S.P S.w S.K S.mg S.base k f fd ps sp ∧ S.mg x = some (.ref f) ∧ PySem.W.keepIn S.K (.ref f) = true ∧ Binds S.K fd ps []
theorem CallOk.blk {sp : Sp} (h : CallOk S x k ps sp) (scope : Scope) : CallOk (blkS S scope) x k ps sp := ⟨h.ex⟩
theorem wp_callP {c : List D → (Sl → Prop) → Prop} (C : CallOk S x k ps (spP S.K c)) (hk : k ≤ S.k) (hg : GlS S x) (h : WpA S (e :: es) E fun ds E1 => c ds fun r => P r E1)
    (hst : ∀ env : Env, starEach (e :: es) env = (false, eval e env) :: starEach es env := by intro _; rfl) (hpl : ∀ env : Env, (backTo pos (starEach es env)).any (·.1) = false := by intro _; rfl) (hdb : (x == ("__debug__" : Str)) = false := by decide) :
    Wp S (.Call (.Name x p) (e :: es) [] pos) E P := fun X hX F s R H r Q kk => by
  obtain ⟨f, fd, Fn, hm, kp, hb⟩ := C.ex
  rw [← hX.prog, ← hX.w, ← hX.K, ← hX.mg, ← hX.base] at Fn
  rw [← hX.K] at kp hb
  refine ⟨_, peg_call Fn (hX.room.mono hk) hX.grd (hg.gl hX) (by rw [hX.mg]; exact hm) kp hb pa_rd hdb (hst _) (hpl _), ?_⟩
  refine h X hX F s R H r _ fun vs ds E1 R1 H1 s1 r1 p1 h1 => ?_
  rw [List.append_nil]
  refine ⟨R1, [], ds.map Sl.dat, fun r _ => P r E1, rfl, by rw [hX.K]; exact r1.args p1, ⟨ds, rfl, ?_⟩, fun v x outs R' H' a q ok z => ?_⟩
  · have : (fun r => ∀ outs : List Sl, P r E1) = fun r => P r E1 := by funext r; exact propext ⟨fun h => h [], fun h _ => h⟩
    rw [this]
    exact h1
  · rw [hX.K] at q ok
    exact kk v x E1 R' H' (s1.trans a) (r1.backP q) (rs_backP r1 ok) z
end
end Wq
set_option maxHeartbeats 1000000
namespace Wq
open PySem L2

/-! ### calls that draw -/
section
variable {K : PySem.W.Frag} {F : Fx} {s : St} {E : En} {R H : Hp}
theorem Rel.argsB (r : Rel K F s E R H) {i : Nat} {a : Addr} {b : D} (hE : E[i]? = some (.own b)) (ha : s[i]? = some (some (.ref a))) {vs : List V} {ds : List D} (h : DpAll K R vs ds) :
    Rel K ⟨H, R, [(0, a)]⟩ ((V.ref a :: vs).map some) (Sl.own b :: ds.map Sl.dat) R H := by
  obtain ⟨a', h1, h2, h3, h4⟩ := r.own i b hE
  rw [ha] at h1
  cases h1
  have nd : ∀ (j : Nat) (d : D), (Sl.own b :: ds.map Sl.dat)[j]? = some (Sl.own d) → j = 0 ∧ d = b := fun j d e => by
    cases j with
    | zero => exact ⟨rfl, by simp at e; exact e.symm⟩
    | succ j =>
      rw [List.getElem?_cons_succ, List.getElem?_map] at e
      cases z : ds[j]? with
      | none => rw [z] at e; cases e
      | some d' => rw [z] at e; cases e
  exact {
    len := by rw [List.length_cons, List.length_map, List.length_map, List.length_cons, dpAll_len h]
    sub := r.sub
    sub0 := Same.refl _
    keep := fun _ _ e _ => e
    new := fun a o e => .inl ⟨o, e⟩
    giv := fun p hp => by
      have e : p = (0, a) := by simpa using hp
      subst e
      exact ⟨rfl, b, rfl⟩
    dat := fun j d e => by
      cases j with
      | zero => simp at e
      | succ j =>
        rw [List.getElem?_cons_succ, List.getElem?_map] at e
        cases z : ds[j]? with
        | none => rw [z] at e; cases e
        | some d' =>
          rw [z] at e
          cases e
          obtain ⟨v, k1, k2⟩ := dpAll_get h z
          exact ⟨v, by rw [List.map_cons, List.getElem?_cons_succ, List.getElem?_map, k1]; rfl, k2⟩
    own := fun j d e => by
      obtain ⟨rfl, rfl⟩ := nd j d e
      exact ⟨a, rfl, h2, h3, .inr (by simp)⟩
    inj := fun j k d d' x e1 e2 _ _ => by
      rw [(nd j d e1).1, (nd k d' e2).1] }
theorem Rel.backB (r : Rel K F s E R H) {i : Nat} {a : Addr} {b b' : D} (hE : E[i]? = some (.own b)) (ha : s[i]? = some (some (.ref a))) {s' : St} {E' : En} {R' H' : Hp} (q : Rel K ⟨H, R, [(0, a)]⟩ s' E' R' H') (hE' : E'[0]? = some (Sl.own b')) :
    Rel K F s (E.set i (.own b')) R' H' := by
  have hiE : i < E.length := (List.getElem?_eq_some_iff.mp hE).1
  obtain ⟨a', h1, h2, h3, h4⟩ := r.own i b hE
  rw [ha] at h1
  cases h1
  obtain ⟨g1, _⟩ := q.giv (0, a) (by simp)
  obtain ⟨a2, k1, k2, k3, _⟩ := q.own 0 b' hE'
  rw [g1] at k1
  cases k1
  have ow : ∀ (j : Nat) (d : D), (E.set i (Sl.own b'))[j]? = some (Sl.own d) → ∃ d0, E[j]? = some (Sl.own d0) := fun j d e => by
    rcases get_set e with ⟨rfl, _⟩ | ⟨_, e1⟩
    · exact ⟨_, hE⟩
    · exact ⟨_, e1⟩
  exact {
    len := by rw [List.length_set, r.len]
    sub := q.sub
    sub0 := r.sub0.trans q.sub0
    keep := fun c o e hg => by
      refine q.keep c o (r.keep c o e hg) fun p hp z => ?_
      have e' : p = (0, a) := by simpa using hp
      subst e'
      have z : a = c := z
      subst z
      rcases h4 with h4 | h4
      · exact nomatch e.symm.trans h4
      · exact hg _ h4 rfl
    new := fun c o e => by
      rcases q.new c o e with ⟨o', h⟩ | h
      · exact r.new c o' h
      · exact .inr (r.free0 h)
    giv := fun p hp => by
      obtain ⟨w1, d, w2⟩ := r.giv p hp
      refine ⟨w1, ?_⟩
      by_cases hi : i = p.1
      · exact ⟨b', by rw [hi, List.getElem?_set_self (by rw [← hi]; exact hiE)]⟩
      · exact ⟨d, by rw [set_ne hi]; exact w2⟩
    dat := fun j d e => by
      rcases get_set e with ⟨rfl, e1⟩ | ⟨hn, e1⟩
      · cases e1
      · obtain ⟨v, w1, w2⟩ := r.dat j d e1
        exact ⟨v, w1, dp_mono q.sub0 _ _ w2⟩
    own := fun j d e => by
      rcases get_set e with ⟨rfl, e1⟩ | ⟨hn, e1⟩
      · cases e1
        exact ⟨a, ha, k2, k3, h4⟩
      · obtain ⟨c, w1, w2, w3, w4⟩ := r.own j d e1
        have hca : a ≠ c := fun z => hn (r.inj i j b d c hE e1 (by rw [← z]; exact ha) w1)
        obtain ⟨o, ho⟩ := w3.some
        have hk := q.keep c o ho fun p hp z => by
          have e' : p = (0, a) := by simpa using hp
          subst e'
          exact hca z
        refine ⟨c, w1, ?_, w3.mono q.sub0 (by rw [hk, ho]), w4⟩
        cases z : R' c with
        | none => rfl
        | some u =>
          rcases q.new c u z with ⟨o', m⟩ | m
          · exact nomatch w2.symm.trans m
          · exact nomatch ho.symm.trans m
    inj := fun j k d1 d2 x e1 e2 w1 w2 => by
      obtain ⟨d3, e3⟩ := ow j d1 e1
      obtain ⟨d4, e4⟩ := ow k d2 e2
      exact r.inj j k d3 d4 x e3 e4 w1 w2 }
end
section
variable {S : Sx} {e : Expr} {es : List Expr} {E : En} {a b c : Expr} {pos p : Pos} {ps : List Str} {k : Nat} {x : Str} {P : Sl → En → Prop}
theorem wp_callB {c : D → List D → (Sl → D → Prop) → Prop} (C : CallOk S x k ps (spB S.K c)) (hk : k ≤ S.k) (hg : GlS S x) {bx : Str} {i : Nat} {bp : Pos} (hN : S.N[i]? = some bx) (hv : Vis S.sc bx) (hE : ∃ b0, E[i]? = some (Sl.own b0))
    (h : WpA S es E fun ds E1 => ∃ b, E1[i]? = some (Sl.own b) ∧ c b ds fun r b' => P r (E1.set i (.own b')))
    (hst : ∀ env : Env, starEach (.Name bx bp :: es) env = (false, eval (.Name bx bp) env) :: starEach es env := by intro _; rfl) (hpl : ∀ env : Env, (backTo pos (starEach es env)).any (·.1) = false := by intro _; rfl) (hdb : (x == ("__debug__" : Str)) = false := by decide)
    (hd : (bx == ("__debug__" : Str)) = false := by decide) (hcd : (bx == ("__classdict__" : Str)) = false := by decide) : Wp S (.Call (.Name x p) (.Name bx bp :: es) [] pos) E P := fun X hX F s R H r Q kk => by
  obtain ⟨f, fd, Fn, hm, kp, hb⟩ := C.ex
  rw [← hX.prog, ← hX.w, ← hX.K, ← hX.mg, ← hX.base] at Fn
  rw [← hX.K] at kp hb
  refine ⟨_, peg_call Fn (hX.room.mono hk) hX.grd (hg.gl hX) (by rw [hX.mg]; exact hm) kp hb (pa_cons (pe_var (i := i) (by rw [hX.N]; exact hN) (by rw [hX.sc]; exact hv) hd hcd) pa_rd (hst _)) hdb (hst _) (hpl _), ?_⟩
  obtain ⟨b0, hE0⟩ := hE
  obtain ⟨ad, ha, _⟩ := r.own i b0 hE0
  refine ⟨_, ha, ?_⟩
  refine h X hX F s R H r _ fun vs ds E1 R1 H1 s1 r1 p1 ⟨b, hE1, h1⟩ => ?_
  show spB X.K c ((V.ref ad :: vs) ++ []) H1 Q E0
  rw [List.append_nil]
  refine ⟨R1, [(0, ad)], Sl.own b :: ds.map Sl.dat, fun r outs => ∀ b', outs[0]? = some (Sl.own b') → P r (E1.set i (.own b')), rfl, by rw [hX.K]; exact r1.argsB hE1 ha p1, ⟨b, ds, rfl, ?_⟩, fun v x outs R' H' a q ok z => ?_⟩
  · refine (?_ : (fun (r : Sl) (b' : D) => ∀ outs : List Sl, outs[0]? = some (Sl.own b') → ∀ b'', outs[0]? = some (Sl.own b'') → P r (E1.set i (.own b''))) = fun r b' => P r (E1.set i (.own b'))) ▸ h1
    funext r b'
    apply propext
    constructor
    · intro h
      exact h [Sl.own b'] rfl b' rfl
    · intro h outs e b'' e'
      rw [e] at e'
      cases e'
      exact h
  · rw [hX.K] at q ok
    obtain ⟨_, b', hb'⟩ := q.giv (0, ad) (by simp)
    have rr := r1.backB hE1 ha q hb'
    refine kk v x _ R' H' (s1.trans a) rr ?_ (z b' hb')
    cases x with
    | no => exact ok
    | dat d => exact ok
    | own d =>
      obtain ⟨a1, w1, w2, w3, w4, w5⟩ := ok
      refine ⟨a1, w1, w2, w3, r1.free0 w4, fun j d' e z => ?_⟩
      have : ∃ d0, E1[j]? = some (Sl.own d0) := by
        rcases get_set e with ⟨rfl, _⟩ | ⟨_, e1⟩
        · exact ⟨_, hE1⟩
        · exact ⟨_, e1⟩
      obtain ⟨d0, e0⟩ := this
      exact own_no r1 w4 j d0 e0 z

/-! ### built-ins -/
/-- what a built-in gives of data -/
def ClP (S : Sx) (r : List V → Hp → VK → Prop) (ds : List D) (T : Sl → Prop) : Prop := ∀ F s E R H vs, Rel S.K F s E R H → DpAll S.K R vs ds → ∀ Q : VK,
  (∀ v x R' H', Same R R' → Rel S.K F s E R' H' → RsOk S.K F s E R' H' v x → T x → Q v H') → r vs H Q
theorem wp_blt {id : String} {r : List V → Hp → VK → Prop} (hc : ∀ X, Has S X → CallR X (.builtin id) r) (hg : GlS S x) (hm : S.mg x = none) (hv : bootBuiltins x = some (.builtin id)) (h : WpA S (e :: es) E fun ds E1 => ClP S r ds fun v => P v E1)
    (hst : ∀ env : Env, starEach (e :: es) env = (false, eval e env) :: starEach es env := by intro _; rfl) (hpl : ∀ env : Env, (backTo pos (starEach es env)).any (·.1) = false := by intro _; rfl) (hn : x ≠ "__name__" := by decide) (hdb : (x == ("__debug__" : Str)) = false := by decide) :
    Wp S (.Call (.Name x p) (e :: es) [] pos) E P := fun X hX F s R H r0 Q kk => by
  refine ⟨_, pe_callB (hc X hX) (hg.gl hX) (by rw [hX.mg]; exact hm) hv pa_rd hn hdb (hst _) (hpl _), ?_⟩
  refine h X hX F s R H r0 _ fun vs ds E1 R1 H1 s1 r1 p1 h1 => ?_
  exact h1 F s E1 R1 H1 vs r1 p1 Q fun v x R' H' a q ok z => kk v x E1 R' H' (s1.trans a) q ok z
theorem wp_blty {id : String} {r : List V → Hp → VK → Prop} (hc : ∀ X, Has S X → CallR X (.type id) r) (hg : GlS S x) (hm : S.mg x = none) (hv : bootBuiltins x = some (.type id)) (h : WpA S (e :: es) E fun ds E1 => ClP S r ds fun v => P v E1)
    (hst : ∀ env : Env, starEach (e :: es) env = (false, eval e env) :: starEach es env := by intro _; rfl) (hpl : ∀ env : Env, (backTo pos (starEach es env)).any (·.1) = false := by intro _; rfl) (hn : x ≠ "__name__" := by decide) (hdb : (x == ("__debug__" : Str)) = false := by decide) :
    Wp S (.Call (.Name x p) (e :: es) [] pos) E P := fun X hX F s R H r0 Q kk => by
  refine ⟨_, pe_callTy (hc X hX) (hg.gl hX) (by rw [hX.mg]; exact hm) hv pa_rd hn hdb (hst _) (hpl _), ?_⟩
  refine h X hX F s R H r0 _ fun vs ds E1 R1 H1 s1 r1 p1 h1 => ?_
  exact h1 F s E1 R1 H1 vs r1 p1 Q fun v x R' H' a q ok z => kk v x E1 R' H' (s1.trans a) q ok z
/-- built-ins that keep the heap, by values -/
theorem clp_val {r : List V → Hp → VK → Prop} {ds : List D} {d : D} {T : Sl → Prop} (hT : T (.dat d)) (h : ∀ F s E R H vs, Rel S.K F s E R H → DpAll S.K R vs ds → ∃ v, Dp S.K R v d ∧ ∀ Q : VK, Q v H → r vs H Q) : ClP S r ds T := fun F s E R H vs r0 p Q k => by
  obtain ⟨v, h1, h2⟩ := h F s E R H vs r0 p
  exact h2 Q (k v (.dat d) R H (Same.refl _) r0 h1 hT)
/-- a new list, a new tuple -/
theorem clp_newL {r : List V → Hp → VK → Prop} {ds ys : List D} {T : Sl → Prop} (hT : T (.own (.list ys))) (h : ∀ F s E R H vs, Rel S.K F s E R H → DpAll S.K R vs ds → ∃ us, DpAll S.K R us ys ∧ ∀ Q : VK, (∀ q, H q = none → Q (.ref q) (upd H q (.lst us))) → r vs H Q) : ClP S r ds T := fun F s E R H vs r0 p Q k => by
  obtain ⟨us, h1, h2⟩ := h F s E R H vs r0 p
  exact h2 Q fun q hq => k _ (.own (.list ys)) R _ (Same.refl _) (r0.grow hq) ⟨q, rfl, r0.freeR hq, ⟨us, upd_same, h1⟩, r0.free0 hq, own_no r0 hq⟩ hT
theorem clp_newT {r : List V → Hp → VK → Prop} {ds ys : List D} {T : Sl → Prop} (hT : T (.dat (.tuple ys))) (h : ∀ F s E R H vs, Rel S.K F s E R H → DpAll S.K R vs ds → ∃ us, DpAll S.K R us ys ∧ ∀ Q : VK, (∀ q, H q = none → Q (.ref q) (upd H q (.tup us))) → r vs H Q) : ClP S r ds T := fun F s E R H vs r0 p Q k => by
  obtain ⟨us, h1, h2⟩ := h F s E R H vs r0 p
  exact h2 Q fun q hq => k _ (.dat (.tuple ys)) _ _ (same_upd (r0.freeR hq)) (r0.growR hq) (.tup (SqT.of upd_same) (dpAll_mono (same_upd (r0.freeR hq)) _ _ h1)) hT
end
end Wq
set_option maxHeartbeats 1000000
namespace Wq
open PySem L2

/-! ### looking at an owned list -/
inductive Pk (K : PySem.W.Frag) (R H : Hp) : V → D → Prop where
  | dat {v : V} {d : D} (h : Dp K R v d) : Pk K R H v d
  | own {a : Addr} {vs : List V} {ds : List D} (h : H a = some (.lst vs)) (hd : DpAll K R vs ds) : Pk K R H (.ref a) (.list ds)
theorem Pk.dp {K : PySem.W.Frag} {R H : Hp} {v : V} {d : D} (h : Pk K R H v d) (s : Same R H) : Dp K H v d := by
  cases h with
  | dat h => exact dp_mono s _ _ h
  | own h hd => exact .lst (SqL.of h) (dpAll_mono s _ _ hd)
theorem Pk.list {K : PySem.W.Frag} {R H : Hp} {v : V} {ds : List D} (h : Pk K R H v (.list ds)) (s : Same R H) : ∃ a vs, v = .ref a ∧ SqL K H a vs ∧ DpAll K R vs ds := by
  cases h with
  | dat h =>
    cases h with
    | lst h1 h2 => exact ⟨_, _, rfl, s.seq h1, h2⟩
  | own h hd => exact ⟨_, _, rfl, SqL.of h, hd⟩
theorem Pk.tuple {K : PySem.W.Frag} {R H : Hp} {v : V} {ds : List D} (h : Pk K R H v (.tuple ds)) (s : Same R H) : ∃ a vs, v = .ref a ∧ SqT K H a vs ∧ DpAll K R vs ds ∧ Dp K R v (.tuple ds) := by
  cases h with
  | dat h =>
    cases h with
    | tup h1 h2 => exact ⟨_, _, rfl, same_t s h1, h2, .tup h1 h2⟩
def WpK (S : Sx) (e : Expr) (E : En) (P : D → En → Prop) : Prop :=
  ∀ X, Has S X → ∀ F s R H, Rel S.K F s E R H → ∀ Q : VK,
    (∀ v d E' R' H', Same R R' → Rel S.K F s E' R' H' → Pk S.K R' H' v d → P d E' → Q v H') → RdE X e s H Q
section
variable {S : Sx} {e : Expr} {es : List Expr} {E : En} {a b c : Expr} {pos p : Pos} {x : Str} {P : D → En → Prop} {i : Nat}
theorem WpD.k (h : WpD S e E P) : WpK S e E P := fun X hX F s R H r Q k => h X hX F s R H r Q fun v d E' R' H' a r' p q => k v d E' R' H' a r' (.dat p) q
theorem wk_own {ds : List D} (hN : S.N[i]? = some x) (hv : Vis S.sc x) (hE : E[i]? = some (.own (.list ds))) (h : P (.list ds) E) (hd : (x == ("__debug__" : Str)) = false := by decide) (hcd : (x == ("__classdict__" : Str)) = false := by decide) : WpK S (.Name x pos) E P := fun X hX F s R H r Q k => by
  refine ⟨_, pe_var (i := i) (by rw [hX.N]; exact hN) (by rw [hX.sc]; exact hv) hd hcd, ?_⟩
  obtain ⟨ad, h1, h2, ⟨vs, h3, h4⟩, _⟩ := r.own i _ hE
  exact ⟨_, h1, k _ _ E R H (Same.refl _) r (.own h3 h4) h⟩

/-! ### items -/
theorem dpAll_at {K : PySem.W.Frag} {R : Hp} {vs : List V} {ds : List D} {k : Int} {d : D} (h : DpAll K R vs ds) (e : atI ds k = some d) : ∃ v, atI vs k = some v ∧ Dp K R v d := by
  unfold atI at e ⊢
  rw [dpAll_len h]
  cases z : ixN ds.length k with
  | none => rw [z] at e; cases e
  | some j =>
    rw [z] at e
    exact dpAll_get h e
inductive ItemD : D → Int → D → Prop where
  | lst {ds k d} (h : atI ds k = some d) : ItemD (.list ds) k d
  | tup {ds k d} (h : atI ds k = some d) : ItemD (.tuple ds) k d
  | str {z : Str} {k c} (hz : z.length ≤ 100000) (h : atI z.cps.toList k = some c) : ItemD (.str z) k (.str ⟨#[c]⟩)
theorem wd_ix (h : WpD S a E fun d1 E1 => WpD S b E1 fun d2 E2 => ∃ k d, d2 = .int k ∧ ItemD d1 k d ∧ P d E2) (hs : PlainIx b := by intro _ _; rfl) : WpD S (.Subscript a b pos) E P := fun X hX F s R H r0 Q k => by
  refine ⟨_, pe_ix ix_seq pe_rd pe_rd hs, ?_⟩
  refine h X hX F s R H r0 _ fun v1 d1 E1 R1 H1 s1 r1 p1 h1 => ?_
  refine h1 X hX F s R1 H1 r1 _ fun v2 d2 E2 R2 H2 s2 r2 p2 ⟨j, d, e2, it, h3⟩ => ?_
  subst e2
  cases p2
  have p1 := dp_mono s2 _ _ p1
  rw [hX.K]
  cases it with
  | lst hi =>
    cases p1 with
    | lst hq hd =>
      obtain ⟨v, e1, e2⟩ := dpAll_at hd hi
      exact .inl ⟨_, _, _, v, rfl, rfl, r2.sub.seq hq, e1, k v d E2 R2 H2 (s1.trans s2) r2 e2 h3⟩
  | tup hi =>
    cases p1 with
    | tup hq hd =>
      obtain ⟨v, e1, e2⟩ := dpAll_at hd hi
      exact .inr (.inl ⟨_, _, _, v, rfl, rfl, same_t r2.sub hq, e1, k v d E2 R2 H2 (s1.trans s2) r2 e2 h3⟩)
  | str hz hi =>
    cases p1
    exact .inr (.inr ⟨_, _, _, rfl, rfl, Nat.le_trans hz (by decide), hi, k _ _ E2 R2 H2 (s1.trans s2) r2 (.str _) h3⟩)
theorem wd_ixOwn (hN : S.N[i]? = some x) (hv : Vis S.sc x) (hE : ∃ d0, E[i]? = some (Sl.own d0)) (h : WpD S b E fun d2 E2 => ∃ ds k d, E2[i]? = some (Sl.own (.list ds)) ∧ d2 = .int k ∧ atI ds k = some d ∧ P d E2) (hs : PlainIx b := by intro _ _; rfl)
    (hd : (x == ("__debug__" : Str)) = false := by decide) (hcd : (x == ("__classdict__" : Str)) = false := by decide) : WpD S (.Subscript (.Name x p) b pos) E P := fun X hX F s R H r0 Q k => by
  refine ⟨_, pe_ix ix_list (pe_var (i := i) (by rw [hX.N]; exact hN) (by rw [hX.sc]; exact hv) hd hcd) pe_rd hs, ?_⟩
  obtain ⟨d0, hE0⟩ := hE
  obtain ⟨ad, ha, _⟩ := r0.own i d0 hE0
  refine ⟨_, ha, ?_⟩
  refine h X hX F s R H r0 _ fun v2 d2 E2 R2 H2 s2 r2 p2 ⟨ds, j, d, e1, e2, hi, h3⟩ => ?_
  subst e2
  cases p2
  obtain ⟨ad', ha', _, ⟨vs, g1, g2⟩, _⟩ := r2.own i _ e1
  rw [ha] at ha'
  cases ha'
  obtain ⟨v, w1, w2⟩ := dpAll_at g2 hi
  exact ⟨_, _, _, v, rfl, rfl, SqL.of g1, w1, k v d E2 R2 H2 s2 r2 w2 h3⟩

/-! ### slices -/
def WpO (S : Sx) (e : Option Expr) (E : En) (P : Option Int → En → Prop) : Prop := match e with
  | none => P none E
  | some e => WpD S e E fun d E1 => ∃ k, d = .int k ∧ P (some k) E1
def cutD (xs : List D) (lo hi : Option Int) : List D := (xs.drop (HT.sIx xs.length 0 lo)).take (HT.sIx xs.length xs.length hi - HT.sIx xs.length 0 lo)
theorem dpAll_drop {K : PySem.W.Frag} {R : Hp} : ∀ {vs : List V} {ds : List D} (n : Nat), DpAll K R vs ds → DpAll K R (vs.drop n) (ds.drop n)
  | _, _, 0, h => h
  | _, _, _ + 1, .nil => .nil
  | _, _, n + 1, .cons _ h => dpAll_drop n h
theorem dpAll_take {K : PySem.W.Frag} {R : Hp} : ∀ {vs : List V} {ds : List D} (n : Nat), DpAll K R vs ds → DpAll K R (vs.take n) (ds.take n)
  | _, _, 0, _ => .nil
  | _, _, _ + 1, .nil => .nil
  | _, _, n + 1, .cons h1 h => .cons h1 (dpAll_take n h)
theorem dpAll_cut {K : PySem.W.Frag} {R : Hp} {vs : List V} {ds : List D} (h : DpAll K R vs ds) (lo hi : Option Int) : DpAll K R (cutV vs lo hi) (cutD ds lo hi) := by
  unfold cutV cutD
  rw [dpAll_len h]
  exact dpAll_take _ (dpAll_drop _ h)
def RdO (X : Cx) (e : Option Expr) : TO := fun s H Q => ∃ t, PO X e t ∧ t s H Q
theorem po_rd {X : Cx} {e : Option Expr} : PO X e (RdO X e) := ⟨fun pins s σ H Q I ⟨_, ht, q⟩ => ht.run pins s σ H Q I q⟩
theorem WpO.run {o : Option Expr} {P : Option Int → En → Prop} (h : WpO S o E P) {X : Cx} (hX : Has S X) {F : Fx} {s : St} {R H : Hp} (r : Rel S.K F s E R H) {Q : Option Int → Hp → Prop} (k : ∀ j E' R' H', Same R R' → Rel S.K F s E' R' H' → P j E' → Q j H') : RdO X o s H Q := by
  cases o with
  | none => exact ⟨_, po_none, k none E R H (Same.refl _) r h⟩
  | some e =>
    refine ⟨_, po_some pe_rd, ?_⟩
    have h' : WpD S e E fun d E1 => ∃ k, d = .int k ∧ P (some k) E1 := h
    refine h' X hX F s R H r _ fun v d E1 R1 H1 s1 r1 p1 ⟨j, e1, h1⟩ => ?_
    subst e1
    cases p1
    exact ⟨j, rfl, k (some j) E1 R1 H1 s1 r1 h1⟩
variable {lo hi : Option Expr} {p2 : Pos}
theorem wd_slS (h : WpD S a E fun d E1 => WpO S lo E1 fun l E2 => WpO S hi E2 fun u E3 => ∃ z : Str, d = .str z ∧ z.length ≤ 100000 ∧ P (.str (cutS z l u)) E3) : WpD S (.Subscript a (.Slice lo hi none p2) pos) E P := fun X hX F s R H r0 Q k => by
  refine ⟨_, pe_slice sl_str pe_rd po_rd po_rd, ?_⟩
  refine h X hX F s R H r0 _ fun v1 d1 E1 R1 H1 s1 r1 p1 h1 => ?_
  refine h1.run hX r1 fun l E2 R2 H2 s2 r2 h2 => ?_
  refine h2.run hX r2 fun u E3 R3 H3 s3 r3 ⟨z, e, hz, h3⟩ => ?_
  subst e
  cases p1
  exact ⟨z, rfl, Nat.le_trans hz (by decide), k _ _ E3 R3 H3 ((s1.trans s2).trans s3) r3 (.str _) h3⟩
theorem wp_slL {P : Sl → En → Prop} (h : WpD S a E fun d E1 => WpO S lo E1 fun l E2 => WpO S hi E2 fun u E3 => ∃ ds, d = .list ds ∧ P (.own (.list (cutD ds l u))) E3) : Wp S (.Subscript a (.Slice lo hi none p2) pos) E P := fun X hX F s R H r0 Q k => by
  refine ⟨_, pe_slice sl_list pe_rd po_rd po_rd, ?_⟩
  refine h X hX F s R H r0 _ fun v1 d1 E1 R1 H1 s1 r1 p1 h1 => ?_
  refine h1.run hX r1 fun l E2 R2 H2 s2 r2 h2 => ?_
  refine h2.run hX r2 fun u E3 R3 H3 s3 r3 ⟨ds, e, h3⟩ => ?_
  subst e
  have p1 := dp_mono (s2.trans s3) _ _ p1
  cases p1 with
  | lst hq hd =>
    rw [hX.K]
    refine ⟨_, _, rfl, r3.sub.seq hq, fun q hq' => ?_⟩
    exact k _ (.own (.list (cutD ds l u))) E3 R3 _ ((s1.trans s2).trans s3) (r3.grow hq') ⟨q, rfl, r3.freeR hq', ⟨_, upd_same, dpAll_cut hd l u⟩, r3.free0 hq', own_no r3 hq'⟩ h3
theorem wd_slT (h : WpD S a E fun d E1 => WpO S lo E1 fun l E2 => WpO S hi E2 fun u E3 => ∃ ds, d = .tuple ds ∧ P (.tuple (cutD ds l u)) E3) : WpD S (.Subscript a (.Slice lo hi none p2) pos) E P := fun X hX F s R H r0 Q k => by
  refine ⟨_, pe_slice sl_tupA pe_rd po_rd po_rd, ?_⟩
  refine h X hX F s R H r0 _ fun v1 d1 E1 R1 H1 s1 r1 p1 h1 => ?_
  refine h1.run hX r1 fun l E2 R2 H2 s2 r2 h2 => ?_
  refine h2.run hX r2 fun u E3 R3 H3 s3 r3 ⟨ds, e, h3⟩ => ?_
  subst e
  have p1 := dp_mono (s2.trans s3) _ _ p1
  cases p1 with
  | tup hq hd =>
    rename_i ad vs
    rw [hX.K]
    refine ⟨_, _, rfl, same_t r3.sub hq, fun hw => ?_, fun _ q hq' => ?_⟩
    · have e : cutD ds l u = ds := by
        unfold cutD
        rw [← dpAll_len hd, hw.1, hw.2, List.drop_zero, Nat.sub_zero, dpAll_len hd, List.take_length]
      exact k _ _ E3 R3 H3 ((s1.trans s2).trans s3) r3 (.tup hq hd) (by rw [e] at h3; exact h3)
    · exact k _ _ E3 _ _ (((s1.trans s2).trans s3).trans (same_upd (r3.freeR hq'))) (r3.growR hq') (.tup (SqT.of upd_same) (dpAll_mono (same_upd (r3.freeR hq')) _ _ (dpAll_cut hd l u))) h3
/-- t + u, tuples -/
theorem wd_addT (h : WpD S a E fun d1 E1 => WpD S b E1 fun d2 E2 => ∃ xs ys, d1 = .tuple xs ∧ d2 = .tuple ys ∧ xs.length + ys.length ≤ 100000 ∧ P (.tuple (xs ++ ys)) E2) : WpD S (.BinOp a .Add b pos) E P :=
  wd_bin (r := rCatA S.K) (fun X hX => by rw [← hX.K]; exact op_catA) (h.mono fun _ _ h => h.mono fun _ _ ⟨xs, ys, h1, h2, hc, h3⟩ => ⟨_, by
    subst h1 h2
    intro F s E R H v1 v2 r p1 p2 Q k
    cases p1 with
    | tup q1 d1 =>
      cases p2 with
      | tup q2 d2 =>
        refine ⟨_, _, _, _, rfl, rfl, same_t r.sub q1, same_t r.sub q2, Nat.le_trans (by rw [dpAll_len d1, dpAll_len d2]; exact hc) (by decide), fun e => ?_, fun _ e => ?_, fun _ _ q hq => ?_⟩
        · subst e
          cases d1
          exact k _ R H (Same.refl _) r (.tup q2 d2)
        · subst e
          cases d2
          rw [List.append_nil] at k
          exact k _ R H (Same.refl _) r (.tup q1 d1)
        · exact k _ _ _ (same_upd (r.freeR hq)) (r.growR hq) (.tup (SqT.of upd_same) (dpAll_mono (same_upd (r.freeR hq)) _ _ (dpAll_app d1 d2))), h3⟩)
/-- in, not in -/
theorem wt_in {P : Bool → En → Prop} (h : WpD S a E fun d1 E1 => WpK S b E1 fun d2 E2 => ∃ ds, d2 = .list ds ∧ SeqAt.shaped d1 = true ∧ SeqAt.shaped (.list ds) = true ∧ P (ds.any fun z => PyData.eqv z d1) E2) (hm : behindInMarks .In b = false := by rfl) : WpT S (.Compare a [.In] [b] pos) E P := fun X hX F s R H r0 Q k => by
  refine ⟨_, pt_cmpR (op_inD (by have := hX.room.un; omega)) pe_rd pe_rd hm, ?_⟩
  refine h X hX F s R H r0 _ fun v1 d1 E1 R1 H1 s1 r1 p1 h1 => ?_
  refine h1 X hX F s R1 H1 r1 _ fun v2 d2 E2 R2 H2 s2 r2 p2 ⟨ds, e, h2, h3, h4⟩ => ?_
  subst e
  rw [hX.K]
  exact ⟨d1, ds, dp_mono r2.sub _ _ (dp_mono s2 _ _ p1), p2.dp r2.sub, h2, h3, _, rfl, k _ E2 R2 H2 (s1.trans s2) r2 h4⟩
theorem wt_notIn {P : Bool → En → Prop} (h : WpD S a E fun d1 E1 => WpK S b E1 fun d2 E2 => ∃ ds, d2 = .list ds ∧ SeqAt.shaped d1 = true ∧ SeqAt.shaped (.list ds) = true ∧ P (!ds.any fun z => PyData.eqv z d1) E2) (hm : behindInMarks .NotIn b = false := by rfl) : WpT S (.Compare a [.NotIn] [b] pos) E P := fun X hX F s R H r0 Q k => by
  refine ⟨_, pt_cmpR (op_notInD (by have := hX.room.un; omega)) pe_rd pe_rd hm, ?_⟩
  refine h X hX F s R H r0 _ fun v1 d1 E1 R1 H1 s1 r1 p1 h1 => ?_
  refine h1 X hX F s R1 H1 r1 _ fun v2 d2 E2 R2 H2 s2 r2 p2 ⟨ds, e, h2, h3, h4⟩ => ?_
  subst e
  rw [hX.K]
  exact ⟨d1, ds, dp_mono r2.sub _ _ (dp_mono s2 _ _ p1), p2.dp r2.sub, h2, h3, _, rfl, k _ E2 R2 H2 (s1.trans s2) r2 h4⟩
/-- == of any data; the right one may be an owned list -/
theorem wt_eqD {P : Bool → En → Prop} (h : WpD S a E fun d1 E1 => WpK S b E1 fun d2 E2 => SeqAt.shaped d1 = true ∧ SeqAt.shaped d2 = true ∧ P (PyData.eqv d1 d2) E2) : WpT S (.Compare a [.Eq] [b] pos) E P := fun X hX F s R H r0 Q k => by
  refine ⟨_, pt_cmpR (op_eqD hX.room.units) pe_rd pe_rd (nomark _), ?_⟩
  refine h X hX F s R H r0 _ fun v1 d1 E1 R1 H1 s1 r1 p1 h1 => ?_
  refine h1 X hX F s R1 H1 r1 _ fun v2 d2 E2 R2 H2 s2 r2 p2 ⟨h2, h3, h4⟩ => ?_
  rw [hX.K]
  exact ⟨d1, d2, dp_mono r2.sub _ _ (dp_mono s2 _ _ p1), p2.dp r2.sub, h2, h3, _, rfl, k _ E2 R2 H2 (s1.trans s2) r2 h4⟩
/-- x != [], x an owned list -/
theorem wt_neNil {P : Bool → En → Prop} {ds : List D} {lp : Pos} (hN : S.N[i]? = some x) (hv : Vis S.sc x) (hE : E[i]? = some (.own (.list ds))) (hz : SeqAt.shaped (.list ds) = true) (h : P (!PyData.eqv (.list ds) (.list [])) E) (hd : (x == ("__debug__" : Str)) = false := by decide) (hcd : (x == ("__classdict__" : Str)) = false := by decide) :
    WpT S (.Compare (.Name x p) [.NotEq] [.List [] lp] pos) E P := fun X hX F s R H r0 Q k => by
  refine ⟨_, pt_cmpR (op_neD hX.room.units) (pe_var (i := i) (by rw [hX.N]; exact hN) (by rw [hX.sc]; exact hv) hd hcd) (pe_lst pa_nil) (nomark _), ?_⟩
  obtain ⟨ad, h1, h2, ⟨vs, h3, h4⟩, _⟩ := r0.own i _ hE
  refine ⟨_, h1, Nat.zero_le _, fun q hq => ?_⟩
  rw [hX.K]
  have hne : ad ≠ q := ne_of_none h3 hq
  have sm := r0.sub.trans (same_upd (o := .lst []) hq)
  refine ⟨_, _, .lst (SqL.of (by rw [upd_ne hne]; exact h3)) (dpAll_mono sm _ _ h4), .lst (SqL.of upd_same) .nil, hz, by decide, _, rfl, k _ E R _ (Same.refl _) (r0.grow hq) h⟩
end
end Wq
set_option maxHeartbeats 1000000
namespace Wq
open PySem L2

section
variable {S : Sx} {e : Expr} {es : List Expr} {E : En} {a b c : Expr} {pos p : Pos} {x : Str} {P : Sl → En → Prop} {PD : D → En → Prop} {i : Nat}
/-! ### built-ins of one argument -/
def ClK (S : Sx) (r : List V → Hp → VK → Prop) (d : D) (T : Sl → Prop) : Prop := ∀ F s E R H v, Rel S.K F s E R H → Pk S.K R H v d → ∀ Q : VK,
  (∀ v' x R' H', Same R R' → Rel S.K F s E R' H' → RsOk S.K F s E R' H' v' x → T x → Q v' H') → r [v] H Q
theorem wp_blt1 {id : String} {r : List V → Hp → VK → Prop} (hc : ∀ X, Has S X → CallR X (.builtin id) r) (hg : GlS S x) (hm : S.mg x = none) (hv : bootBuiltins x = some (.builtin id)) (h : WpK S e E fun d E1 => ClK S r d fun v => P v E1)
    (hst : ∀ env : Env, starEach [e] env = (false, eval e env) :: starEach [] env := by intro _; rfl) (hn : x ≠ "__name__" := by decide) (hdb : (x == ("__debug__" : Str)) = false := by decide) :
    Wp S (.Call (.Name x p) [e] [] pos) E P := fun X hX F s R H r0 Q kk => by
  refine ⟨_, pe_callB (hc X hX) (hg.gl hX) (by rw [hX.mg]; exact hm) hv (pa_cons pe_rd pa_nil (hst _)) hn hdb (hst _) rfl, ?_⟩
  refine h X hX F s R H r0 _ fun v d E1 R1 H1 s1 r1 p1 h1 => ?_
  exact h1 F s E1 R1 H1 v r1 p1 Q fun v x R' H' a q ok z => kk v x E1 R' H' (s1.trans a) q ok z
theorem wp_blty1 {id : String} {r : List V → Hp → VK → Prop} (hc : ∀ X, Has S X → CallR X (.type id) r) (hg : GlS S x) (hm : S.mg x = none) (hv : bootBuiltins x = some (.type id)) (h : WpK S e E fun d E1 => ClK S r d fun v => P v E1)
    (hst : ∀ env : Env, starEach [e] env = (false, eval e env) :: starEach [] env := by intro _; rfl) (hn : x ≠ "__name__" := by decide) (hdb : (x == ("__debug__" : Str)) = false := by decide) :
    Wp S (.Call (.Name x p) [e] [] pos) E P := fun X hX F s R H r0 Q kk => by
  refine ⟨_, pe_callTy (hc X hX) (hg.gl hX) (by rw [hX.mg]; exact hm) hv (pa_cons pe_rd pa_nil (hst _)) hn hdb (hst _) rfl, ?_⟩
  refine h X hX F s R H r0 _ fun v d E1 R1 H1 s1 r1 p1 h1 => ?_
  exact h1 F s E1 R1 H1 v r1 p1 Q fun v x R' H' a q ok z => kk v x E1 R' H' (s1.trans a) q ok z
theorem wd_of (h : Wp S e E fun r E' => ∃ d, r = .dat d ∧ PD d E') : WpD S e E PD := Wp.d (h.mono fun r E' ⟨d, e, q⟩ => by subst e; exact q)
inductive LenD : D → Nat → Prop where
  | lst {ds} : LenD (.list ds) ds.length
  | tup {ds} : LenD (.tuple ds) ds.length
  | str {z : Str} (h : z.length ≤ 100000) : LenD (.str z) z.length
theorem wd_len (hg : GlS S "len") (hm : S.mg "len" = none) (h : WpK S e E fun d E1 => ∃ n, LenD d n ∧ PD (.int n) E1) (hst : ∀ env : Env, starEach [e] env = (false, eval e env) :: starEach [] env := by intro _; rfl) : WpD S (.Call (.Name "len" p) [e] [] pos) E PD := by
  refine wd_of (wp_blt1 (r := fun xs H Q => ∃ x n, xs = [x] ∧ LenV S.K x H n ∧ Q (.int n) H) (fun X hX => by rw [← hX.K]; exact call_len) hg hm boot_len (fun X hX F s R H r Q k => h X hX F s R H r Q fun v d E' R' H' a r' p q => k v d E' R' H' a r' p ?_) hst)
  obtain ⟨n, hn, hp⟩ := q
  intro F s E R H v r pk Q kk
  refine ⟨v, n, rfl, ?_, kk _ (.dat (.int n)) R H (Same.refl _) r (Dp.int _) ⟨_, rfl, hp⟩⟩
  cases hn with
  | lst =>
    obtain ⟨a, vs, rfl, h1, h2⟩ := pk.list r.sub
    exact .inl ⟨vs, h1, (dpAll_len h2).symm⟩
  | tup =>
    obtain ⟨a, vs, rfl, h1, h2, _⟩ := pk.tuple r.sub
    exact .inr ⟨vs, h1, (dpAll_len h2).symm⟩
  | str hz =>
    cases pk with
    | dat h =>
      cases h
      exact ⟨Nat.le_trans hz (by decide), rfl⟩
theorem wd_abs (hg : GlS S "abs") (hm : S.mg "abs" = none) (h : WpD S e E fun d E1 => ∃ k, d = .int k ∧ PD (.int (if k < 0 then -k else k)) E1) (hst : ∀ env : Env, starEach [e] env = (false, eval e env) :: starEach [] env := by intro _; rfl) : WpD S (.Call (.Name "abs" p) [e] [] pos) E PD := by
  refine wd_of (wp_blt (r := fun xs H Q => ∃ i, xs = [.int i] ∧ Q (.int (if i < 0 then -i else i)) H) (fun _ _ => call_abs) hg hm PyProof.Rows.boot_abs (wa_cons (h.mono fun d E1 ⟨k, e1, q⟩ => wa_nil ?_) hst) hst fun _ => rfl)
  subst e1
  refine clp_val ⟨_, rfl, q⟩ fun F s E R H vs r p => ?_
  cases p with
  | cons p1 p2 =>
    cases p1
    cases p2
    exact ⟨_, .int _, fun Q h => ⟨k, rfl, h⟩⟩
theorem wd_int1 (hg : GlS S "int") (hm : S.mg "int" = none) (h : WpD S e E fun d E1 => (∃ k, d = .int k ∧ PD (.int k) E1) ∨ ∃ k, d = .bool k ∧ PD (.int (if k then 1 else 0)) E1) (hst : ∀ env : Env, starEach [e] env = (false, eval e env) :: starEach [] env := by intro _; rfl) : WpD S (.Call (.Name "int" p) [e] [] pos) E PD := by
  refine wd_of (wp_blty (r := fun xs H Q => (∃ i, xs = [.int i] ∧ Q (.int i) H) ∨ ∃ k, xs = [.bl k] ∧ Q (.int (if k then 1 else 0)) H) (fun _ _ => call_int1) hg hm PyProof.Rows.boot_int (wa_cons (h.mono fun d E1 q => wa_nil ?_) hst) hst fun _ => rfl)
  rcases q with ⟨k, rfl, q⟩ | ⟨k, rfl, q⟩
  · refine clp_val ⟨_, rfl, q⟩ fun F s E R H vs r p => ?_
    cases p with
    | cons p1 p2 =>
      cases p1
      cases p2
      exact ⟨_, .int _, fun Q h => .inl ⟨k, rfl, h⟩⟩
  · refine clp_val ⟨_, rfl, q⟩ fun F s E R H vs r p => ?_
    cases p with
    | cons p1 p2 =>
      cases p1
      cases p2
      exact ⟨_, .int _, fun Q h => .inr ⟨k, rfl, h⟩⟩
theorem wd_min2 (hg : GlS S "min") (hm : S.mg "min" = none) (h : WpD S a E fun d E1 => WpD S b E1 fun d' E2 => ∃ k j, d = .int k ∧ d' = .int j ∧ PD (.int (if j < k then j else k)) E2) (hst : ∀ env : Env, starEach [a, b] env = (false, eval a env) :: starEach [b] env := by intro _; rfl)
    (hst2 : ∀ env : Env, starEach [b] env = (false, eval b env) :: starEach [] env := by intro _; rfl) (hpl : ∀ env : Env, (backTo pos (starEach [b] env)).any (·.1) = false := by intro _; rfl) : WpD S (.Call (.Name "min" p) [a, b] [] pos) E PD := by
  refine wd_of (wp_blt (r := fun xs H Q => ∃ i j, xs = [.int i, .int j] ∧ Q (.int (if j < i then j else i)) H) (fun X hX => call_min2 hX.calm) hg hm PyProof.Rows.boot_min (wa_cons (h.mono fun d E1 q0 => wa_cons (q0.mono fun d' E2 ⟨k, j, e1, e2, q⟩ => wa_nil ?_) hst2) hst) hst hpl)
  clear h
  subst e1 e2
  refine clp_val ⟨_, rfl, q⟩ fun F s E R H vs r p => ?_
  cases p with
  | cons p1 p2 =>
    cases p2 with
    | cons p2 p3 =>
      cases p1
      cases p2
      cases p3
      exact ⟨_, .int _, fun Q h => ⟨k, j, rfl, h⟩⟩
theorem wd_divmod (hg : GlS S "divmod") (hm : S.mg "divmod" = none) (h : WpD S a E fun d E1 => WpD S b E1 fun d' E2 => ∃ k j, d = .int k ∧ d' = .int j ∧ CDiv k j ∧ PD (.tuple [.int (k / j), .int (k % j)]) E2) (hst : ∀ env : Env, starEach [a, b] env = (false, eval a env) :: starEach [b] env := by intro _; rfl)
    (hst2 : ∀ env : Env, starEach [b] env = (false, eval b env) :: starEach [] env := by intro _; rfl) (hpl : ∀ env : Env, (backTo pos (starEach [b] env)).any (·.1) = false := by intro _; rfl) : WpD S (.Call (.Name "divmod" p) [a, b] [] pos) E PD := by
  refine wd_of (wp_blt (r := fun xs H Q => ∃ i j, xs = [.int i, .int j] ∧ CDiv i j ∧ ∀ p, H p = none → Q (.ref p) (upd H p (.tup [.int (i / j), .int (i % j)]))) (fun X hX => call_divmod) hg hm PyProof.Rows.boot_divmod (wa_cons (h.mono fun d E1 q0 => wa_cons (q0.mono fun d' E2 ⟨k, j, e1, e2, hc, q⟩ => wa_nil ?_) hst2) hst) hst hpl)
  subst e1 e2
  refine clp_newT (ys := [.int (k / j), .int (k % j)]) ⟨_, rfl, q⟩ fun F s E R H vs r p => ?_
  cases p with
  | cons p1 p2 =>
    cases p2 with
    | cons p2 p3 =>
      cases p1
      cases p2
      cases p3
      exact ⟨_, .cons (.int _) (.cons (.int _) .nil), fun Q h => ⟨k, j, rfl, hc, h⟩⟩
/-- list(x), tuple(x) -/
theorem wp_list (hg : GlS S "list") (hm : S.mg "list" = none) (h : WpK S e E fun d E1 => ∃ ds, (d = .list ds ∨ d = .tuple ds) ∧ P (.own (.list ds)) E1) (hst : ∀ env : Env, starEach [e] env = (false, eval e env) :: starEach [] env := by intro _; rfl) : Wp S (.Call (.Name "list" p) [e] [] pos) E P := by
  refine wp_blty1 (r := fun xs H Q => ∃ p ys, xs = [.ref p] ∧ (SqL S.K H p ys ∨ SqT S.K H p ys) ∧ ∀ l, H l = none → Q (.ref l) (upd H l (.lst ys))) (fun X hX => by rw [← hX.K]; exact call_list_of) hg hm PyProof.Rows.boot_list (fun X hX F s R H r Q k => h X hX F s R H r Q fun v d E' R' H' a r' p q => k v d E' R' H' a r' p ?_) hst
  obtain ⟨ds, hd, hp⟩ := q
  intro F s E R H v r pk Q kk
  have fin : ∀ (l : Addr) (vs : List V), DpAll S.K R vs ds → H l = none → Q (.ref l) (upd H l (.lst vs)) := fun l vs h2 hl => kk _ (.own (.list ds)) R _ (Same.refl _) (r.grow hl) ⟨l, rfl, r.freeR hl, ⟨vs, upd_same, h2⟩, r.free0 hl, own_no r hl⟩ hp
  rcases hd with rfl | rfl
  · obtain ⟨a, vs, rfl, h1, h2⟩ := pk.list r.sub
    exact ⟨a, vs, rfl, .inl h1, fun l hl => fin l vs h2 hl⟩
  · obtain ⟨a, vs, rfl, h1, h2, _⟩ := pk.tuple r.sub
    exact ⟨a, vs, rfl, .inr h1, fun l hl => fin l vs h2 hl⟩
theorem wd_tuple (hg : GlS S "tuple") (hm : S.mg "tuple" = none) (h : WpK S e E fun d E1 => ∃ ds, (d = .list ds ∨ d = .tuple ds) ∧ PD (.tuple ds) E1) (hst : ∀ env : Env, starEach [e] env = (false, eval e env) :: starEach [] env := by intro _; rfl) : WpD S (.Call (.Name "tuple" p) [e] [] pos) E PD := by
  refine wd_of (wp_blty1 (r := fun xs H Q => ∃ p ys, xs = [.ref p] ∧ ((SqL S.K H p ys ∧ ∀ l, H l = none → Q (.ref l) (upd H l (.tup ys))) ∨ (SqT S.K H p ys ∧ Q (.ref p) H))) (fun X hX => by rw [← hX.K]; exact call_tuple_of) hg hm PyProof.Rows.boot_tuple (fun X hX F s R H r Q k => h X hX F s R H r Q fun v d E' R' H' a r' p q => k v d E' R' H' a r' p ?_) hst)
  obtain ⟨ds, hd, hp⟩ := q
  intro F s E R H v r pk Q kk
  rcases hd with rfl | rfl
  · obtain ⟨a, vs, rfl, h1, h2⟩ := pk.list r.sub
    refine ⟨a, vs, rfl, .inl ⟨h1, fun l hl => ?_⟩⟩
    exact kk _ (.dat (.tuple ds)) _ _ (same_upd (r.freeR hl)) (r.growR hl) (Dp.tup (SqT.of upd_same) (dpAll_mono (same_upd (r.freeR hl)) _ _ h2)) ⟨_, rfl, hp⟩
  · obtain ⟨a, vs, rfl, h1, h2, h3⟩ := pk.tuple r.sub
    exact ⟨a, vs, rfl, .inr ⟨h1, kk _ (.dat (.tuple ds)) R H (Same.refl _) r h3 ⟨_, rfl, hp⟩⟩⟩
/-- all, any of a list of truths -/
theorem dp_bools {K : PySem.W.Frag} {R : Hp} : ∀ {vs : List V} {bs : List Bool}, DpAll K R vs (bs.map PyData.bool) → vs = bs.map V.bl
  | _, [], h => by cases h; rfl
  | _, b :: bs, h => by
    cases h with
    | cons h1 h2 => cases h1; rw [dp_bools h2]; rfl
theorem wd_all (hg : GlS S "all") (hm : S.mg "all" = none) (h : WpK S e E fun d E1 => ∃ bs : List Bool, d = .list (bs.map PyData.bool) ∧ PD (.bool (bs.all id)) E1) (hst : ∀ env : Env, starEach [e] env = (false, eval e env) :: starEach [] env := by intro _; rfl) : WpD S (.Call (.Name "all" p) [e] [] pos) E PD := by
  refine wd_of (wp_blt1 (r := rAll S.K) (fun X hX => by rw [← hX.K]; exact cr_all hX.calm) hg hm PyProof.Rows.boot_all (fun X hX F s R H r Q k => h X hX F s R H r Q fun v d E' R' H' a r' p q => k v d E' R' H' a r' p ?_) hst)
  obtain ⟨bs, rfl, hp⟩ := q
  intro F s E R H v r pk Q kk
  obtain ⟨a, vs, rfl, h1, h2⟩ := pk.list r.sub
  rw [dp_bools h2] at h1
  exact ⟨a, bs, rfl, h1, kk _ (.dat (.bool (bs.all id))) R H (Same.refl _) r (Dp.bl _) ⟨_, rfl, hp⟩⟩
theorem wd_any (hg : GlS S "any") (hm : S.mg "any" = none) (h : WpK S e E fun d E1 => ∃ bs : List Bool, d = .list (bs.map PyData.bool) ∧ PD (.bool (bs.any id)) E1) (hst : ∀ env : Env, starEach [e] env = (false, eval e env) :: starEach [] env := by intro _; rfl) : WpD S (.Call (.Name "any" p) [e] [] pos) E PD := by
  refine wd_of (wp_blt1 (r := rAny S.K) (fun X hX => by rw [← hX.K]; exact cr_any hX.calm) hg hm (by decide +kernel) (fun X hX F s R H r Q k => h X hX F s R H r Q fun v d E' R' H' a r' p q => k v d E' R' H' a r' p ?_) hst)
  obtain ⟨bs, rfl, hp⟩ := q
  intro F s E R H v r pk Q kk
  obtain ⟨a, vs, rfl, h1, h2⟩ := pk.list r.sub
  rw [dp_bools h2] at h1
  exact ⟨a, bs, rfl, h1, kk _ (.dat (.bool (bs.any id))) R H (Same.refl _) r (Dp.bl _) ⟨_, rfl, hp⟩⟩
/-- join -/
theorem dp_strs {K : PySem.W.Frag} {R : Hp} : ∀ {vs : List V} {bs : List Str}, DpAll K R vs (bs.map PyData.str) → vs = bs.map V.str
  | _, [], h => by cases h; rfl
  | _, b :: bs, h => by
    cases h with
    | cons h1 h2 => cases h1; rw [dp_strs h2]; rfl
theorem wd_join {ap : Pos} (h : WpD S a E fun d E1 => ∃ z : Str, d = .str z ∧ WpK S b E1 fun d' E2 => ∃ (ys : List Str), (d' = .list (ys.map PyData.str) ∨ d' = .tuple (ys.map PyData.str)) ∧ (ys.map (·.length)).sum + ys.length * z.length ≤ 16777216 ∧ PD (.str (Txt.join z ys)) E2)
    (hst : ∀ env : Env, starEach [b] env = [(false, eval b env)] := by intro _; rfl) (hbase : ∀ env : Env, attributeBase a "join" env (eval a env) = eval a env := by intro _; rfl) (hline : (ap.endLine == pos.line) = true := by rfl) : WpD S (.Call (.Attribute a "join" ap) [b] [] pos) E PD := fun X hX F s R H r Q k => by
  refine ⟨_, pe_join pe_rd pe_rd (hst _) (hbase _) hline, ?_⟩
  refine h X hX F s R H r _ fun v1 d1 E1 R1 H1 s1 r1 p1 ⟨z, e1, h1⟩ => ?_
  subst e1
  cases p1
  refine ⟨⟨z, rfl⟩, ?_⟩
  refine h1 X hX F s R1 H1 r1 _ fun v2 d2 E2 R2 H2 s2 r2 p2 ⟨ys, hd, hz, h2⟩ => ?_
  rw [hX.K]
  have fin := k _ _ E2 R2 H2 (s1.trans s2) r2 (.str (Txt.join z ys)) h2
  rcases hd with rfl | rfl
  · obtain ⟨ad, vs, rfl, w1, w2⟩ := p2.list r2.sub
    rw [dp_strs w2] at w1
    exact ⟨z, ad, ys, rfl, rfl, .inl w1, hz, fin⟩
  · obtain ⟨ad, vs, rfl, w1, w2, _⟩ := p2.tuple r2.sub
    rw [dp_strs w2] at w1
    exact ⟨z, ad, ys, rfl, rfl, .inr w1, hz, fin⟩

/-! ### isinstance -/
def tyN : D → String
  | .none => "NoneType"
  | .bool _ => "bool"
  | .int _ => "int"
  | .str _ => "str"
  | .list _ => "list"
  | .tuple _ => "tuple"
  | .dict _ => "dict"
theorem ty_of {K : PySem.W.Frag} {H : Hp} {v : V} {d : D} (h : Dp K H v d) : TyX K H v (.type (tyN d)) := by
  cases h with
  | non => exact .base .non
  | bl => exact .base (.bl _)
  | int => exact .base (.int _)
  | str => exact .base (.str _)
  | lst hq _ =>
    rcases hq with (hq | ⟨o, hq⟩) | ⟨o, its, n, h1, h2, _⟩
    · exact .base (.lst hq)
    · exact .base (.frz hq)
    · exact .kList h1 h2
  | tup hq _ =>
    rcases hq with (hq | ⟨o, hq⟩) | ⟨o, its, n, h1, h2, _⟩
    · exact .base (.tup hq)
    · exact .fTuple hq
    · exact .kTuple h1 h2
/-- isinstance of data, for the classes that programs here ask of -/
def isI (T : String) (d : D) : Bool := T == tyN d || (T == "int" && tyN d == "bool")
theorem kit_isI {T : String} (hT : T = "int" ∨ T = "str" ∨ T = "bool" ∨ T = "list" ∨ T = "tuple") (d : D) : kitB (tyN d) T = some (isI T d) := by
  rcases hT with rfl | rfl | rfl | rfl | rfl <;> cases d <;> (simp only [tyN, isI]; decide +kernel)
theorem wd_isi {T : String} {tx : Str} {q : Pos} (hg : GlS S "isinstance") (hm : S.mg "isinstance" = none) (hg2 : GlS S tx) (hm2 : S.mg tx = none) (hv : bootBuiltins tx = some (.type T)) (hT : T = "int" ∨ T = "str" ∨ T = "bool" ∨ T = "list" ∨ T = "tuple")
    (h : WpK S a E fun d E1 => PD (.bool (isI T d)) E1) (hst : ∀ env : Env, starEach [a, .Name tx q] env = (false, eval a env) :: starEach [.Name tx q] env := by intro _; rfl) (hn : tx ≠ "__name__" := by decide) (hd : (tx == ("__debug__" : Str)) = false := by decide) :
    WpD S (.Call (.Name "isinstance" p) [a, .Name tx q] [] pos) E PD := fun X hX F s R H r Q k => by
  refine ⟨_, pe_callB call_isi (hg.gl hX) (by rw [hX.mg]; exact hm) PyProof.Rows.boot_isinstance (pa_cons pe_rd (pa_cons (pe_bltn (v := .ty T) (hg2.gl hX) (by rw [hX.mg]; exact hm2) hv rfl hn hd) pa_nil) (hst _)) (by decide) (by decide) (hst _) rfl, ?_⟩
  refine h X hX F s R H r _ fun v1 d1 E1 R1 H1 s1 r1 p1 h1 => ?_
  rw [hX.K]
  exact ⟨v1, .ty T, _, _, isI T d1, rfl, .ty T, ty_of (p1.dp r1.sub), kit_ty (kit_isI hT d1), k _ _ E1 R1 H1 s1 r1 (.bl _) h1⟩
/-- isinstance(x, (list, tuple)) -/
theorem wd_isiLT {q1 q2 q3 : Pos} {kk : Nat} (hg : GlS S "isinstance") (hm : S.mg "isinstance" = none) (hg1 : GlS S "list") (hm1 : S.mg "list" = none) (hg2 : GlS S "tuple") (hm2 : S.mg "tuple" = none)
    (h : WpK S a E fun d E1 => PD (.bool (isI "list" d || isI "tuple" d)) E1) (hst : ∀ env : Env, starEach [a, .Tuple [.Name "list" q1, .Name "tuple" q2] kk q3] env = (false, eval a env) :: starEach [.Tuple [.Name "list" q1, .Name "tuple" q2] kk q3] env := by intro _; rfl) :
    WpD S (.Call (.Name "isinstance" p) [a, .Tuple [.Name "list" q1, .Name "tuple" q2] kk q3] [] pos) E PD := fun X hX F s R H r Q k => by
  refine ⟨_, pe_callB call_isiT (hg.gl hX) (by rw [hX.mg]; exact hm) PyProof.Rows.boot_isinstance (pa_cons pe_rd (pa_cons (pe_tup (pa_cons (pe_bltn (v := .ty "list") (hg1.gl hX) (by rw [hX.mg]; exact hm1) PyProof.Rows.boot_list rfl) (pa_cons (pe_bltn (v := .ty "tuple") (hg2.gl hX) (by rw [hX.mg]; exact hm2) PyProof.Rows.boot_tuple rfl) pa_nil))) pa_nil) (hst _)) (by decide) (by decide) (hst _) rfl, ?_⟩
  refine h X hX F s R H r _ fun v1 d1 E1 R1 H1 s1 r1 p1 h1 => ?_
  refine ⟨by show 2 ≤ sizeLine; decide, fun t ht => ?_⟩
  rw [hX.K]
  have dp1 : Dp S.K (upd H1 t (.tup [.ty "list", .ty "tuple"])) v1 d1 := dp_mono (same_upd ht) _ _ (p1.dp r1.sub)
  refine ⟨v1, t, _, _, [.type "list", .type "tuple"], isI "list" d1 || isI "tuple" d1, rfl, upd_same, .cons (.ty _) (.cons (.ty _) .nil), ty_of dp1, ?_, k _ _ E1 R1 _ s1 (r1.grow ht) (.bl _) h1⟩
  refine kitAny_cons (b := isI "list" d1) (kit_ty (kit_isI (by simp) d1)) (fun e => ?_) fun e => by rw [e]; rfl
  refine kitAny_cons (b := isI "tuple" d1) (kit_ty (kit_isI (by simp) d1)) (fun e' => ?_) fun e' => by rw [e']; simp
  rw [e, e']
  exact kitAny_nil
end
end Wq
set_option maxHeartbeats 1000000
namespace Wq
open PySem L2

section
variable {S : Sx} {e : Expr} {es : List Expr} {E : En} {a b c : Expr} {pos p : Pos} {x y : Str} {P : Sl → En → Prop} {PD : D → En → Prop} {i j : Nat} {G : List Nat} {Z : EnS}
/-! ### owned lists changed -/
theorem s_append {ap ep cp : Pos} (hN : S.N[i]? = some x) (hv : Vis S.sc x) (hE : ∃ d0, E[i]? = some (Sl.own (.list d0))) (h : WpD S a E fun d E1 => ∃ ds, E1[i]? = some (Sl.own (.list ds)) ∧ ds.length < 100000 ∧ Z.nx (E1.set i (.own (.list (ds ++ [d])))))
    (hst : ∀ env : Env, starEach [a] env = (false, eval a env) :: starEach [] env := by intro _; rfl) (hsw : ∀ env : Env, swapsWith (.Call (.Attribute (.Name x p) "append" ap) [a] [] cp) none ep.line env = pure false := by intro _; rfl)
    (hbase : ∀ env : Env, attributeBase (.Name x p) "append" env (eval (.Name x p) env) = eval (.Name x p) env := by intro _; rfl)
    (hfew : ∀ env : Env, ((backTo cp (starEach [a] env)).all (fun x => !x.1) && (backToKw cp (keywordEach [] env)).all (fun x => x.1.isSome) && decide (([a] : List Expr).length + ([] : List Keyword).length + (if ([] : List Keyword).isEmpty then 0 else 1) < 30)) = true := by intro _; rfl)
    (hline : (ap.endLine == cp.line) = true := by rfl) (hd : (x == ("__debug__" : Str)) = false := by decide) (hcd : (x == ("__classdict__" : Str)) = false := by decide) :
    WpS S G (.Expr (.Call (.Attribute (.Name x p) "append" ap) [a] [] cp) ep) E Z := fun X hX F s R H hg r D W => by
  refine ⟨_, ps_expr (pe_bm PySem.F.plainAttrs_list PySem.F.slot_list_append PySem.F.type_list_append mt_append (pe_var (i := i) (by rw [hX.N]; exact hN) (by rw [hX.sc]; exact hv) hd hcd) (pa_cons pe_rd pa_nil (hst _)) (hbase _) (hfew _) hline (hst _) rfl) (hsw _), ?_⟩
  obtain ⟨d0, hE0⟩ := hE
  obtain ⟨ad, ha, _, ⟨vs0, g0, _⟩, _⟩ := r.own i _ hE0
  refine ⟨_, ha, .inl ⟨rfl, _, SqL.of g0⟩, ?_⟩
  refine h X hX F s R H r _ fun v d E1 R1 H1 s1 r1 p1 ⟨ds, e1, hl, h1⟩ => ?_
  obtain ⟨ad', ha', _, ⟨vs, g1, g2⟩, _⟩ := r1.own i _ e1
  rw [ha] at ha'
  cases ha'
  refine ⟨ad, vs, v, rfl, rfl, g1, Nat.lt_of_lt_of_le (by rw [dpAll_len g2]; exact hl) (by decide : 100000 ≤ sizeLine), ?_⟩
  exact W.nx _ s R1 _ s1 (r1.write e1 ha rfl (dpAll_app g2 (dpAll_one p1))) h1
theorem s_reverse {ap ep cp : Pos} {ds : List D} (hN : S.N[i]? = some x) (hv : Vis S.sc x) (hE : E[i]? = some (Sl.own (.list ds))) (h : Z.nx (E.set i (.own (.list ds.reverse))))
    (hsw : ∀ env : Env, swapsWith (.Call (.Attribute (.Name x p) "reverse" ap) [] [] cp) none ep.line env = pure false := by intro _; rfl)
    (hbase : ∀ env : Env, attributeBase (.Name x p) "reverse" env (eval (.Name x p) env) = eval (.Name x p) env := by intro _; rfl)
    (hline : (ap.endLine == cp.line) = true := by rfl) (hd : (x == ("__debug__" : Str)) = false := by decide) (hcd : (x == ("__classdict__" : Str)) = false := by decide) :
    WpS S G (.Expr (.Call (.Attribute (.Name x p) "reverse" ap) [] [] cp) ep) E Z := fun X hX F s R H hg r D W => by
  refine ⟨_, ps_expr (pe_bm0 PySem.F.plainAttrs_list PySem.F.slot_list_reverse PySem.F.type_list_reverse mt_reverse (pe_var (i := i) (by rw [hX.N]; exact hN) (by rw [hX.sc]; exact hv) hd hcd) (hbase _) hline) (hsw _), ?_⟩
  obtain ⟨ad, ha, _, ⟨vs, g1, g2⟩, _⟩ := r.own i _ hE
  refine ⟨_, ha, .inl ⟨rfl, _, SqL.of g1⟩, ad, vs, rfl, rfl, g1, ?_⟩
  have hrev : ∀ {vs : List V} {ds : List Wq.D}, DpAll S.K R vs ds → DpAll S.K R vs.reverse ds.reverse := by
    intro vs
    induction vs with
    | nil => intro ds h; cases h; exact .nil
    | cons v vs ih =>
      intro ds h
      cases h with
      | cons h1 h2 =>
        rw [List.reverse_cons, List.reverse_cons]
        exact dpAll_app (ih h2) (dpAll_one h1)
  exact W.nx _ s R _ (Same.refl _) (r.write hE ha rfl (hrev g2)) h
/-- x[k] = e -/
theorem s_store {sp tp : Pos} (hN : S.N[i]? = some x) (hv : Vis S.sc x) (hE : ∃ d0, E[i]? = some (Sl.own d0)) (h : WpD S e E fun d E1 => (∃ d1, E1[i]? = some (Sl.own d1)) ∧ WpD S b E1 fun d2 E2 => ∃ ds k n, E2[i]? = some (Sl.own (.list ds)) ∧ d2 = .int k ∧ ixN ds.length k = some n ∧ Z.nx (E2.set i (.own (.list (ds.set n d)))))
    (hs : ∀ env : Env, swapsWithSole [.Subscript (.Name x p) b tp] e sp.line env = pure false := by intro _; rfl) (hw : ∀ env : Env, swappedStores [.Subscript (.Name x p) b tp] e env = pure none := by intro _; rfl)
    (h1 : ∀ env : Env, (assignEach [.Subscript (.Name x p) b tp] env).map (·.2) = [assign (.Subscript (.Name x p) b tp) env] := by intro _; rfl)
    (ha : ∀ (env : Env) v, assign (.Subscript (.Name x p) b tp) env v = (do
      let ov ← holding [v] (eval (.Name x p) env)
      let iv ← holding [v, ov] (eval b env)
      standAt tp
      holding [v, ov, iv] (setItem ov iv v)
      release [v, ov, iv] []) := by intro _ _; rfl) (hd : (x == ("__debug__" : Str)) = false := by decide) (hcd : (x == ("__classdict__" : Str)) = false := by decide) :
    WpS S G (.Assign [.Subscript (.Name x p) b tp] e sp) E Z := fun X hX F s R H hg r D W => by
  refine ⟨_, ps_asg pe_rd (pg_sub (pe_var (i := i) (by rw [hX.N]; exact hN) (by rw [hX.sc]; exact hv) hd hcd) pe_rd set_list (ha _)) (hs _) (hw _) (h1 _), ?_⟩
  refine h X hX F s R H r _ fun v d E1 R1 H1 s1 r1 p1 ⟨⟨d1, e1⟩, h2⟩ => ?_
  obtain ⟨ad, had, _⟩ := r1.own i _ e1
  refine ⟨_, had, ?_⟩
  refine h2 X hX F s R1 H1 r1 _ fun v2 d2 E2 R2 H2 s2 r2 p2 ⟨ds, k, n, e2, e3, hn, h3⟩ => ?_
  subst e3
  cases p2
  obtain ⟨ad', ha', _, ⟨vs, g1, g2⟩, _⟩ := r2.own i _ e2
  rw [had] at ha'
  cases ha'
  refine ⟨ad, vs, k, n, rfl, rfl, g1, by rw [dpAll_len g2]; exact hn, ?_⟩
  exact W.nx _ s R2 _ (s1.trans s2) (r2.write e2 had rfl (dpAll_set (dp_mono s2 _ _ p1) n g2)) h3
/-- x[k], y = e (a pair) -/
theorem s_storeTwo {sp tp yp qp : Pos} {kk : Nat} (hN : S.N[i]? = some x) (hv : Vis S.sc x) (hNy : S.N[j]? = some y) (hy : Loc S.sc y) (hA : S.asg y = true) (hE : ∃ d0, E[i]? = some (Sl.own d0))
    (h : WpD S e E fun d E1 => ∃ d1 d2, d = .tuple [d1, d2] ∧ (∃ d1, E1[i]? = some (Sl.own d1)) ∧ WpD S b E1 fun d3 E2 => ∃ ds k n, E2[i]? = some (Sl.own (.list ds)) ∧ d3 = .int k ∧ ixN ds.length k = some n ∧ notOwn (E2.set i (.own (.list (ds.set n d1)))) j ∧ Z.nx ((E2.set i (.own (.list (ds.set n d1)))).set j (.dat d2)))
    (hs : ∀ env : Env, swapsWithSole [.Tuple [.Subscript (.Name x p) b tp, .Name y yp] kk qp] e sp.line env = pure false := by intro _; rfl) (hw : ∀ env : Env, swappedStores [.Tuple [.Subscript (.Name x p) b tp, .Name y yp] kk qp] e env = pure none := by intro _; rfl)
    (h1 : ∀ env : Env, (assignEach [.Tuple [.Subscript (.Name x p) b tp, .Name y yp] kk qp] env).map (·.2) = [assign (.Tuple [.Subscript (.Name x p) b tp, .Name y yp] kk qp) env] := by intro _; rfl)
    (h2 : ∀ env : Env, (assignEach [.Subscript (.Name x p) b tp, .Name y yp] env).map (·.2) = assign (.Subscript (.Name x p) b tp) env :: (assignEach [.Name y yp] env).map (·.2) := by intro _; rfl)
    (h3 : ∀ env : Env, (assignEach [.Subscript (.Name x p) b tp, .Name y yp] env).length = 2 := by intro _; rfl) (h4 : ∀ env : Env, (assignEach [.Subscript (.Name x p) b tp, .Name y yp] env).findIdx? (·.1) = none := by intro _; rfl)
    (ha : ∀ (env : Env) v, assign (.Subscript (.Name x p) b tp) env v = (do
      let ov ← holding [v] (eval (.Name x p) env)
      let iv ← holding [v, ov] (eval b env)
      standAt tp
      holding [v, ov, iv] (setItem ov iv v)
      release [v, ov, iv] []) := by intro _ _; rfl) (hd : (x == ("__debug__" : Str)) = false := by decide) (hcd : (x == ("__classdict__" : Str)) = false := by decide) :
    WpS S G (.Assign [.Tuple [.Subscript (.Name x p) b tp, .Name y yp] kk qp] e sp) E Z := fun X hX F s R H hg r D W => by
  refine ⟨_, ps_asg pe_rd (pg_tup (n := 2) hX.calm (pgs_cons (pg_sub (pe_var (i := i) (by rw [hX.N]; exact hN) (by rw [hX.sc]; exact hv) hd hcd) pe_rd set_list (ha _)) (pgs_cons (pg_rd (tg := .Name y yp)) pgs_nil) (h2 _)) (h3 _) (h4 _)) (hs _) (hw _) (h1 _), ?_⟩
  refine h X hX F s R H r _ fun v d E1 R1 H1 s1 r1 p1 ⟨d1, d2, e0, ⟨d3, e1⟩, h5⟩ => ?_
  subst e0
  cases p1 with
  | tup hq hdd =>
    cases hdd with
    | cons q1 hdd =>
      cases hdd with
      | cons q2 hdd =>
        cases hdd
        rw [hX.K]
        refine ⟨_, _, rfl, same_t r1.sub hq, rfl, _, _, rfl, ?_⟩
        obtain ⟨ad, had, _⟩ := r1.own i _ e1
        refine ⟨_, had, ?_⟩
        refine h5 X hX F s R1 H1 r1 _ fun v2 dd2 E2 R2 H2 s2 r2 p2 ⟨ds, k, n, e2, e3, hn, hno, h6⟩ => ?_
        subst e3
        cases p2
        obtain ⟨ad', ha', _, ⟨vs, g1, g2⟩, _⟩ := r2.own i _ e2
        rw [had] at ha'
        cases ha'
        refine ⟨ad, vs, k, n, rfl, rfl, g1, by rw [dpAll_len g2]; exact hn, _, _, rfl, ?_⟩
        have r3 := r2.write e2 had rfl (dpAll_set (dp_mono s2 _ _ q1) n g2)
        refine g_name (P := fun E' => E' = _) hNy hy hA (show j ∈ [j] by simp) hno rfl X hX F s R2 _ _ r3 (dp_mono s2 _ _ q2) _ fun s4 E4 _ _ r4 e4 => ?_
        subst e4
        exact ⟨rfl, W.nx _ s4 R2 _ (s1.trans s2) r4 h6⟩
/-- a, b = e1, e2 by swapped stores -/
theorem s_par {px py pt pt2 sp : Pos} {kt k2 : Nat} (hN : S.N[i]? = some x) (hx : S.sc.names.lookup x = some NameKind.local) (hNy : S.N[j]? = some y) (hy : S.sc.names.lookup y = some NameKind.local) (hij : i ≠ j) (hGi : i ∉ G) (hGj : j ∉ G)
    (h : Wp S a E fun d1 E1 => ∃ q, d1 = .dat q ∧ Wp S b E1 fun d2 E2 => i < E2.length ∧ j < E2.length ∧ Z.nx ((E2.set i (.dat q)).set j d2))
    (hw : ∀ env : Env, env.scope = S.sc → swappedStores [.Tuple [.Name x px, .Name y py] kt pt] (.Tuple [a, b] k2 pt2) env = pure (some [x, y]))
    (hst : ∀ env : Env, starEach [a, b] env = (false, eval a env) :: starEach [b] env := by intro _; rfl) (hst2 : ∀ env : Env, starEach [b] env = (false, eval b env) :: starEach [] env := by intro _; rfl)
    (hs : ∀ env : Env, swapsWithSole [.Tuple [.Name x px, .Name y py] kt pt] (.Tuple [a, b] k2 pt2) sp.line env = pure false := by intro _; rfl) :
    WpS S G (.Assign [.Tuple [.Name x px, .Name y py] kt pt] (.Tuple [a, b] k2 pt2) sp) E Z := fun X hX F s R H hg r D W => by
  refine ⟨_, ps_par (i := i) (j := j) hX.calm hX.nd (by rw [hX.N]; exact hN) (by rw [hX.N]; exact hNy) hij (by rw [hX.sc]; exact hx) (by rw [hX.sc]; exact hy) (pa_cons pe_rd (pa_cons pe_rd pa_nil (hst2 _)) (hst _)) (hw _ hX.sc) (hs _), ?_⟩
  have gi : ∀ p ∈ F.g, p.1 ≠ i := fun p hp e => hGi (by rw [← hg, ← e]; exact List.mem_map_of_mem hp)
  have gj : ∀ p ∈ F.g, p.1 ≠ j := fun p hp e => hGj (by rw [← hg, ← e]; exact List.mem_map_of_mem hp)
  refine h X hX F s R H r _ fun v1 d1 E1 R1 H1 s1 r1 p1 ⟨q, e1, h1⟩ => ?_
  subst e1
  refine h1 X hX F s R1 H1 r1 _ fun v2 d2 E2 R2 H2 s2 r2 p2 ⟨l1, l2, h2⟩ => ?_
  refine ⟨v1, v2, rfl, ?_⟩
  have r3 := r2.setDat (i := i) l1 gi (dp_mono s2 _ _ (show Dp S.K R1 v1 q from p1))
  cases d2 with
  | no => exact p2.elim
  | dat d => exact W.nx _ _ R2 H2 (s1.trans s2) (r3.setDat (by rw [List.length_set]; exact l2) gj p2) h2
  | own d =>
    obtain ⟨ad, rfl, z1, z2, z3, z4⟩ := p2
    refine W.nx _ _ R2 H2 (s1.trans s2) (r3.setOwn (by rw [List.length_set]; exact l2) gj ⟨ad, rfl, z1, z2, z3, fun m d' e z => ?_⟩) h2
    rcases get_set e with ⟨_, e'⟩ | ⟨hn, e'⟩
    · cases e'
    · rw [set_ne hn] at z
      exact z4 m d' e' z
/-- a, b = e, a pair of data unpacked -/
theorem s_unpack2 {px py pt sp : Pos} {kt : Nat} (hN : S.N[i]? = some x) (hx : Loc S.sc x) (hA : S.asg x = true) (hNy : S.N[j]? = some y) (hy : Loc S.sc y) (hAy : S.asg y = true)
    (h : WpD S e E fun d E1 => ∃ d1 d2, d = .tuple [d1, d2] ∧ notOwn E1 i ∧ notOwn (E1.set i (.dat d1)) j ∧ Z.nx ((E1.set i (.dat d1)).set j (.dat d2)))
    (hw : ∀ env : Env, env.scope = S.sc → swappedStores [.Tuple [.Name x px, .Name y py] kt pt] e env = pure none)
    (hs : ∀ env : Env, swapsWithSole [.Tuple [.Name x px, .Name y py] kt pt] e sp.line env = pure false := by intro _; rfl) :
    WpS S G (.Assign [.Tuple [.Name x px, .Name y py] kt pt] e sp) E Z := fun X hX F s R H hg r D W => by
  refine ⟨_, ps_asg pe_rd (pg_rd (tg := .Tuple [.Name x px, .Name y py] kt pt)) (hs _) (hw _ hX.sc) rfl, ?_⟩
  refine h X hX F s R H r _ fun v d E1 R1 H1 s1 r1 p1 ⟨d1, d2, e0, n1, n2, h1⟩ => ?_
  subst e0
  exact g_two (vs := [i, j]) (P := fun E' => E' = _) hN hx hA (by simp) n1 hNy hy hAy (by simp) n2 rfl X hX F s R1 H1 v r1 p1 _ fun s4 E4 _ _ r4 e4 => by
    subst e4
    exact W.nx _ s4 R1 _ s1 r4 h1

/-! ### walks: signs of a text, enumerate, zip -/
def signs (z : Str) : List D := z.cps.toList.map fun c => (.str ⟨#[c]⟩ : D)
theorem it_str {K : PySem.W.Frag} {R : Hp} {z : Str} : ItOk K R (Its z) (signs z) where
  go := fun F s E R2 H2 t d _ r e => by
    unfold signs at e
    rw [List.getElem?_map] at e
    cases q : z.cps.toList[t]? with
    | none => rw [q] at e; cases e
    | some cc =>
      rw [q] at e
      have e' : d = .str ⟨#[cc]⟩ := (Option.some.inj e).symm
      subst e'
      have ht : t < z.cps.size := by
        have := (List.getElem?_eq_some_iff.mp q).1
        rwa [Array.length_toList] at this
      refine ⟨ht, fun v H3 ⟨h1, c', h2, h3⟩ => ⟨R2, Same.refl _, by rw [h1]; exact r, ?_⟩⟩
      rw [Array.getElem?_toList] at q
      rw [q] at h2
      cases h2
      rw [h3]
      exact .str _
  stop := fun F s E R2 H2 _ r => by
    show z.cps.size ≤ (signs z).length
    unfold signs
    rw [List.length_map, Array.length_toList]
    exact Nat.le_refl _
variable {tg it : Expr}
theorem wi_str {P : List D → En → Prop} (h : WpD S it E fun d E1 => ∃ z : Str, d = .str z ∧ P (signs z) E1) : WpI S tg it E P := fun X hX F s R H r Rr k => by
  refine ⟨_, pi_str pe_rd, ?_⟩
  refine h X hX F s R H r _ fun v d E1 R1 H1 s1 r1 p1 ⟨z, hn, h3⟩ => ?_
  subst hn
  cases p1
  exact ⟨z, rfl, k _ _ E1 R1 H1 s1 r1 it_str h3⟩
def enumD (ds : List D) : List D := ds.mapIdx fun (n : Nat) d => (.tuple [.int n, d] : D)
theorem it_enum {K : PySem.W.Frag} {R : Hp} {p : Addr} {vs : List V} {ds : List D} (h : SqL K R p vs) (hd : DpAll K R vs ds) : ItOk K R (Ite K p) (enumD ds) where
  go := fun F s E R2 H2 t d e r hd' => by
    have q : SqL K H2 p vs := r.sub.seq (e.seq h)
    unfold enumD at hd'
    rw [List.getElem?_mapIdx] at hd'
    cases z : ds[t]? with
    | none => rw [z] at hd'; cases hd'
    | some d1 =>
      rw [z] at hd'
      have e' : d = .tuple [.int t, d1] := (Option.some.inj hd').symm
      subst e'
      obtain ⟨v, h1, h2⟩ := dpAll_get hd z
      refine ⟨⟨vs, v, q, h1⟩, ?_⟩
      rintro x H3 ⟨T, x0, rfl, hT, rfl, hx⟩
      have e2 := hx vs q
      rw [h1] at e2
      cases e2
      refine ⟨_, same_upd (r.freeR hT), r.growR hT, .tup (SqT.of upd_same) (.cons (.int _) (dpAll_one (dp_mono (e.trans (same_upd (r.freeR hT))) _ _ h2)))⟩
  stop := fun F s E R2 H2 e r => ⟨vs, r.sub.seq (e.seq h), by unfold enumD; rw [List.length_mapIdx, dpAll_len hd]; exact Nat.le_refl _⟩
theorem wi_enum {P : List D → En → Prop} {elts : List Expr} {kk : Nat} {tp : Pos} (hg : GlS S "enumerate") (hm : S.mg "enumerate" = none) (h : WpD S a E fun d E1 => ∃ ds, d = .list ds ∧ P (enumD ds) E1) (hst : ∀ env : Env, starEach [a] env = (false, eval a env) :: starEach [] env := by intro _; rfl) :
    WpI S (.Tuple elts kk tp) (.Call (.Name "enumerate" p) [a] [] pos) E P := fun X hX F s R H r Rr k => by
  refine ⟨_, pi_enum (hg.gl hX) (by rw [hX.mg]; exact hm) (pa_cons pe_rd pa_nil (hst _)) (hst _), ?_⟩
  refine h X hX F s R H r _ fun v d E1 R1 H1 s1 r1 p1 ⟨ds, hn, h3⟩ => ?_
  subst hn
  cases p1 with
  | lst hq hd =>
    rw [hX.K]
    exact ⟨_, _, rfl, r1.sub.seq hq, k _ _ E1 R1 H1 s1 r1 (it_enum hq hd) h3⟩
def zipD (xs ys : List D) : List D := (xs.zip ys).map fun p => (.tuple [p.1, p.2] : D)
theorem zipD_get {xs ys : List D} {t : Nat} {d : D} (h : (zipD xs ys)[t]? = some d) : ∃ d1 d2, xs[t]? = some d1 ∧ ys[t]? = some d2 ∧ d = .tuple [d1, d2] := by
  unfold zipD at h
  rw [List.getElem?_map] at h
  cases z : (xs.zip ys)[t]? with
  | none => rw [z] at h; cases h
  | some q =>
    rw [z] at h
    rw [List.getElem?_zip_eq_some] at z
    exact ⟨q.1, q.2, z.1, z.2, (Option.some.inj h).symm⟩
theorem zipD_len {xs ys : List D} : (zipD xs ys).length = min xs.length ys.length := by unfold zipD; rw [List.length_map, List.length_zip]
theorem it_zipL {K : PySem.W.Frag} {R : Hp} {p q : Addr} {vs us : List V} {xs ys : List D} (h : SqL K R p vs) (hd : DpAll K R vs xs) (h' : SqL K R q us) (hd' : DpAll K R us ys) : ItOk K R (Itz K p q) (zipD xs ys) where
  go := fun F s E R2 H2 t d e r hz => by
    have q1 : SqL K H2 p vs := r.sub.seq (e.seq h)
    have q2 : SqL K H2 q us := r.sub.seq (e.seq h')
    obtain ⟨d1, d2, z1, z2, rfl⟩ := zipD_get hz
    obtain ⟨v1, h1, k1⟩ := dpAll_get hd z1
    obtain ⟨v2, h2, k2⟩ := dpAll_get hd' z2
    refine ⟨⟨vs, us, v1, v2, q1, q2, h1, h2⟩, ?_⟩
    rintro x H3 ⟨T, x1, x2, rfl, hT, rfl, hx1, hx2⟩
    have e1 := hx1 vs q1
    have e2 := hx2 us q2
    rw [h1] at e1
    rw [h2] at e2
    cases e1
    cases e2
    have sm := e.trans (same_upd (o := .tup [v1, v2]) (r.freeR hT))
    exact ⟨_, same_upd (r.freeR hT), r.growR hT, .tup (SqT.of upd_same) (.cons (dp_mono sm _ _ k1) (dpAll_one (dp_mono sm _ _ k2)))⟩
  stop := fun F s E R2 H2 e r => ⟨vs, us, r.sub.seq (e.seq h), r.sub.seq (e.seq h'), by
    rw [zipD_len, dpAll_len hd, dpAll_len hd']
    omega⟩
theorem it_zipT {K : PySem.W.Frag} {R : Hp} {p q : Addr} {vs us : List V} {xs ys : List D} (h : SqT K R p vs) (hd : DpAll K R vs xs) (h' : SqT K R q us) (hd' : DpAll K R us ys) : ItOk K R (RZ.ItzT K p q) (zipD xs ys) where
  go := fun F s E R2 H2 t d e r hz => by
    have q1 : SqT K H2 p vs := same_t r.sub (same_t e h)
    have q2 : SqT K H2 q us := same_t r.sub (same_t e h')
    obtain ⟨d1, d2, z1, z2, rfl⟩ := zipD_get hz
    obtain ⟨v1, h1, k1⟩ := dpAll_get hd z1
    obtain ⟨v2, h2, k2⟩ := dpAll_get hd' z2
    refine ⟨⟨vs, us, v1, v2, q1, q2, h1, h2⟩, ?_⟩
    rintro x H3 ⟨T, x1, x2, rfl, hT, rfl, hx1, hx2⟩
    have e1 := hx1 vs q1
    have e2 := hx2 us q2
    rw [h1] at e1
    rw [h2] at e2
    cases e1
    cases e2
    have sm := e.trans (same_upd (o := .tup [v1, v2]) (r.freeR hT))
    exact ⟨_, same_upd (r.freeR hT), r.growR hT, .tup (SqT.of upd_same) (.cons (dp_mono sm _ _ k1) (dpAll_one (dp_mono sm _ _ k2)))⟩
  stop := fun F s E R2 H2 e r => ⟨vs, us, same_t r.sub (same_t e h), same_t r.sub (same_t e h'), by
    rw [zipD_len, dpAll_len hd, dpAll_len hd']
    omega⟩
theorem wi_zip {P : List D → En → Prop} {elts : List Expr} {kk : Nat} {tp : Pos} (hg : GlS S "zip") (hm : S.mg "zip" = none) (h : WpD S a E fun d E1 => WpD S b E1 fun d' E2 => ∃ xs ys, ((d = .list xs ∧ d' = .list ys) ∨ (d = .tuple xs ∧ d' = .tuple ys)) ∧ P (zipD xs ys) E2)
    (hst : ∀ env : Env, starEach [a, b] env = (false, eval a env) :: starEach [b] env := by intro _; rfl) (hst2 : ∀ env : Env, starEach [b] env = (false, eval b env) :: starEach [] env := by intro _; rfl) (hpl : ∀ env : Env, (backTo pos (starEach [b] env)).any (·.1) = false := by intro _; rfl) :
    WpI S (.Tuple elts kk tp) (.Call (.Name "zip" p) [a, b] [] pos) E P := fun X hX F s R H r Rr k => by
  refine ⟨_, RZ.pi_zipA (hg.gl hX) (by rw [hX.mg]; exact hm) (pa_cons pe_rd (pa_cons pe_rd pa_nil (hst2 _)) (hst _)) (hst _) (hpl _), ?_⟩
  refine h X hX F s R H r _ fun v d E1 R1 H1 s1 r1 p1 h1 => ?_
  refine h1 X hX F s R1 H1 r1 _ fun v2 d2 E2 R2 H2 s2 r2 p2 ⟨xs, ys, hd, h3⟩ => ?_
  have p1 := dp_mono s2 _ _ p1
  rw [hX.K]
  rcases hd with ⟨rfl, rfl⟩ | ⟨rfl, rfl⟩
  · cases p1 with
    | lst hq hd =>
      cases p2 with
      | lst hq' hd' => exact ⟨_, _, _, _, rfl, .inl ⟨r2.sub.seq hq, r2.sub.seq hq', k _ _ E2 R2 H2 (s1.trans s2) r2 (it_zipL hq hd hq' hd') h3⟩⟩
  · cases p1 with
    | tup hq hd =>
      cases p2 with
      | tup hq' hd' => exact ⟨_, _, _, _, rfl, .inr ⟨same_t r2.sub hq, same_t r2.sub hq', k _ _ E2 R2 H2 (s1.trans s2) r2 (it_zipT hq hd hq' hd') h3⟩⟩
/-- x + e, x an owned list, e a new one -/
theorem wp_catOwn {xs : List D} (hN : S.N[i]? = some x) (hv : Vis S.sc x) (hE : E[i]? = some (Sl.own (.list xs))) (h : Wp S b E fun r E1 => ∃ ys, r = .own (.list ys) ∧ E1[i]? = some (Sl.own (.list xs)) ∧ xs.length + ys.length ≤ 100000 ∧ P (.own (.list (xs ++ ys))) E1)
    (hd : (x == ("__debug__" : Str)) = false := by decide) (hcd : (x == ("__classdict__" : Str)) = false := by decide) : Wp S (.BinOp (.Name x p) .Add b pos) E P := fun X hX F s R H r Q k => by
  refine ⟨_, pe_op op_cat (pe_var (i := i) (by rw [hX.N]; exact hN) (by rw [hX.sc]; exact hv) hd hcd) pe_rd, ?_⟩
  obtain ⟨ad, ha, _, _, _⟩ := r.own i _ hE
  refine ⟨_, ha, ?_⟩
  refine h X hX F s R H r _ fun v d E1 R1 H1 s1 r1 p1 ⟨ys, e1, e2, hl, h1⟩ => ?_
  subst e1
  obtain ⟨bd, rfl, z1, ⟨us, z2, z2'⟩, z3, z4⟩ := p1
  obtain ⟨ad', ha', _, ⟨vs, g1, g2⟩, _⟩ := r1.own i _ e2
  rw [ha] at ha'
  cases ha'
  refine ⟨ad, bd, vs, us, rfl, rfl, g1, z2, Nat.le_trans (by rw [dpAll_len g2, dpAll_len z2']; exact hl) (by decide : 100000 ≤ sizeLine), fun q hq => ?_⟩
  exact k _ (.own (.list (xs ++ ys))) E1 R1 _ s1 (r1.grow hq) ⟨q, rfl, r1.freeR hq, ⟨_, upd_same, dpAll_app g2 z2'⟩, r1.free0 hq, own_no r1 hq⟩ h1
end
end Wq
set_option maxHeartbeats 1000000
namespace Wq
open PySem L2
section
variable {S : Sx} {E : En} {pos p : Pos} {x : Str} {P : D → En → Prop} {a b : Expr}
theorem nm (i : Nat) {d : D} (h : P d E) (hN : S.N[i]? = some x := by rfl) (hv : Vis S.sc x := by first | exact Or.inl rfl | exact Or.inr (Or.inl rfl) | exact Or.inr (Or.inr rfl)) (hE : E[i]? = some (.dat d) := by rfl)
    (hd : (x == ("__debug__" : Str)) = false := by decide +kernel) (hcd : (x == ("__classdict__" : Str)) = false := by decide +kernel) : WpD S (.Name x pos) E P := wd_name hN hv hE h hd hcd
theorem nmo (i : Nat) {ds : List D} (h : P (.list ds) E) (hN : S.N[i]? = some x := by rfl) (hv : Vis S.sc x := by first | exact Or.inl rfl | exact Or.inr (Or.inl rfl) | exact Or.inr (Or.inr rfl)) (hE : E[i]? = some (.own (.list ds)) := by rfl)
    (hd : (x == ("__debug__" : Str)) = false := by decide +kernel) (hcd : (x == ("__classdict__" : Str)) = false := by decide +kernel) : WpK S (.Name x pos) E P := wk_own hN hv hE h hd hcd
theorem wo_none {P : Option Int → En → Prop} (h : P none E) : WpO S none E P := h
theorem wo_some {P : Option Int → En → Prop} (h : WpD S a E fun d E1 => ∃ k, d = .int k ∧ P (some k) E1) : WpO S (some a) E P := h
theorem and_tf {t : Bool} {A B : Prop} (h1 : t = true → A) (h2 : t = false → B) : (t = true → A) ∧ (t = false → B) := ⟨h1, h2⟩
theorem no_i {E : En} {i : Nat} {q : Sl} (h : E[i]? = some q) (hq : ∀ d, q ≠ Sl.own d) : notOwn E i := ⟨q, h, hq⟩
end
end Wq
set_option maxHeartbeats 2000000
namespace Wq
open PySem L2 PySem.Spec PyProof.Rows

/-! ### an order of keys -/
def ltK : Key → Key → Bool
  | .inl i, .inl j => decide (i < j)
  | .inr x, .inr y => decide (x.cps.toList < y.cps.toList)
  | .inl _, .inr _ => true
  | .inr _, .inl _ => false
def lexK : List Key → List Key → Bool
  | [], [] => false
  | [], _ :: _ => true
  | _ :: _, [] => false
  | x :: xs, y :: ys => if x = y then lexK xs ys else ltK x y
theorem str_ext {x y : Str} (h : x.cps.toList = y.cps.toList) : x = y := by
  cases x; cases y
  simp only at h
  rw [Array.toList_inj.mp h]
theorem ltK_irr (x : Key) : ltK x x = false := by
  cases x with
  | inl i => simp [ltK]
  | inr s => simp [ltK, List.lt_irrefl]
theorem ltK_asym {x y : Key} (h : ltK x y = true) : ltK y x = false := by
  cases x <;> cases y <;> simp only [ltK, decide_eq_true_eq, decide_eq_false_iff_not] at h ⊢
  · omega
  · cases h
  · exact fun z => List.lt_irrefl _ (List.lt_trans h z)
theorem ltK_trans {x y z : Key} (h : ltK x y = true) (h' : ltK y z = true) : ltK x z = true := by
  cases x <;> cases y <;> cases z <;> simp only [ltK, decide_eq_true_eq] at h h' ⊢
  · omega
  · cases h'
  · cases h
  · cases h
  · cases h'
  · exact List.lt_trans h h'
theorem ltK_total {x y : Key} (h : x ≠ y) : ltK x y = true ∨ ltK y x = true := by
  cases x with
  | inl i =>
    cases y with
    | inl j =>
      have : i ≠ j := fun e => h (by rw [e])
      simp only [ltK, decide_eq_true_eq]
      omega
    | inr s => exact .inl rfl
  | inr s =>
    cases y with
    | inl j => exact .inr rfl
    | inr t =>
      simp only [ltK, decide_eq_true_eq]
      have hne : s.cps.toList ≠ t.cps.toList := fun e => h (by rw [str_ext e])
      by_cases q : s.cps.toList < t.cps.toList
      · exact .inl q
      · refine .inr ?_
        have q' : t.cps.toList ≤ s.cps.toList := q
        by_cases q2 : t.cps.toList < s.cps.toList
        · exact q2
        · exact absurd (List.le_antisymm (show s.cps.toList ≤ t.cps.toList from q2) q') hne
theorem lexK_irr : ∀ x : List Key, lexK x x = false
  | [] => rfl
  | x :: xs => by unfold lexK; rw [if_pos rfl]; exact lexK_irr xs
theorem lexK_asym : ∀ {x y : List Key}, lexK x y = true → lexK y x = false
  | [], [], h => rfl
  | [], _ :: _, _ => rfl
  | _ :: _, [], h => by cases h
  | x :: xs, y :: ys, h => by
    unfold lexK at h ⊢
    by_cases e : x = y
    · subst e
      rw [if_pos rfl] at h ⊢
      exact lexK_asym h
    · rw [if_neg e] at h
      rw [if_neg fun z => e z.symm]
      exact ltK_asym h
theorem lexK_trans : ∀ {x y z : List Key}, lexK x y = true → lexK y z = true → lexK x z = true
  | [], [], _, h, _ => by cases h
  | [], _ :: _, [], _, h => by cases h
  | [], _ :: _, _ :: _, _, _ => rfl
  | _ :: _, [], _, h, _ => by cases h
  | _ :: _, _ :: _, [], _, h => by cases h
  | x :: xs, y :: ys, z :: zs, h, h' => by
    unfold lexK at h h' ⊢
    by_cases e : x = y
    · subst e
      rw [if_pos rfl] at h
      by_cases e' : x = z
      · rw [if_pos e'] at h' ⊢
        exact lexK_trans h h'
      · rw [if_neg e'] at h' ⊢
        exact h'
    · rw [if_neg e] at h
      by_cases e' : y = z
      · subst e'
        rw [if_neg e]
        exact h
      · rw [if_neg e'] at h'
        have t := ltK_trans h h'
        have ne : x ≠ z := fun q => by
          rw [q, ltK_irr] at t
          cases t
        rw [if_neg ne]
        exact t
theorem lexK_total : ∀ {x y : List Key}, lexK x y = false → lexK y x = false → x = y
  | [], [], _, _ => rfl
  | [], _ :: _, h, _ => by cases h
  | _ :: _, [], _, h => by cases h
  | x :: xs, y :: ys, h, h' => by
    unfold lexK at h h'
    by_cases e : x = y
    · subst e
      rw [if_pos rfl] at h h'
      rw [lexK_total h h']
    · rw [if_neg e] at h
      rw [if_neg fun z => e z.symm] at h'
      rcases ltK_total e with q | q
      · rw [h] at q; cases q
      · rw [h'] at q; cases q
theorem swoK {α : Type} (k : α → List Key) : SrtO.Swo fun x y => lexK (k x) (k y) := by
  refine ⟨fun x y h => lexK_asym h, fun x y z h1 h2 => ?_⟩
  cases q : lexK (k z) (k x) with
  | false => rfl
  | true =>
    exfalso
    cases a : lexK (k x) (k y) with
    | false =>
      have e := lexK_total a h1
      rw [← e] at h2
      rw [h2] at q
      cases q
    | true =>
      have t := lexK_trans q a
      rw [h2] at t
      cases t

/-! ### tuples of keys, compared by the sort -/
def isInt : Key → Bool
  | .inl _ => true
  | .inr _ => false
abbrev KeysV : List Key → List Value → Prop := Paired fun k u => keyIs k u = true
def TupV (h : Heap) (v : Value) (ks : List Key) : Prop := ∃ (a : Addr) (o : Obj) (us : List Value) (n : Nat), v = .ref a ∧ h.get? a = some o ∧ o.cls = .type "tuple" ∧ o.data = .seq us.toArray n ∧ KeysV ks us
theorem TupV.keeps {h h' : Heap} {v : Value} {ks : List Key} (t : TupV h v ks) (k : ∀ b o, h.get? b = some o → o.cls = .type "tuple" → h'.get? b = some o) : TupV h' v ks := by
  obtain ⟨a, o, us, n, e, ho, hc, hd, hk⟩ := t
  exact ⟨a, o, us, n, e, k _ _ ho hc, hc, hd, hk⟩
section
variable {prog : Program} {w : World} {A : Around} {E : Value → Shared → Prop} {s : Shared}
theorem one_lt {p q : Key} {u v : Value} {c : Bool} (hs : isInt p = isInt q) (hu : keyIs p u = true) (hv : keyIs q v = true) {Q : Bool → Shared → Prop} (h : Q (ltK p q) s) : wpAny (model prog w) A (oneLt' c u v) Q (fun _ _ => False) s := by
  rcases keyIs_shape hu with ⟨i, t, rfl, rfl⟩ | ⟨x, t, rfl, rfl⟩
  · rcases keyIs_shape hv with ⟨j, t', rfl, rfl⟩ | ⟨y, t', rfl, rfl⟩
    · cases c with
      | true => exact oneLt_int h
      | false => exact PySem.W.kat_one _ _ (lt_int h)
    · cases hs
  · rcases keyIs_shape hv with ⟨j, t', rfl, rfl⟩ | ⟨y, t', rfl, rfl⟩
    · cases hs
    · cases c with
      | true => exact oneLt_str h
      | false => exact PySem.W.kat_one _ _ (PyProof.Rows.lt_str h)
theorem lex_run {Q : Bool → Shared → Prop} : ∀ {ps qs : List Key} {us vs : List Value} {i : Nat}, ps.map isInt = qs.map isInt → KeysV ps us → KeysV qs vs → Q (lexK ps qs) s → PySem.W.KatLex prog w A true (decide (us.length < vs.length)) Q (us.zip vs) i s
  | [], [], _, _, i, _, .nil, .nil, h => by
    show Q (decide ((0 : Nat) < 0)) s
    have : decide ((0 : Nat) < 0) = false := by decide
    rw [this]
    exact h
  | [], _ :: _, _, _, _, hs, _, _, _ => by simp at hs
  | _ :: _, [], _, _, _, hs, _, _, _ => by simp at hs
  | p :: ps, q :: qs, _, _, i, hs, .cons h1 t1, .cons h2 t2, h => by
    simp only [List.map_cons, List.cons.injEq] at hs
    refine PySem.W.kat_cons ((mixKind prog w).eqBool h1 h2 ?_)
    unfold lexK at h
    refine PySem.W.kat_go (fun e => ?_) (fun e => ?_)
    · have e' : p = q := of_decide_eq_true e
      rw [if_pos e'] at h
      have r := lex_run (Q := Q) (i := i + 1) hs.2 t1 t2 h
      refine PySem.W.kat_yes ?_
      simp only [List.length_cons, Nat.add_lt_add_iff_right]
      exact r
    · have e' : ¬ p = q := of_decide_eq_false e
      rw [if_neg e'] at h
      exact PySem.W.kat_no (one_lt hs.1 h1 h2 h)
theorem tups_cmp {vs : List Value} {k : Value → List Key} {sig : List Bool} (hp : ∀ v ∈ vs, TupV s.heap v (k v) ∧ (k v).map isInt = sig) : SrtO.Cmp prog w A s (tuples' true) (fun p => p.1 ∈ vs) (SrtO.lt2 fun v u => lexK (k v) (k u)) := by
  intro p q hm hm'
  obtain ⟨⟨a, o, us, n, e, ho, hc, hd, hk⟩, h1⟩ := hp _ hm
  obtain ⟨⟨a', o', us', n', e', ho', hc', hd', hk'⟩, h1'⟩ := hp _ hm'
  show wpAny (model prog w) A (keyLt' (tuples' true) p.1 q.1) (fun r s' => s' = s ∧ r = lexK (k p.1) (k q.1)) (fun _ _ => False) s
  have go : ∀ x y : Value, x = .ref a → y = .ref a' → wpAny (model prog w) A (keyLt' (tuples' true) x y) (fun r s' => s' = s ∧ r = lexK (k p.1) (k q.1)) (fun _ _ => False) s := by
    rintro _ _ rfl rfl
    refine PySem.W.kat_lt ho hd ho' hd' ?_
    have r := lex_run (prog := prog) (w := w) (A := A) (s := s) (Q := fun r s' => s' = s ∧ r = lexK (k p.1) (k q.1)) (i := 0) (h1.trans h1'.symm) hk hk' ⟨rfl, rfl⟩
    simpa only [List.size_toArray] using r
  exact go _ _ e e'
theorem firsts {h : Heap} {b : Bool} {sig : List Bool} : ∀ {vs : List Value} {k : Value → List Key}, (∀ v ∈ vs, TupV h v (k v) ∧ (k v).map isInt = b :: sig) → ∃ fs : List Value, PySem.W.KatTups h vs fs ∧ fs.length = vs.length ∧ ∀ f ∈ fs, ∃ q : Key, keyIs q f = true ∧ isInt q = b
  | [], _, _ => ⟨[], PySem.W.KatTups.nil, rfl, fun _ hm => by cases hm⟩
  | v :: vs, k, hp => by
    obtain ⟨fs, h1, h2, h3⟩ := firsts (vs := vs) (k := k) fun v' hm => hp v' (List.mem_cons_of_mem _ hm)
    obtain ⟨⟨a, o, us, n, e, ho, hc, hd, hk⟩, hs⟩ := hp v List.mem_cons_self
    subst e
    generalize k (.ref a) = ks at hk hs
    cases hk with
    | nil => simp at hs
    | cons r t =>
      rename_i q u _ us
      simp only [List.map_cons, List.cons.injEq] at hs
      refine ⟨u :: fs, PySem.W.KatTups.cons ho hc hd (by simp) h1, by rw [List.length_cons, List.length_cons, h2], fun f hm => ?_⟩
      rcases List.mem_cons.mp hm with rfl | hm
      · exact ⟨q, r, hs.1⟩
      · exact h3 f hm
theorem tups_sortable {a : Addr} {vs : List Value} {k : Value → List Key} {b : Bool} {sig : List Bool} (h0 : 0 < vs.length) (hp : ∀ v ∈ vs, TupV s.heap v (k v) ∧ (k v).map isInt = b :: sig) (ha : ∀ o, s.heap.get? a = some o → o.cls ≠ .type "tuple") :
    SrtO.SortableO prog w A s a vs fun v u => lexK (k v) (k u) := by
  intro h' keep
  have hp' : ∀ v ∈ vs, TupV h' v (k v) ∧ (k v).map isInt = b :: sig := fun v hm => ⟨(hp v hm).1.keeps fun c o e cl => keep c o (fun z => by subst z; exact ha o e cl) e, (hp v hm).2⟩
  obtain ⟨fs, h1, h2, h3⟩ := firsts hp'
  refine ⟨tuples' true, fun Q E hq => ?_, tups_cmp hp'⟩
  cases b with
  | true =>
    refine PySem.W.kat_kind (T := .type "int") h1 (by omega) (fun f hm => ?_) (by rfl) ?_
    · obtain ⟨q, hq1, hq2⟩ := h3 f hm
      rcases keyIs_shape hq1 with ⟨i, t, rfl, rfl⟩ | ⟨x, t, rfl, rfl⟩
      · exact PySem.W.Looks.now
      · cases hq2
    · have e : (Value.type "int" != Value.type "tuple") = true := by decide +kernel
      rw [e]
      exact hq
  | false =>
    refine PySem.W.kat_kind (T := .type "str") h1 (by omega) (fun f hm => ?_) (by rfl) ?_
    · obtain ⟨q, hq1, hq2⟩ := h3 f hm
      rcases keyIs_shape hq1 with ⟨i, t, rfl, rfl⟩ | ⟨x, t, rfl, rfl⟩
      · cases hq2
      · exact PySem.W.Looks.now
    · have e : (Value.type "str" != Value.type "tuple") = true := by decide +kernel
      rw [e]
      exact hq
end
/-- sorted(xs), xs a list of tuples of ints and texts, of one form -/
def rSortK (K : PySem.W.Frag) : List V → Hp → VK → Prop := fun vs H Q => ∃ (a : Addr) (xs : List V) (kss : List (List Key)) (b : Bool) (sig : List Bool),
  vs = [V.ref a] ∧ SqL K H a xs ∧ xs.length = kss.length ∧ (∀ p ∈ xs.zip kss, ∃ t, p.1 = V.ref t ∧ SqT K H t (p.2.map kV) ∧ p.2.map isInt = b :: sig) ∧
  ∀ ys ls q, ys.length = ls.length → (ys.zip ls).Perm (xs.zip kss) → ls.Pairwise (fun x y => lexK y x = false) → H q = none → Q (.ref q) (upd H q (.lst ys))
theorem keysV_of : ∀ {ks : List Key} {us : List Value}, Vals (ks.map kV) us → KeysV ks us
  | [], _, h => by cases h; exact .nil
  | k :: ks, _, h => by
    cases h with
    | cons r t =>
      refine .cons ?_ (keysV_of t)
      cases k with
      | inl i => obtain ⟨t, rfl⟩ := r; exact keyIs_int _ _
      | inr x => obtain ⟨t, rfl⟩ := r; exact keyIs_str _ _
theorem kV_inj : ∀ {a b : List Key}, a.map kV = b.map kV → a = b
  | [], [], _ => rfl
  | [], _ :: _, h => by cases h
  | _ :: _, [], h => by cases h
  | x :: xs, y :: ys, h => by
    simp only [List.map_cons, List.cons.injEq] at h
    rw [kV_inj h.2]
    cases x <;> cases y <;> simp [kV] at h <;> rw [h.1]
theorem zip_map_self {α β : Type} (f : α → β) : ∀ l : List α, l.zip (l.map f) = l.map fun v => (v, f v)
  | [] => rfl
  | x :: l => by rw [List.map_cons, List.zip_cons_cons, zip_map_self f l]; rfl
theorem fun_of_zip {α β : Type} [Inhabited β] : ∀ {xs : List α} {ks : List β}, xs.length = ks.length → (∀ p ∈ xs.zip ks, ∀ q ∈ xs.zip ks, p.1 = q.1 → p.2 = q.2) → ∃ f : α → β, xs.map f = ks := by
  intro xs ks hl hu
  classical
  refine ⟨fun x => if h : ∃ k, (x, k) ∈ xs.zip ks then Classical.choose h else default, ?_⟩
  apply List.ext_getElem
  · rw [List.length_map, hl]
  · intro i h1 h2
    rw [List.getElem_map]
    have hx : i < xs.length := by rw [List.length_map] at h1; exact h1
    have hm : (xs[i], ks[i]) ∈ xs.zip ks := by
      have hz : i < (xs.zip ks).length := by rw [List.length_zip]; omega
      have e : (xs.zip ks)[i] = (xs[i], ks[i]) := List.getElem_zip
      rw [← e]
      exact List.getElem_mem hz
    have ex : ∃ k, (xs[i], k) ∈ xs.zip ks := ⟨_, hm⟩
    rw [dif_pos ex]
    exact hu _ (Classical.choose_spec ex) _ hm rfl
theorem cr_sortK {X : Cx} : CallR X (.builtin "sorted") (rSortK X.K) := by
  intro pins s σ H vs us Q I r h
  obtain ⟨a, xs, kss, b, sig, rfl, hs, hlen, hx, q⟩ := h
  obtain ⟨its, rv, hl, hz⟩ := I.list hs
  obtain ⟨u, rfl, ru⟩ := vals1 r
  obtain rfl : u = Value.ref a := ru
  obtain ⟨k, hk⟩ : ∃ k : V → List Key, xs.map k = kss := by
    refine fun_of_zip hlen fun p hp p' hp' e => ?_
    obtain ⟨t, e1, h1, _⟩ := hx p hp
    obtain ⟨t', e2, h2, _⟩ := hx p' hp'
    have et : t = t' := by
      rw [e1, e2] at e
      exact V.ref.inj e
    subst et
    exact kV_inj (I.tuple_inj h1 h2)
  have hx' : ∀ x ∈ xs, ∃ t, x = V.ref t ∧ SqT X.K H t ((k x).map kV) ∧ (k x).map isInt = b :: sig := fun x m => by
    refine hx (x, k x) ?_
    rw [← hk, zip_map_self]
    exact List.mem_map.mpr ⟨x, m, rfl⟩
  have isRef : ∀ x ∈ xs, ∃ t, x = V.ref t := fun x m => (hx' x m).imp fun _ h => h.1
  obtain ⟨e1, e2⟩ := refs_back rv isRef
  have tv : ∀ v ∈ its, TupV s.heap v (k (backV v)) ∧ (k (backV v)).map isInt = b :: sig := by
    intro v hv
    obtain ⟨t, rfl⟩ := e2 v hv
    have hm : V.ref t ∈ xs := by rw [e1]; exact List.mem_map.mpr ⟨_, hv, rfl⟩
    obtain ⟨t', e, ht, hsg⟩ := hx' _ hm
    cases e
    obtain ⟨us, ru, ⟨o, ho, hc, n, hd⟩, _⟩ := I.tuple ht
    exact ⟨⟨t, o, us, n, rfl, ho, hc, hd, keysV_of ru⟩, hsg⟩
  have hz' : its.length ≤ sizeLine := by rw [← rv.length]; exact hz
  refine SrtO.sorted_ord (swoK fun u => k (backV u)) hl.isList hz' (fun h2 h1 ad had kk => ?_) fun out h1 h2 => ?_
  · refine tups_sortable (s := { s with heap := h1 }) (by omega) (fun v hv => ⟨(tv v hv).1.keeps fun c o e _ => (kk c o e).2, (tv v hv).2⟩) fun o e => ?_
    have e' : some o = some (seqObj "list" its.toArray 0) := e.symm.trans had
    cases e'
    intro c
    exact absurd (Value.type.inj c) (by decide)
  · have h3 : ∀ u ∈ out, ∃ a, u = Value.ref a := fun u hu => e2 u (h2.perm.mem_iff.mp hu)
    obtain ⟨n, hn⟩ := sortedAll_at s.heap its out.toArray
    have pm : (out.map backV).Perm xs := by
      rw [e1]
      exact h2.perm.map backV
    have pz : ((out.map backV).zip ((out.map backV).map k)).Perm (xs.zip kss) := by
      rw [← hk, zip_map_self, zip_map_self]
      exact pm.map _
    have pw : ((out.map backV).map k).Pairwise (fun x y => lexK y x = false) := by
      rw [List.pairwise_map, List.pairwise_map]
      exact h1
    have fr : H (s.heap.objs.size + 1) = none := I.hok.fresh (Nat.le_succ _)
    refine ⟨.ref (s.heap.objs.size + 1), upd H (s.heap.objs.size + 1) (.lst (out.map backV)), I.laid (t' := s.toks) (fun b o e => sortedAll_old e) (Nat.le_succ _) ⟨?_, out, n, vals_back h3, hn⟩, rfl, q _ _ _ ?_ pz pw fr⟩
    · rw [pm.length_eq]
      exact hz
    · rw [List.length_map, List.length_map, List.length_map]
end Wq
set_option maxHeartbeats 2000000
namespace Wq
open PySem L2 PySem.Spec PyProof.Rows

/-! ### repr of data -/
def isBox : D → Bool
  | .list _ => true
  | .tuple _ => true
  | _ => false
def rRepr (K : PySem.W.Frag) : List V → Hp → VK → Prop := fun xs H Q => ∃ (v : V) (d : D), xs = [v] ∧ Dp K H v d ∧ isBox d = true ∧ d.showable = true ∧ d.hasDict = false ∧ d.depth ≤ 40 ∧ d.shown.length ≤ sizeLine ∧ Q (.str d.shown) H
theorem cr_repr {X : Cx} (hg : X.A.guards = some []) (hu : X.A.units + 64 < cLine) : CallR X (.builtin "repr") (rRepr X.K) := by
  intro pins s σ H xs us Q I r h
  obtain ⟨v, d, rfl, hd, hb, hs, hn, hdep, hz, q⟩ := h
  obtain ⟨u, rfl, ru⟩ := vals1 r
  obtain ⟨as, rd⟩ := Dp.reads I d v u hd ru
  have isref : ∃ a, u = .ref a := by
    cases rd with
    | list _ _ _ _ => exact ⟨_, rfl⟩
    | tuple _ _ _ _ => exact ⟨_, rfl⟩
    | none => cases hb
    | bool _ => cases hb
    | int _ _ => cases hb
    | str _ _ => cases hb
    | dict _ _ _ _ _ => cases hb
  obtain ⟨a, rfl⟩ := isref
  refine repr_of_reads' rd hs (fun z => by rw [hn] at z; cases z) hg (by omega) (fun _ _ e => e) (fun h' t tk hk => ?_) hz
  exact ⟨.str d.shown, H, I.kept hk, ⟨_, rfl⟩, q⟩

/-! ### a text read from behind, a text some times -/
def revS (z : Str) : Str := ⟨z.cps.toList.reverse.toArray⟩
def tRevS (te : TE) : TE := fun σ H Q => te σ H fun x H1 => ∃ z : Str, x = .str z ∧ z.length ≤ 100000 ∧ Q (.str (revS z)) H1
theorem rev_made (z : Str) (t u : Tok) : sliceMade z t none none (some (-1, u)) = .str (revS z) := by
  unfold sliceMade slicePicked
  have h1 : ((Option.map (fun x : Int × Tok => x.1) (some (-1, u))).getD 1 == (1 : Int)) = false := by rfl
  rw [h1, Bool.false_and, if_neg Bool.false_ne_true]
  have e : Builtin.Str.strSliceIndices (Option.map (fun x : Int × Tok => x.1) none) (Option.map (fun x : Int × Tok => x.1) none) ((Option.map (fun x : Int × Tok => x.1) (some (-1, u))).getD 1) z.length = (List.range z.cps.size).reverse := by
    show sliceRange ((z.length : Int) - 1) (-1) (-1) = _
    rw [PySem.W.krv_sliceRange, PySem.W.krv_range]
    rfl
  rw [e, List.filterMap_reverse, PySem.W.krv_all]
  rfl
theorem pe_revS {X : Cx} {e : Expr} {te : TE} {k : Nat} {p1 p2 p3 pos : Pos} (he : PE X e te) :
    PE X (.Subscript e (.Slice none none (some (.UnaryOp .USub (.Constant (.int 1) k p1) p2)) p3) pos) (tRevS te) := by
  constructor
  intro pins s σ H Q I h
  apply Subscript_
  refine thn (he.run pins s σ H _ I h) ?_
  rintro v s1 ⟨x, H1, I1, r1, z, ex, hz, q⟩
  subst ex
  obtain ⟨t, rfl⟩ := r1
  have hst : PO X (some (.UnaryOp .USub (.Constant (.int 1) k p1) p2)) (tPart (tUn (rU fun i => .int (-i)) (tC (.int 1)))) := po_some (pe_un un_neg pe_int)
  apply wpAny_Slice
  refine thn (po_none.run pins s1 σ H1 (fun o H2 => o = none ∧ H2 = H1) I1 ⟨rfl, rfl⟩) ?_
  rintro vl s2 ⟨l, H2, I2, pl, el, e2⟩
  subst el e2
  refine thn (po_none.run pins s2 σ H2 (fun o H3 => o = none ∧ H3 = H2) I2 ⟨rfl, rfl⟩) ?_
  rintro vu s3 ⟨u, H3, I3, pu, eu, e3⟩
  subst eu e3
  refine thn (hst.run pins s3 σ H3 (fun o H4 => o = some (-1) ∧ H4 = H3) I3 ⟨1, rfl, -1, rfl, rfl, rfl⟩) ?_
  rintro vs s4 ⟨o, H4, I4, ps, eo, e4⟩
  subst eo e4
  cases pl
  cases pu
  cases ps with
  | int _ tk =>
    have I5 : Inv X pins σ H4 { s4 with heap := s4.heap.push { cls := .type "slice", data := .fields #[.none, .none, .int (-1) tk] } } := I4.kept (t' := s4.toks) fun b ob q => Heap.get?_push_of_some _ q
    show wpAny (model X.prog X.w) X.A (subscriptTail e (.Slice none none (some (.UnaryOp .USub (.Constant (.int 1) k p1) p2)) p3) (.str z t) (.ref s4.heap.objs.size)) (EP X pins σ Q) X.xe _
    refine tail_any (ops := [.str z t, .ref s4.heap.objs.size]) (typeIs_str _ _ _) F.slot_str_getitem.lookup ?_ (by with_unfolding_all rfl)
    refine wpAny_getItem_str_slice (l := none) (u := none) (st := some (-1, tk)) ⟨_, Heap.get?_push_size _ rfl, rfl, rfl⟩ rfl ?_
    rw [rev_made]
    have hl : (revS z).length ≤ sizeLine := by
      show (z.cps.toList.reverse.toArray).size ≤ sizeLine
      rw [List.size_toArray, List.length_reverse, Array.length_toList]
      exact Nat.le_trans hz (by decide)
    refine ⟨hl, ?_⟩
    exact ⟨.str (revS z), H4, I5.tok _, ⟨_, rfl⟩, q⟩
def repS (z : Str) (n : Nat) : Str := ⟨(List.replicate n z.cps.toList).flatten.toArray⟩
theorem rep_fold (c : Array Nat) : ∀ (n : Nat) (acc : Array Nat), (List.replicate n c).foldl (· ++ ·) acc = acc ++ (List.replicate n c.toList).flatten.toArray
  | 0, acc => by simp
  | n + 1, acc => by
    rw [List.replicate_succ, List.foldl_cons, rep_fold c n, List.replicate_succ, List.flatten_cons]
    apply Array.ext'
    simp
theorem repS_one (z : Str) : repS z 1 = z := by
  cases z
  simp [repS]
theorem repS_len (z : Str) (n : Nat) : (repS z n).length = n * z.length := by
  show ((List.replicate n z.cps.toList).flatten.toArray).size = _
  rw [List.size_toArray, List.length_flatten, List.map_replicate, List.sum_replicate_nat, Array.length_toList]
  rfl
def rMulS : R2 := fun x y H Q => ∃ (z : Str) (n : Nat), x = .str z ∧ y = .int (n : Int) ∧ n ≤ 1000 ∧ z.length ≤ 1000 ∧ Q (.str (repS z n)) H
theorem op_mulS {X : Cx} : OpR X (binaryOp .Mult) rMulS := by
  intro pins s σ H x y v u Q I rx ry h
  obtain ⟨z, n, rfl, rfl, hn, hz, q⟩ := h
  obtain ⟨t, rfl⟩ := rx
  obtain ⟨t', rfl⟩ := ry
  have hsz : z.length * n ≤ 1000000 := Nat.le_trans (Nat.mul_le_mul hz hn) (by decide)
  refine PySem.P.mul_str ?_ (fun h1 h2 => ?_) (fun h1 h2 => ?_) ?_
  · have a1 : ¬ ((n : Int) < -(2 ^ 63 : Int)) := by omega
    have a2 : ¬ ((n : Int) ≥ 2 ^ 63) := by omega
    rw [decide_eq_false a1, decide_eq_false a2]
    rfl
  · have hn0 : (0 : Int) < (n : Int) := by omega
    have : (1001 : Int) ≤ (2 ^ 63 - 1) / (n : Int) := by
      rw [Int.le_ediv_iff_mul_le hn0]
      omega
    omega
  · unfold PySem.Builtin.Str.tooLong
    simp only [Int.toNat_natCast]
    exact decide_eq_false (by
      have : (1000000 : Nat) ≤ sizeLine := by decide
      omega)
  · by_cases h0 : (n : Int) < 1
    · rw [if_pos h0]
      have e0 : n = 0 := by omega
      subst e0
      exact ⟨by decide, .str (repS z 0), H, I.tok _, ⟨_, rfl⟩, q⟩
    · rw [if_neg h0]
      by_cases h1 : ((n : Int) == 1 || z.length == 0) = true
      · rw [if_pos h1]
        have e : repS z n = z := by
          rcases Bool.or_eq_true_iff.mp h1 with h1 | h1
          · have : n = 1 := by
              have : (n : Int) = 1 := by simpa using h1
              omega
            subst this
            exact repS_one z
          · have hz0 : z.length = 0 := by simpa using h1
            apply str_ext
            have l1 := repS_len z n
            rw [hz0, Nat.mul_zero] at l1
            have a1 : (repS z n).cps.toList = [] := List.eq_nil_of_length_eq_zero (by rw [Array.length_toList]; exact l1)
            have a2 : z.cps.toList = [] := List.eq_nil_of_length_eq_zero (by rw [Array.length_toList]; exact hz0)
            rw [a1, a2]
        rw [e] at q
        exact ⟨.str z, H, I, ⟨_, rfl⟩, q⟩
      · rw [if_neg h1]
        have e : (⟨(List.replicate ((n : Int)).toNat z.cps).foldl (· ++ ·) #[]⟩ : Str) = repS z n := by
          rw [rep_fold]
          unfold repS
          simp
        rw [e]
        refine ⟨?_, .str (repS z n), H, I.tok _, ⟨_, rfl⟩, q⟩
        rw [repS_len, Nat.mul_comm]
        exact Nat.le_trans hsz (by decide)

section
variable {S : Sx} {e : Expr} {es : List Expr} {E : En} {a b c : Expr} {pos p : Pos} {x y : Str} {P : Sl → En → Prop} {PD : D → En → Prop} {i j : Nat}
theorem wd_revS {k : Nat} {p1 p2 p3 : Pos} (h : WpD S a E fun d E1 => ∃ z : Str, d = .str z ∧ z.length ≤ 100000 ∧ PD (.str (revS z)) E1) :
    WpD S (.Subscript a (.Slice none none (some (.UnaryOp .USub (.Constant (.int 1) k p1) p2)) p3) pos) E PD := fun X hX F s R H r Q kk => by
  refine ⟨_, pe_revS pe_rd, ?_⟩
  refine h X hX F s R H r _ fun v d E1 R1 H1 s1 r1 p1 ⟨z, e1, hz, h1⟩ => ?_
  subst e1
  cases p1
  exact ⟨z, rfl, hz, kk _ _ E1 R1 H1 s1 r1 (.str _) h1⟩
theorem wd_mulS (h : WpD S a E fun d1 E1 => WpD S b E1 fun d2 E2 => ∃ (z : Str) (n : Nat), d1 = .str z ∧ d2 = .int (n : Int) ∧ n ≤ 1000 ∧ z.length ≤ 1000 ∧ PD (.str (repS z n)) E2) : WpD S (.BinOp a .Mult b pos) E PD :=
  wd_bin (r := rMulS) (fun _ _ => op_mulS) (h.mono fun _ _ h => h.mono fun _ _ ⟨z, n, h1, h2, hn, hz, h3⟩ => ⟨_, by
    subst h1 h2
    intro F s E R H v1 v2 r p1 p2 Q k
    cases p1; cases p2
    exact ⟨z, n, rfl, rfl, hn, hz, k _ R H (Same.refl _) r (.str _)⟩, h3⟩)
theorem wd_repr (hg : GlS S "repr") (hm : S.mg "repr" = none) (h : WpK S e E fun d E1 => isBox d = true ∧ d.showable = true ∧ d.hasDict = false ∧ d.depth ≤ 40 ∧ d.shown.length ≤ sizeLine ∧ PD (.str d.shown) E1)
    (hst : ∀ env : Env, starEach [e] env = (false, eval e env) :: starEach [] env := by intro _; rfl) : WpD S (.Call (.Name "repr" p) [e] [] pos) E PD := by
  refine wd_of (wp_blt1 (r := rRepr S.K) (fun X hX => by rw [← hX.K]; exact cr_repr hX.grd hX.room.units) hg hm PyProof.Rows.boot_repr (fun X hX F s R H r Q k => h X hX F s R H r Q fun v d E' R' H' a r' p q => k v d E' R' H' a r' p ?_) hst)
  obtain ⟨h1, h2, h3, h4, h5, hp⟩ := q
  intro F s E R H v r pk Q kk
  exact ⟨v, d, rfl, pk.dp r.sub, h1, h2, h3, h4, h5, kk _ (.dat (.str d.shown)) R H (Same.refl _) r (Dp.str _) ⟨_, rfl, hp⟩⟩
def kD : Key → D
  | .inl i => .int i
  | .inr x => .str x
def tupK (ks : List Key) : D := .tuple (ks.map kD)
theorem dpAll_keys {K : PySem.W.Frag} {R : Hp} : ∀ {vs : List V} {ks : List Key}, DpAll K R vs (ks.map kD) → vs = ks.map kV
  | _, [], h => by cases h; rfl
  | _, k :: ks, h => by
    cases h with
    | cons h1 h2 =>
      rw [dpAll_keys h2]
      cases k with
      | inl i => cases h1; rfl
      | inr x => cases h1; rfl
theorem dp_zip {K : PySem.W.Frag} {R : Hp} : ∀ {vs : List V} {kss : List (List Key)}, DpAll K R vs (kss.map tupK) → ∀ p ∈ vs.zip kss, Dp K R p.1 (tupK p.2)
  | _, [], h, p, hp => by cases h; cases hp
  | _, k :: kss, h, p, hp => by
    cases h with
    | cons h1 h2 =>
      rcases List.mem_cons.mp hp with rfl | hp
      · exact h1
      · exact dp_zip h2 p hp
theorem dp_unzip {K : PySem.W.Frag} {R : Hp} : ∀ {vs : List V} {kss : List (List Key)}, vs.length = kss.length → (∀ p ∈ vs.zip kss, Dp K R p.1 (tupK p.2)) → DpAll K R vs (kss.map tupK)
  | [], [], _, _ => .nil
  | [], _ :: _, h, _ => by cases h
  | _ :: _, [], h, _ => by cases h
  | v :: vs, k :: kss, h, hp => .cons (hp (v, k) List.mem_cons_self) (dp_unzip (by simpa using h) fun p m => hp p (List.mem_cons_of_mem _ m))
/-- sorted: tuples of ints and texts, of one form -/
theorem wp_sorted (hg : GlS S "sorted") (hm : S.mg "sorted" = none) (h : WpK S e E fun d E1 => ∃ (kss : List (List Key)) (b : Bool) (sig : List Bool), d = .list (kss.map tupK) ∧ (∀ ks ∈ kss, ks.map isInt = b :: sig) ∧ ∀ ls : List (List Key), ls.Perm kss → ls.Pairwise (fun x y => lexK y x = false) → P (.own (.list (ls.map tupK))) E1)
    (hst : ∀ env : Env, starEach [e] env = (false, eval e env) :: starEach [] env := by intro _; rfl) : Wp S (.Call (.Name "sorted" p) [e] [] pos) E P := by
  refine wp_blt1 (r := rSortK S.K) (fun X hX => by rw [← hX.K]; exact cr_sortK) hg hm PyProof.Rows.boot_sorted (fun X hX F s R H r Q k => h X hX F s R H r Q fun v d E' R' H' a r' p q => k v d E' R' H' a r' p ?_) hst
  obtain ⟨kss, b, sig, rfl, hsig, hp⟩ := q
  intro F s E R H v r pk Q kk
  obtain ⟨a, vs, rfl, h1, h2⟩ := pk.list r.sub
  have hl : vs.length = kss.length := by rw [dpAll_len h2, List.length_map]
  refine ⟨a, vs, kss, b, sig, rfl, h1, hl, fun p hp => ?_, fun ys ls q hly pm pw hq => ?_⟩
  · have hd := dp_zip h2 p hp
    have hk : p.2 ∈ kss := (List.of_mem_zip hp).2
    unfold tupK at hd
    generalize p.1 = v1 at hd ⊢
    cases hd with
    | tup hs hd =>
      rw [dpAll_keys hd] at hs
      exact ⟨_, rfl, same_t r.sub hs, hsig _ hk⟩
  · have pl : ls.Perm kss := by
      have := pm.map Prod.snd
      rwa [List.map_snd_zip (by omega), List.map_snd_zip (by omega)] at this
    have hd : DpAll S.K R ys (ls.map tupK) := dp_unzip hly fun p m => dp_zip h2 p (pm.mem_iff.mp m)
    exact kk _ (.own (.list (ls.map tupK))) R _ (Same.refl _) (r.grow hq) ⟨q, rfl, r.freeR hq, ⟨ys, upd_same, hd⟩, r.free0 hq, own_no r hq⟩ (hp ls pl pw)
end
end Wq
set_option maxHeartbeats 2000000
namespace Wq
open PySem L2
section
variable {K : PySem.W.Frag} {F : Fx} {s : St} {E : En} {R H : Hp}
/-- a slot out of sight -/
theorem Rel.hide (r : Rel K F s E R H) (i : Nat) : Rel K ⟨H, R, owners s (E.set i .no)⟩ s (E.set i .no) R H where
  len := by rw [List.length_set]; exact r.len
  sub := r.sub
  sub0 := Same.refl _
  keep := fun _ _ e _ => e
  new := fun a o e => .inl ⟨o, e⟩
  giv := fun p hp => by
    obtain ⟨h1, h2⟩ := mem_owners.mp hp
    exact ⟨h2, h1⟩
  dat := fun j d e => by
    rcases get_set e with ⟨_, e1⟩ | ⟨_, e1⟩
    · cases e1
    · exact r.dat j d e1
  own := fun j d e => by
    rcases get_set e with ⟨_, e1⟩ | ⟨_, e1⟩
    · cases e1
    · obtain ⟨a, h1, h2, h3, h4⟩ := r.own j d e1
      exact ⟨a, h1, h2, h3, .inr (mem_owners.mpr ⟨⟨d, e⟩, h1⟩)⟩
  inj := fun j k d1 d2 a e1 e2 h1 h2 => by
    rcases get_set e1 with ⟨_, e⟩ | ⟨_, e1⟩
    · cases e
    rcases get_set e2 with ⟨_, e⟩ | ⟨_, e2⟩
    · cases e
    exact r.inj j k d1 d2 a e1 e2 h1 h2
theorem Rel.unhide (r : Rel K F s E R H) {i : Nat} {a : Addr} {ds : List D} (hE : E[i]? = some (.own (.list ds))) (ha : s[i]? = some (some (.ref a))) {E' : En} {R' H' : Hp} (q : Rel K ⟨H, R, owners s (E.set i .no)⟩ s E' R' H') (hn : E'[i]? = some Sl.no) :
    Rel K F s (E'.set i (.own (.list ds))) R' H' := by
  obtain ⟨a1, h1, hR, ⟨vs, hH, hv⟩, hg⟩ := r.own i _ hE
  rw [ha] at h1
  cases h1
  have hiE : i < E'.length := (List.getElem?_eq_some_iff.mp hn).1
  have noa : ∀ p ∈ owners s (E.set i .no), p.2 ≠ a := fun p hp z => by
    obtain ⟨⟨d, k1⟩, k2⟩ := mem_owners.mp hp
    rcases get_set k1 with ⟨_, e⟩ | ⟨hne, e⟩
    · cases e
    · exact hne (r.inj i p.1 _ d a hE e ha (by rw [k2, z]))
  have hH' : H' a = some (.lst vs) := q.keep a _ hH noa
  have hR' : R' a = none := by
    cases z : R' a with
    | none => rfl
    | some o =>
      rcases q.new a o z with ⟨o', w⟩ | w
      · exact nomatch hR.symm.trans w
      · exact nomatch hH.symm.trans w
  have orig : ∀ (j : Nat) (d : D) (b : Addr), E'[j]? = some (Sl.own d) → s[j]? = some (some (V.ref b)) → b ≠ a := fun j d b e1 e2 z => by
    obtain ⟨b', k1, _, _, k4⟩ := q.own j d e1
    rw [e2] at k1
    cases k1
    rcases k4 with k4 | k4
    · rw [z] at k4; exact nomatch hH.symm.trans k4
    · exact noa _ k4 z
  exact {
    len := by rw [List.length_set]; exact q.len
    sub := q.sub
    sub0 := r.sub0.trans q.sub0
    keep := fun c o e hgc => by
      refine q.keep c o (r.keep c o e hgc) fun p hp z => ?_
      obtain ⟨⟨d, k1⟩, k2⟩ := mem_owners.mp hp
      rcases get_set k1 with ⟨_, e'⟩ | ⟨hne, e'⟩
      · cases e'
      · obtain ⟨c', m1, _, _, m4⟩ := r.own _ _ e'
        rw [k2] at m1
        cases m1
        rcases m4 with m4 | m4
        · rw [z, e] at m4; cases m4
        · exact hgc _ m4 z
    new := fun c o e => by
      rcases q.new c o e with ⟨o', w⟩ | w
      · exact r.new c o' w
      · exact .inr (r.free0 w)
    giv := fun p hp => by
      obtain ⟨k1, d, k2⟩ := r.giv p hp
      refine ⟨k1, ?_⟩
      by_cases e : i = p.1
      · exact ⟨_, by rw [e, List.getElem?_set_self (by rw [← e]; exact hiE)]⟩
      · have hm : p ∈ owners s (E.set i .no) := mem_owners.mpr ⟨⟨d, by rw [set_ne e]; exact k2⟩, k1⟩
        obtain ⟨_, d', k3⟩ := q.giv p hm
        exact ⟨d', by rw [set_ne e]; exact k3⟩
    dat := fun j d e => by
      rcases get_set e with ⟨_, e1⟩ | ⟨_, e1⟩
      · cases e1
      · exact q.dat j d e1
    own := fun j d e => by
      rcases get_set e with ⟨rfl, e1⟩ | ⟨hne, e1⟩
      · cases e1
        exact ⟨a, ha, hR', ⟨vs, hH', dpAll_mono q.sub0 _ _ hv⟩, hg⟩
      · obtain ⟨b, k1, k2, k3, k4⟩ := q.own j d e1
        refine ⟨b, k1, k2, k3, ?_⟩
        rcases k4 with k4 | k4
        · exact .inl (r.free0 k4)
        · obtain ⟨⟨d0, m1⟩, m2⟩ := mem_owners.mp k4
          rcases get_set m1 with ⟨_, e'⟩ | ⟨_, e'⟩
          · cases e'
          · obtain ⟨b', n1, _, _, n4⟩ := r.own _ _ e'
            rw [m2] at n1
            cases n1
            exact n4
    inj := fun j k d1 d2 b e1 e2 k1 k2 => by
      rcases get_set e1 with ⟨rfl, _⟩ | ⟨n1, e1⟩
      · rcases get_set e2 with ⟨rfl, _⟩ | ⟨n2, e2⟩
        · rfl
        · rw [ha] at k1
          cases k1
          exact absurd rfl (orig k d2 _ e2 k2)
      · rcases get_set e2 with ⟨rfl, _⟩ | ⟨n2, e2⟩
        · rw [ha] at k2
          cases k2
          exact absurd rfl (orig j d1 _ e1 k1)
        · exact q.inj j k d1 d2 b e1 e2 k1 k2 }
end
section
variable {S : Sx} {vs : List Nat} {ifs : List Expr} {E : En} {elt tg : Expr} {pos p : Pos} {x : Str} {i : Nat} {ds0 : List D}
def WpLo (S' : Sx) (vs : List Nat) (elt tg : Expr) (ifs : List Expr) (E1 : En) (ds : List D) (P : List D → En → Prop) : Prop :=
  (∀ j ∈ vs, notOwn E1 j) ∧ ∃ Iv : Nat → List D → En → Prop, Iv 0 [] (wipeE E1 vs) ∧
    (∀ t acc Et d, ds[t]? = some d → Iv t acc Et → WpG S' vs tg d Et fun E2 => WpTs S' ifs E2 fun b E3 =>
      (b = true → WpD S' elt E3 fun y E4 => acc.length < 1000000 ∧ (∀ i ∈ vs, notOwn E4 i) ∧ Iv (t + 1) (acc ++ [y]) (wipeE E4 vs)) ∧ (b = false → (∀ i ∈ vs, notOwn E3 i) ∧ Iv (t + 1) acc (wipeE E3 vs))) ∧
    ∀ acc Et, Iv ds.length acc Et → P acc Et
theorem lc_readOwn {scope : Scope} {P : List D → En → Prop} (hE : E[i]? = some (Sl.own (.list ds0))) (hiv : i ∉ vs) (h : WpLo (blkS S scope) vs elt tg ifs (E.set i .no) ds0 fun acc E' => E'[i]? = some Sl.no ∧ P acc (E'.set i (.own (.list ds0)))) {X : Cx} (hX : Has S X) {F : Fx} {s : St} {R H : Hp} (r : Rel S.K F s E R H) {Q : VK}
    (k : ∀ v r E' R' H', Same R R' → Rel S.K F s E' R' H' → RsOk S.K F s E' R' H' v r → (∃ acc, r = .own (.list acc) ∧ P acc E') → Q v H') : tLc (iList X.K (tVar i)) (AllG (blkS S scope) tg) (AllTs (blkS S scope) ifs) (AllE (blkS S scope) elt) vs s H Q := by
  obtain ⟨hno, Iv, h0, hst, hd⟩ := h
  obtain ⟨ad, ha, hRa, ⟨v0, g1, g2⟩, _⟩ := r.own i _ hE
  have r1 := r.hide i
  rw [hX.K]
  refine ⟨_, ha, ad, rfl, ⟨v0, SqL.of g1⟩, ?_⟩
  intro D hD
  -- the frame out of sight
  generalize hF0 : (⟨H, R, owners s (E.set i .no)⟩ : Fx) = F0 at r1
  have hH0 : F0.H0 = H := by rw [← hF0]
  have hR0 : F0.R0 = R := by rw [← hF0]
  have nog : ∀ p ∈ F0.g, p.2 ≠ ad := fun p hp z => by
    rw [← hF0] at hp
    obtain ⟨⟨d, k1⟩, k2⟩ := mem_owners.mp hp
    rcases get_set k1 with ⟨_, e⟩ | ⟨hne, e⟩
    · cases e
    · exact hne (r.inj i p.1 _ d ad hE e ha (by rw [k2, z]))
  have la : ∀ {s2 : St} {E2 : En} {R2 H2 : Hp}, Rel S.K F0 s2 E2 R2 H2 → H2 ad = some (.lst v0) := fun q => q.keep ad _ (by rw [hH0]; exact g1) nog
  have hD0 : F0.H0 D = none := by rw [hH0]; exact hD
  have ww : ∀ {s2 : St}, s2.length = (wipe s vs).length → (∀ j, j ∉ vs → s2[j]? = (wipe s vs)[j]?) → wipe s2 vs = wipe s vs := fun {s2} a b =>
    (wipe_eq a b).trans (wipe_eq (wipe_length ..) fun j hj => wipe_get hj)
  refine ⟨fun t m H2 => m = ds0.length - t ∧ t ≤ ds0.length ∧ ∃ av acc E2 R2, Same R R2 ∧ Rel S.K F0 (wipe s vs) E2 R2 H2 ∧ H2 D = some (.lst av) ∧ DpAll S.K R2 av acc ∧ R2 D = none ∧
    (∀ (j : Nat) (d : Wq.D), E2[j]? = some (Sl.own d) → (wipe s vs)[j]? ≠ some (some (V.ref D))) ∧ (∀ j ∈ vs, E2[j]? = some Sl.no) ∧ Iv t acc E2, ⟨_, rfl, Nat.zero_le _, [], [], wipeE (E.set i .no) vs, R, Same.refl _, ?_, upd_same, .nil, r1.freeR hD, ?_, ?_, h0⟩, ?_⟩
  · exact (r1.wipe vs fun i hi => (hno i hi).no).grow hD
  · exact own_no (r1.wipe vs fun i hi => (hno i hi).no) hD
  · exact fun i hi => wipeE_in hi (hno i hi).lt
  rintro t m H2 ⟨rfl, ht, av, acc, E2, R2, a2, r2, hD2, hv2, hR2, hn2, hi2, i2⟩
  have sq : SqL S.K H2 ad v0 := SqL.of (la r2)
  by_cases hlt : t < ds0.length
  · have q2 := r2.nest
    obtain ⟨v, e1, e2⟩ := dpAll_get g2 (List.getElem?_eq_getElem hlt)
    have noD : ∀ p ∈ owners (wipe s vs) E2, p.2 ≠ D := fun p hp z => by
      obtain ⟨⟨d, h1⟩, h2⟩ := mem_owners.mp hp
      exact hn2 _ _ h1 (by rw [h2, z])
    have stays : ∀ {s3 : St} {E3 : En} {R3 H3 : Hp}, Rel S.K ⟨H2, R2, owners (wipe s vs) E2⟩ s3 E3 R3 H3 → H3 D = some (.lst av) ∧ R3 D = none ∧ ∀ (i : Nat) (d : Wq.D), E3[i]? = some (Sl.own d) → s3[i]? ≠ some (some (V.ref D)) := fun {s3 E3 R3 H3} q => by
      refine ⟨q.keep D _ hD2 noD, ?_, fun i d e z => ?_⟩
      · cases e : R3 D with
        | none => rfl
        | some o =>
          rcases q.new D o e with ⟨o', z⟩ | z
          · exact nomatch hR2.symm.trans z
          · exact nomatch hD2.symm.trans z
      · obtain ⟨a, h1, h2, h3, h4⟩ := q.own i d e
        rw [h1] at z
        cases z
        rcases h4 with h4 | h4
        · exact nomatch hD2.symm.trans h4
        · exact noD _ h4 rfl
    refine .inr ⟨⟨v0, v, sq, e1⟩, fun H3 => ∃ av acc E3 R3, Same R R3 ∧ Rel S.K F0 (wipe s vs) E3 R3 H3 ∧ H3 D = some (.lst av) ∧ DpAll S.K R3 av acc ∧ R3 D = none ∧ (∀ (i : Nat) (d : Wq.D), E3[i]? = some (Sl.own d) → (wipe s vs)[i]? ≠ some (some (V.ref D))) ∧ (∀ i ∈ vs, E3[i]? = some Sl.no) ∧ Iv (t + 1) acc E3,
      fun H3 ⟨av3, acc3, E3, R3, z⟩ => ⟨ds0.length - (t + 1), by omega, rfl, hlt, av3, acc3, E3, R3, z⟩, ?_⟩
    rintro x H3 ⟨rfl, hy⟩
    have hxv : x = v := by
      have := hy v0 sq
      rw [e1] at this
      exact (Option.some.inj this).symm
    subst hxv
    have p3 : Dp S.K R2 x ds0[t] := dp_mono a2 _ _ e2
    intro Y hY
    refine hst t acc E2 ds0[t] (List.getElem?_eq_getElem hlt) i2 Y hY _ _ R2 H3 x q2 p3 _ fun s4 E4 l4 k4 q4 h4 => ?_
    have w4 := ww l4 k4
    have nw : ∀ {E5 : En} {R5 H5 : Hp}, Rel S.K ⟨H3, R2, owners (wipe s vs) E2⟩ s4 E5 R5 H5 → (∀ i ∈ vs, notOwn E5 i) → Rel S.K F0 (wipe s vs) (wipeE E5 vs) R5 H5 ∧ (∀ (i : Nat) (d : Wq.D), (wipeE E5 vs)[i]? = some (Sl.own d) → (wipe s vs)[i]? ≠ some (some (V.ref D))) ∧ (∀ i ∈ vs, (wipeE E5 vs)[i]? = some Sl.no) := fun {E5 R5 H5} q hno5 => by
      have u := (r2.unnest q).wipe vs fun i hi => (hno5 i hi).no
      have u' := q.wipe vs fun i hi => (hno5 i hi).no
      rw [w4] at u u'
      exact ⟨u, (stays u').2.2, fun i hi => wipeE_in hi (hno5 i hi).lt⟩
    refine ⟨w4, fun Y hY => ?_⟩
    refine h4 Y hY _ _ R2 H3 q4 _ fun b E5 R5 H5 a5 q5 ⟨hb1, hb2⟩ => ?_
    cases b with
    | true =>
      rw [if_pos rfl]
      intro Y hY
      refine hb1 rfl Y hY _ _ R5 H5 q5 _ fun y d E6 R6 H6 a6 q6 p6 ⟨hl, hno6, i6⟩ => ?_
      obtain ⟨hD6, hR6, hn6⟩ := stays q6
      obtain ⟨u6, v6, w6⟩ := nw q6 hno6
      have hlen : av.length = acc.length := dpAll_len hv2
      have a26 : Same R2 R6 := a5.trans a6
      refine ⟨av, hD6, Nat.lt_of_lt_of_le (by rw [hlen]; exact hl) (by decide : 1000000 ≤ sizeLine), av ++ [y], acc ++ [d], wipeE E6 vs, R6, a2.trans a26, ?_, upd_same, dpAll_app (dpAll_mono a26 _ _ hv2) (dpAll_one p6), hR6, v6, w6, i6⟩
      exact u6.other hR6 hD0 v6
    | false =>
      rw [if_neg Bool.false_ne_true]
      obtain ⟨hno5, i5⟩ := hb2 rfl
      obtain ⟨hD5, hR5, hn5⟩ := stays q5
      obtain ⟨u5, v5, w5⟩ := nw q5 hno5
      exact ⟨av, acc, wipeE E5 vs, R5, a2.trans a5, u5, hD5, dpAll_mono a5 _ _ hv2, hR5, v5, w5, i5⟩
  · have e : t = ds0.length := by omega
    subst e
    refine .inl ⟨⟨v0, sq, by rw [dpAll_len g2]; exact Nat.le_refl _⟩, ?_⟩
    obtain ⟨hin, hP⟩ := hd acc E2 i2
    have rr : Rel S.K F0 s E2 R2 H2 := r2.cong (by rw [wipe_length]) fun i => by
      by_cases hi : i ∈ vs
      · exact .inl (hi2 i hi)
      · exact .inr (wipe_get hi).symm
    have ru := r.unhide hE ha (by rw [hF0]; exact rr) hin
    have neD : ad ≠ D := fun z => by rw [z, hD] at g1; cases g1
    refine k (.ref D) (.own (.list acc)) _ R2 H2 a2 ru ⟨D, rfl, hR2, ⟨av, hD2, hv2⟩, r.free0 hD, fun j d e z => ?_⟩ ⟨acc, rfl, hP⟩
    rcases get_set e with ⟨rfl, _⟩ | ⟨_, e'⟩
    · rw [ha] at z
      cases z
      exact neD rfl
    · by_cases hj : j ∈ vs
      · rw [hi2 j hj] at e'; cases e'
      · exact hn2 j d e' (by rw [wipe_get hj]; exact z)
/-- [elt for tg in x if ..], x an owned list that stays as it is -/
theorem wp_lcOwn {scope : Scope} (own : List (Str × Nat)) {P : Sl → En → Prop} (ok : BlkOk S.N S.sc scope own) (hN : S.N[i]? = some x) (hv : Vis S.sc x) (hE : E[i]? = some (Sl.own (.list ds0))) (hiv : i ∉ own.map (·.2))
    (h : WpLo (blkS S scope) (own.map (·.2)) elt tg ifs (E.set i .no) ds0 fun acc E' => E'[i]? = some Sl.no ∧ P (.own (.list acc)) (E'.set i (.own (.list ds0))))
    (hs : ∀ (env : Env) y, foldedSetIterable (.Name x p) env y = pure y := by intro _ _; rfl) (hd : (x == ("__debug__" : Str)) = false := by decide +kernel) (hcd : (x == ("__classdict__" : Str)) = false := by decide +kernel) : Wp S (.ListComp elt [⟨tg, .Name x p, ifs, 0⟩] scope pos) E P := fun X hX F s R H r Q k => by
  refine ⟨_, pe_lc (own := own) hX.calm hX.nd (pi_list (pe_var (i := i) (by rw [hX.N]; exact hN) (by rw [hX.sc]; exact hv) hd hcd)) (by rw [hX.N, hX.sc]; exact ok) (fun s H C cl fp => pg_all (has_blk hX s H C cl fp)) (fun s H C cl fp => pts_all (has_blk hX s H C cl fp)) (fun s H C cl fp => pe_all (has_blk hX s H C cl fp)) (hs _), ?_⟩
  exact lc_readOwn (P := fun acc E' => P (.own (.list acc)) E') hE hiv h hX r fun v r' E' R' H' a r1 p ⟨acc, e, q⟩ => k v r' E' R' H' a r1 p (by rw [e]; exact q)
end
end Wq
set_option maxHeartbeats 2000000
namespace Wq
open PySem L2
/-! ### dict(zip(x, y)) of two texts of plain signs -/
section
variable {prog : Program} {w : World} {A : Around} {E : Value → Shared → Prop} {s : Shared} {z TI TO i1 i2 T : Addr} {fp1 fp2 : List Addr} {n1 n2 i : Nat} {P1 P2 : Nat → Value → Prop} {St1 St2 : Nat → Heap → Prop} {f : Bool} {oT : Obj}
/-- the next pair, while the tuple given out before is still there -/
theorem held_item {Q : Value → Shared → Prop} (S : ZipSep2 z TI TO i1 i2 fp1 fp2) (D1 : Draws prog w A i1 fp1 n1 P1 St1) (D2 : Draws prog w A i2 fp2 n2 P2 St2)
    (zh : IsZipHeld s.heap z TI TO T f) (th : s.heap.get? T = some oT) (ti : IsTupOf2 s.heap TI (.ref i1) (.ref i2)) (sa : St1 i s.heap) (sb : St2 i s.heap) (la : i < n1) (lb : i < n2)
    (k : ∀ x y h' tk, P1 i x → P2 i y → IsZipHeld h' z TI TO T true → St1 (i + 1) h' → St2 (i + 1) h' → IsTupOf2 h' s.heap.objs.size x y →
      (∀ c o, c ≠ z → c ≠ i1 → c ≠ i2 → s.heap.get? c = some o → h'.get? c = some o) → Q (.ref s.heap.objs.size) { s with heap := h', toks := tk }) :
    wpAny (model prog w) A (Builtin.«zip.__next__» ⟨[.ref z], []⟩) (fun r s' => ∃ v, r = .done (.ret v) ∧ Q v s') E s := by
  obtain ⟨hp, gl, dd, tk0, os⟩ := s
  show wpAny _ _ (field (.ref z) 2 >>= _) _ _ _
  refine wpAny_bind (wpAny_field zh rfl (x := .bool false) rfl ?_)
  show wpAny _ _ (field (.ref z) 3 >>= _) _ _ _
  refine wpAny_bind (wpAny_field zh rfl (x := .ref TI) rfl ?_)
  refine wpAny_bind (wpAny_seqItems ti rfl ?_)
  show wpAny _ _ (Builtin.SmallTypes.ownedTupleIsFree (.ref z) >>= _) _ _ _
  refine wpAny_bind (wpAny_tupleHeld_zip zh th fun g0 z0 s0 => ?_)
  replace s0 : Heap.SameBut z hp g0 := s0
  simp only [Bool.false_eq_true, if_false]
  refine wpAny_bind ?_
  rw [← Array.forIn_toList]
  simp only [List.forIn_cons, List.forIn_nil]
  refine wpAny_bind (wpAny_bind (wpAny_holding ?_))
  show wpAny _ _ (Builtin.SmallTypes.nextOf (.ref i1) >>= _) _ _ ⟨g0, gl, dd, tk0, os⟩
  refine wpAny_bind (D1.item i _ _ _ la (D1.over sa s0 S.zf1) fun x g1 t1 hx na s1 => wpAny_pure ?_)
  replace s1 : Heap.SameBut i1 g0 g1 := s1
  refine wpAny_pure ?_
  refine wpAny_bind (wpAny_bind (wpAny_holding ?_))
  show wpAny _ _ (Builtin.SmallTypes.nextOf (.ref i2) >>= _) _ _ ⟨g1, gl, dd, t1, os⟩
  refine wpAny_bind (D2.item i _ _ _ lb (D2.over (D2.over sb s0 S.zf2) s1 S.sep1_2) fun y g2 t2 hy nb s2 => wpAny_pure ?_)
  replace s2 : Heap.SameBut i2 g1 g2 := s2
  refine wpAny_pure (wpAny_pure ?_)
  show wpAny _ _ (newTuple [x, y] >>= _) _ _ ⟨g2, gl, dd, t2, os⟩
  refine wpAny_bind (wpAny_newTuple ?_)
  have sz : g2.objs.size = hp.objs.size := by rw [s2.1, s1.1, s0.1]
  have zz : IsZipHeld g2 z TI TO T true := s2.extBut _ _ S.zi2 (s1.extBut _ _ S.zi1 z0)
  refine wpAny_pure ⟨_, rfl, ?_⟩
  show Q (.ref g2.objs.size) _
  have nt : IsTupOf2 (g2.push { cls := .type "tuple", data := .seq #[x, y] }) g2.objs.size x y := Heap.get?_push_size _ rfl
  rw [sz] at nt ⊢
  have up : ∀ c o, g2.get? c = some o → (g2.push { cls := .type "tuple", data := .seq #[x, y] }).get? c = some o := fun c o e => Heap.get?_push_of_some _ e
  exact k x y _ t2 hx hy (up _ _ zz) (D1.frame _ _ _ (D1.over na s2 S.sep2_1) fun b _ o e => up b o e) (D2.frame _ _ _ nb fun b _ o e => up b o e) nt
    fun c o c1 c2 c3 e => up c o (s2.extBut _ _ c3 (s1.extBut _ _ c2 (s0.extBut _ _ c1 e)))
theorem held_end {Q : Fin → Shared → Prop} (S : ZipSep2 z TI TO i1 i2 fp1 fp2) (D1 : Draws prog w A i1 fp1 n1 P1 St1) (D2 : Draws prog w A i2 fp2 n2 P2 St2)
    (zh : IsZipHeld s.heap z TI TO T f) (th : s.heap.get? T = some oT) (ti : IsTupOf2 s.heap TI (.ref i1) (.ref i2)) (sa : St1 i s.heap) (sb : St2 i s.heap) (la : i ≤ n1) (lb : i ≤ n2) (le : i = n1 ∨ i = n2)
    (k : ∀ h' tk e, (∀ c o, c ≠ z → c ≠ i1 → c ≠ i2 → s.heap.get? c = some o → h'.get? c = some o) → (∃ o, h'.get? e = some o ∧ o.cls = .type "StopIteration") → E (.ref e) { s with heap := h', toks := tk }) :
    wpAny (model prog w) A (Builtin.«zip.__next__» ⟨[.ref z], []⟩) Q E s := by
  obtain ⟨hp, gl, dd, tk0, os⟩ := s
  show wpAny _ _ (field (.ref z) 2 >>= _) _ _ _
  refine wpAny_bind (wpAny_field zh rfl (x := .bool false) rfl ?_)
  show wpAny _ _ (field (.ref z) 3 >>= _) _ _ _
  refine wpAny_bind (wpAny_field zh rfl (x := .ref TI) rfl ?_)
  refine wpAny_bind (wpAny_seqItems ti rfl ?_)
  show wpAny _ _ (Builtin.SmallTypes.ownedTupleIsFree (.ref z) >>= _) _ _ _
  refine wpAny_bind (wpAny_tupleHeld_zip zh th fun g0 z0 s0 => ?_)
  replace s0 : Heap.SameBut z hp g0 := s0
  simp only [Bool.false_eq_true, if_false]
  refine wpAny_bind ?_
  rw [← Array.forIn_toList]
  simp only [List.forIn_cons, List.forIn_nil]
  refine wpAny_bind (wpAny_bind (wpAny_holding ?_))
  show wpAny _ _ (Builtin.SmallTypes.nextOf (.ref i1) >>= _) _ _ ⟨g0, gl, dd, tk0, os⟩
  by_cases e1 : i = n1
  · subst e1
    refine wpAny_bind (D1.done _ _ _ (D1.over sa s0 S.zf1) fun g1 e s1 he => ?_)
    replace s1 : Heap.ExtBut i1 g0 g1 := s1
    exact k g1 tk0 e (fun c o c1 c2 _ q => s1 _ _ c2 (s0.extBut _ _ c1 q)) he
  · have e2 : i = n2 := le.resolve_left e1
    refine wpAny_bind (D1.item i _ _ _ (by omega) (D1.over sa s0 S.zf1) fun x g1 t1 hx na s1 => wpAny_pure ?_)
    replace s1 : Heap.SameBut i1 g0 g1 := s1
    refine wpAny_pure ?_
    refine wpAny_bind (wpAny_bind (wpAny_holding ?_))
    show wpAny _ _ (Builtin.SmallTypes.nextOf (.ref i2) >>= _) _ _ ⟨g1, gl, dd, t1, os⟩
    subst e2
    refine wpAny_bind (D2.done _ _ _ (D2.over (D2.over sb s0 S.zf2) s1 S.sep1_2) fun g2 e s2 he => ?_)
    replace s2 : Heap.ExtBut i2 g1 g2 := s2
    exact k g2 t1 e (fun c o c1 c2 c3 q => s2 _ _ c3 (s1.extBut _ _ c2 (s0.extBut _ _ c1 q))) he
theorem held_nextItem {Q : Option Value → Shared → Prop} (S : ZipSep2 z TI TO i1 i2 fp1 fp2) (D1 : Draws prog w A.in1 i1 fp1 n1 P1 St1) (D2 : Draws prog w A.in1 i2 fp2 n2 P2 St2)
    (zh : IsZipHeld s.heap z TI TO T f) (th : s.heap.get? T = some oT) (ti : IsTupOf2 s.heap TI (.ref i1) (.ref i2)) (sa : St1 i s.heap) (sb : St2 i s.heap) (la : i < n1) (lb : i < n2)
    (k : ∀ x y h' tk, P1 i x → P2 i y → IsZipHeld h' z TI TO T true → St1 (i + 1) h' → St2 (i + 1) h' → IsTupOf2 h' s.heap.objs.size x y →
      (∀ c o, c ≠ z → c ≠ i1 → c ≠ i2 → s.heap.get? c = some o → h'.get? c = some o) → Q (some (.ref s.heap.objs.size)) { s with heap := h', toks := tk }) : wpAny (model prog w) A (pyNext (.ref z)) Q E s := by
  have ty : s.TypeIs (.ref z) "zip" := ⟨_, zh, rfl⟩
  unfold pyNext
  refine wpAny_bind (wpAny_attempt (wpAny_callSpecial?_slot (name := Str.ofString "__next__") ty PySem.F.slot_zip_next ?_))
  exact wpAny_call_entry PySem.F.slot_zip_next ty PySem.F.entry_zip_next (held_item S D1 D2 zh th ti sa sb la lb fun x y h' tk a1 a2 a3 a4 a5 a6 a7 => wpAny_pure (k x y h' tk a1 a2 a3 a4 a5 a6 a7)) (PySem.F.args_zip_next_1 _)
theorem held_nextEnd {Q : Option Value → Shared → Prop} (S : ZipSep2 z TI TO i1 i2 fp1 fp2) (D1 : Draws prog w A.in1 i1 fp1 n1 P1 St1) (D2 : Draws prog w A.in1 i2 fp2 n2 P2 St2)
    (zh : IsZipHeld s.heap z TI TO T f) (th : s.heap.get? T = some oT) (ti : IsTupOf2 s.heap TI (.ref i1) (.ref i2)) (sa : St1 i s.heap) (sb : St2 i s.heap) (la : i ≤ n1) (lb : i ≤ n2) (le : i = n1 ∨ i = n2)
    (k : ∀ h' tk, (∀ c o, c ≠ z → c ≠ i1 → c ≠ i2 → s.heap.get? c = some o → h'.get? c = some o) → Q none { s with heap := h', toks := tk }) : wpAny (model prog w) A (pyNext (.ref z)) Q E s := by
  have ty : s.TypeIs (.ref z) "zip" := ⟨_, zh, rfl⟩
  unfold pyNext
  refine wpAny_bind (wpAny_attempt (wpAny_callSpecial?_slot (name := Str.ofString "__next__") ty PySem.F.slot_zip_next ?_))
  refine wpAny_call_entry PySem.F.slot_zip_next ty PySem.F.entry_zip_next (held_end S D1 D2 zh th ti sa sb la lb le fun h' tk e q he => ?_) (PySem.F.args_zip_next_1 _)
  obtain ⟨o, ho, hc⟩ := he
  exact wpAny_bind (wpAny_isInstance (T := "StopIteration") (b := true) ⟨o, ho, hc⟩ isSubtype_stop (wpAny_pure (k _ _ q)))
end
end Wq
set_option maxHeartbeats 2000000
namespace Wq
open PySem L2
section
variable {prog : Program} {w : World}
abbrev SgAt (x : Str) (i : Nat) (v : Value) : Prop := ∃ c u, x.cps[i]? = some c ∧ v = .str ⟨#[c]⟩ u
abbrev ItAt (it : Addr) (x : Str) (t : Tok) (i : Nat) (h : Heap) : Prop := h.IsStrIter it "str_ascii_iterator" x t i
theorem ItAt.keep {it : Addr} {x : Str} {t : Tok} {i : Nat} {h h' : Heap} (a : ItAt it x t i h) (k : ∀ o, h.get? it = some o → h'.get? it = some o) : ItAt it x t i h' := by
  obtain ⟨o, ho, r⟩ := a
  exact ⟨o, k o ho, r⟩
/-- zip of two plain texts, as what dict() walks -/
theorem zipArg (z TI TO i1 i2 : Addr) (S : ZipSep2 z TI TO i1 i2 [i1] [i2]) (x y : Str) (t u : Tok) :
    PairArg prog w "zip" z [z, TI, TO, i1, i2] [z, TO, i1, i2] (min x.cps.size y.cps.size) (fun i k v => SgAt x i k ∧ SgAt y i v)
      (fun h => IsZip h z TI TO .none ∧ IsTupOf2 h TI (.ref i1) (.ref i2) ∧ (∃ a b, IsTupOf2 h TO a b) ∧ ItAt i1 x t 0 h ∧ ItAt i2 y u 0 h) where
  type := fun s ok => ⟨_, ok.1, rfl⟩
  notDict := by decide
  keep := fun h h' ok hk => by
    obtain ⟨zh, ti, ⟨a, b, to⟩, sa, sb⟩ := ok
    exact ⟨hk _ _ zh, hk _ _ ti, ⟨a, b, hk _ _ to⟩, sa.keep fun o e => hk _ o e, sb.keep fun o e => hk _ o e⟩
  there := fun h ok b hb => by
    obtain ⟨zh, ti, ⟨a, c, to⟩, ⟨o1, sa, _⟩, ⟨o2, sb, _⟩⟩ := ok
    have hb' : b = z ∨ b = TI ∨ b = TO ∨ b = i1 ∨ b = i2 := by simpa using hb
    rcases hb' with rfl | rfl | rfl | rfl | rfl
    · exact ⟨_, zh⟩
    · exact ⟨_, ti⟩
    · exact ⟨_, to⟩
    · exact ⟨_, sa⟩
    · exact ⟨_, sb⟩
  sub := fun b hb => by
    have hb' : b = z ∨ b = TO ∨ b = i1 ∨ b = i2 := by simpa using hb
    rcases hb' with rfl | rfl | rfl | rfl <;> simp
  noKeys := fun A s Q E hA ok h => getAttrOr_miss_zip ok.1 rfl rfl rfl zip_no_keys (by decide +kernel) hA h
  iter := fun A s d Q E hA ok hd hdf h => by
    obtain ⟨zh, ti, ⟨a, b, to⟩, sa, sb⟩ := ok
    have hd' : d ≠ z ∧ d ≠ TI ∧ d ≠ TO ∧ d ≠ i1 ∧ d ≠ i2 := by
      refine ⟨fun e => hdf (by simp [e]), fun e => hdf (by simp [e]), fun e => hdf (by simp [e]), fun e => hdf (by simp [e]), fun e => hdf (by simp [e])⟩
    obtain ⟨dz, dI, dO, d1, d2⟩ := hd'
    have D1 : Draws prog w A.in1 i1 [i1] x.cps.size (SgAt x) (fun i h => ItAt i1 x t i h) := Draws.strAscii (A := A.in1) hA i1 x t
    have D2 : Draws prog w A.in1 i2 [i2] y.cps.size (SgAt y) (fun i h => ItAt i2 y u i h) := Draws.strAscii (A := A.in1) hA i2 y u
    refine wpAny_pyIter_zip zh (h z [z, TO, i1, i2] (fun i h => IsTupOf2 h TI (.ref i1) (.ref i2) ∧ ItAt i1 x t i h ∧ ItAt i2 y u i h ∧
      ((IsZip h z TI TO .none ∧ ∃ a b, IsTupOf2 h TO a b) ∨ ∃ T f oT, IsZipHeld h z TI TO T f ∧ h.get? T = some oT ∧ T ≠ z ∧ T ≠ i1 ∧ T ≠ i2 ∧ T ≠ d)) s.heap s.toks ?_ ⟨ti, sa, sb, .inl ⟨zh, a, b, to⟩⟩ (fun _ _ e => e) fun b hb => .inl hb)
    exact {
      off := fun hm => by
        have hm' : d = z ∨ d = TO ∨ d = i1 ∨ d = i2 := by simpa using hm
        rcases hm' with e | e | e | e
        · exact dz e
        · exact dO e
        · exact d1 e
        · exact d2 e
      frame := fun i g g' st hk => by
        obtain ⟨ti, sa, sb, q⟩ := st
        refine ⟨hk _ _ (Ne.symm dI) ti, sa.keep fun o e => hk _ o (Ne.symm d1) e, sb.keep fun o e => hk _ o (Ne.symm d2) e, ?_⟩
        rcases q with ⟨zh, a, b, to⟩ | ⟨T, f, oT, zh, th, r1, r2, r3, r4⟩
        · exact .inl ⟨hk _ _ (Ne.symm dz) zh, a, b, hk _ _ (Ne.symm dO) to⟩
        · exact .inr ⟨T, f, oT, hk _ _ (Ne.symm dz) zh, hk _ _ r4 th, r1, r2, r3, r4⟩
      item := fun i s1 Q1 E1 hi st hds k => by
        obtain ⟨ti, sa, sb, q⟩ := st
        have la : i < x.cps.size := by omega
        have lb : i < y.cps.size := by omega
        have lt : ∀ {c o}, s1.heap.get? c = some o → s1.heap.objs.size ≠ c := fun e => Nat.ne_of_gt (Heap.lt_size e)
        have m1 : s1.heap.objs.size ≠ i1 := by obtain ⟨_, e⟩ := D1.live _ _ sa; exact lt e
        have m2 : s1.heap.objs.size ≠ i2 := by obtain ⟨_, e⟩ := D2.live _ _ sb; exact lt e
        rcases q with ⟨zh, a, b, to⟩ | ⟨T, f, oT, zh, th, r1, r2, r3, r4⟩
        · refine wpAny_pyNext_zipD2_item S D1 D2 zh ti to sa sb la lb fun v1 v2 h' tk p1 p2 z' o' sa' sb' t' _ hk => ?_
          refine k s1.heap.objs.size v1 v2 h' tk ⟨p1, p2⟩ (.inl ⟨_, t', rfl, _, rfl⟩) ⟨hk _ _ S.TIz S.TITO S.TIi1 S.TIi2 ti, sa', sb', .inr ⟨s1.heap.objs.size, false, _, z', t', lt zh, m1, m2, Nat.ne_of_gt hds⟩⟩ fun c o hc e => ?_
          exact hk c o (fun q => hc (by simp [q])) (fun q => hc (by simp [q])) (fun q => hc (by simp [q])) (fun q => hc (by simp [q])) e
        · refine held_nextItem S D1 D2 zh th ti sa sb la lb fun v1 v2 h' tk p1 p2 z' sa' sb' t' hk => ?_
          refine k s1.heap.objs.size v1 v2 h' tk ⟨p1, p2⟩ (.inl ⟨_, t', rfl, _, rfl⟩) ⟨hk _ _ S.TIz S.TIi1 S.TIi2 ti, sa', sb', .inr ⟨T, true, oT, z', hk _ _ r1 r2 r3 th, r1, r2, r3, r4⟩⟩ fun c o hc e => ?_
          exact hk c o (fun q => hc (by simp [q])) (fun q => hc (by simp [q])) (fun q => hc (by simp [q])) e
      done := fun s1 Q1 E1 st k => by
        obtain ⟨ti, sa, sb, q⟩ := st
        rcases q with ⟨zh, a, b, to⟩ | ⟨T, f, oT, zh, th, r1, r2, r3, r4⟩
        · exact wpAny_pyNext_zipD2_end S D1 D2 zh ti to sa sb (by omega) (by omega) (by omega) fun h' tk hk => k h' tk fun c o hc e => hk c o (fun q => hc (by simp [q])) (fun q => hc (by simp [q])) (fun q => hc (by simp [q])) (fun q => hc (by simp [q])) e
        · exact held_nextEnd S D1 D2 zh th ti sa sb (by omega) (by omega) (by omega) fun h' tk hk => k h' tk fun c o hc e => hk c o (fun q => hc (by simp [q])) (fun q => hc (by simp [q])) (fun q => hc (by simp [q])) e }
/-! ### the call of zip -/
abbrev zo (x : Str) (t : Tok) : Obj := { cls := .type "str_ascii_iterator", data := .fields #[.str x t, .int 0 0] }
abbrev zh1 (h : Heap) (x : Str) (t : Tok) : Heap := h.push (zo x t)
abbrev zh2 (h : Heap) (x y : Str) (t u : Tok) : Heap := (zh1 h x t).push (zo y u)
abbrev zh3 (h : Heap) (x y : Str) (t u : Tok) : Heap := (zh2 h x y t u).push { cls := .type "tuple", data := .seq #[.ref h.objs.size, .ref (zh1 h x t).objs.size] }
abbrev zh4 (h : Heap) (x y : Str) (t u : Tok) : Heap := (zh3 h x y t u).push { cls := .type "tuple", data := .seq #[.none, .none] }
abbrev zh5 (h : Heap) (x y : Str) (t u : Tok) : Heap := (zh4 h x y t u).push { cls := .type "zip", data := .fields #[.none, .bool false, .bool false, .ref (zh2 h x y t u).objs.size, .ref (zh3 h x y t u).objs.size] }
theorem zip_made (x y : Str) (t u : Tok) (hx : x.cps.all (· < 128) = true) (hy : y.cps.all (· < 128) = true) :
    Meets (Builtin.«zip.__new__» ⟨[.type "zip", .str x t, .str y u], []⟩) (fun _ R s => R (.ok (.ret (.ref (zh4 s.heap x y t u).objs.size))) { s with heap := zh5 s.heap x y t u }) :=
  .of_wp fun prog w A R s h => by
    obtain ⟨hp, g, d, tk, os⟩ := s
    have hsub := sub_zip
    wp_walk using wpAny_pyIter_ascii hx, wpAny_pyIter_ascii hy
    exact ⟨_, rfl, h⟩
variable {A : Around} {E : Value → Shared → Prop} {s : Shared}
theorem call_zipS {x y : Str} {t u : Tok} {Q : Value → Shared → Prop} (hx : x.cps.all (· < 128) = true) (hy : y.cps.all (· < 128) = true)
    (k : ∀ h' n, n = s.heap.objs.size → IsZip h' (n + 4) (n + 2) (n + 3) .none → IsTupOf2 h' (n + 2) (.ref n) (.ref (n + 1)) → IsTupOf2 h' (n + 3) .none .none → ItAt n x t 0 h' → ItAt (n + 1) y u 0 h' →
      (∀ c o, s.heap.get? c = some o → h'.get? c = some o) → Q (.ref (n + 4)) { s with heap := h' }) : wpAny (model prog w) A (call (.type "zip") [.str x t, .str y u]) Q E s := by
  refine callType_new PySem.F.called_zip (by decide) (PySem.F.typeCall_zip_2 _ _) (PySem.F.newCall_zip_2 _ _) (fun obj => PySem.F.args_object_init_3 obj _ _) PySem.F.entry_zip_new (zip_made x y t u hx hy) ?_
  have z1 : (zh1 s.heap x t).objs.size = s.heap.objs.size + 1 := Heap.size_push ..
  have z2 : (zh2 s.heap x y t u).objs.size = s.heap.objs.size + 2 := by rw [Heap.size_push, z1]
  have z3 : (zh3 s.heap x y t u).objs.size = s.heap.objs.size + 3 := by rw [Heap.size_push, z2]
  have z4 : (zh4 s.heap x y t u).objs.size = s.heap.objs.size + 4 := by rw [Heap.size_push, z3]
  have a5 : (zh5 s.heap x y t u).get? (zh4 s.heap x y t u).objs.size = some _ := Heap.get?_push_size _ rfl
  have a4 : (zh5 s.heap x y t u).get? (zh3 s.heap x y t u).objs.size = some _ := Heap.get?_push_of_some _ (Heap.get?_push_size _ rfl)
  have a3 : (zh5 s.heap x y t u).get? (zh2 s.heap x y t u).objs.size = some _ := Heap.get?_push_of_some _ (Heap.get?_push_of_some _ (Heap.get?_push_size _ rfl))
  have a2 : (zh5 s.heap x y t u).get? (zh1 s.heap x t).objs.size = some _ := Heap.get?_push_of_some _ (Heap.get?_push_of_some _ (Heap.get?_push_of_some _ (Heap.get?_push_size _ rfl)))
  have a1 : (zh5 s.heap x y t u).get? s.heap.objs.size = some _ := Heap.get?_push_of_some _ (Heap.get?_push_of_some _ (Heap.get?_push_of_some _ (Heap.get?_push_of_some _ (Heap.get?_push_size _ rfl))))
  show _ ∧ _
  rw [z2, z3, z4] at a5
  rw [z1, z2] at a3
  rw [z3] at a4
  rw [z1] at a2
  rw [z4]
  exact ⟨⟨_, a5, rfl⟩, k _ _ rfl a5 a3 a4 ⟨_, a1, rfl, rfl⟩ ⟨_, a2, rfl, rfl⟩ fun c o q => Heap.get?_push_of_some _ (Heap.get?_push_of_some _ (Heap.get?_push_of_some _ (Heap.get?_push_of_some _ (Heap.get?_push_of_some _ q))))⟩
end
end Wq
set_option maxHeartbeats 2000000
namespace Wq
open PySem L2
theorem ne_add {n a b : Nat} (h : a ≠ b) : n + a ≠ n + b := by omega
theorem ne_add0 {n a : Nat} (h : a ≠ 0) : n + a ≠ n := by omega
theorem lt4 {n m : Nat} (h : n + 4 < m) : n ≤ m := by omega
theorem not4 {n b : Nat} (h : b < n) (q : b = n + 4 ∨ b = n + 3 ∨ b = n ∨ b = n + 1) : False := by omega
def zipK (x y : Str) : List (Key × V) := (x.cps.toList.zip y.cps.toList).map fun q => (.inr ⟨#[q.1]⟩, .str ⟨#[q.2]⟩)
theorem zipK_get {x y : Str} {i c d : Nat} (h1 : x.cps[i]? = some c) (h2 : y.cps[i]? = some d) : (zipK x y)[i]? = some (.inr ⟨#[c]⟩, .str ⟨#[d]⟩) := by
  have e1 : x.cps.toList[i]? = some c := by rw [Array.getElem?_toList]; exact h1
  have e2 : y.cps.toList[i]? = some d := by rw [Array.getElem?_toList]; exact h2
  unfold zipK
  rw [List.getElem?_map, List.getElem?_zip_eq_some (z := (c, d)) |>.mpr ⟨e1, e2⟩]
  rfl
theorem zipK_len (x y : Str) : (zipK x y).length = min x.cps.size y.cps.size := by
  unfold zipK
  rw [List.length_map, List.length_zip, Array.length_toList, Array.length_toList]
theorem mergeK_take {kvs : List (Key × V)} {i : Nat} {k : Key} {v : V} (h : kvs[i]? = some (k, v)) : mergeK [] (kvs.take (i + 1)) = putK (mergeK [] (kvs.take i)) k v := by
  rw [List.take_add_one, h]
  unfold mergeK
  rw [List.foldl_append]
  rfl
section
variable {prog : Program} {w : World} {A : Around} {E : Value → Shared → Prop} {s : Shared}
theorem call_dictZ {z TI TO i1 i2 : Addr} {x y : Str} {t u : Tok} {Q : Value → Shared → Prop} (S : ZipSep2 z TI TO i1 i2 [i1] [i2]) (hh : A.handled = none) (hz : IsZip s.heap z TI TO .none) (ti : IsTupOf2 s.heap TI (.ref i1) (.ref i2)) (to : ∃ a b, IsTupOf2 s.heap TO a b)
    (sa : ItAt i1 x t 0 s.heap) (sb : ItAt i2 y u 0 s.heap) (hsz : min x.cps.size y.cps.size ≤ sizeLine)
    (k : ∀ h' tk vs, KV (mergeK [] (zipK x y)) vs → h'.DictOf (mixKind prog w) s.heap.objs.size vs → (∀ b o, b ∉ [z, TO, i1, i2] → s.heap.get? b = some o → h'.get? b = some o) → Q (.ref s.heap.objs.size) { s with heap := h', toks := tk }) :
    wpAny (model prog w) A (call (.type "dict") [.ref z]) Q E s := by
  refine call_dict_arg (zipArg z TI TO i1 i2 S x y t u) ⟨hz, ti, to, sa, sb⟩ fun s1 e1 hdf ok => ?_
  subst e1
  have h0 : (s.heap.push { cls := .type "dict", data := .dict #[] }).DictOf (mixKind prog w) s.heap.objs.size [] := Heap.DictOf.new s.heap
  refine updateFrom_arg (A := A.in1) (Tab := fun i h => ∃ vs, KV (mergeK [] ((zipK x y).take i)) vs ∧ h.DictOf (mixKind prog w) s.heap.objs.size vs) (zipArg z TI TO i1 i2 S x y t u) .none hh ok hdf ⟨[], .nil, h0⟩ (fun i h ⟨vs, _, d⟩ => d.lt_size) ?_ ?_ ?_
  · rintro i h h' wr hd _ ⟨vs, r, d⟩ hk
    exact ⟨vs, r, d.at' fun o e => hk _ o hd e⟩
  · rintro i kx v s' Q' E' hi ⟨⟨c, u1, hc, rfl⟩, ⟨c', u2, hc', rfl⟩⟩ ⟨vs, r, d⟩ _ hQ
    have hl : vs.length ≤ sizeLine := by
      rw [← r.length]
      have := length_mergeK ((zipK x y).take i) []
      rw [List.length_take, List.length_nil] at this
      omega
    refine wpAny_dictSet_pairs (k := Sum.inr ⟨#[c]⟩) (hsz := hl) (kV_is (k := Sum.inr ⟨#[c]⟩) (P := prog) (w := w) ⟨u1, rfl⟩) d fun h' d' hs => hQ h' _ ⟨_, ?_, d'⟩ hs
    rw [mergeK_take (zipK_get hc hc')]
    exact r.put _ ⟨u2, rfl⟩
  · rintro h' tk ⟨vs, r, d⟩ hk
    rw [← zipK_len, List.take_length] at r
    exact ⟨rfl, k h' tk vs r d fun b o hb e => hk b o (Nat.ne_of_lt (Heap.lt_size e)) hb (Heap.get?_push_of_some _ e)⟩
end
section
variable {X : Cx} {a b : Expr} {ta : TA} {p p2 pos pos2 : Pos}
/-- dict(zip(a, b)), two plain texts -/
def tDictZip (ta : TA) : TE := fun σ H Q => ta σ H fun vs H1 => ∃ x y : Str, vs = [.str x, .str y] ∧ x.cps.all (· < 128) = true ∧ y.cps.all (· < 128) = true ∧ x.length ≤ 100000 ∧ ∀ q, H1 q = none → Q (.ref q) (upd H1 q (.dK (mergeK [] (zipK x y))))
theorem pe_dictZip (hc : X.calm = true) (gd : Gl X "dict") (md : X.mg "dict" = none) (gz : Gl X "zip") (mz : X.mg "zip" = none) (ha : PA X [a, b] ta)
    (hs1 : starEach [.Call (.Name "zip" p2) [a, b] [] pos2] X.env = (false, eval (.Call (.Name "zip" p2) [a, b] [] pos2) X.env) :: starEach [] X.env := by rfl)
    (hs : starEach [a, b] X.env = (false, eval a X.env) :: starEach [b] X.env := by rfl) (hpl : (backTo pos2 (starEach [b] X.env)).any (·.1) = false := by rfl) :
    PE X (.Call (.Name "dict" p) [.Call (.Name "zip" p2) [a, b] [] pos2] [] pos) (tDictZip ta) := by
  refine ⟨fun pins s σ H Q I h => ?_⟩
  refine wpAny_Call_Name_kw (ld_blt I gd md PyProof.Rows.boot_dict ?_)
  refine PyProof.Rows.callWith_type1 ?_ hs1 rfl
  rw [hs1]
  show wpAny _ _ (spliced ((false, eval (.Call (.Name "zip" p2) [a, b] [] pos2) X.env) :: [])) _ _ s
  refine Calls.spliced_cons (wpAny_Call_Name_kw (ld_blt I gz mz PyProof.Rows.boot_zip ?_))
  refine PyProof.Rows.callWith_type1 (thn (ha.run pos2 pins s σ H _ I h) fun us s1 ⟨vs, H1, I1, r1, q1⟩ => ?_) hs hpl
  obtain ⟨x, y, rfl, hx, hy, hz, q⟩ := q1
  cases r1 with
  | cons r rr =>
    cases rr with
    | cons r' rr =>
      cases rr
      obtain ⟨t, rfl⟩ := r
      obtain ⟨u, rfl⟩ := r'
      refine call_zipS hx hy fun h' n en z ti to sa sb hk => Calls.spliced_nil ?_
      subst en
      generalize hn : s1.heap.objs.size = n at z ti to sa sb
      have S : ZipSep2 (n + 4) (n + 2) (n + 3) n (n + 1) [n] [n + 1] := ⟨ne_add (by decide), ne_add (by decide), ne_add (by decide), ne_add0 (by decide), by simp, by simp, by simp, ne_add (by decide), by simp, by simp, by simp, by simp, by simp⟩
      have hm : min x.cps.size y.cps.size ≤ sizeLine := Nat.le_trans (Nat.min_le_left ..) (Nat.le_trans hz (by decide))
      refine call_dictZ (s := { s1 with heap := h' }) S (I1.ok.hd hc) z ti ⟨_, _, to⟩ sa sb hm fun h2 tk vs r d hk2 => ?_
      have hle : s1.heap.objs.size ≤ h'.objs.size := by
        rw [hn]
        exact lt4 (Heap.lt_size z)
      have hkk : ∀ b o, s1.heap.get? b = some o → h2.get? b = some o := fun b o e => hk2 b o (fun hb => by
        have hlt := Heap.lt_size e
        rw [hn] at hlt
        have hb' : b = n + 4 ∨ b = n + 3 ∨ b = n ∨ b = n + 1 := by simpa using hb
        exact not4 hlt hb') (hk b o e)
      have hmod : (h'.objs.size == sysModules) = false := beq_eq_false_iff_ne.mpr (Nat.ne_of_gt (Nat.lt_of_lt_of_le I1.big hle))
      have hlen : (mergeK [] (zipK x y)).length ≤ sizeLine := by
        refine Nat.le_trans (length_mergeK _ []) ?_
        rw [List.length_nil, Nat.zero_add, zipK_len]
        exact hm
      exact ⟨.ref h'.objs.size, upd H1 h'.objs.size (.dK (mergeK [] (zipK x y))), I1.laid (t' := tk) hkk hle (show ObjOk X.prog X.w _ _ _ (.dK (mergeK [] (zipK x y))) from ⟨hlen, hmod, vs, r, d⟩), rfl, q _ (I1.hok.fresh hle)⟩
end
end Wq
set_option maxHeartbeats 1000000
namespace Wq
open PySem L2
section
variable {P : Program} {w : World} {K : PySem.W.Frag} {mg : Str → Option Value} {base : Heap} {N : List Str} {sc scope : Scope} {k0 : Nat}
variable {e : Expr} {es : List Expr} {E : En} {pos p bp : Pos} {ps : List Str} {k : Nat} {x bx : Str} {Z : Sl → En → Prop}
/-- a def that may be called by its name -/
def CallG (P : Program) (w : World) (K : PySem.W.Frag) (mg : Str → Option Value) (base : Heap) (x : Str) (k : Nat) (ps : List Str) (sp : Sp) : Prop := ∃ (f : Addr) (fd : FuncData), FnG P w K mg base k f fd ps sp ∧ mg x = some (.ref f) ∧ PySem.W.keepIn K (.ref f) = true ∧ Binds K fd ps []
theorem CallG.ok {k' : Nat} {sp : Sp} (h : CallG P w K mg base x k ps sp) : CallOk (sxOf P w K mg base N sc k') x k ps sp := ⟨h⟩
theorem CallG.okb {k' : Nat} {sp : Sp} (h : CallG P w K mg base x k ps sp) : CallOk (blkS (sxOf P w K mg base N sc k') scope) x k ps sp := ⟨h⟩
theorem wcB (i : Nat) {c : D → List D → (Sl → D → Prop) → Prop} (C : CallG P w K mg base x k ps (spB K c))
    (h : WpA (sxOf P w K mg base N sc k0) es E fun ds E1 => ∃ b, E1[i]? = some (Sl.own b) ∧ c b ds fun r b' => Z r (E1.set i (.own b')))
    (hk : k ≤ k0 := by decide) (hg : GlS (sxOf P w K mg base N sc k0) x := by exact rfl) (hN : N[i]? = some bx := by rfl) (hv : Vis sc bx := by first | exact Or.inl rfl | exact Or.inr (Or.inl rfl) | exact Or.inr (Or.inr rfl)) (hE : ∃ b0, E[i]? = some (Sl.own b0) := by exact ⟨_, rfl⟩)
    (hst : ∀ env : Env, starEach (.Name bx bp :: es) env = (false, eval (.Name bx bp) env) :: starEach es env := by intro _; rfl) (hpl : ∀ env : Env, (backTo pos (starEach es env)).any (·.1) = false := by intro _; rfl) (hdb : (x == ("__debug__" : Str)) = false := by decide +kernel)
    (hd : (bx == ("__debug__" : Str)) = false := by decide +kernel) (hcd : (bx == ("__classdict__" : Str)) = false := by decide +kernel) : Wp (sxOf P w K mg base N sc k0) (.Call (.Name x p) (.Name bx bp :: es) [] pos) E Z :=
  wp_callB C.ok hk hg hN hv hE h hst hpl hdb hd hcd
theorem wcBb (i : Nat) {c : D → List D → (Sl → D → Prop) → Prop} (C : CallG P w K mg base x k ps (spB K c))
    (h : WpA (blkS (sxOf P w K mg base N sc k0) scope) es E fun ds E1 => ∃ b, E1[i]? = some (Sl.own b) ∧ c b ds fun r b' => Z r (E1.set i (.own b')))
    (hk : k ≤ k0 := by decide) (hg : GlS (blkS (sxOf P w K mg base N sc k0) scope) x := by exact rfl) (hN : N[i]? = some bx := by rfl) (hv : Vis (blkS (sxOf P w K mg base N sc k0) scope).sc bx := by first | exact Or.inl rfl | exact Or.inr (Or.inl rfl) | exact Or.inr (Or.inr rfl)) (hE : ∃ b0, E[i]? = some (Sl.own b0) := by exact ⟨_, rfl⟩)
    (hst : ∀ env : Env, starEach (.Name bx bp :: es) env = (false, eval (.Name bx bp) env) :: starEach es env := by intro _; rfl) (hpl : ∀ env : Env, (backTo pos (starEach es env)).any (·.1) = false := by intro _; rfl) (hdb : (x == ("__debug__" : Str)) = false := by decide +kernel)
    (hd : (bx == ("__debug__" : Str)) = false := by decide +kernel) (hcd : (bx == ("__classdict__" : Str)) = false := by decide +kernel) : Wp (blkS (sxOf P w K mg base N sc k0) scope) (.Call (.Name x p) (.Name bx bp :: es) [] pos) E Z :=
  wp_callB C.okb hk hg hN hv hE h hst hpl hdb hd hcd
theorem wcP {c : List D → (Sl → Prop) → Prop} (C : CallG P w K mg base x k ps (spP K c))
    (h : WpA (sxOf P w K mg base N sc k0) (e :: es) E fun ds E1 => c ds fun r => Z r E1)
    (hk : k ≤ k0 := by decide) (hg : GlS (sxOf P w K mg base N sc k0) x := by exact rfl)
    (hst : ∀ env : Env, starEach (e :: es) env = (false, eval e env) :: starEach es env := by intro _; rfl) (hpl : ∀ env : Env, (backTo pos (starEach es env)).any (·.1) = false := by intro _; rfl) (hdb : (x == ("__debug__" : Str)) = false := by decide +kernel) :
    Wp (sxOf P w K mg base N sc k0) (.Call (.Name x p) (e :: es) [] pos) E Z := wp_callP C.ok hk hg h hst hpl hdb
theorem wcPb {c : List D → (Sl → Prop) → Prop} (C : CallG P w K mg base x k ps (spP K c))
    (h : WpA (blkS (sxOf P w K mg base N sc k0) scope) (e :: es) E fun ds E1 => c ds fun r => Z r E1)
    (hk : k ≤ k0 := by decide) (hg : GlS (blkS (sxOf P w K mg base N sc k0) scope) x := by exact rfl)
    (hst : ∀ env : Env, starEach (e :: es) env = (false, eval e env) :: starEach es env := by intro _; rfl) (hpl : ∀ env : Env, (backTo pos (starEach es env)).any (·.1) = false := by intro _; rfl) (hdb : (x == ("__debug__" : Str)) = false := by decide +kernel) :
    Wp (blkS (sxOf P w K mg base N sc k0) scope) (.Call (.Name x p) (e :: es) [] pos) E Z := wp_callP C.okb hk hg h hst hpl hdb
end
end Wq
set_option maxHeartbeats 1000000
namespace Wq
open PySem L2
/-! ### texts of signs -/
def one (c : Nat) : Str := ⟨#[c]⟩
theorem app_toArray (a b : List Nat) : (⟨a.toArray⟩ : Str) ++ ⟨b.toArray⟩ = ⟨(a ++ b).toArray⟩ := by
  show (⟨a.toArray ++ b.toArray⟩ : Str) = _
  simp
theorem join_one : ∀ (cs : List Nat), Txt.join (Str.ofString "") (cs.map one) = ⟨cs.toArray⟩ := fun cs => by
  show Builtin.Str.glued (Str.ofString "") _ = _
  rw [StrLaws.glued_eq_join]
  have e0 : (Str.ofString "") = ⟨([] : List Nat).toArray⟩ := by decide
  rw [e0]
  have : ∀ (cs : List Nat) (c : Nat), Str.join ⟨([] : List Nat).toArray⟩ ((c :: cs).map one) = ⟨(c :: cs).toArray⟩ := by
    intro cs
    induction cs with
    | nil => intro c; rfl
    | cons d r ih =>
      intro c
      show one c ++ ⟨([] : List Nat).toArray⟩ ++ Str.join _ ((d :: r).map one) = _
      rw [ih d]
      show (⟨[c].toArray⟩ : Str) ++ ⟨([] : List Nat).toArray⟩ ++ ⟨(d :: r).toArray⟩ = _
      rw [app_toArray, app_toArray]
      rfl
  cases cs with
  | nil => rfl
  | cons c r => exact this r c
end Wq
set_option maxHeartbeats 2000000
namespace Wq
open PySem L2
theorem updd {H : Hp} {a : Addr} {o o' : HO} : upd (upd H a o) a o' = upd H a o' := by
  funext b
  unfold upd
  split <;> rfl
section
variable {S : Sx} {G : List Nat} {E : En} {Z : EnS} {a b : Expr} {x xt xv : Str} {i jt jv : Nat} {scope : Scope}
variable {pd pz pos2 pos1 tpos spos jpos apos cpos lpos ipos vpos xpos ttpos gpos rpos p1 p2 p3 cp : Pos} {kc ks : Nat}
/-- x = dict(zip(a, b)); return ''.join([x[v] for v in t[::-1]]) -/
theorem ss_dictJoin (hN : S.N[i]? = some x) (hx : Loc S.sc x) (hA : S.asg x = true) (hG : i ∉ G) (hNt : S.N[jt]? = some xt) (hvt : Vis S.sc xt) (hNv : S.N[jv]? = some xv) (ok : BlkOk S.N S.sc scope [(xv, jv)])
    (hLv : Loc (blkS S scope).sc xv) (hAv : (blkS S scope).asg xv = true) (hVv : Vis (blkS S scope).sc xv) (hVx : Vis (blkS S scope).sc x) (hij : i ≠ jt) (hiv : i ≠ jv) (htv : jt ≠ jv) (hroom : 1 ≤ S.k)
    (gd : GlS S "dict") (md : S.mg "dict" = none) (gz : GlS S "zip") (mz : S.mg "zip" = none)
    (h : WpA S [a, b] E fun ds E1 => ∃ (kx ky z : Str) (f : Nat → Nat), ds = [.str kx, .str ky] ∧ kx.cps.all (· < 128) = true ∧ ky.cps.all (· < 128) = true ∧ kx.length ≤ 1000 ∧ i < E1.length ∧ jv < E1.length ∧ E1[jt]? = some (.dat (.str z)) ∧ z.length ≤ 1000 ∧
      (∀ c ∈ z.cps.toList, valV (mergeK [] (zipK kx ky)) (.inr ⟨#[c]⟩) = some (.str ⟨#[f c]⟩)) ∧ Z.rt (.dat (.str ⟨(z.cps.toList.reverse.map f).toArray⟩)) (E1.set i .no))
    (hs1 : ∀ env : Env, starEach [.Call (.Name "zip" pz) [a, b] [] pos2] env = (false, eval (.Call (.Name "zip" pz) [a, b] [] pos2) env) :: starEach [] env := by intro _; rfl)
    (hs2 : ∀ env : Env, starEach [a, b] env = (false, eval a env) :: starEach [b] env := by intro _; rfl) (hpl : ∀ env : Env, (backTo pos2 (starEach [b] env)).any (·.1) = false := by intro _; rfl)
    (hsw : ∀ env : Env, swapsWith (.Call (.Name "dict" pd) [.Call (.Name "zip" pz) [a, b] [] pos2] [] pos1) (some (.Name x tpos)) spos.line env = pure false := by intro _; rfl)
    (hline : (apos.endLine == jpos.line) = true := by rfl) (hd1 : (xt == ("__debug__" : Str)) = false := by decide +kernel) (hd2 : (xt == ("__classdict__" : Str)) = false := by decide +kernel)
    (hd3 : (xv == ("__debug__" : Str)) = false := by decide +kernel) (hd4 : (xv == ("__classdict__" : Str)) = false := by decide +kernel) (hd5 : (x == ("__debug__" : Str)) = false := by decide +kernel) (hd6 : (x == ("__classdict__" : Str)) = false := by decide +kernel) :
    WpSs S G [.Assign [.Name x tpos] (.Call (.Name "dict" pd) [.Call (.Name "zip" pz) [a, b] [] pos2] [] pos1) spos,
      .Return (some (.Call (.Attribute (.Constant (.str "") kc cp) "join" apos) [.ListComp (.Subscript (.Name x xpos) (.Name xv vpos) ipos) [⟨.Name xv gpos, .Subscript (.Name xt ttpos) (.Slice none none (some (.UnaryOp .USub (.Constant (.int 1) ks p1) p2)) p3) lpos, [], 0⟩] scope cpos] [] jpos)) rpos] E Z := fun X hX F s R H hg r D W => by
  have hgi : ∀ p ∈ F.g, p.1 ≠ i := fun p hp e => hG (by rw [← hg, ← e]; exact List.mem_map_of_mem hp)
  refine ⟨_, pss_cons (ps_set (i := i) hX.nd (by rw [hX.N]; exact hN) (by rw [hX.sc]; exact hx) (pe_dictZip hX.calm (gd.gl hX) (by rw [hX.mg]; exact md) (gz.gl hX) (by rw [hX.mg]; exact mz) pa_rd (hs1 _) (hs2 _) (hpl _)) (hsw _) (hX.fnl x hA))
    (pss_one (ps_ret (pe_join pe_str (pe_lc (own := [(xv, jv)]) hX.calm hX.nd (pi_str (pe_revS (pe_var (i := jt) (by rw [hX.N]; exact hNt) (by rw [hX.sc]; exact hvt) hd1 hd2))) (by rw [hX.N, hX.sc]; exact ok)
      (fun s' H' C cl fp => pg_name (i := jv) (has_blk (scope := scope) hX s' H' C cl fp).nd (by rw [(has_blk (scope := scope) hX s' H' C cl fp).N]; exact hNv) (by rw [(has_blk (scope := scope) hX s' H' C cl fp).sc]; exact hLv) ((has_blk (scope := scope) hX s' H' C cl fp).fnl xv hAv))
      (fun s' H' C cl fp => pts_nil)
      (fun s' H' C cl fp => pe_dget (by have := (has_blk (scope := scope) hX s' H' C cl fp).room.un; omega) (pe_var (i := i) (by rw [(has_blk (scope := scope) hX s' H' C cl fp).N]; exact hN) (by rw [(has_blk (scope := scope) hX s' H' C cl fp).sc]; exact hVx) hd5 hd6)
        (pe_var (i := jv) (by rw [(has_blk (scope := scope) hX s' H' C cl fp).N]; exact hNv) (by rw [(has_blk (scope := scope) hX s' H' C cl fp).sc]; exact hVv) hd3 hd4) (fun _ _ => rfl))) rfl rfl hline))), ?_⟩
  refine h X hX F s R H r _ fun vs ds E1 R1 H1 a1 r1 pd1 ⟨kx, ky, z, f, e1, h128, h128', hkx, hli, hlv, hjt, hz, hf, hZ⟩ => ?_
  subst e1
  cases pd1 with
  | cons q1 pd1 =>
    cases pd1 with
    | cons q2 pd1 =>
      cases pd1
      cases q1
      cases q2
      refine ⟨kx, ky, rfl, h128, h128', by omega, fun p hp => ?_⟩
      have hzs : s[jt]? = some (some (V.str z)) := by
        obtain ⟨v, e, q⟩ := r1.dat jt _ hjt
        cases q
        exact e
      have hlen : ∀ j : Nat, (∃ q, E1[j]? = some q) → j < s.length := fun j ⟨q, e⟩ => by
        rw [← r1.len]
        exact (List.getElem?_eq_some_iff.mp e).1
      have hNl : S.N.length = s.length ∨ True := .inr trivial
      have rv : (revS z).cps.toList = z.cps.toList.reverse := by unfold revS; simp
      refine ⟨⟨_, rfl⟩, V.str z, by rw [List.getElem?_set_ne hij]; exact hzs, z, rfl, by omega, revS z, rfl, fun L hL => ?_⟩
      have hpL : p ≠ L := fun e => by
        rw [← e, upd_same] at hL
        cases hL
      refine ⟨fun t m H2 => m = z.length - t ∧ t ≤ z.length ∧ H2 = upd (upd H1 p (.dK (mergeK [] (zipK kx ky)))) L (.lst ((z.cps.toList.reverse.take t).map fun c => V.str ⟨#[f c]⟩)), ⟨_, rfl, Nat.zero_le _, rfl⟩, ?_⟩
      rintro t m H2 ⟨rfl, ht, rfl⟩
      have hsz : (revS z).cps.size = z.length := by rw [← Array.length_toList, rv, List.length_reverse]; exact Array.length_toList
      by_cases hlt : t < z.length
      · refine .inr ⟨show t < (revS z).cps.size by rw [hsz]; exact hlt, fun H3 => H3 = upd (upd H1 p (.dK (mergeK [] (zipK kx ky)))) L (.lst ((z.cps.toList.reverse.take (t + 1)).map fun c => V.str ⟨#[f c]⟩)), fun H3 e => ⟨z.length - (t + 1), by omega, rfl, hlt, e⟩, ?_⟩
        rintro y H3 ⟨rfl, c, hc, rfl⟩
        have hc' : z.cps.toList.reverse[t]? = some c := by rw [← rv, Array.getElem?_toList]; exact hc
        have hcm : c ∈ z.cps.toList := List.mem_reverse.mp (List.mem_of_getElem? hc')
        refine ⟨by show List.set (List.set (List.set (List.set s i (some (V.ref p))) jv none) jv _) jv none = List.set (List.set s i (some (V.ref p))) jv none; rw [List.set_set, List.set_set], ?_⟩
        unfold tYes
        simp only [if_true]
        refine ⟨V.ref p, ?_, V.str ⟨#[c]⟩, ?_, p, V.str ⟨#[f c]⟩, rfl, ?_, _, upd_same, ?_, ?_⟩
        · show (List.set (List.set (List.set s i (some (V.ref p))) jv none) jv _)[i]? = _
          rw [List.getElem?_set_ne (Ne.symm hiv), List.getElem?_set_ne (Ne.symm hiv), List.getElem?_set_self (by rw [← r1.len]; exact hli)]
        · show (List.set (List.set (List.set s i (some (V.ref p))) jv none) jv _)[jv]? = _
          rw [List.getElem?_set_self (by rw [List.length_set, List.length_set, ← r1.len]; exact hlv)]
        · have := DGet.k (k := (.inr ⟨#[c]⟩ : Key)) (H := upd (upd H1 p (.dK (mergeK [] (zipK kx ky)))) L (.lst ((z.cps.toList.reverse.take t).map fun c => V.str ⟨#[f c]⟩))) (a := p) (kvs := mergeK [] (zipK kx ky)) (by rw [upd_ne hpL, upd_same])
          rw [hf c hcm] at this
          exact this
        · rw [List.length_map, List.length_take]
          have : (1000 : Nat) < sizeLine := by decide
          omega
        · rw [upd_upd, List.take_add_one, hc', List.map_append]
          rfl
      · have e : t = z.length := by omega
        subst e
        refine .inl ⟨show (revS z).cps.size ≤ z.length by rw [hsz]; exact Nat.le_refl _, ?_⟩
        have et : z.cps.toList.reverse.take z.length = z.cps.toList.reverse := List.take_of_length_le (by rw [List.length_reverse, Array.length_toList]; exact Nat.le_refl _)
        rw [et]
        refine ⟨_, L, z.cps.toList.reverse.map fun c => (⟨#[f c]⟩ : Str), rfl, rfl, .inl (SqL.of ?_), ?_, ?_⟩
        · rw [upd_same, List.map_map]
          rfl
        · have hs : ∀ cs : List Nat, ((cs.map fun c => (⟨#[f c]⟩ : Str)).map (·.length)).sum = cs.length := by
            intro cs
            induction cs with
            | nil => rfl
            | cons c r ih =>
              rw [List.map_cons, List.map_cons, List.sum_cons, ih, List.length_cons]
              show 1 + r.length = r.length + 1
              omega
          have hl0 : (z.cps.toList.reverse).length = z.length := by rw [List.length_reverse]; exact Array.length_toList
          rw [hs, List.length_map, hl0, show (Str.ofString "").length = 0 from by decide]
          omega
        · have ej : Txt.join (Str.ofString "") (z.cps.toList.reverse.map fun c => (⟨#[f c]⟩ : Str)) = ⟨(z.cps.toList.reverse.map f).toArray⟩ := by
            have := join_one (z.cps.toList.reverse.map f)
            rw [List.map_map] at this
            exact this
          rw [ej]
          refine W.rt _ (.dat (.str ⟨(z.cps.toList.reverse.map f).toArray⟩)) (E1.set i .no) (s.set i (some (V.ref p))) R1 _ a1 (((r1.grow hp).setNo hgi).grow hL) (.str _) hZ
end
end Wq
set_option maxHeartbeats 2000000
namespace Wq
open PySem L2
section
variable {K : PySem.W.Frag} {F : Fx} {s : St} {E : En} {R H : Hp}
/-- behind a call that was lent more than the region, and gave a plain value back -/
theorem Rel.backS (r : Rel K F s E R H) {Rx : Hp} {s' : St} {E' : En} {R' H' : Hp} (hs : Same R Rx) (q : Rel K ⟨H, Rx, []⟩ s' E' R' H') : Rel K F s E R H' where
  len := r.len
  sub := (hs.trans q.sub0).trans q.sub
  sub0 := r.sub0
  keep := fun a o e hg => q.keep a o (r.keep a o e hg) fun p hp => nomatch hp
  new := r.new
  giv := r.giv
  dat := r.dat
  own := fun i d e => by
    obtain ⟨a, h1, h2, h3, h4⟩ := r.own i d e
    obtain ⟨o, ho⟩ := h3.some
    have hk := q.keep a o ho fun p hp => nomatch hp
    exact ⟨a, h1, h2, h3.mono (Same.refl _) (by rw [hk, ho]), h4⟩
  inj := r.inj
def plainD : D → Bool
  | .none | .bool _ | .int _ | .str _ => true
  | _ => false
theorem dp_plain {R' : Hp} {v : V} {d : D} (h : Dp K R v d) (hp : plainD d = true) : Dp K R' v d := by
  cases h with
  | non => exact .non
  | bl b => exact .bl b
  | int i => exact .int i
  | str x => exact .str x
  | lst _ _ => cases hp
  | tup _ _ => cases hp
end
section
variable {P : Program} {w : World} {K : PySem.W.Frag} {mg : Str → Option Value} {base : Heap} {N : List Str} {sc scope : Scope} {k0 : Nat}
variable {e : Expr} {es : List Expr} {E : En} {pos p bp : Pos} {ps : List Str} {k : Nat} {x bx : Str} {Z : D → En → Prop}
/-- a call of a pure def whose first argument is an owned list: lent, and still owned behind it; a plain value comes back -/
theorem wcPo (i : Nat) {c : List D → (Sl → Prop) → Prop} (C : CallG P w K mg base x k ps (spP K c))
    (h : WpA (sxOf P w K mg base N sc k0) es E fun ds E1 => ∃ b : List D, E1[i]? = some (Sl.own (.list b)) ∧ c (.list b :: ds) fun r => ∃ d, r = .dat d ∧ plainD d = true ∧ Z d E1)
    (hk : k ≤ k0 := by decide) (hg : GlS (sxOf P w K mg base N sc k0) x := by exact rfl) (hN : N[i]? = some bx := by rfl) (hv : Vis sc bx := by first | exact Or.inl rfl | exact Or.inr (Or.inl rfl) | exact Or.inr (Or.inr rfl)) (hE : ∃ b0, E[i]? = some (Sl.own b0) := by exact ⟨_, rfl⟩)
    (hst : ∀ env : Env, starEach (.Name bx bp :: es) env = (false, eval (.Name bx bp) env) :: starEach es env := by intro _; rfl) (hpl : ∀ env : Env, (backTo pos (starEach es env)).any (·.1) = false := by intro _; rfl) (hdb : (x == ("__debug__" : Str)) = false := by decide +kernel)
    (hd : (bx == ("__debug__" : Str)) = false := by decide +kernel) (hcd : (bx == ("__classdict__" : Str)) = false := by decide +kernel) : WpD (sxOf P w K mg base N sc k0) (.Call (.Name x p) (.Name bx bp :: es) [] pos) E Z := fun X hX F s R H r Q kk => by
  obtain ⟨f, fd, Fn, hm, kp, hb⟩ := C
  have Fn' : FnG X.prog X.w X.K X.mg X.base k f fd ps (spP X.K c) := by
    rw [hX.prog, hX.w, hX.K, hX.mg, hX.base]
    exact Fn
  refine ⟨_, peg_call Fn' (hX.room.mono hk) hX.grd (hg.gl hX) (by rw [hX.mg]; exact hm) (by rw [hX.K]; exact kp) (by rw [hX.K]; exact hb) (pa_cons (pe_var (i := i) (by rw [hX.N]; exact hN) (by rw [hX.sc]; exact hv) hd hcd) pa_rd (hst _)) hdb (hst _) (hpl _), ?_⟩
  obtain ⟨b0, hE0⟩ := hE
  obtain ⟨ad, ha, _⟩ := r.own i b0 hE0
  refine ⟨_, ha, ?_⟩
  refine h X hX F s R H r _ fun vs ds E1 R1 H1 s1 r1 p1 ⟨b, hE1, h1⟩ => ?_
  obtain ⟨ad', ha', hR, ⟨bs, hH, hbs⟩, _⟩ := r1.own i _ hE1
  obtain rfl : ad = ad' := by
    rw [ha] at ha'
    cases ha'
    rfl
  have sm : Same R1 (upd R1 ad (.lst bs)) := same_upd hR
  show spP X.K c ((V.ref ad :: vs) ++ []) H1 _ _
  rw [List.append_nil, hX.K]
  have pargs : DpAll K (upd R1 ad (.lst bs)) (V.ref ad :: vs) (.list b :: ds) := .cons (.lst (SqL.of upd_same) (dpAll_mono sm _ _ hbs)) (dpAll_mono sm _ _ p1)
  have subx : Same (upd R1 ad (.lst bs)) H1 := fun c o e => by
    by_cases hc : c = ad
    · subst hc
      rw [upd_same] at e
      cases e
      exact hH
    · rw [upd_ne hc] at e
      exact r1.sub c o e
  have rel : Rel K ⟨H1, upd R1 ad (.lst bs), []⟩ ((V.ref ad :: vs).map some) ((PyData.list b :: ds).map Sl.dat) (upd R1 ad (.lst bs)) H1 := {
    len := by rw [List.length_map, List.length_map, dpAll_len pargs]
    sub := subx
    sub0 := Same.refl _
    keep := fun _ _ e _ => e
    new := fun a o e => .inl ⟨o, e⟩
    giv := fun p hp => nomatch hp
    dat := fun j d e => by
      rw [List.getElem?_map] at e
      cases z : (PyData.list b :: ds)[j]? with
      | none => rw [z] at e; cases e
      | some d' =>
        rw [z] at e
        cases e
        obtain ⟨v, g1, g2⟩ := dpAll_get pargs z
        exact ⟨v, by rw [List.getElem?_map, g1]; rfl, g2⟩
    own := fun j d e => by
      rw [List.getElem?_map] at e
      cases z : (PyData.list b :: ds)[j]? with
      | none => rw [z] at e; cases e
      | some d' => rw [z] at e; cases e
    inj := fun j l d d' a e => by
      rw [List.getElem?_map] at e
      cases z : (PyData.list b :: ds)[j]? with
      | none => rw [z] at e; cases e
      | some d' => rw [z] at e; cases e }
  refine ⟨upd R1 ad (.lst bs), [], (PyData.list b :: ds).map Sl.dat, fun r _ => ∃ d, r = .dat d ∧ plainD d = true ∧ Z d E1, rfl, rel, ⟨_, rfl, ?_⟩, fun v x outs R' H' a q ok z => ?_⟩
  · have e : (fun r => ∀ outs : List Sl, ∃ d, r = Sl.dat d ∧ plainD d = true ∧ Z d E1) = fun r => ∃ d, r = Sl.dat d ∧ plainD d = true ∧ Z d E1 := by funext r; exact propext ⟨fun h => h [], fun h _ => h⟩
    rw [e]
    exact h1
  · obtain ⟨d, rfl, hp, z⟩ := z
    exact kk v d E1 R1 H' s1 (r1.backS sm q) (dp_plain ok hp) z
end
section
variable {S : Sx} {G : List Nat} {E : En} {Z : EnS} {a b c : Expr} {x y z : Str} {i j l : Nat}
theorem s_par3 {px py pz pt pt2 sp : Pos} {kt k2 : Nat} (hN : S.N[i]? = some x) (hx : S.sc.names.lookup x = some NameKind.local) (hNy : S.N[j]? = some y) (hy : S.sc.names.lookup y = some NameKind.local) (hNz : S.N[l]? = some z) (hz : S.sc.names.lookup z = some NameKind.local) (hij : i ≠ j) (hil : i ≠ l) (hjl : j ≠ l) (hGi : i ∉ G) (hGj : j ∉ G) (hGl : l ∉ G)
    (h : WpA S [a, b, c] E fun ds E1 => ∃ d1 d2 d3, ds = [d1, d2, d3] ∧ i < E1.length ∧ j < E1.length ∧ l < E1.length ∧ Z.nx (((E1.set i (.dat d1)).set j (.dat d2)).set l (.dat d3)))
    (hw : ∀ env : Env, env.scope = S.sc → swappedStores [.Tuple [.Name x px, .Name y py, .Name z pz] kt pt] (.Tuple [a, b, c] k2 pt2) env = pure (some [x, y, z]))
    (hs : ∀ env : Env, swapsWithSole [.Tuple [.Name x px, .Name y py, .Name z pz] kt pt] (.Tuple [a, b, c] k2 pt2) sp.line env = pure false := by intro _; rfl) :
    WpS S G (.Assign [.Tuple [.Name x px, .Name y py, .Name z pz] kt pt] (.Tuple [a, b, c] k2 pt2) sp) E Z := fun X hX F s R H hg r D W => by
  refine ⟨_, ps_par3 (i := i) (j := j) (l := l) hX.calm hX.nd (by rw [hX.N]; exact hN) (by rw [hX.N]; exact hNy) (by rw [hX.N]; exact hNz) hij hil hjl (by rw [hX.sc]; exact hx) (by rw [hX.sc]; exact hy) (by rw [hX.sc]; exact hz) pa_rd (hw _ hX.sc) (hs _), ?_⟩
  have gi : ∀ q, q ∉ G → ∀ p ∈ F.g, p.1 ≠ q := fun q hq p hp e => hq (by rw [← hg, ← e]; exact List.mem_map_of_mem hp)
  refine h X hX F s R H r _ fun vs ds E1 R1 H1 s1 r1 p1 ⟨d1, d2, d3, e1, l1, l2, l3, h1⟩ => ?_
  subst e1
  cases p1 with
  | cons q1 p1 =>
    cases p1 with
    | cons q2 p1 =>
      cases p1 with
      | cons q3 p1 =>
        cases p1
        refine ⟨_, _, _, rfl, ?_⟩
        have r2 := r1.setDat (i := i) l1 (gi i hGi) q1
        have r3 := r2.setDat (i := j) (by rw [List.length_set]; exact l2) (gi j hGj) q2
        have r4 := r3.setDat (i := l) (by rw [List.length_set, List.length_set]; exact l3) (gi l hGl) q3
        exact W.nx _ _ R1 H1 s1 r4 h1
/-- return x if c else e, x an owned list of the def's own -/
theorem s_retIf {ct e : Expr} {p ip rp : Pos} (hN : S.N[i]? = some x) (hv : Vis S.sc x) (hG : i ∉ G) (h : WpT S ct E fun t E1 => (t = true → ∃ d, E1[i]? = some (.own d) ∧ Z.rt (.own d) (E1.set i .no)) ∧ (t = false → Wp S e E1 fun r E' => Z.rt r E'))
    (hd : (x == ("__debug__" : Str)) = false := by decide +kernel) (hcd : (x == ("__classdict__" : Str)) = false := by decide +kernel) : WpS S G (.Return (some (.IfExp ct (.Name x p) e ip)) rp) E Z := fun X hX F s R H hg r D W => by
  refine ⟨_, ps_ret (pe_ifExp pt_rd (pe_var (i := i) (by rw [hX.N]; exact hN) (by rw [hX.sc]; exact hv) hd hcd) pe_rd), ?_⟩
  have hgi : ∀ p ∈ F.g, p.1 ≠ i := fun p hp e => hG (by rw [← hg, ← e]; exact List.mem_map_of_mem hp)
  refine h X hX F s R H r _ fun t E1 R1 H1 s1 r1 ⟨h1, h2⟩ => ?_
  cases t with
  | true =>
    rw [if_pos rfl]
    obtain ⟨d, hE, hZ⟩ := h1 rfl
    obtain ⟨a, ha, hR, hO, h0⟩ := r1.own i d hE
    refine ⟨_, ha, W.rt (.ref a) (.own d) (E1.set i .no) (s.set i none) R1 H1 s1 (r1.setNo hgi) ⟨a, rfl, hR, hO, ?_, fun j d' e z => ?_⟩ hZ⟩
    · rcases h0 with q | q
      · exact q
      · exact absurd rfl (hgi _ q)
    · rcases get_set e with ⟨_, e1⟩ | ⟨hn, e1⟩
      · cases e1
      · rw [set_ne hn] at z
        exact hn (r1.inj i j _ d' a hE e1 ha z)
  | false =>
    rw [if_neg Bool.false_ne_true]
    exact h2 rfl X hX F s R1 H1 r1 _ fun v r' E' R' H' a r2 p q => W.rt v r' E' s R' H' (s1.trans a) r2 p q
end
end Wq
set_option maxHeartbeats 2000000
namespace Wq
open PySem L2
/-! ### targets of many names, over a tuple or a list -/
def RdGs (X : Cx) (es : List Expr) : TGs := fun vs s H Q => ∃ t, PGs X es t ∧ t vs s H Q
theorem pgs_rd {X : Cx} {es : List Expr} : PGs X es (RdGs X es) := ⟨fun pins s σ H vs us Q I r ⟨_, ht, q⟩ => ht.run pins s σ H vs us Q I r q⟩
def WpGs (S : Sx) (vs : List Nat) (es : List Expr) (ds : List D) (E : En) (P : En → Prop) : Prop := ∀ X, Has S X → ∀ F s R H xs, Rel S.K F s E R H → DpAll S.K R xs ds → ∀ Q : St → Hp → Prop,
  (∀ s' E', s'.length = s.length → (∀ j, j ∉ vs → s'[j]? = s[j]?) → Rel S.K F s' E' R H → P E' → Q s' H) → RdGs X es xs s H Q
section
variable {S : Sx} {vs : List Nat} {e : Expr} {es : List Expr} {E : En} {pos : Pos} {P : En → Prop} {d : D} {ds : List D} {k : Nat}
theorem gs_nil (h : P E) : WpGs S vs [] [] E P := fun X hX F s R H xs r p Q kk => by
  cases p
  exact ⟨_, pgs_nil, rfl, kk s E rfl (fun _ _ => rfl) r h⟩
theorem gs_cons (h : WpG S vs e d E fun E1 => WpGs S vs es ds E1 P) (hs : ∀ env : Env, (assignEach (e :: es) env).map (·.2) = assign e env :: (assignEach es env).map (·.2) := by intro _; rfl) : WpGs S vs (e :: es) (d :: ds) E P := fun X hX F s R H xs r p Q kk => by
  cases p with
  | cons p1 p2 =>
    refine ⟨_, pgs_cons (pg_rd (tg := e)) pgs_rd (hs _), _, _, rfl, ?_⟩
    refine h X hX F s R H _ r p1 _ fun s1 E1 l1 k1 r1 h1 => ?_
    exact h1 X hX F s1 R H _ r1 p2 Q fun s2 E2 l2 k2 r2 h2 => kk s2 E2 (l2.trans l1) (fun j hj => (k2 j hj).trans (k1 j hj)) r2 h2
theorem g_tupN (h : WpGs S vs es ds E P) (hn : ∀ env : Env, (assignEach es env).length = ds.length := by intro _; rfl) (hst : ∀ env : Env, (assignEach es env).findIdx? (·.1) = none := by intro _; rfl) : WpG S vs (.Tuple es k pos) (.tuple ds) E P := fun X hX F s R H v r p Q kk => by
  refine ⟨_, pg_tup (n := ds.length) hX.calm pgs_rd (hn _) (hst _), ?_⟩
  cases p with
  | tup hq hd =>
    have hqH := same_t r.sub hq
    rw [← hX.K] at hqH
    exact ⟨_, _, rfl, hqH, dpAll_len hd, h X hX F s R H _ r hd Q kk⟩
theorem g_lstN (h : WpGs S vs es ds E P) (hn : ∀ env : Env, (assignEach es env).length = ds.length := by intro _; rfl) (hst : ∀ env : Env, (assignEach es env).findIdx? (·.1) = none := by intro _; rfl) : WpG S vs (.Tuple es k pos) (.list ds) E P := fun X hX F s R H v r p Q kk => by
  refine ⟨_, pg_unl (n := ds.length) hX.calm pgs_rd (hn _) (hst _), ?_⟩
  cases p with
  | lst hq hd =>
    have hqH := r.sub.seq hq
    rw [← hX.K] at hqH
    exact ⟨_, _, rfl, hqH, dpAll_len hd, h X hX F s R H _ r hd Q kk⟩
/-- targets = e, e some data -/
theorem s_unpack {G : List Nat} {Z : EnS} {a : Expr} {kt : Nat} {pt sp : Pos} (vs : List Nat) (h : WpD S a E fun d E1 => WpG S vs (.Tuple es kt pt) d E1 Z.nx)
    (hw : ∀ env : Env, env.scope = S.sc → swappedStores [.Tuple es kt pt] a env = pure none)
    (hs : ∀ env : Env, swapsWithSole [.Tuple es kt pt] a sp.line env = pure false := by intro _; rfl) : WpS S G (.Assign [.Tuple es kt pt] a sp) E Z := fun X hX F s R H hg r D W => by
  refine ⟨_, ps_asg pe_rd (pg_rd (tg := .Tuple es kt pt)) (hs _) (hw _ hX.sc) rfl, ?_⟩
  refine h X hX F s R H r _ fun v d E1 R1 H1 s1 r1 p1 h1 => ?_
  exact h1 X hX F s R1 H1 v r1 p1 _ fun s4 E4 _ _ r4 e4 => W.nx _ s4 R1 _ s1 r4 e4
end
section
variable {S : Sx} {E : En} {a b : Expr} {es : List Expr} {pos p : Pos} {x : Str} {PD : D → En → Prop}
/-- a global whole number -/
theorem wd_gl {i : Int} {u : Value} (hg : GlS S x) (hm : S.mg x = some u) (hu : RelV (.int i) u) (h : PD (.int i) E) (hd : (x == ("__debug__" : Str)) = false := by decide +kernel) : WpD S (.Name x pos) E PD := fun X hX F s R H r Q k =>
  ⟨_, pe_glob (hg.gl hX) (by rw [hX.mg]; exact hm) hu hd, k _ _ E R H (Same.refl _) r (.int i) h⟩
theorem wd_max2 (hg : GlS S "max") (hm : S.mg "max" = none) (h : WpD S a E fun d E1 => WpD S b E1 fun d' E2 => ∃ k j, d = .int k ∧ d' = .int j ∧ PD (.int (if j > k then j else k)) E2) (hst : ∀ env : Env, starEach [a, b] env = (false, eval a env) :: starEach [b] env := by intro _; rfl)
    (hst2 : ∀ env : Env, starEach [b] env = (false, eval b env) :: starEach [] env := by intro _; rfl) (hpl : ∀ env : Env, (backTo pos (starEach [b] env)).any (·.1) = false := by intro _; rfl) : WpD S (.Call (.Name "max" p) [a, b] [] pos) E PD := by
  refine wd_of (wp_blt (r := fun xs H Q => ∃ i j, xs = [.int i, .int j] ∧ Q (.int (if j > i then j else i)) H) (fun X hX => call_max2 hX.calm) hg hm PyProof.Rows.boot_max (wa_cons (h.mono fun d E1 q0 => wa_cons (q0.mono fun d' E2 ⟨k, j, e1, e2, q⟩ => wa_nil ?_) hst2) hst) hst hpl)
  clear h
  subst e1 e2
  refine clp_val ⟨_, rfl, q⟩ fun F s E R H vs r p => ?_
  cases p with
  | cons p1 p2 =>
    cases p2 with
    | cons p2 p3 =>
      cases p1
      cases p2
      cases p3
      exact ⟨_, .int _, fun Q h => ⟨k, j, rfl, h⟩⟩
theorem ints_dpInv {K : PySem.W.Frag} {R : Hp} : ∀ {vs : List V} {ns : List Int}, DpAll K R vs (ns.map PyData.int) → vs = ns.map V.int
  | _, [], .nil => rfl
  | _, _ :: r, .cons h t => by
    cases h
    rw [ints_dpInv t]
    rfl
theorem wd_sum (hg : GlS S "sum") (hm : S.mg "sum" = none) (h : WpK S a E fun d E1 => ∃ ns : List Int, d = .list (ns.map PyData.int) ∧ PD (.int ns.sum) E1) (hst : ∀ env : Env, starEach [a] env = (false, eval a env) :: starEach [] env := by intro _; rfl) : WpD S (.Call (.Name "sum" p) [a] [] pos) E PD := by
  refine wd_of (wp_blt1 (r := rSum S.K) (fun X hX => by rw [← hX.K]; exact cr_sum hX.calm) hg hm PyProof.Rows.boot_sum (fun X hX F s R H r Q k => h X hX F s R H r Q fun v d E' R' H' a r' p q => k v d E' R' H' a r' p ?_) hst)
  obtain ⟨ns, rfl, hp⟩ := q
  intro F s E R H v r pk Q kk
  obtain ⟨ad, vs, rfl, h1, h2⟩ := pk.list r.sub
  rw [ints_dpInv h2] at h1
  exact ⟨ad, ns, rfl, h1, kk _ (.dat (.int ns.sum)) R H (Same.refl _) r (.int _) ⟨_, rfl, hp⟩⟩
/-- a list as a test -/
theorem wt_some {P : Bool → En → Prop} (h : WpK S a E fun d E1 => ∃ ds, d = .list ds ∧ P (!ds.isEmpty) E1) (he : plainT a := by intro _ _; rfl) : WpT S a E P := fun X hX F s R H r0 Q k => by
  refine ⟨_, pt_truth pe_rd (he _), ?_⟩
  refine h X hX F s R H r0 _ fun v d E1 R1 H1 s1 r1 pk ⟨ds, e, h1⟩ => ?_
  subst e
  obtain ⟨ad, vs, rfl, q1, q2⟩ := pk.list r1.sub
  refine ⟨!ds.isEmpty, .inl ⟨vs, by rw [hX.K]; exact q1, ?_⟩, k _ E1 R1 H1 s1 r1 h1⟩
  cases q2 <;> rfl
end
end Wq
set_option maxHeartbeats 2000000
namespace Wq
open PySem L2
/-! ### comprehensions with two walks -/
/-- the list that is being made stands at L -/
structure Mkg (K : PySem.W.Frag) (F : Fx) (s : St) (L : Addr) (acc : List D) (E : En) (R H : Hp) : Prop where
  rel : Rel K F s E R H
  at' : ∃ av, H L = some (.lst av) ∧ DpAll K R av acc
  fre : R L = none
  no : ∀ (i : Nat) (d : D), E[i]? = some (Sl.own d) → s[i]? ≠ some (some (V.ref L))
section
variable {K : PySem.W.Frag} {F : Fx} {s : St} {L : Addr} {acc : List D} {E : En} {R H : Hp}
theorem Mkg.step (m : Mkg K F s L acc E R H) {s' : St} {E' : En} {R' H' : Hp} (a : Same R R') (q : Rel K ⟨H, R, owners s E⟩ s' E' R' H') : Mkg K F s' L acc E' R' H' := by
  obtain ⟨av, h1, h2⟩ := m.at'
  have noL : ∀ p ∈ owners s E, p.2 ≠ L := fun p hp z => by
    obtain ⟨⟨d, e1⟩, e2⟩ := mem_owners.mp hp
    exact m.no _ _ e1 (by rw [e2, z])
  refine ⟨m.rel.unnest q, ⟨av, q.keep L _ h1 noL, dpAll_mono a _ _ h2⟩, ?_, fun i d e z => ?_⟩
  · cases e : R' L with
    | none => rfl
    | some o =>
      rcases q.new L o e with ⟨o', z⟩ | z
      · exact nomatch m.fre.symm.trans z
      · exact nomatch h1.symm.trans z
  · obtain ⟨a, g1, g2, g3, g4⟩ := q.own i d e
    rw [g1] at z
    cases z
    rcases g4 with g4 | g4
    · exact nomatch h1.symm.trans g4
    · exact noL _ g4 rfl
theorem Mkg.put (m : Mkg K F s L acc E R H) (h0 : F.H0 L = none) {av : List V} (hH : H L = some (.lst av)) {y : V} {d : D} (p : Dp K R y d) : Mkg K F s L (acc ++ [d]) E R (upd H L (.lst (av ++ [y]))) := by
  obtain ⟨av', h1, h2⟩ := m.at'
  rw [hH] at h1
  cases h1
  exact ⟨m.rel.other m.fre h0 m.no, ⟨_, upd_same, dpAll_app h2 (dpAll_one p)⟩, m.fre, m.no⟩
theorem Mkg.wipe (m : Mkg K F s L acc E R H) (vs : List Nat) (h : ∀ i ∈ vs, notOwn E i) : Mkg K F (L2.wipe s vs) L acc (wipeE E vs) R H := by
  refine ⟨m.rel.wipe vs fun i hi => (h i hi).no, m.at', m.fre, fun i d e z => ?_⟩
  by_cases hi : i ∈ vs
  · rw [wipeE_in hi (h i hi).lt] at e
    cases e
  · have : ∀ {vs : List Nat} {E : En}, i ∉ vs → (wipeE E vs)[i]? = E[i]? := by
      intro vs E hi
      induction vs with
      | nil => rfl
      | cons v r ih =>
        unfold wipeE
        rw [set_ne (fun q => hi (by rw [q]; exact List.mem_cons_self ..))]
        exact ih fun q => hi (List.mem_cons_of_mem _ q)
    rw [this hi] at e
    rw [wipe_get hi] at z
    exact m.no i d e z
end
section
variable {S : Sx} {elt tg tg1 it it1 : Expr} {ifs ifs1 : List Expr} {E : En} {pos : Pos}
/-- one turn of a walk that adds to the list -/
theorem lc_turn {S' : Sx} (hK : S'.K = S.K) {F : Fx} {s0 : St} {vs : List Nat} {L : Addr} {J : It} {ds : List D} {R1 : Hp} (J1 : ItOk S.K R1 J ds) {t : Nat} {acc : List D} {E2 : En} {R2 H2 : Hp} (a2 : Same R1 R2) (m : Mkg S.K F (wipe s0 vs) L acc E2 R2 H2) (h0 : F.H0 L = none) {d : D} (hd : ds[t]? = some d)
    {Post : List D → En → Prop} (h : WpG S' vs tg d E2 fun E3 => WpTs S' ifs E3 fun b E4 =>
      (b = true → WpD S' elt E4 fun y E5 => acc.length < 1000000 ∧ (∀ i ∈ vs, notOwn E5 i) ∧ Post (acc ++ [y]) (wipeE E5 vs)) ∧ (b = false → (∀ i ∈ vs, notOwn E4 i) ∧ Post acc (wipeE E4 vs)))
    {Nx : Hp → Prop} (k : ∀ acc' E' R' H', Same R1 R' → Mkg S.K F (wipe s0 vs) L acc' E' R' H' → (∀ i ∈ vs, E'[i]? = some Sl.no) → Post acc' E' → Nx H') :
    J.go t H2 ∧ ∀ x H3, J.yld t H2 x H3 → AllG S' tg x (wipe s0 vs) H3 fun s2 H4 => wipe s2 vs = wipe s0 vs ∧ AllTs S' ifs s2 H4 fun b H5 =>
      if b = true then AllE S' elt s2 H5 fun y H6 => ∃ av, H6 L = some (.lst av) ∧ av.length < sizeLine ∧ Nx (upd H6 L (.lst (av ++ [y]))) else Nx H5 := by
  have q2 := m.rel.nest
  obtain ⟨g1, g2⟩ := J1.go _ _ E2 R2 H2 t d a2 q2 hd
  refine ⟨g1, fun x H3 hy => ?_⟩
  obtain ⟨R3, a3, q3, p3⟩ := g2 x H3 hy
  intro Y hY
  rw [← hK] at q3 p3
  refine h Y hY _ _ R3 H3 x q3 p3 _ fun s4 E4 l4 k4 q4 h4 => ?_
  have w4 : wipe s4 vs = wipe s0 vs := (wipe_eq l4 k4).trans (wipe_eq (wipe_length ..) fun j hj => wipe_get hj)
  refine ⟨w4, fun Y hY => ?_⟩
  refine h4 Y hY _ _ R3 H3 q4 _ fun b E5 R5 H5 a5 q5 ⟨hb1, hb2⟩ => ?_
  cases b with
  | true =>
    rw [if_pos rfl]
    intro Y hY
    refine hb1 rfl Y hY _ _ R5 H5 q5 _ fun y dd E6 R6 H6 a6 q6 p6 ⟨hl, hno6, i6⟩ => ?_
    rw [hK] at q6 p6
    have a26 : Same R2 R6 := (a3.trans a5).trans a6
    have m6 := m.step a26 q6
    obtain ⟨av, e1, e2⟩ := m6.at'
    refine ⟨av, e1, Nat.lt_of_lt_of_le (by rw [dpAll_len e2]; exact hl) (by decide : 1000000 ≤ sizeLine), ?_⟩
    have m7 := (m6.put h0 e1 p6).wipe vs hno6
    rw [w4] at m7
    exact k _ _ R6 _ (a2.trans a26) m7 (fun i hi => wipeE_in hi (hno6 i hi).lt) i6
  | false =>
    rw [if_neg Bool.false_ne_true]
    obtain ⟨hno5, i5⟩ := hb2 rfl
    rw [hK] at q5
    have m5 := (m.step (a3.trans a5) q5).wipe vs hno5
    rw [w4] at m5
    exact k _ _ R5 _ (a2.trans (a3.trans a5)) m5 (fun i hi => wipeE_in hi (hno5 i hi).lt) i5
def AllI (S : Sx) (tg it : Expr) : TI := fun s H R => ∀ Y, Has S Y → RdI Y tg it s H R
theorem pi_all {S : Sx} {Y : Cx} {tg it : Expr} (hY : Has S Y) : PI Y tg it (AllI S tg it) := ⟨fun pins s σ H R I h => pi_rd.run pins s σ H R I (h Y hY)⟩
def WpLc2 (S S' : Sx) (vs vs1 : List Nat) (elt tg it : Expr) (ifs : List Expr) (tg1 it1 : Expr) (ifs1 : List Expr) (E : En) (P : List D → En → Prop) : Prop :=
  WpI S tg it E fun ds E1 => (∀ i ∈ vs, notOwn E1 i) ∧ ∃ Iv : Nat → List D → En → Prop, Iv 0 [] (wipeE E1 vs) ∧
    (∀ t acc Et d, ds[t]? = some d → Iv t acc Et → WpG S' vs tg d Et fun E2 => WpTs S' ifs E2 fun b E3 =>
      (b = true → WpI S' tg1 it1 E3 fun ds1 E4 => (∀ i ∈ vs1, notOwn E4 i) ∧ ∃ Iv1 : Nat → List D → En → Prop, Iv1 0 acc (wipeE E4 vs1) ∧
        (∀ u acc1 Eu d1, ds1[u]? = some d1 → Iv1 u acc1 Eu → WpG S' vs1 tg1 d1 Eu fun E5 => WpTs S' ifs1 E5 fun b1 E6 =>
          (b1 = true → WpD S' elt E6 fun y E7 => acc1.length < 1000000 ∧ (∀ i ∈ vs1, notOwn E7 i) ∧ Iv1 (u + 1) (acc1 ++ [y]) (wipeE E7 vs1)) ∧ (b1 = false → (∀ i ∈ vs1, notOwn E6 i) ∧ Iv1 (u + 1) acc1 (wipeE E6 vs1))) ∧
        ∀ acc1 Eu, Iv1 ds1.length acc1 Eu → (∀ i ∈ vs, notOwn Eu i) ∧ Iv (t + 1) acc1 (wipeE Eu vs)) ∧
      (b = false → (∀ i ∈ vs, notOwn E3 i) ∧ Iv (t + 1) acc (wipeE E3 vs))) ∧
    ∀ acc Et, Iv ds.length acc Et → P acc Et
theorem lc2_read {scope : Scope} {vs vs1 : List Nat} {P : List D → En → Prop} (hsub : ∀ i ∈ vs1, i ∈ vs) (h : WpLc2 S (blkS S scope) vs vs1 elt tg it ifs tg1 it1 ifs1 E P) {X : Cx} (hX : Has S X) {F : Fx} {s : St} {R H : Hp} (r : Rel S.K F s E R H) {Q : VK}
    (k : ∀ v r E' R' H', Same R R' → Rel S.K F s E' R' H' → RsOk S.K F s E' R' H' v r → (∃ acc, r = .own (.list acc) ∧ P acc E') → Q v H') :
    tLc2 (RdI X tg it) (AllG (blkS S scope) tg) (AllTs (blkS S scope) ifs) (AllI (blkS S scope) tg1 it1) (AllG (blkS S scope) tg1) (AllTs (blkS S scope) ifs1) (AllE (blkS S scope) elt) vs vs1 s H Q := by
  refine h X hX F s R H r _ fun J ds E1 R1 H1 s1 r1 J1 ⟨hno, Iv, h0, hst, hd⟩ => ?_
  intro L hL
  have hL0 := r1.free0 hL
  refine ⟨fun t m H2 => m = ds.length - t ∧ t ≤ ds.length ∧ ∃ acc E2 R2, Same R1 R2 ∧ Mkg S.K F (wipe s vs) L acc E2 R2 H2 ∧ (∀ i ∈ vs, E2[i]? = some Sl.no) ∧ Iv t acc E2, ⟨_, rfl, Nat.zero_le _, [], wipeE E1 vs, R1, Same.refl _, ?_, fun i hi => wipeE_in hi (hno i hi).lt, h0⟩, ?_⟩
  · have w1 := r1.wipe vs fun i hi => (hno i hi).no
    exact ⟨w1.grow hL, ⟨[], upd_same, .nil⟩, r1.freeR hL, own_no w1 hL⟩
  rintro t m H2 ⟨rfl, ht, acc, E2, R2, a2, m2, hi2, i2⟩
  by_cases hlt : t < ds.length
  · have q2 := m2.rel.nest
    obtain ⟨g1, g2⟩ := J1.go _ _ E2 R2 H2 t ds[t] a2 q2 (List.getElem?_eq_getElem hlt)
    refine .inr ⟨g1, fun H3 => ∃ acc E3 R3, Same R1 R3 ∧ Mkg S.K F (wipe s vs) L acc E3 R3 H3 ∧ (∀ i ∈ vs, E3[i]? = some Sl.no) ∧ Iv (t + 1) acc E3, fun H3 ⟨acc3, E3, R3, z⟩ => ⟨ds.length - (t + 1), by omega, rfl, hlt, acc3, E3, R3, z⟩, fun x H3 hy => ?_⟩
    obtain ⟨R3, a3, q3, p3⟩ := g2 x H3 hy
    intro Y hY
    refine hst t acc E2 ds[t] (List.getElem?_eq_getElem hlt) i2 Y hY _ _ R3 H3 x q3 p3 _ fun s4 E4 l4 k4 q4 h4 => ?_
    have w4 : wipe s4 vs = wipe s vs := (wipe_eq l4 k4).trans (wipe_eq (wipe_length ..) fun j hj => wipe_get hj)
    refine ⟨w4, fun Y hY => ?_⟩
    refine h4 Y hY _ _ R3 H3 q4 _ fun b E5 R5 H5 a5 q5 ⟨hb1, hb2⟩ => ?_
    cases b with
    | true =>
      rw [if_pos rfl]
      intro Y hY
      refine hb1 rfl Y hY _ _ R5 H5 q5 _ fun J' ds1 E6 R6 H6 a6 q6 J6 ⟨hno6, Iv1, h10, hst1, hd1⟩ => ?_
      have a26 : Same R2 R6 := (a3.trans a5).trans a6
      have m6 := (m2.step a26 q6).wipe vs1 hno6
      refine ⟨fun u m H7 => m = ds1.length - u ∧ u ≤ ds1.length ∧ ∃ acc E7 R7, Same R6 R7 ∧ Mkg S.K F (wipe s4 vs1) L acc E7 R7 H7 ∧ (∀ i ∈ vs1, E7[i]? = some Sl.no) ∧ Iv1 u acc E7, ⟨_, rfl, Nat.zero_le _, acc, _, R6, Same.refl _, m6, fun i hi => wipeE_in hi (hno6 i hi).lt, h10⟩, ?_⟩
      rintro u m H7 ⟨rfl, hu, acc7, E7, R7, a7, m7, hi7, i7⟩
      by_cases hlu : u < ds1.length
      · obtain ⟨g3, g4⟩ := lc_turn (S := S) (S' := blkS S scope) (elt := elt) (tg := tg1) (ifs := ifs1) rfl J6 a7 m7 hL0 (List.getElem?_eq_getElem hlu) (Post := Iv1 (u + 1)) (hst1 u acc7 E7 ds1[u] (List.getElem?_eq_getElem hlu) i7)
          (Nx := fun H8 => ∃ acc E8 R8, Same R6 R8 ∧ Mkg S.K F (wipe s4 vs1) L acc E8 R8 H8 ∧ (∀ i ∈ vs1, E8[i]? = some Sl.no) ∧ Iv1 (u + 1) acc E8) fun acc' E' R' H' a' m' n' p' => ⟨acc', E', R', a', m', n', p'⟩
        exact .inr ⟨g3, _, fun H8 ⟨acc8, E8, R8, z⟩ => ⟨ds1.length - (u + 1), by omega, rfl, hlu, acc8, E8, R8, z⟩, g4⟩
      · have e : u = ds1.length := by omega
        subst e
        obtain ⟨no7, i8⟩ := hd1 acc7 E7 i7
        have m8 := m7.wipe vs no7
        have w8 : wipe (wipe s4 vs1) vs = wipe s vs := by
          rw [← w4]
          exact wipe_eq (wipe_length ..) fun j hj => wipe_get fun q => hj (hsub j q)
        rw [w8] at m8
        exact .inl ⟨J6.stop F _ E7 R7 H7 a7 m7.rel, acc7, _, R7, a2.trans (a26.trans a7), m8, fun i hi => wipeE_in hi (no7 i hi).lt, i8⟩
    | false =>
      rw [if_neg Bool.false_ne_true]
      obtain ⟨hno5, i5⟩ := hb2 rfl
      have m5 := (m2.step (a3.trans a5) q5).wipe vs hno5
      rw [w4] at m5
      exact ⟨acc, _, R5, a2.trans (a3.trans a5), m5, fun i hi => wipeE_in hi (hno5 i hi).lt, i5⟩
  · have e : t = ds.length := by omega
    subst e
    refine .inl ⟨J1.stop F _ E2 R2 H2 a2 m2.rel, ?_⟩
    have rr : Rel S.K F s E2 R2 H2 := m2.rel.cong (by rw [wipe_length]) fun i => by
      by_cases hi : i ∈ vs
      · exact .inl (hi2 i hi)
      · exact .inr (wipe_get hi).symm
    obtain ⟨av, e1, e2⟩ := m2.at'
    refine k (.ref L) (.own (.list acc)) E2 R2 H2 (s1.trans a2) rr ⟨L, rfl, m2.fre, ⟨av, e1, e2⟩, hL0, fun i d e z => ?_⟩ ⟨acc, rfl, hd acc E2 i2⟩
    by_cases hi : i ∈ vs
    · rw [hi2 i hi] at e; cases e
    · exact m2.no i d e (by rw [wipe_get hi]; exact z)
/-- [elt for tg in it if .. for tg1 in it1 if ..] -/
theorem wp_lc2 {scope : Scope} (own : List (Str × Nat)) (vs1 : List Nat) {P : Sl → En → Prop} (ok : BlkOk S.N S.sc scope own) (hsub : ∀ i ∈ vs1, i ∈ own.map (·.2))
    (h : WpLc2 S (blkS S scope) (own.map (·.2)) vs1 elt tg it ifs tg1 it1 ifs1 E fun acc E' => P (.own (.list acc)) E')
    (hs : ∀ (env : Env) x, foldedSetIterable it env x = pure x := by intro _ _; rfl) (hs1 : ∀ (env : Env) x, foldedSetIterable it1 env x = pure x := by intro _ _; rfl) : Wp S (.ListComp elt [⟨tg, it, ifs, 0⟩, ⟨tg1, it1, ifs1, 0⟩] scope pos) E P := fun X hX F s R H r Q k => by
  refine ⟨_, pe_lc2 (own := own) (vs1 := vs1) hX.calm hX.nd pi_rd (by rw [hX.N, hX.sc]; exact ok) hsub (fun s H C cl fp => pg_all (has_blk hX s H C cl fp)) (fun s H C cl fp => pts_all (has_blk hX s H C cl fp)) (fun s H C cl fp => pi_all (has_blk hX s H C cl fp)) (fun s H C cl fp => pg_all (has_blk hX s H C cl fp)) (fun s H C cl fp => pts_all (has_blk hX s H C cl fp)) (fun s H C cl fp => pe_all (has_blk hX s H C cl fp)) (hs _) hs1, ?_⟩
  exact lc2_read hsub h hX r fun v r' E' R' H' a r1 p ⟨acc, e, q⟩ => k v r' E' R' H' a r1 p (by rw [e]; exact q)
end
end Wq
set_option maxHeartbeats 2000000
namespace Wq
open PySem L2
/-- a list or a tuple -/
def sq (l : Bool) (ds : List D) : D := if l then .list ds else .tuple ds
section
variable {S : Sx} {vs : List Nat} {e : Expr} {es : List Expr} {E : En} {a b it tg : Expr} {pos : Pos} {P : En → Prop} {ds : List D} {k : Nat} {l : Bool}
theorem wi_sq (l : Bool) {P : List D → En → Prop} (h : WpD S it E fun d E1 => ∃ ds, d = sq l ds ∧ P ds E1) : WpI S tg it E P := by
  cases l
  · exact wi_tup h
  · exact wi_list h
theorem g_sqN (h : WpGs S vs es ds E P) (hn : ∀ env : Env, (assignEach es env).length = ds.length := by intro _; rfl) (hst : ∀ env : Env, (assignEach es env).findIdx? (·.1) = none := by intro _; rfl) : WpG S vs (.Tuple es k pos) (sq l ds) E P := by
  cases l
  · exact g_tupN h hn hst
  · exact g_lstN h hn hst
theorem g2 {x y : Str} {i j : Nat} {d1 d2 : D} {p1 p2 : Pos} (hN : S.N[i]? = some x) (hx : Loc S.sc x) (hA : S.asg x = true) (hi : i ∈ vs) (hE : notOwn E i) (hN' : S.N[j]? = some y) (hx' : Loc S.sc y) (hA' : S.asg y = true) (hi' : j ∈ vs) (hE' : notOwn (E.set i (.dat d1)) j)
    (h : P ((E.set i (.dat d1)).set j (.dat d2))) : WpG S vs (.Tuple [.Name x p1, .Name y p2] k pos) (sq l [d1, d2]) E P :=
  g_sqN (gs_cons (g_name hN hx hA hi hE (gs_cons (g_name hN' hx' hA' hi' hE' (gs_nil h)))))
theorem g3 {x y z : Str} {i j m : Nat} {d1 d2 d3 : D} {p1 p2 p3 : Pos} (hN : S.N[i]? = some x) (hx : Loc S.sc x) (hA : S.asg x = true) (hi : i ∈ vs) (hE : notOwn E i) (hN' : S.N[j]? = some y) (hx' : Loc S.sc y) (hA' : S.asg y = true) (hi' : j ∈ vs) (hE' : notOwn (E.set i (.dat d1)) j)
    (hN2 : S.N[m]? = some z) (hx2 : Loc S.sc z) (hA2 : S.asg z = true) (hi2 : m ∈ vs) (hE2 : notOwn ((E.set i (.dat d1)).set j (.dat d2)) m)
    (h : P (((E.set i (.dat d1)).set j (.dat d2)).set m (.dat d3))) : WpG S vs (.Tuple [.Name x p1, .Name y p2, .Name z p3] k pos) (sq l [d1, d2, d3]) E P :=
  g_sqN (gs_cons (g_name hN hx hA hi hE (gs_cons (g_name hN' hx' hA' hi' hE' (gs_cons (g_name hN2 hx2 hA2 hi2 hE2 (gs_nil h)))))))
/-- a whole number among some -/
theorem wt_inI {P : Bool → En → Prop} (h : WpD S a E fun d1 E1 => WpD S b E1 fun d2 E2 => ∃ (i : Int) (ns : List Int), d1 = .int i ∧ d2 = .tuple (ns.map PyData.int) ∧ P (ns.any fun n => decide (n = i)) E2) (hm : behindInMarks .In b = false := by rfl) : WpT S (.Compare a [.In] [b] pos) E P := fun X hX F s R H r0 Q k => by
  refine ⟨_, pt_cmpR op_in_seq pe_rd pe_rd hm, ?_⟩
  refine h X hX F s R H r0 _ fun v1 d1 E1 R1 H1 s1 r1 p1 h1 => ?_
  refine h1 X hX F s R1 H1 r1 _ fun v2 d2 E2 R2 H2 s2 r2 p2 ⟨i, ns, e1, e2, h2⟩ => ?_
  subst e1 e2
  cases p1
  cases p2 with
  | tup hq hd =>
    rw [ints_dpInv hd] at hq
    refine ⟨_, ns.map V.int, rfl, .inr ?_, rfl, ?_, _, rfl, ?_⟩
    · rw [hX.K]
      exact same_t r2.sub hq
    · rw [List.all_map]
      exact List.all_eq_true.mpr fun _ _ => rfl
    · have e : inV (V.int i) (ns.map V.int) = ns.any fun n => decide (n = i) := by
        unfold inV
        rw [List.any_map]
        rfl
      rw [if_neg Bool.false_ne_true, e]
      exact k _ E2 R2 H2 (s1.trans s2) r2 h2
end
end Wq
set_option maxHeartbeats 2000000
namespace Wq
open PySem L2
section
variable {S : Sx} {E : En} {a b : Expr} {pos : Pos}
theorem wt_neD {P : Bool → En → Prop} (h : WpD S a E fun d1 E1 => WpK S b E1 fun d2 E2 => SeqAt.shaped d1 = true ∧ SeqAt.shaped d2 = true ∧ P (!PyData.eqv d1 d2) E2) : WpT S (.Compare a [.NotEq] [b] pos) E P := fun X hX F s R H r0 Q k => by
  refine ⟨_, pt_cmpR (op_neD hX.room.units) pe_rd pe_rd (nomark _), ?_⟩
  refine h X hX F s R H r0 _ fun v1 d1 E1 R1 H1 s1 r1 p1 h1 => ?_
  refine h1 X hX F s R1 H1 r1 _ fun v2 d2 E2 R2 H2 s2 r2 p2 ⟨h2, h3, h4⟩ => ?_
  rw [hX.K]
  exact ⟨d1, d2, dp_mono r2.sub _ _ (dp_mono s2 _ _ p1), p2.dp r2.sub, h2, h3, _, rfl, k _ E2 R2 H2 (s1.trans s2) r2 h4⟩
theorem wt_notN {P : Bool → En → Prop} {j p'} (h : WpD S a E fun d E1 => P (!isNo d) E1) : WpT S (.Compare a [.IsNot] [.Constant .none j p'] pos) E P := fun X hX F s R H r0 Q k => by
  refine ⟨_, pt_cmpR op_notN pe_rd pe_non (nomark _), ?_⟩
  refine h X hX F s R H r0 _ fun v1 d1 E1 R1 H1 s1 r1 p1 h1 => ?_
  have e : decide (v1 = V.non) = isNo d1 := by cases p1 <;> simp [isNo]
  exact ⟨rfl, !isNo d1, by rw [e], k _ E1 R1 H1 s1 r1 h1⟩
end
theorem sorted_eq {a b : List (List Key)} (h : a.Perm b) (ha : a.Pairwise fun x y => lexK y x = false) (hb : b.Pairwise fun x y => lexK y x = false) : a = b :=
  List.Perm.eq_of_pairwise (le := fun x y => lexK y x = false) (fun _ _ _ _ h1 h2 => lexK_total h2 h1) ha hb h
end Wq
set_option maxHeartbeats 2000000
namespace Wq
open PySem L2 PySem.Spec PyProof.Rows

/-! ### list(text) -/
section
variable {prog : Program} {w : World} {A : Around} {E : Value → Shared → Prop} {s : Shared} {x : Str} {t : Tok}
theorem str_len_is : typeLookup (.type "str") (Str.ofString "__len__") = pure (some (.builtin "str.__len__")) := by
  rw [typeLookup_type, builtinLookup_eq_fast]; kernel_rfl
theorem str_sub_is : isSubtype (.type "str") (.type "str") = pure true := by rw [isSubtype_type]; kernel_rfl
theorem ext_text {R : Result → Shared → Prop} (hh : A.handled = none) (S : Addr) (res : Value) {c₀ : Nat} (hS : s.heap.get? S = some { cls := .type "list", data := .seq #[] c₀ }) (hn : x.cps.size ≤ sizeLine)
    (hR : ∀ s' acc' c', (∀ b o, b ≠ S → s.heap.get? b = some o → s'.heap.get? b = some o) → s'.gens = s.gens → s'.drawn = s.drawn → s'.os = s.os → s.toks ≤ s'.toks → s'.heap.get? S = some { cls := .type "list", dict := none, data := .seq acc' c', slots := #[] } → ItemsOf (SignAt x) acc' x.cps.size → R (.ok (.ret res)) s') :
    wpAny (model prog w) A.in1 (Builtin.List.listExtendWith (.ref S) (.str x t) res)
      (fun fin s' => match fin with | .done f => R (.ok f) s' | .again c' => c'.quiet = true ∧ codeAny (model prog w) A c' R s') (fun e s' => R (.error e) s') s := by
  simp only [Builtin.List.listExtendWith]
  refine wpAny_bind (wpAny_pure ?_)
  rw [if_neg (by simp [Builtin.List.listSameRef])]
  refine wpAny_bind (wpAny_pyIter_str fun o St W st0 => ?_)
  refine wpAny_bind (wpAny_holding ?_)
  wp_walk
  rw [str_len_is]
  generalize hid : ("str.__len__" : String) = id0
  refine wpAny_pure ?_
  wp_delta
  rw [show splitId id0 = some ("str", "__len__") by subst hid; decide +kernel]
  subst hid
  wp_walk
  rw [str_sub_is]
  wp_walk
  have nS : S ∉ [s.heap.objs.size] := fun hm => Nat.lt_irrefl _ (List.mem_singleton.mp hm ▸ Heap.lt_size hS)
  refine ⟨plainId_quiet F.plain_extend_loop _, codeAny_extend_loopS (W A.in1 hh).toS hn _ nS _ x.cps.size 0 _ _ _ rfl (Nat.zero_le _) st0 (Heap.get?_push_of_some _ hS) (ItemsOf.nil _) fun s' acc' c' hm hS' hacc => ?_⟩
  refine hR s' acc' c' (fun b o hb e => hm.heap b o (fun hc => ?_) (Heap.get?_push_of_some _ e)) hm.gens hm.drawn hm.os hm.toks hS' hacc
  rcases List.mem_cons.mp hc with q | q
  · exact hb q
  · exact absurd (Heap.lt_size e) (by rw [List.mem_singleton.mp q]; exact Nat.lt_irrefl _)
theorem call_list_str {Q : Value → Shared → Prop} (hh : A.handled = none) (hn : x.cps.size ≤ sizeLine)
    (hQ : ∀ s' acc' c', (∀ b o, s.heap.get? b = some o → s'.heap.get? b = some o) → s'.gens = s.gens → s'.drawn = s.drawn → s'.os = s.os → s.toks ≤ s'.toks →
      s'.heap.get? s.heap.objs.size = some { cls := .type "list", dict := none, data := .seq acc' c', slots := #[] } → ItemsOf (SignAt x) acc' x.cps.size → Q (.ref s.heap.objs.size) s') :
    wpAny (model prog w) A (call (.type "list") [.str x t]) Q E s := by
  refine callType_codes (Q₁ := fun ob s1 => ob = .ref s.heap.objs.size ∧ s1 = { s with heap := s.heap.push { cls := .type "list", data := .seq #[] } }) F.called_list (F.typeCall_list_1 _) F.entry_list_init
    (code_list_new _ ⟨rfl, rfl⟩) fun ob s1 h1 => ?_
  obtain ⟨rfl, rfl⟩ := h1
  have hS : (s.heap.push { cls := .type "list", data := .seq #[] }).get? s.heap.objs.size = some { cls := .type "list", data := .seq #[] } := Heap.get?_push_size _ rfl
  refine ⟨⟨_, hS, rfl⟩, F.args_list_init_2 _ _, ?_⟩
  show wpAny _ A.in1.in1 (Builtin.List.listItems (.ref s.heap.objs.size) >>= fun old => Builtin.List.listUpdate (.ref s.heap.objs.size) (fun _ => #[]) >>= fun _ => letGo old.toList.reverse >>= fun _ => Builtin.List.listExtendWith (.ref s.heap.objs.size) (.str x t) .none) _ _ _
  simp only [Builtin.List.listItems, Builtin.List.listUpdate]
  refine wpAny_bind (wpAny_bind (wpAny_seqItems hS rfl (wpAny_pure ?_)))
  refine wpAny_bind (wpAny_updateSeq hS rfl ?_)
  have hS2 := Heap.get?_update_self (Obj.mapSeq (fun _ => (#[] : Array Value))) hS rfl
  have oth : ∀ b o, b ≠ s.heap.objs.size → s.heap.get? b = some o → ((s.heap.push { cls := .type "list", data := .seq #[] }).update s.heap.objs.size (Obj.mapSeq (fun _ => (#[] : Array Value)))).get? b = some o :=
    fun b o hb e => (Heap.get?_update_other _ _ (Ne.symm hb)).trans (Heap.get?_push_of_some _ e)
  refine wpAny_bind (wpAny_letGo ?_)
  refine ext_text (A := A.in1) (R := wants (fun r s₂ => r = Value.none ∧ Q (Value.ref s.heap.objs.size) s₂) E) hh _ .none hS2 hn fun s' acc' c' k1 k2 k3 k4 k5 k6 k7 => ?_
  refine ⟨rfl, hQ s' acc' c' (fun b o e => ?_) k2 k3 k4 k5 k6 k7⟩
  have hb : b ≠ s.heap.objs.size := fun z => Nat.lt_irrefl _ (z ▸ Heap.lt_size e)
  exact k1 b o hb (oth b o hb e)
end
def sgV (z : Str) : List V := z.cps.toList.map fun c => V.str ⟨#[c]⟩
theorem vals_by : ∀ {vs : List V} {us : List Value}, vs.length = us.length → (∀ (i : Nat) v u, vs[i]? = some v → us[i]? = some u → RelV v u) → Vals vs us
  | [], [], _, _ => .nil
  | [], _ :: _, h, _ => by cases h
  | _ :: _, [], h, _ => by cases h
  | v :: vs, u :: us, h, k => .cons (k 0 v u rfl rfl) (vals_by (by simpa using h) fun i v u h1 h2 => k (i + 1) v u (by simpa using h1) (by simpa using h2))
theorem signs_vals {z : Str} {acc : Array Value} (h : ItemsOf (SignAt z) acc z.cps.size) : Vals (sgV z) acc.toList := by
  refine vals_by ?_ fun i v u h1 h2 => ?_
  · show (List.map _ _).length = _
    rw [List.length_map, Array.length_toList, Array.length_toList, h.1]
  · obtain ⟨c, tc, hc, rfl⟩ := h.2 i u (by simpa using h2)
    have h1' : (z.cps.toList.map fun c => V.str ⟨#[c]⟩)[i]? = some v := h1
    rw [List.getElem?_map, Array.getElem?_toList, hc] at h1'
    have e : V.str ⟨#[c]⟩ = v := Option.some.inj h1'
    subst e
    exact ⟨tc, rfl⟩
theorem call_list_txt {X : Cx} (hc : X.calm = true) : CallR X (.type "list") (fun xs H Q => ∃ z : Str, xs = [.str z] ∧ z.length ≤ sizeLine ∧ ∀ l, H l = none → Q (.ref l) (upd H l (.lst (sgV z)))) := by
  intro pins s σ H xs us Q I r h
  obtain ⟨z, rfl, hz, q⟩ := h
  obtain ⟨u, rfl, rx⟩ := vals1 r
  obtain ⟨t, rfl⟩ := rx
  refine call_list_str (I.ok.hd hc) hz fun s' acc c' k1 k2 k3 k4 k5 k6 k7 => ?_
  obtain ⟨h', g', d', t', o'⟩ := s'
  dsimp only at k1 k2 k3 k4 k5 k6
  subst k2 k3 k4
  have rv := signs_vals k7
  refine ⟨.ref s.heap.objs.size, _, I.laid (t' := t') k1 (Nat.le_refl _) (show ObjOk X.prog X.w _ h' _ (.lst (sgV z)) from ⟨?_, acc.toList, c', rv, ?_⟩), rfl, q _ (I.hok.fresh (Nat.le_refl _))⟩
  · show (List.map _ _).length ≤ _
    rw [List.length_map, Array.length_toList]
    exact hz
  · simpa using k6
/-! ### enumerate(text) -/
def Itw (x : Str) : It := ⟨fun i _ => i < x.cps.size, fun i H v H' => ∃ T c, v = .ref T ∧ H T = none ∧ H' = upd H T (.tup [.int (i : Nat), .str ⟨#[c]⟩]) ∧ x.cps[i]? = some c, fun i _ => i = x.cps.size⟩
theorem turn_enumS {P : Program} {w : World} {K : PySem.W.Frag} {elts : List Expr} {kk : Nat} {tpos : Pos} (x : Str) (t : Tok) (ty : String) (hty : ty = "str_ascii_iterator" ∨ ty = "str_iterator") (e it : Addr) :
    Turn P w K (.Tuple elts kk tpos) (Itw x) [e, it] e (fun i h => (∃ old, IsEnum h e it ((i : Nat) : Int) old) ∧ h.IsStrIter it ty x t i ∧ e ≠ it) where
  mem := by simp
  obj := fun i h st b hb => by
    obtain ⟨⟨old, he⟩, ⟨o, ho, hc, hd⟩, _⟩ := st
    rcases (by simpa using hb : b = e ∨ b = it) with rfl | rfl
    · exact ⟨_, he, fun v q => nomatch q⟩
    · exact ⟨o, ho, fun v q => by rw [hd] at q; cases q⟩
  keep := fun i h h' st k => by
    obtain ⟨⟨old, he⟩, ⟨o, ho, q⟩, hne⟩ := st
    exact ⟨⟨old, k e (by simp) _ he⟩, ⟨o, k it (by simp) o ho, q⟩, hne⟩
  item := by
    intro X hP hw hK hc i pins s σ H E I hf st hg
    subst hP hw hK
    obtain ⟨⟨old, he⟩, hit, hne⟩ := st
    have hel := Heap.lt_size he
    have hil : it < s.heap.objs.size := by
      obtain ⟨_, q, _⟩ := hit
      exact Heap.lt_size q
    have Dr : Draws X.prog X.w X.A.in1 it [it] x.cps.size (SignAt x) (fun i h => h.IsStrIter it ty x t i) := by
      rcases hty with rfl | rfl
      · exact Draws.strAscii (A := X.A.in1) (I.ok.hd hc) it x t
      · exact Draws.strWide (A := X.A.in1) (I.ok.hd hc) it x t
    refine wpAny_pyNext_enum_itemD Dr he hit hg hne (by simpa using hne) fun u h' tk pv ho hit' hT hsz hk => ?_
    obtain ⟨c, tc, hcx, rfl⟩ := pv
    refine ⟨_, rfl, wpAny_letOwnedTupleGo_enum (s := { s with heap := h', toks := tk + 1 }) ho fun h2 he2 sb => ?_⟩
    have hT2 := (sb.2 _ (Nat.ne_of_gt hel)).trans hT
    have I1 : Inv X pins σ (upd H s.heap.objs.size (.tup [.int (i : Nat), .str ⟨#[c]⟩])) { s with heap := h2, toks := tk + 1 } :=
      I.turnedNew (ch := [e, it]) (fun b ob hb q => (sb.2 b (fun z => hb (by simp [z]))).trans (hk b ob (fun z => hb (by simp [z])) (fun z => hb (by simp [z])) q)) hf (Nat.le_refl _)
        (show ObjOk X.prog X.w _ h2 _ (.tup [.int (i : Nat), .str ⟨#[c]⟩]) from ⟨by show 2 ≤ sizeLine; decide, [.int i tk, .str ⟨#[c]⟩ tc], .cons ⟨_, rfl⟩ (.cons ⟨_, rfl⟩ .nil), ⟨_, hT2, rfl, _, rfl⟩⟩)
    have hit2 : h2.IsStrIter it ty x t (i + 1) := by
      obtain ⟨o1, q1, q2⟩ := hit'
      exact ⟨o1, (sb.2 it (Ne.symm hne)).trans q1, q2⟩
    refine ⟨.ref s.heap.objs.size, _, I1, rfl, ⟨_, c, rfl, I.hok.fresh (Nat.le_refl _), rfl, hcx⟩, ⟨⟨_, by rw [show ((i + 1 : Nat) : Int) = (i : Int) + 1 by omega]; exact he2⟩, hit2, hne⟩, fun b hb => ?_⟩
    have hb2 : b < s.heap.objs.size := by
      rcases (by simpa using hb : b = e ∨ b = it) with rfl | rfl
      · exact hel
      · exact hil
    rw [upd_ne (Nat.ne_of_lt hb2)]
    exact (hf b hb).1
  done := by
    intro X hP hw hK hc i pins s σ H E I hf st hg
    subst hP hw hK
    obtain ⟨⟨old, he⟩, hit, hne⟩ := st
    obtain ⟨f0, f1, f2, f3, f4, f5⟩ := hf it (by simp)
    have hg' : i = x.cps.size := hg
    subst hg'
    have Dr : Draws X.prog X.w X.A.in1 it [it] x.cps.size (SignAt x) (fun i h => h.IsStrIter it ty x t i) := by
      rcases hty with rfl | rfl
      · exact Draws.strAscii (A := X.A.in1) (I.ok.hd hc) it x t
      · exact Draws.strWide (A := X.A.in1) (I.ok.hd hc) it x t
    exact wpAny_pyNext_enum_endD Dr he hit fun h2 eb => ⟨rfl, I.turned (t' := s.toks) (fun b o hb q => eb b o hb q) f0 f1 f3 f4 f5⟩
  self := fun A i s Q E st h => by
    obtain ⟨⟨_, he⟩, _⟩ := st
    exact wpAny_pyIter_enum he h
def iEnumS (ta : TA) : TI := fun σ H R => ta σ H fun vs H1 => ∃ z, vs = [.str z] ∧ R (Itw z) H1
theorem pi_enumS {X : Cx} {e : Expr} {ta : TA} {p pos tpos : Pos} {elts : List Expr} {kk : Nat} (hg : Gl X "enumerate") (hm : X.mg "enumerate" = none) (ha : PA X [e] ta) (hs : starEach [e] X.env = [(false, eval e X.env)] := by rfl) :
    PI X (.Tuple elts kk tpos) (.Call (.Name "enumerate" p) [e] [] pos) (iEnumS ta) := by
  refine ⟨fun pins s σ H R I h => ?_⟩
  refine Call_ (ld_blt I hg hm boot_enumerate (PyProof.Rows.callWith_type1 (thn (ha.run pos pins s σ H _ I h) fun us s1 hh => ?_) hs rfl))
  obtain ⟨vs, H1, I1, r1, z, rfl, q⟩ := hh
  obtain ⟨u, rfl, rx⟩ := vals1 r1
  obtain ⟨t, rfl⟩ := rx
  have hty : strIterType z = "str_ascii_iterator" ∨ strIterType z = "str_iterator" := by
    unfold strIterType
    split
    · exact .inl rfl
    · exact .inr rfl
  refine call_enumerate_str fun h2 he hit hsz hk => wpAny_pyIter_enum he ?_
  refine ⟨s1.heap.objs.size + 1, [s1.heap.objs.size + 1, s1.heap.objs.size], _, _, H1, rfl, I1.kept (t' := s1.toks) hk, turn_enumS z t _ hty (s1.heap.objs.size + 1) s1.heap.objs.size, ⟨⟨.none, he⟩, hit, Nat.succ_ne_self _⟩, fun b hb => ?_, q⟩
  have hle : s1.heap.objs.size ≤ b := by
    rcases (by simpa using hb : b = s1.heap.objs.size + 1 ∨ b = s1.heap.objs.size) with e | e
    · rw [e]; exact Nat.le_succ _
    · rw [e]; exact Nat.le_refl _
  exact I1.fpOk hle (I1.hok.fresh hle)
section
variable {S : Sx} {E : En} {a : Expr} {p pos : Pos}
theorem sgV_dp {K : PySem.W.Frag} {R : Hp} {z : Str} : DpAll K R (sgV z) (signs z) := by
  unfold sgV signs
  generalize z.cps.toList = l
  induction l with
  | nil => exact .nil
  | cons c r ih => exact .cons (.str _) ih
theorem it_enumS {K : PySem.W.Frag} {R : Hp} {z : Str} : ItOk K R (Itw z) (enumD (signs z)) where
  go := fun F s E R2 H2 t d e r hd' => by
    unfold enumD at hd'
    rw [List.getElem?_mapIdx] at hd'
    cases hz : (signs z)[t]? with
    | none => rw [hz] at hd'; cases hd'
    | some d1 =>
      rw [hz] at hd'
      have e' : d = .tuple [.int t, d1] := (Option.some.inj hd').symm
      subst e'
      have hz' := hz
      unfold signs at hz'
      rw [List.getElem?_map, Array.getElem?_toList] at hz'
      cases hc : z.cps[t]? with
      | none => rw [hc] at hz'; cases hz'
      | some c =>
        rw [hc] at hz'
        have e2 : d1 = .str ⟨#[c]⟩ := (Option.some.inj hz').symm
        subst e2
        refine ⟨(Array.getElem?_eq_some_iff.mp hc).1, ?_⟩
        rintro x H3 ⟨T, c1, rfl, hT, rfl, hx⟩
        rw [hc] at hx
        cases hx
        exact ⟨_, same_upd (r.freeR hT), r.growR hT, .tup (SqT.of upd_same) (.cons (.int _) (dpAll_one (.str _)))⟩
  stop := fun F s E R2 H2 e r => by
    show _ = _
    unfold enumD signs
    rw [List.length_mapIdx, List.length_map, Array.length_toList]
theorem wi_enumS {P : List D → En → Prop} {elts : List Expr} {kk : Nat} {tp : Pos} (hg : GlS S "enumerate") (hm : S.mg "enumerate" = none) (h : WpD S a E fun d E1 => ∃ z : Str, d = .str z ∧ P (enumD (signs z)) E1) (hst : ∀ env : Env, starEach [a] env = (false, eval a env) :: starEach [] env := by intro _; rfl) :
    WpI S (.Tuple elts kk tp) (.Call (.Name "enumerate" p) [a] [] pos) E P := fun X hX F s R H r Rr k => by
  refine ⟨_, pi_enumS (hg.gl hX) (by rw [hX.mg]; exact hm) (pa_cons pe_rd pa_nil (hst _)) (hst _), ?_⟩
  refine h X hX F s R H r _ fun v d E1 R1 H1 s1 r1 p1 ⟨z, hn, h3⟩ => ?_
  subst hn
  cases p1
  exact ⟨z, rfl, k _ _ E1 R1 H1 s1 r1 it_enumS h3⟩
end
end Wq
set_option maxHeartbeats 2000000
namespace Wq
open PySem L2
theorem dpAll_erase {K : PySem.W.Frag} {R : Hp} : ∀ {vs : List V} {ds : List D} (i : Nat), DpAll K R vs ds → DpAll K R (vs.eraseIdx i) (ds.eraseIdx i)
  | _, _, _, .nil => .nil
  | _, _, 0, .cons _ h => h
  | _, _, i + 1, .cons h1 h => .cons h1 (dpAll_erase i h)
section
variable {S : Sx} {e : Expr} {E : En} {a : Expr} {pos p : Pos} {P : Sl → En → Prop} {PD : D → En → Prop} {x : Str} {i : Nat}
/-- list(text) -/
theorem wp_listS (hg : GlS S "list") (hm : S.mg "list" = none) (h : WpD S e E fun d E1 => ∃ z : Str, d = .str z ∧ z.length ≤ 100000 ∧ P (.own (.list (signs z))) E1) (hst : ∀ env : Env, starEach [e] env = (false, eval e env) :: starEach [] env := by intro _; rfl) : Wp S (.Call (.Name "list" p) [e] [] pos) E P := by
  refine wp_blty1 (r := fun xs H Q => ∃ z : Str, xs = [.str z] ∧ z.length ≤ sizeLine ∧ ∀ l, H l = none → Q (.ref l) (upd H l (.lst (sgV z)))) (fun X hX => call_list_txt hX.calm) hg hm PyProof.Rows.boot_list (WpD.k fun X hX F s R H r Q k => h X hX F s R H r Q fun v d E' R' H' a r' p q => k v d E' R' H' a r' p ?_) hst
  obtain ⟨z, rfl, hz, hp⟩ := q
  intro F s E R H v r pk Q kk
  have pv : v = .str z := by
    cases pk with
    | dat h => cases h; rfl
  subst pv
  refine ⟨z, rfl, Nat.le_trans hz (by decide : 100000 ≤ sizeLine), fun l hl => ?_⟩
  exact kk _ (.own (.list (signs z))) R _ (Same.refl _) (r.grow hl) ⟨l, rfl, r.freeR hl, ⟨_, upd_same, sgV_dp⟩, r.free0 hl, own_no r hl⟩ hp
/-- x.pop(k) -/
theorem wd_popAt {ap cp : Pos} (hN : S.N[i]? = some x) (hv : Vis S.sc x) (hE : ∃ d0, E[i]? = some (Sl.own (.list d0))) (h : WpD S a E fun d E1 => ∃ (ds : List D) (n : Nat) (y : D), d = .int (n : Int) ∧ E1[i]? = some (Sl.own (.list ds)) ∧ ds.length ≤ 100000 ∧ ds[n]? = some y ∧ PD y (E1.set i (.own (.list (ds.eraseIdx n)))))
    (hst : ∀ env : Env, starEach [a] env = (false, eval a env) :: starEach [] env := by intro _; rfl)
    (hbase : ∀ env : Env, attributeBase (.Name x p) "pop" env (eval (.Name x p) env) = eval (.Name x p) env := by intro _; rfl)
    (hfew : ∀ env : Env, ((backTo cp (starEach [a] env)).all (fun x => !x.1) && (backToKw cp (keywordEach [] env)).all (fun x => x.1.isSome) && decide (([a] : List Expr).length + ([] : List Keyword).length + (if ([] : List Keyword).isEmpty then 0 else 1) < 30)) = true := by intro _; rfl)
    (hline : (ap.endLine == cp.line) = true := by rfl) (hd : (x == ("__debug__" : Str)) = false := by decide) (hcd : (x == ("__classdict__" : Str)) = false := by decide) :
    WpD S (.Call (.Attribute (.Name x p) "pop" ap) [a] [] cp) E PD := fun X hX F s R H r Q kk => by
  refine ⟨_, pe_bm PySem.F.plainAttrs_list PySem.F.slot_list_pop PySem.F.type_list_pop mt_popAt (pe_var (i := i) (by rw [hX.N]; exact hN) (by rw [hX.sc]; exact hv) hd hcd) (pa_cons pe_rd pa_nil (hst _)) (hbase _) (hfew _) hline (hst _) rfl, ?_⟩
  obtain ⟨d0, hE0⟩ := hE
  obtain ⟨ad, ha, _, ⟨vs0, g0, _⟩, _⟩ := r.own i _ hE0
  refine ⟨_, ha, .inl ⟨rfl, _, SqL.of g0⟩, ?_⟩
  refine h X hX F s R H r _ fun v d E1 R1 H1 s1 r1 p1 ⟨ds, n, y, hk, e1, hl, hy, h1⟩ => ?_
  subst hk
  cases p1
  obtain ⟨ad', ha', _, ⟨vs, g1, g2⟩, _⟩ := r1.own i _ e1
  rw [ha] at ha'
  cases ha'
  obtain ⟨yv, hyv, hyd⟩ := dpAll_get g2 hy
  have hnl : n < vs.length := (List.getElem?_eq_some_iff.mp hyv).1
  have hvl := dpAll_len g2
  refine ⟨ad, vs, (n : Int), n, yv, rfl, rfl, g1, by omega, by omega, ?_, hyv, ?_⟩
  · unfold seqIndex?
    have h1 : ¬ ((n : Int) < 0) := by omega
    have h2 : (0 : Int) ≤ (n : Int) ∧ (n : Int) < (vs.length : Int) := by omega
    simp [h1, h2.2]
  · exact kk yv y _ R1 _ s1 (r1.write e1 ha rfl (dpAll_erase n g2)) hyd h1
theorem Rel.snocOwn {K : PySem.W.Frag} {F : Fx} {s : St} {E : En} {R H : Hp} {ad : Addr} {b : D} (r : Rel K F s E R H) (h : RsOk K F s E R H (.ref ad) (.own b)) : Rel K F (s ++ [some (.ref ad)]) (E ++ [.own b]) R H := by
  obtain ⟨a', ea, hR, hO, h0, hn⟩ := h
  cases ea
  have lo : ∀ {j : Nat} {y : Sl}, (E ++ [Sl.own b])[j]? = some y → (j < E.length ∧ E[j]? = some y) ∨ (j = E.length ∧ y = .own b) := fun {j y} e => by
    rw [List.getElem?_append] at e
    split at e
    · exact .inl ⟨by assumption, e⟩
    · rename_i hj
      right
      have : j - E.length = 0 := by
        cases hz : j - E.length with
        | zero => rfl
        | succ m => rw [hz] at e; simp at e
      rw [this] at e
      exact ⟨by omega, by simpa using e.symm⟩
  have so : ∀ {j : Nat}, j < E.length → (s ++ [some (V.ref ad)])[j]? = s[j]? := fun {j} hj => List.getElem?_append_left (by rw [← r.len]; exact hj)
  have sl : (s ++ [some (V.ref ad)])[E.length]? = some (some (V.ref ad)) := by rw [r.len]; simp
  exact {
    len := by rw [List.length_append, List.length_append, r.len]; rfl
    sub := r.sub
    sub0 := r.sub0
    keep := r.keep
    new := r.new
    giv := fun p hp => by
      obtain ⟨w1, d, w2⟩ := r.giv p hp
      have hl := (List.getElem?_eq_some_iff.mp w2).1
      exact ⟨by rw [so hl]; exact w1, d, by rw [List.getElem?_append_left hl]; exact w2⟩
    dat := fun j d e => by
      rcases lo e with ⟨hl, e1⟩ | ⟨_, e1⟩
      · obtain ⟨v, w1, w2⟩ := r.dat j d e1
        exact ⟨v, by rw [so hl]; exact w1, w2⟩
      · cases e1
    own := fun j d e => by
      rcases lo e with ⟨hl, e1⟩ | ⟨rfl, e1⟩
      · obtain ⟨c, w1, w2⟩ := r.own j d e1
        exact ⟨c, by rw [so hl]; exact w1, w2⟩
      · cases e1
        exact ⟨ad, sl, hR, hO, .inl h0⟩
    inj := fun j k d1 d2 c e1 e2 w1 w2 => by
      rcases lo e1 with ⟨l1, f1⟩ | ⟨rfl, f1⟩ <;> rcases lo e2 with ⟨l2, f2⟩ | ⟨rfl, f2⟩
      · rw [so l1] at w1
        rw [so l2] at w2
        exact r.inj j k d1 d2 c f1 f2 w1 w2
      · rw [so l1] at w1
        rw [sl] at w2
        cases w2
        exact absurd w1 (hn j d1 f1)
      · rw [sl] at w1
        rw [so l2] at w2
        cases w1
        exact absurd w2 (hn k d2 f2)
      · rfl }
theorem Rel.cutLast {K : PySem.W.Frag} {F : Fx} {s : St} {E : En} {R H : Hp} {y : Option V} {b : Sl} (r : Rel K F (s ++ [y]) (E ++ [b]) R H) (hg : ∀ p ∈ F.g, p.1 < E.length) : Rel K F s E R H := by
  have hl : E.length = s.length := by
    have := r.len
    rw [List.length_append, List.length_append] at this
    simpa using this
  have eo : ∀ {j : Nat} {z : Sl}, E[j]? = some z → j < E.length ∧ (E ++ [b])[j]? = some z := fun {j z} e => by
    have h := (List.getElem?_eq_some_iff.mp e).1
    exact ⟨h, by rw [List.getElem?_append_left h]; exact e⟩
  have so : ∀ {j : Nat}, j < E.length → (s ++ [y])[j]? = s[j]? := fun {j} hj => List.getElem?_append_left (by rw [← hl]; exact hj)
  exact {
    len := hl
    sub := r.sub
    sub0 := r.sub0
    keep := r.keep
    new := r.new
    giv := fun p hp => by
      obtain ⟨w1, d, w2⟩ := r.giv p hp
      have h := hg p hp
      rw [so h] at w1
      rw [List.getElem?_append_left h] at w2
      exact ⟨w1, d, w2⟩
    dat := fun j d e => by
      obtain ⟨h, e1⟩ := eo e
      obtain ⟨v, w1, w2⟩ := r.dat j d e1
      exact ⟨v, by rw [so h] at w1; exact w1, w2⟩
    own := fun j d e => by
      obtain ⟨h, e1⟩ := eo e
      obtain ⟨c, w1, w2⟩ := r.own j d e1
      exact ⟨c, by rw [so h] at w1; exact w1, w2⟩
    inj := fun j k d1 d2 c e1 e2 w1 w2 => by
      obtain ⟨l1, f1⟩ := eo e1
      obtain ⟨l2, f2⟩ := eo e2
      exact r.inj j k d1 d2 c f1 f2 (by rw [so l1]; exact w1) (by rw [so l2]; exact w2) }
/-- f(e), e a new list that f may write -/
theorem wp_callT {c : D → List D → (Sl → D → Prop) → Prop} {k : Nat} {ps : List Str} (C : CallOk S x k ps (spB S.K c)) (hk : k ≤ S.k) (hg : GlS S x) (h : Wp S e E fun r E1 => ∃ b, r = .own b ∧ c b [] fun r' _ => P r' E1)
    (hst : ∀ env : Env, starEach [e] env = (false, eval e env) :: starEach [] env := by intro _; rfl) (hdb : (x == ("__debug__" : Str)) = false := by decide) : Wp S (.Call (.Name x p) [e] [] pos) E P := fun X hX F s R H r Q kk => by
  obtain ⟨f, fd, Fn, hm, kp, hb⟩ := C.ex
  rw [← hX.prog, ← hX.w, ← hX.K, ← hX.mg, ← hX.base] at Fn
  rw [← hX.K] at kp hb
  refine ⟨_, peg_call Fn (hX.room.mono hk) hX.grd (hg.gl hX) (by rw [hX.mg]; exact hm) kp hb (pa_cons pe_rd pa_nil (hst _)) hdb (hst _) rfl, ?_⟩
  refine h X hX F s R H r _ fun v x0 E1 R1 H1 s1 r1 ok1 ⟨b, hx0, h1⟩ => ?_
  subst hx0
  obtain ⟨ad, rfl, oR, oO, o0, on⟩ := id ok1
  have r2 := r1.snocOwn ok1
  have hE2 : (E1 ++ [Sl.own b])[E1.length]? = some (.own b) := by simp
  have ha2 : (s ++ [some (V.ref ad)])[E1.length]? = some (some (.ref ad)) := by rw [r1.len]; simp
  show spB X.K c ([V.ref ad] ++ []) H1 Q E0
  rw [List.append_nil]
  refine ⟨R1, [(0, ad)], [Sl.own b], fun r outs => ∀ b', outs[0]? = some (Sl.own b') → P r E1, rfl, by rw [hX.K]; exact r2.argsB hE2 ha2 .nil, ⟨b, [], rfl, ?_⟩, fun v x outs R' H' a q ok z => ?_⟩
  · refine (?_ : (fun (r : Sl) (b' : D) => ∀ outs : List Sl, outs[0]? = some (Sl.own b') → ∀ b'', outs[0]? = some (Sl.own b'') → P r E1) = fun r b' => P r E1) ▸ h1
    funext r b'
    apply propext
    constructor
    · intro h
      exact h [Sl.own b'] rfl b' rfl
    · intro h outs e b'' e'
      exact h
  · rw [hX.K] at q ok
    obtain ⟨_, b', hb'⟩ := q.giv (0, ad) (by simp)
    have rr := r2.backB hE2 ha2 q hb'
    have rs : (E1 ++ [Sl.own b]).set E1.length (.own b') = E1 ++ [Sl.own b'] := by simp
    rw [rs] at rr
    have r3 := rr.cutLast fun p hp => by
      obtain ⟨_, d, w2⟩ := r1.giv p hp
      exact (List.getElem?_eq_some_iff.mp w2).1
    refine kk v x E1 R' H' (s1.trans a) r3 ?_ (z b' hb')
    cases x with
    | no => exact ok
    | dat d => exact ok
    | own d =>
      obtain ⟨a1, w1, w2, w3, w4, w5⟩ := ok
      exact ⟨a1, w1, w2, w3, r1.free0 w4, fun j d' e z => own_no r1 w4 j d' e z⟩
end
end Wq
set_option maxHeartbeats 2000000
namespace Wq
open PySem L2
section
variable {S : Sx} {G : List Nat} {E : En} {Z : EnS} {a b : Expr} {x xt xv : Str} {i jt jv : Nat} {scope : Scope}
variable {pd pz pos2 pos1 tpos spos jpos apos cpos lpos ipos vpos xpos ttpos gpos rpos p1 p2 p3 cp : Pos} {kc ks : Nat}
/-- x = dict(zip(a, b)); return ''.join([x[v] for v in t]) -/
theorem ss_dictJoin0 (hN : S.N[i]? = some x) (hx : Loc S.sc x) (hA : S.asg x = true) (hG : i ∉ G) (hNt : S.N[jt]? = some xt) (hvt : Vis S.sc xt) (hNv : S.N[jv]? = some xv) (ok : BlkOk S.N S.sc scope [(xv, jv)])
    (hLv : Loc (blkS S scope).sc xv) (hAv : (blkS S scope).asg xv = true) (hVv : Vis (blkS S scope).sc xv) (hVx : Vis (blkS S scope).sc x) (hij : i ≠ jt) (hiv : i ≠ jv) (htv : jt ≠ jv) (hroom : 1 ≤ S.k)
    (gd : GlS S "dict") (md : S.mg "dict" = none) (gz : GlS S "zip") (mz : S.mg "zip" = none)
    (h : WpA S [a, b] E fun ds E1 => ∃ (kx ky z : Str) (f : Nat → Nat), ds = [.str kx, .str ky] ∧ kx.cps.all (· < 128) = true ∧ ky.cps.all (· < 128) = true ∧ kx.length ≤ 1000 ∧ i < E1.length ∧ jv < E1.length ∧ E1[jt]? = some (.dat (.str z)) ∧ z.length ≤ 1000 ∧
      (∀ c ∈ z.cps.toList, valV (mergeK [] (zipK kx ky)) (.inr ⟨#[c]⟩) = some (.str ⟨#[f c]⟩)) ∧ Z.rt (.dat (.str ⟨(z.cps.toList.map f).toArray⟩)) (E1.set i .no))
    (hs1 : ∀ env : Env, starEach [.Call (.Name "zip" pz) [a, b] [] pos2] env = (false, eval (.Call (.Name "zip" pz) [a, b] [] pos2) env) :: starEach [] env := by intro _; rfl)
    (hs2 : ∀ env : Env, starEach [a, b] env = (false, eval a env) :: starEach [b] env := by intro _; rfl) (hpl : ∀ env : Env, (backTo pos2 (starEach [b] env)).any (·.1) = false := by intro _; rfl)
    (hsw : ∀ env : Env, swapsWith (.Call (.Name "dict" pd) [.Call (.Name "zip" pz) [a, b] [] pos2] [] pos1) (some (.Name x tpos)) spos.line env = pure false := by intro _; rfl)
    (hline : (apos.endLine == jpos.line) = true := by rfl) (hd1 : (xt == ("__debug__" : Str)) = false := by decide +kernel) (hd2 : (xt == ("__classdict__" : Str)) = false := by decide +kernel)
    (hd3 : (xv == ("__debug__" : Str)) = false := by decide +kernel) (hd4 : (xv == ("__classdict__" : Str)) = false := by decide +kernel) (hd5 : (x == ("__debug__" : Str)) = false := by decide +kernel) (hd6 : (x == ("__classdict__" : Str)) = false := by decide +kernel) :
    WpSs S G [.Assign [.Name x tpos] (.Call (.Name "dict" pd) [.Call (.Name "zip" pz) [a, b] [] pos2] [] pos1) spos,
      .Return (some (.Call (.Attribute (.Constant (.str "") kc cp) "join" apos) [.ListComp (.Subscript (.Name x xpos) (.Name xv vpos) ipos) [⟨.Name xv gpos, .Name xt ttpos, [], 0⟩] scope cpos] [] jpos)) rpos] E Z := fun X hX F s R H hg r D W => by
  have hgi : ∀ p ∈ F.g, p.1 ≠ i := fun p hp e => hG (by rw [← hg, ← e]; exact List.mem_map_of_mem hp)
  refine ⟨_, pss_cons (ps_set (i := i) hX.nd (by rw [hX.N]; exact hN) (by rw [hX.sc]; exact hx) (pe_dictZip hX.calm (gd.gl hX) (by rw [hX.mg]; exact md) (gz.gl hX) (by rw [hX.mg]; exact mz) pa_rd (hs1 _) (hs2 _) (hpl _)) (hsw _) (hX.fnl x hA))
    (pss_one (ps_ret (pe_join pe_str (pe_lc (own := [(xv, jv)]) hX.calm hX.nd (pi_str (pe_var (i := jt) (by rw [hX.N]; exact hNt) (by rw [hX.sc]; exact hvt) hd1 hd2)) (by rw [hX.N, hX.sc]; exact ok)
      (fun s' H' C cl fp => pg_name (i := jv) (has_blk (scope := scope) hX s' H' C cl fp).nd (by rw [(has_blk (scope := scope) hX s' H' C cl fp).N]; exact hNv) (by rw [(has_blk (scope := scope) hX s' H' C cl fp).sc]; exact hLv) ((has_blk (scope := scope) hX s' H' C cl fp).fnl xv hAv))
      (fun s' H' C cl fp => pts_nil)
      (fun s' H' C cl fp => pe_dget (by have := (has_blk (scope := scope) hX s' H' C cl fp).room.un; omega) (pe_var (i := i) (by rw [(has_blk (scope := scope) hX s' H' C cl fp).N]; exact hN) (by rw [(has_blk (scope := scope) hX s' H' C cl fp).sc]; exact hVx) hd5 hd6)
        (pe_var (i := jv) (by rw [(has_blk (scope := scope) hX s' H' C cl fp).N]; exact hNv) (by rw [(has_blk (scope := scope) hX s' H' C cl fp).sc]; exact hVv) hd3 hd4) (fun _ _ => rfl))) rfl rfl hline))), ?_⟩
  refine h X hX F s R H r _ fun vs ds E1 R1 H1 a1 r1 pd1 ⟨kx, ky, z, f, e1, h128, h128', hkx, hli, hlv, hjt, hz, hf, hZ⟩ => ?_
  subst e1
  cases pd1 with
  | cons q1 pd1 =>
    cases pd1 with
    | cons q2 pd1 =>
      cases pd1
      cases q1
      cases q2
      refine ⟨kx, ky, rfl, h128, h128', by omega, fun p hp => ?_⟩
      have hzs : s[jt]? = some (some (V.str z)) := by
        obtain ⟨v, e, q⟩ := r1.dat jt _ hjt
        cases q
        exact e
      have hlen : ∀ j : Nat, (∃ q, E1[j]? = some q) → j < s.length := fun j ⟨q, e⟩ => by
        rw [← r1.len]
        exact (List.getElem?_eq_some_iff.mp e).1
      have hNl : S.N.length = s.length ∨ True := .inr trivial
      refine ⟨⟨_, rfl⟩, V.str z, by rw [List.getElem?_set_ne hij]; exact hzs, z, rfl, fun L hL => ?_⟩
      have hpL : p ≠ L := fun e => by
        rw [← e, upd_same] at hL
        cases hL
      refine ⟨fun t m H2 => m = z.length - t ∧ t ≤ z.length ∧ H2 = upd (upd H1 p (.dK (mergeK [] (zipK kx ky)))) L (.lst ((z.cps.toList.take t).map fun c => V.str ⟨#[f c]⟩)), ⟨_, rfl, Nat.zero_le _, rfl⟩, ?_⟩
      rintro t m H2 ⟨rfl, ht, rfl⟩
      have hsz : z.cps.size = z.length := rfl
      by_cases hlt : t < z.length
      · refine .inr ⟨show t < z.cps.size by rw [hsz]; exact hlt, fun H3 => H3 = upd (upd H1 p (.dK (mergeK [] (zipK kx ky)))) L (.lst ((z.cps.toList.take (t + 1)).map fun c => V.str ⟨#[f c]⟩)), fun H3 e => ⟨z.length - (t + 1), by omega, rfl, hlt, e⟩, ?_⟩
        rintro y H3 ⟨rfl, c, hc, rfl⟩
        have hc' : z.cps.toList[t]? = some c := by rw [Array.getElem?_toList]; exact hc
        have hcm : c ∈ z.cps.toList := List.mem_of_getElem? hc'
        refine ⟨by show List.set (List.set (List.set (List.set s i (some (V.ref p))) jv none) jv _) jv none = List.set (List.set s i (some (V.ref p))) jv none; rw [List.set_set, List.set_set], ?_⟩
        unfold tYes
        simp only [if_true]
        refine ⟨V.ref p, ?_, V.str ⟨#[c]⟩, ?_, p, V.str ⟨#[f c]⟩, rfl, ?_, _, upd_same, ?_, ?_⟩
        · show (List.set (List.set (List.set s i (some (V.ref p))) jv none) jv _)[i]? = _
          rw [List.getElem?_set_ne (Ne.symm hiv), List.getElem?_set_ne (Ne.symm hiv), List.getElem?_set_self (by rw [← r1.len]; exact hli)]
        · show (List.set (List.set (List.set s i (some (V.ref p))) jv none) jv _)[jv]? = _
          rw [List.getElem?_set_self (by rw [List.length_set, List.length_set, ← r1.len]; exact hlv)]
        · have := DGet.k (k := (.inr ⟨#[c]⟩ : Key)) (H := upd (upd H1 p (.dK (mergeK [] (zipK kx ky)))) L (.lst ((z.cps.toList.take t).map fun c => V.str ⟨#[f c]⟩))) (a := p) (kvs := mergeK [] (zipK kx ky)) (by rw [upd_ne hpL, upd_same])
          rw [hf c hcm] at this
          exact this
        · rw [List.length_map, List.length_take]
          have : (1000 : Nat) < sizeLine := by decide
          omega
        · rw [upd_upd, List.take_add_one, hc', List.map_append]
          rfl
      · have e : t = z.length := by omega
        subst e
        refine .inl ⟨show z.cps.size ≤ z.length by rw [hsz]; exact Nat.le_refl _, ?_⟩
        have et : z.cps.toList.take z.length = z.cps.toList := List.take_of_length_le (by rw [Array.length_toList]; exact Nat.le_refl _)
        rw [et]
        refine ⟨_, L, z.cps.toList.map fun c => (⟨#[f c]⟩ : Str), rfl, rfl, .inl (SqL.of ?_), ?_, ?_⟩
        · rw [upd_same, List.map_map]
          rfl
        · have hs : ∀ cs : List Nat, ((cs.map fun c => (⟨#[f c]⟩ : Str)).map (·.length)).sum = cs.length := by
            intro cs
            induction cs with
            | nil => rfl
            | cons c r ih =>
              rw [List.map_cons, List.map_cons, List.sum_cons, ih, List.length_cons]
              show 1 + r.length = r.length + 1
              omega
          have hl0 : (z.cps.toList).length = z.length := Array.length_toList
          rw [hs, List.length_map, hl0, show (Str.ofString "").length = 0 from by decide]
          omega
        · have ej : Txt.join (Str.ofString "") (z.cps.toList.map fun c => (⟨#[f c]⟩ : Str)) = ⟨(z.cps.toList.map f).toArray⟩ := by
            have := join_one (z.cps.toList.map f)
            rw [List.map_map] at this
            exact this
          rw [ej]
          refine W.rt _ (.dat (.str ⟨(z.cps.toList.map f).toArray⟩)) (E1.set i .no) (s.set i (some (V.ref p))) R1 _ a1 (((r1.grow hp).setNo hgi).grow hL) (.str _) hZ
end
end Wq
set_option maxHeartbeats 2000000
namespace Wq
open PySem L2
section
variable {S : Sx} {G : List Nat} {E : En} {a b : Expr} {x y : Str} {i j : Nat} {Z : EnS}
/-- a new list is still there behind something else -/
theorem own_stays {K : PySem.W.Frag} {F : Fx} {s : St} {E1 : En} {R1 H1 : Hp} (r1 : Rel K F s E1 R1 H1) {v : V} {d : D} (ok : RsOk K F s E1 R1 H1 v (.own d)) {E2 : En} {R2 H2 : Hp} (q : Rel K ⟨H1, R1, owners s E1⟩ s E2 R2 H2) : RsOk K F s E2 R2 H2 v (.own d) := by
  obtain ⟨ad, rfl, oR, oO, o0, on⟩ := ok
  obtain ⟨o, ho⟩ := oO.some
  have noD : ∀ p ∈ owners s E1, p.2 ≠ ad := fun p hp z => by
    obtain ⟨⟨d', h1⟩, h2⟩ := mem_owners.mp hp
    exact on _ _ h1 (by rw [h2, z])
  have hk := q.keep ad o ho noD
  refine ⟨ad, rfl, ?_, oO.mono q.sub0 (by rw [hk, ho]), o0, fun m d' e z => ?_⟩
  · cases hz : R2 ad with
    | none => rfl
    | some u =>
      rcases q.new ad u hz with ⟨o', m⟩ | m
      · exact nomatch oR.symm.trans m
      · exact nomatch ho.symm.trans m
  · obtain ⟨c, w1, w2, w3, w4⟩ := q.own m d' e
    rw [w1] at z
    cases z
    rcases w4 with w4 | w4
    · exact nomatch ho.symm.trans w4
    · exact noD _ w4 rfl
/-- x, y = a, b, a a new list -/
theorem s_parO {px py pt pt2 sp : Pos} {kt k2 : Nat} (hN : S.N[i]? = some x) (hx : S.sc.names.lookup x = some NameKind.local) (hNy : S.N[j]? = some y) (hy : S.sc.names.lookup y = some NameKind.local) (hij : i ≠ j) (hGi : i ∉ G) (hGj : j ∉ G)
    (h : Wp S a E fun d1 E1 => ∃ q, d1 = .own q ∧ WpD S b E1 fun d2 E2 => i < E2.length ∧ j < E2.length ∧ Z.nx ((E2.set i (.own q)).set j (.dat d2)))
    (hw : ∀ env : Env, env.scope = S.sc → swappedStores [.Tuple [.Name x px, .Name y py] kt pt] (.Tuple [a, b] k2 pt2) env = pure (some [x, y]))
    (hst : ∀ env : Env, starEach [a, b] env = (false, eval a env) :: starEach [b] env := by intro _; rfl) (hst2 : ∀ env : Env, starEach [b] env = (false, eval b env) :: starEach [] env := by intro _; rfl)
    (hs : ∀ env : Env, swapsWithSole [.Tuple [.Name x px, .Name y py] kt pt] (.Tuple [a, b] k2 pt2) sp.line env = pure false := by intro _; rfl) :
    WpS S G (.Assign [.Tuple [.Name x px, .Name y py] kt pt] (.Tuple [a, b] k2 pt2) sp) E Z := fun X hX F s R H hg r D W => by
  refine ⟨_, ps_par (i := i) (j := j) hX.calm hX.nd (by rw [hX.N]; exact hN) (by rw [hX.N]; exact hNy) hij (by rw [hX.sc]; exact hx) (by rw [hX.sc]; exact hy) (pa_cons pe_rd (pa_cons pe_rd pa_nil (hst2 _)) (hst _)) (hw _ hX.sc) (hs _), ?_⟩
  have gi : ∀ p ∈ F.g, p.1 ≠ i := fun p hp e => hGi (by rw [← hg, ← e]; exact List.mem_map_of_mem hp)
  have gj : ∀ p ∈ F.g, p.1 ≠ j := fun p hp e => hGj (by rw [← hg, ← e]; exact List.mem_map_of_mem hp)
  refine h X hX F s R H r _ fun v1 d1 E1 R1 H1 s1 r1 p1 ⟨q, e1, h1⟩ => ?_
  subst e1
  refine h1 X hX _ s R1 H1 r1.nest _ fun v2 d2 E2 R2 H2 s2 q2 p2 ⟨l1, l2, h2⟩ => ?_
  refine ⟨v1, v2, rfl, ?_⟩
  have ok := own_stays r1 p1 q2
  obtain ⟨ad, rfl, _⟩ := id ok
  have r3 := (r1.unnest q2).setOwn (i := i) l1 gi ok
  exact W.nx _ _ R2 H2 (s1.trans s2) (r3.setDat (by rw [List.length_set]; exact l2) gj p2) h2
end
end Wq
set_option maxHeartbeats 2000000
namespace Wq
open PySem L2

/-! ### what comes of a piece of a program: a thing, a refusal, or no word -/
inductive Rs (α : Type) where
  | ok (a : α)
  | exc (c : Nat) (p : D)
  | bad
def Rs.bind {α β : Type} : Rs α → (α → Rs β) → Rs β
  | .ok a, f => f a
  | .exc c p, _ => .exc c p
  | .bad, _ => .bad
def Rs.of {α : Type} : Option α → Rs α
  | some a => .ok a
  | none => .bad
theorem Rs.bind_ok {α β : Type} {x : Rs α} {f : α → Rs β} {b : β} (h : x.bind f = .ok b) : ∃ a, x = .ok a ∧ f a = .ok b := by
  cases x with
  | ok a => exact ⟨a, rfl, h⟩
  | exc c p => cases h
  | bad => cases h
theorem Rs.of_ok {α : Type} {x : Option α} {a : α} (h : Rs.of x = .ok a) : x = some a := by
  cases x with
  | none => cases h
  | some b => cases h; rfl

/-! ### the program as a tree with its names resolved -/
mutual
inductive IT where
  | nm (i : Nat)
  | tp (ts : ITs)
inductive ITs where
  | nil
  | cons (t : IT) (ts : ITs)
end
inductive Blt where
  | len | abs | int | min | max | divmod | list | tuple | all | any | sum | sorted | repr | str
  | isInt | isStr | isBool | isList | isTuple | isSeq
  deriving DecidableEq
mutual
inductive IE where
  | slot (i : Nat)
  | cst (n : Nat)
  | int (i : Int)
  | str (z : Str)
  | bl (b : Bool)
  | non
  | bin (op : Operator) (a b : IE)
  | neg (a : IE)
  | cmp (op : CmpOp) (a b : IE)
  | cmp2 (o1 o2 : CmpOp) (a b c : IE)
  | bop (op : BoolOp) (es : IA)
  | not (a : IE)
  | ite (c a b : IE)
  | tup (es : IA)
  | lst (es : IA)
  | ix (a b : IE)
  | sl (a : IE) (lo hi : IA)
  | rev (a : IE)
  | call (f : Nat) (es : IA)
  | callB (f i : Nat) (es : IA)
  | callO (f i : Nat) (es : IA)
  | callT (f : Nat) (e : IE)
  | pop (i : Nat) (k : IE)
  | blt (b : Blt) (es : IA)
  | join (a b : IE)
  | comp (elt : IE) (tg : IT) (it : II) (ifs : IA)
  | comp2 (elt : IE) (tg : IT) (it : II) (ifs : IA) (tg1 : IT) (it1 : II) (ifs1 : IA)
inductive IA where
  | nil
  | cons (e : IE) (es : IA)
inductive II where
  | rng (a : IE)
  | rng2 (a b : IE)
  | val (a : IE)
  | enum (a : IE)
  | zip (a b : IE)
  | own (i : Nat)
end
mutual
inductive IS where
  | ret (e : IE)
  | retN
  | retI (c : IE) (i : Nat) (e : IE)
  | expr (e : IE)
  | pass
  | set (i : Nat) (e : IE)
  | unpack (t : IT) (e : IE)
  | par2 (i j : Nat) (a b : IE)
  | par3 (i j l : Nat) (a b c : IE)
  | ifs (c : IE) (y n : ISs)
  | loop (t : IT) (it : II) (body : ISs)
  | whl (n : Nat) (c : IE) (body : ISs)
  | append (i : Nat) (e : IE)
  | reverse (i : Nat)
  | store (i : Nat) (k e : IE)
  | store2 (i j : Nat) (k e : IE)
  | aug (i : Nat) (op : Operator) (e : IE)
  | freeze (i : Nat)
  | forget (i : Nat)
  | dictJoin (i jt jv : Nat) (a b : IE)
  | dictJoin0 (i jt jv : Nat) (a b : IE)
  | brk
  | cont
inductive ISs where
  | nil
  | cons (s : IS) (ss : ISs)
end

/-! ### what it means -/
abbrev RE := En → Rs (Sl × En)
structure Mn where
  s : Option Nat
  v : RE
  k : RE
  t : En → Rs (Bool × En)
def truthS : Sl → Option Bool
  | .dat (.bool b) => some b
  | .dat (.list ds) => some (!ds.isEmpty)
  | .own (.list ds) => some (!ds.isEmpty)
  | _ => none
def truthM (r : Rs (Sl × En)) : Rs (Bool × En) := r.bind fun p => (Rs.of (truthS p.1)).bind fun b => .ok (b, p.2)
def Mn.of (v : RE) : Mn := ⟨none, v, v, fun E => truthM (v E)⟩
/-- a value alone, no test -/
def Mn.ofV (v : RE) : Mn := ⟨none, v, v, fun _ => .bad⟩
def Mn.ofD (d : D) : Mn := Mn.of fun E => .ok (.dat d, E)
def slotV (i : Nat) : RE := fun E => match E[i]? with
  | some (.dat d) => .ok (.dat d, E)
  | _ => .bad
def slotK (i : Nat) : RE := fun E => match E[i]? with
  | some (.dat d) => .ok (.dat d, E)
  | some (.own (.list d)) => .ok (.own (.list d), E)
  | _ => .bad
def slotM (i : Nat) : Mn := ⟨some i, slotV i, slotK i, fun E => truthM (slotK i E)⟩
def datS : Sl → Option D
  | .no => none
  | .dat d => some d
  | .own d => some d
def Mn.d (m : Mn) (E : En) : Rs (D × En) := (m.v E).bind fun p => (Rs.of (datS p.1)).bind fun d => .ok (d, p.2)
def argsM : List Mn → En → Rs (List D × En)
  | [], E => .ok ([], E)
  | m :: ms, E => (m.d E).bind fun p => (argsM ms p.2).bind fun q => .ok (p.1 :: q.1, q.2)
/-- two things, one behind the other: an owned one on the left is looked at behind the right one -/
def ownAt (E : En) (i : Nat) : Bool := match E[i]? with
  | some (.own _) => true
  | _ => false
def pairV (A B : Mn) (E : En) : Rs ((Sl × Sl) × En) := (A.v E).bind fun p => (B.k p.2).bind fun q => .ok ((p.1, q.1), q.2)
def pairM (A B : Mn) (E : En) : Rs ((Sl × Sl) × En) := match A.s with
  | some i => if ownAt E i then (B.k E).bind fun q => match q.2[i]? with
      | some (.own (.list d)) => .ok ((.own (.list d), q.1), q.2)
      | _ => .bad
    else pairV A B E
  | none => pairV A B E

/-! operators -/
def binS : Operator → Sl → Sl → Option Sl
  | .Add, .dat (.int i), .dat (.int j) => some (.dat (.int (i + j)))
  | .Add, .dat (.str i), .dat (.str j) => if i.length + j.length ≤ 100000 then some (.dat (.str (i ++ j))) else none
  | .Add, .dat (.tuple i), .dat (.tuple j) => if i.length + j.length ≤ 100000 then some (.dat (.tuple (i ++ j))) else none
  | .Add, .own (.list i), .own (.list j) => if i.length + j.length ≤ 100000 then some (.own (.list (i ++ j))) else none
  | .Sub, .dat (.int i), .dat (.int j) => some (.dat (.int (i - j)))
  | .Mult, .dat (.int i), .dat (.int j) => if (-18446744073709551616 < i ∧ i < 18446744073709551616) ∨ (-18446744073709551616 < j ∧ j < 18446744073709551616) then some (.dat (.int (i * j))) else none
  | .Mult, .dat (.str z), .dat (.int j) => if 0 ≤ j ∧ j ≤ 1000 ∧ z.length ≤ 1000 then some (.dat (.str (repS z j.toNat))) else none
  | .Mult, .own (.list z), .dat (.int j) => if 0 ≤ j ∧ j ≤ 1000 ∧ z.length ≤ 1000 then some (.own (.list (List.replicate j.toNat z).flatten)) else none
  | .FloorDiv, .dat (.int i), .dat (.int j) => if 0 < j ∧ j < 1073741824 then some (.dat (.int (i / j))) else none
  | .Mod, .dat (.int i), .dat (.int j) => if 0 < j then some (.dat (.int (i % j))) else none
  | .Pow, .dat (.int i), .dat (.int j) => if 0 ≤ j ∧ j ≤ 1000000 ∧ i.natAbs < 18446744073709551616 then some (.dat (.int (i ^ j.toNat))) else none
  | _, _, _ => none
def augS : Operator → D → D → Option D
  | .Add, .int i, .int j => some (.int (i + j))
  | .Sub, .int i, .int j => some (.int (i - j))
  | .Add, .str i, .str j => if i.length + j.length ≤ 100000 then some (.str (i ++ j)) else none
  | _, _, _ => none
def eqS (a b : D) : Option Bool := if scalD a b then some (sameD a b) else if SeqAt.shaped a && SeqAt.shaped b then some (PyData.eqv a b) else none
def flatD : D → Bool
  | .none | .bool _ | .int _ | .str _ => true
  | _ => false
def inS : D → D → Option Bool
  | a, .list ds => if SeqAt.shaped a && SeqAt.shaped (.list ds) then some (ds.any fun z => PyData.eqv z a) else none
  | a, .tuple ds => if flatD a && ds.all flatD then some (ds.any fun z => PyData.eqv z a) else none
  | .str ⟨⟨[c]⟩⟩, .str z => some (decide (c ∈ z.cps.toList))
  | _, _ => none
def cmpDD : CmpOp → D → D → Option Bool
  | .Eq, a, b => eqS a b
  | .NotEq, a, b => (eqS a b).map (! ·)
  | .In, a, b => inS a b
  | .NotIn, a, b => (inS a b).map (! ·)
  | .Is, a, .none => some (isNo a)
  | .IsNot, a, .none => some (!isNo a)
  | .Lt, .int i, .int j => some (decide (i < j))
  | .LtE, .int i, .int j => some (decide (i ≤ j))
  | .Gt, .int i, .int j => some (decide (j < i))
  | .GtE, .int i, .int j => some (decide (j ≤ i))
  | .Lt, .str i, .str j => some (decide (i.cps.toList < j.cps.toList))
  | _, _, _ => none
def cmpS (op : CmpOp) (x y : Sl) : Option Bool := match datS x, datS y with
  | some a, some b => cmpDD op a b
  | _, _ => none
def cmpM (op : CmpOp) (A B : Mn) (E : En) : Rs (Bool × En) := (pairM A B E).bind fun p => (Rs.of (cmpS op p.1.1 p.1.2)).bind fun b => .ok (b, p.2)
/-- a < b < c, of numbers -/
def intD : D → Bool
  | .int _ => true
  | _ => false
def cmp2M (o1 o2 : CmpOp) (A B C : Mn) (E : En) : Rs (Bool × En) := (A.d E).bind fun p => (B.d p.2).bind fun q => if intD p.1 && intD q.1 then (Rs.of (cmpDD o1 p.1 q.1)).bind fun t =>
  if t then (C.d q.2).bind fun r => if intD r.1 then (Rs.of (cmpDD o2 q.1 r.1)).bind fun u => .ok (u, r.2) else .bad else .ok (false, q.2) else .bad
def cmp2F (o1 o2 : CmpOp) (A B C : Mn) : Mn := ⟨none, fun E => (cmp2M o1 o2 A B C E).bind fun p => .ok (.dat (.bool p.1), p.2), fun E => (cmp2M o1 o2 A B C E).bind fun p => .ok (.dat (.bool p.1), p.2), fun E => cmp2M o1 o2 A B C E⟩
def ixS : Sl → D → Option D
  | .dat (.list ds), .int k => atI ds k
  | .own (.list ds), .int k => atI ds k
  | .dat (.tuple ds), .int k => atI ds k
  | .dat (.str z), .int k => if z.length ≤ 100000 then (atI z.cps.toList k).map fun c => .str ⟨#[c]⟩ else none
  | _, _ => none
def optI : List D → Option (Option Int)
  | [] => some none
  | [.int k] => some (some k)
  | _ => none
def slS : D → Option Int → Option Int → Option Sl
  | .str z, l, u => if z.length ≤ 100000 then some (.dat (.str (cutS z l u))) else none
  | .list ds, l, u => some (.own (.list (cutD ds l u)))
  | .tuple ds, l, u => some (.dat (.tuple (cutD ds l u)))
  | _, _, _ => none
def itemsS : Sl → Option (List D)
  | .dat (.list ds) => some ds
  | .own (.list ds) => some ds
  | .dat (.tuple ds) => some ds
  | _ => none
def boolsD : List D → Option (List Bool)
  | [] => some []
  | .bool b :: ds => (boolsD ds).map (b :: ·)
  | _ => none
def intsO : List D → Option (List Int)
  | [] => some []
  | .int b :: ds => (intsO ds).map (b :: ·)
  | _ => none
def strsO : List D → Option (List Str)
  | [] => some []
  | .str b :: ds => (strsO ds).map (b :: ·)
  | _ => none
def keyO : D → Option Key
  | .int i => some (.inl i)
  | .str z => some (.inr z)
  | _ => none
def keysO : List D → Option (List Key)
  | [] => some []
  | d :: ds => (keyO d).bind fun k => (keysO ds).map (k :: ·)
def rowsO : List D → Option (List (List Key))
  | [] => some []
  | .tuple d :: ds => (keysO d).bind fun k => (rowsO ds).map (k :: ·)
  | _ => none
def leK (x y : List Key) : Bool := !lexK y x
def sortK (kss : List (List Key)) : List (List Key) := kss.mergeSort leK
def sigOk : List (List Key) → Bool
  | [] => true
  | ks :: kss => !ks.isEmpty && kss.all fun r => decide (r.map isInt = ks.map isInt)
def sortS (ds : List D) : Option (List D) := (rowsO ds).bind fun kss => if sigOk kss then some ((sortK kss).map tupK) else none
def lenS : Sl → Option Nat
  | .dat (.list ds) => some ds.length
  | .own (.list ds) => some ds.length
  | .dat (.tuple ds) => some ds.length
  | .dat (.str z) => if z.length ≤ 100000 then some z.length else none
  | _ => none
def reprS (d : D) : Option Str := if isBox d && d.showable && !d.hasDict && decide (d.depth ≤ 40) && decide (d.shown.length ≤ sizeLine) then some d.shown else none
def blt1 : Blt → Sl → Option Sl
  | .len, x => (lenS x).map fun (n : Nat) => Sl.dat (.int (n : Int))
  | .abs, .dat (.int k) => some (.dat (.int (if k < 0 then -k else k)))
  | .int, .dat (.int k) => some (.dat (.int k))
  | .int, .dat (.bool k) => some (.dat (.int (if k then 1 else 0)))
  | .list, .dat (.str z) => if z.length ≤ 100000 then some (.own (.list (signs z))) else none
  | .list, x => (itemsS x).map fun ds => .own (.list ds)
  | .tuple, x => (itemsS x).map fun ds => .dat (.tuple ds)
  | .all, .own (.list ds) => (boolsD ds).map fun bs => .dat (.bool (bs.all id))
  | .all, .dat (.list ds) => (boolsD ds).map fun bs => .dat (.bool (bs.all id))
  | .any, .own (.list ds) => (boolsD ds).map fun bs => .dat (.bool (bs.any id))
  | .any, .dat (.list ds) => (boolsD ds).map fun bs => .dat (.bool (bs.any id))
  | .sum, .own (.list ds) => (intsO ds).map fun bs => .dat (.int bs.sum)
  | .sum, .dat (.list ds) => (intsO ds).map fun bs => .dat (.int bs.sum)
  | .sorted, .own (.list ds) => (sortS ds).map fun bs => .own (.list bs)
  | .sorted, .dat (.list ds) => (sortS ds).map fun bs => .own (.list bs)
  | .repr, .dat d => (reprS d).map fun z => .dat (.str z)
  | .repr, .own d => (reprS d).map fun z => .dat (.str z)
  | .isInt, x => (datS x).map fun d => .dat (.bool (isI "int" d))
  | .isStr, x => (datS x).map fun d => .dat (.bool (isI "str" d))
  | .isBool, x => (datS x).map fun d => .dat (.bool (isI "bool" d))
  | .isList, x => (datS x).map fun d => .dat (.bool (isI "list" d))
  | .isTuple, x => (datS x).map fun d => .dat (.bool (isI "tuple" d))
  | .isSeq, x => (datS x).map fun d => .dat (.bool (isI "list" d || isI "tuple" d))
  | _, _ => none
def blt2 : Blt → D → D → Option D
  | .min, .int k, .int j => some (.int (if j < k then j else k))
  | .max, .int k, .int j => some (.int (if j > k then j else k))
  | .divmod, .int k, .int j => if 0 < j ∧ j < 1073741824 then some (.tuple [.int (k / j), .int (k % j)]) else none
  | _, _, _ => none
def bltM (b : Blt) : List Mn → RE
  | [A], E => (A.k E).bind fun p => (Rs.of (blt1 b p.1)).bind fun x => .ok (x, p.2)
  | [A, B], E => (A.d E).bind fun p => (B.d p.2).bind fun q => (Rs.of (blt2 b p.1 q.1)).bind fun x => .ok (.dat x, q.2)
  | _, _ => .bad
def joinM (A B : Mn) (E : En) : Rs (Sl × En) := (A.d E).bind fun p => (B.k p.2).bind fun q => match p.1 with
  | .str z => (Rs.of ((itemsS q.1).bind strsO)).bind fun ys => if (ys.map (·.length)).sum + ys.length * z.length ≤ 16777216 then .ok (.dat (.str (Txt.join z ys)), q.2) else .bad
  | _ => .bad
def andM : List Mn → En → Rs (Sl × En)
  | [], _ => .bad
  | [A], E => (A.d E).bind fun p => .ok (.dat p.1, p.2)
  | A :: rest, E => (A.d E).bind fun p => match p.1 with
    | .bool true => andM rest p.2
    | .bool false => .ok (.dat (.bool false), p.2)
    | _ => .bad
def orM : List Mn → En → Rs (Sl × En)
  | [], _ => .bad
  | [A], E => (A.d E).bind fun p => .ok (.dat p.1, p.2)
  | A :: rest, E => (A.d E).bind fun p => match p.1 with
    | .bool false => orM rest p.2
    | .bool true => .ok (.dat (.bool true), p.2)
    | _ => .bad
def andT : List Mn → En → Rs (Bool × En)
  | [], _ => .bad
  | [A], E => A.t E
  | A :: rest, E => (A.t E).bind fun p => if p.1 then andT rest p.2 else .ok (false, p.2)
def orT : List Mn → En → Rs (Bool × En)
  | [], _ => .bad
  | [A], E => A.t E
  | A :: rest, E => (A.t E).bind fun p => if p.1 then .ok (true, p.2) else orT rest p.2

/-! targets -/
def notOwnB (E : En) (i : Nat) : Bool := match E[i]? with
  | some (.own _) => false
  | some _ => true
  | none => false
mutual
def IT.slots : IT → List Nat
  | .nm i => [i]
  | .tp ts => ts.slots
def ITs.slots : ITs → List Nat
  | .nil => []
  | .cons t ts => t.slots ++ ts.slots
end
mutual
def setT : IT → D → En → Option En
  | .nm i, d, E => if notOwnB E i then some (E.set i (.dat d)) else none
  | .tp ts, .tuple ds, E => setTs ts ds E
  | .tp ts, .list ds, E => setTs ts ds E
  | .tp _, _, _ => none
def setTs : ITs → List D → En → Option En
  | .nil, [], E => some E
  | .cons t ts, d :: ds, E => (setT t d E).bind fun E1 => setTs ts ds E1
  | _, _, _ => none
end

/-! defs -/
inductive FnE where
  | pu (f : List D → Rs Sl)
  | bx (f : D → List D → Rs (Sl × D))
  | no
def callM (g : FnE) (as : List Mn) (E : En) : Rs (Sl × En) := match g with
  | .pu f => (argsM as E).bind fun p => (f p.1).bind fun r => .ok (r, p.2)
  | _ => .bad
def callBM (g : FnE) (i : Nat) (as : List Mn) (E : En) : Rs (Sl × En) := match g with
  | .bx f => if ownAt E i then (argsM as E).bind fun p => match p.2[i]? with
      | some (.own b) => (f b p.1).bind fun r => .ok (r.1, p.2.set i (.own r.2))
      | _ => .bad
    else .bad
  | _ => .bad
def callOM (g : FnE) (i : Nat) (as : List Mn) (E : En) : Rs (Sl × En) := match g with
  | .pu f => if ownAt E i then (argsM as E).bind fun p => match p.2[i]? with
      | some (.own (.list b)) => (f (.list b :: p.1)).bind fun r => match r with
        | .dat d => if plainD d then .ok (.dat d, p.2) else .bad
        | _ => .bad
      | _ => .bad
    else .bad
  | _ => .bad

def callTM (g : FnE) (A : Mn) (E : En) : Rs (Sl × En) := match g with
  | .bx f => (A.v E).bind fun p => match p.1 with
    | .own b => (f b []).bind fun r => .ok (r.1, p.2)
    | _ => .bad
  | _ => .bad
def popS (ds : List D) (k : Int) : Option (D × List D) := if 0 ≤ k ∧ ds.length ≤ 100000 then (ds[k.toNat]?).map fun y => (y, ds.eraseIdx k.toNat) else none
def popM (i : Nat) (A : Mn) (E : En) : Rs (Sl × En) := match E[i]? with
  | some (.own (.list _)) => (A.d E).bind fun p => match p.1, p.2[i]? with
    | .int k, some (.own (.list ds)) => (Rs.of (popS ds k)).bind fun y => .ok (.dat y.1, p.2.set i (.own (.list y.2)))
    | _, _ => .bad
  | _ => .bad

/-! comprehensions -/
def loopC (step : D → En → Rs (Option D × En)) (vs : List Nat) : List D → List D → En → Rs (List D × En)
  | [], acc, E => .ok (acc, E)
  | d :: ds, acc, E => (step d E).bind fun p => if vs.all (notOwnB p.2) && decide (acc.length < 1000000) then loopC step vs ds (acc ++ p.1.toList) (wipeE p.2 vs) else .bad
def testsM : List Mn → En → Rs (Bool × En)
  | [], E => .ok (true, E)
  | [A], E => A.t E
  | _, _ => .bad
def stepC (tg : IT) (ifs : List Mn) (elt : Mn) (d : D) (E : En) : Rs (Option D × En) :=
  (Rs.of (setT tg d E)).bind fun E2 => (testsM ifs E2).bind fun p => if p.1 then (elt.d p.2).bind fun q => .ok (some q.1, q.2) else .ok (none, p.2)
abbrev MI := En → Rs (List D × En)
structure MIt where
  own : Option Nat
  v : MI
def compM (elt : Mn) (tg : IT) (it : MIt) (ifs : List Mn) (E : En) : Rs (Sl × En) := match it.own with
  | none => (it.v E).bind fun p => if tg.slots.all (notOwnB p.2) then (loopC (stepC tg ifs elt) tg.slots p.1 [] (wipeE p.2 tg.slots)).bind fun q => .ok (.own (.list q.1), q.2) else .bad
  | some i => match E[i]? with
    | some (.own (.list ds)) => if !tg.slots.contains i && tg.slots.all (notOwnB (E.set i .no)) then
        (loopC (stepC tg ifs elt) tg.slots ds [] (wipeE (E.set i .no) tg.slots)).bind fun q => match q.2[i]? with
          | some .no => .ok (.own (.list q.1), q.2.set i (.own (.list ds)))
          | _ => .bad
      else .bad
    | _ => .bad
def loop2 (tg : IT) (ifs : List Mn) (it1 : MI) (tg1 : IT) (ifs1 : List Mn) (elt : Mn) (vs : List Nat) : List D → List D → En → Rs (List D × En)
  | [], acc, E => .ok (acc, E)
  | d :: ds, acc, E => (Rs.of (setT tg d E)).bind fun E2 => (testsM ifs E2).bind fun p =>
      if p.1 then (it1 p.2).bind fun q => if tg1.slots.all (notOwnB q.2) then (loopC (stepC tg1 ifs1 elt) tg1.slots q.1 acc (wipeE q.2 tg1.slots)).bind fun r => if vs.all (notOwnB r.2) then loop2 tg ifs it1 tg1 ifs1 elt vs ds r.1 (wipeE r.2 vs) else .bad else .bad
      else if vs.all (notOwnB p.2) then loop2 tg ifs it1 tg1 ifs1 elt vs ds acc (wipeE p.2 vs) else .bad
def comp2M (elt : Mn) (tg : IT) (it : MIt) (ifs : List Mn) (tg1 : IT) (it1 : MIt) (ifs1 : List Mn) (E : En) : Rs (Sl × En) := match it.own, it1.own with
  | none, none => (it.v E).bind fun p => if (tg.slots ++ tg1.slots).all (notOwnB p.2) then (loop2 tg ifs it1.v tg1 ifs1 elt (tg.slots ++ tg1.slots) p.1 [] (wipeE p.2 (tg.slots ++ tg1.slots))).bind fun q => .ok (.own (.list q.1), q.2) else .bad
  | _, _ => .bad
def walkS : Sl → Option (List D)
  | .dat (.str z) => some (signs z)
  | x => itemsS x
def enumS : D → Option (List D)
  | .list ds => some (enumD ds)
  | .str z => some (enumD (signs z))
  | _ => none
def zipS : D → D → Option (List D)
  | .list xs, .list ys => some (zipD xs ys)
  | .tuple xs, .tuple ys => some (zipD xs ys)
  | _, _ => none
def rngS (d : D) : Option (List D) := match d with
  | .int n => if -4611686018427387904 ≤ n ∧ n < 4611686018427387904 then some (intsD 0 n.toNat) else none
  | _ => none
def rng2S (c d : D) : Option (List D) := match c, d with
  | .int m, .int n => if -4611686018427387904 ≤ m ∧ m < 4611686018427387904 ∧ -4611686018427387904 ≤ n ∧ n < 4611686018427387904 then some (intsD m (n - m).toNat) else none
  | _, _ => none

variable (Γ : Nat → FnE) (Cs : Nat → Option D)
mutual
def semE : IE → Mn
  | .slot i => slotM i
  | .cst n => Mn.of fun E => (Rs.of (Cs n)).bind fun d => .ok (.dat d, E)
  | .int i => Mn.ofD (.int i)
  | .str z => Mn.ofD (.str z)
  | .bl b => Mn.ofD (.bool b)
  | .non => Mn.ofV fun E => .ok (.dat .none, E)
  | .bin op a b => Mn.of fun E => (pairM (semE a) (semE b) E).bind fun p => (Rs.of (binS op p.1.1 p.1.2)).bind fun x => .ok (x, p.2)
  | .neg a => Mn.ofV fun E => ((semE a).d E).bind fun p => match p.1 with
    | .int i => .ok (.dat (.int (-i)), p.2)
    | _ => .bad
  | .cmp op a b => ⟨none, fun E => (cmpM op (semE a) (semE b) E).bind fun p => .ok (.dat (.bool p.1), p.2), fun E => (cmpM op (semE a) (semE b) E).bind fun p => .ok (.dat (.bool p.1), p.2), fun E => cmpM op (semE a) (semE b) E⟩
  | .cmp2 o1 o2 a b c => cmp2F o1 o2 (semE a) (semE b) (semE c)
  | .bop .And es => ⟨none, andM (semAs es), andM (semAs es), andT (semAs es)⟩
  | .bop .Or es => ⟨none, orM (semAs es), orM (semAs es), orT (semAs es)⟩
  | .not a => ⟨none, fun E => ((semE a).d E).bind fun p => match p.1 with
      | .bool b => .ok (.dat (.bool !b), p.2)
      | _ => .bad, fun E => ((semE a).d E).bind fun p => match p.1 with
      | .bool b => .ok (.dat (.bool !b), p.2)
      | _ => .bad, fun E => ((semE a).t E).bind fun p => .ok (!p.1, p.2)⟩
  | .ite c a b => Mn.ofV fun E => ((semE c).t E).bind fun p => if p.1 then (semE a).v p.2 else (semE b).v p.2
  | .tup es => Mn.ofV fun E => (argsM (semAs es) E).bind fun p => if p.1.length ≤ 1000 then .ok (.dat (.tuple p.1), p.2) else .bad
  | .lst es => Mn.ofV fun E => (argsM (semAs es) E).bind fun p => if p.1.length ≤ 1000 then .ok (.own (.list p.1), p.2) else .bad
  | .ix a b => Mn.of fun E => (pairM (semE a) (semE b) E).bind fun p => (Rs.of ((datS p.1.2).bind (ixS p.1.1))).bind fun x => .ok (.dat x, p.2)
  | .sl a lo hi => Mn.of fun E => ((semE a).d E).bind fun p => (argsM (semAs lo) p.2).bind fun l => (argsM (semAs hi) l.2).bind fun u =>
      (Rs.of ((optI l.1).bind fun lo => (optI u.1).bind fun hi => slS p.1 lo hi)).bind fun x => .ok (x, u.2)
  | .rev a => Mn.of fun E => ((semE a).d E).bind fun p => match p.1 with
    | .str z => if z.length ≤ 100000 then .ok (.dat (.str (revS z)), p.2) else .bad
    | _ => .bad
  | .call f es => Mn.of (callM (Γ f) (semAs es))
  | .callB f i es => Mn.of (callBM (Γ f) i (semAs es))
  | .callO f i es => Mn.of (callOM (Γ f) i (semAs es))
  | .callT f e => Mn.of (callTM (Γ f) (semE e))
  | .pop i k => Mn.of (popM i (semE k))
  | .blt b es => Mn.of (bltM b (semAs es))
  | .join a b => Mn.of (joinM (semE a) (semE b))
  | .comp elt tg it ifs => Mn.of (compM (semE elt) tg (semI it) (semAs ifs))
  | .comp2 elt tg it ifs tg1 it1 ifs1 => Mn.of (comp2M (semE elt) tg (semI it) (semAs ifs) tg1 (semI it1) (semAs ifs1))
def semAs : IA → List Mn
  | .nil => []
  | .cons e es => semE e :: semAs es
def semI : II → MIt
  | .rng a => ⟨none, fun E => ((semE a).d E).bind fun p => (Rs.of (rngS p.1)).bind fun ds => .ok (ds, p.2)⟩
  | .rng2 a b => ⟨none, fun E => ((semE a).d E).bind fun p => ((semE b).d p.2).bind fun q => (Rs.of (rng2S p.1 q.1)).bind fun ds => .ok (ds, q.2)⟩
  | .val a => ⟨none, fun E => ((semE a).v E).bind fun p => (Rs.of (walkS p.1)).bind fun ds => .ok (ds, p.2)⟩
  | .enum a => ⟨none, fun E => ((semE a).d E).bind fun p => (Rs.of (enumS p.1)).bind fun ds => .ok (ds, p.2)⟩
  | .zip a b => ⟨none, fun E => ((semE a).d E).bind fun p => ((semE b).d p.2).bind fun q => (Rs.of (zipS p.1 q.1)).bind fun ds => .ok (ds, q.2)⟩
  | .own i => ⟨some i, fun _ => .bad⟩
end

/-! statements -/
inductive Fl where
  | nx (E : En)
  | rt (r : Sl) (E : En)
  | bk (E : En)
  | ct (E : En)
def loopF (tg : IT) (body : En → Rs Fl) : List D → En → Rs Fl
  | [], E => .ok (.nx E)
  | d :: ds, E => (Rs.of (setT tg d E)).bind fun E2 => (body E2).bind fun f => match f with
    | .nx E3 => loopF tg body ds E3
    | .ct E3 => loopF tg body ds E3
    | .bk E3 => .ok (.nx E3)
    | .rt r E3 => .ok (.rt r E3)
def whileF (c : En → Rs (Bool × En)) (body : En → Rs Fl) : Nat → En → Rs Fl
  | 0, _ => .bad
  | n + 1, E => (c E).bind fun p => if p.1 then (body p.2).bind fun f => match f with
    | .nx E3 => whileF c body n E3
    | .ct E3 => whileF c body n E3
    | .bk E3 => .ok (.nx E3)
    | .rt r E3 => .ok (.rt r E3) else .ok (.nx p.2)
def setSl (G : List Nat) (i : Nat) (r : Sl) (E : En) : Rs Fl := if i < E.length && !G.contains i then .ok (.nx (E.set i r)) else .bad
variable (G : List Nat)
def asciiS (z : Str) : Bool := z.cps.all (· < 128)
def turnC (kx ky : Str) (c : Nat) : Option Nat := match valV (mergeK [] (zipK kx ky)) (.inr ⟨#[c]⟩) with
  | some (.str ⟨⟨[d]⟩⟩) => some d
  | _ => none
def dictJoinM (i jt jv : Nat) (A B : Mn) (E : En) : Rs Fl := (argsM [A, B] E).bind fun p => match p.1, p.2[jt]? with
  | [.str kx, .str ky], some (.dat (.str z)) => if asciiS kx && asciiS ky && decide (kx.length ≤ 1000) && decide (i < p.2.length) && decide (jv < p.2.length) && decide (z.length ≤ 1000) && z.cps.toList.all (fun c => (turnC kx ky c).isSome) && !G.contains i
      then .ok (.rt (.dat (.str ⟨(z.cps.toList.reverse.map fun c => (turnC kx ky c).getD 0).toArray⟩)) (p.2.set i .no)) else .bad
  | _, _ => .bad
def dictJoin0M (i jt jv : Nat) (A B : Mn) (E : En) : Rs Fl := (argsM [A, B] E).bind fun p => match p.1, p.2[jt]? with
  | [.str kx, .str ky], some (.dat (.str z)) => if asciiS kx && asciiS ky && decide (kx.length ≤ 1000) && decide (i < p.2.length) && decide (jv < p.2.length) && decide (z.length ≤ 1000) && z.cps.toList.all (fun c => (turnC kx ky c).isSome) && !G.contains i
      then .ok (.rt (.dat (.str ⟨(z.cps.toList.map fun c => (turnC kx ky c).getD 0).toArray⟩)) (p.2.set i .no)) else .bad
  | _, _ => .bad
mutual
def semS : IS → En → Rs Fl
  | .ret (.slot i), E => match E[i]? with
    | some (.dat d) => .ok (.rt (.dat d) E)
    | some (.own d) => if G.contains i then .bad else .ok (.rt (.own d) (E.set i .no))
    | _ => .bad
  | .ret e, E => ((semE Γ Cs e).v E).bind fun p => .ok (.rt p.1 p.2)
  | .retN, E => .ok (.rt (.dat .none) E)
  | .retI c i e, E => ((semE Γ Cs c).t E).bind fun p => if p.1 then match p.2[i]? with
      | some (.own d) => if G.contains i then .bad else .ok (.rt (.own d) (p.2.set i .no))
      | _ => .bad else ((semE Γ Cs e).v p.2).bind fun q => .ok (.rt q.1 q.2)
  | .expr e, E => ((semE Γ Cs e).v E).bind fun p => .ok (.nx p.2)
  | .pass, E => .ok (.nx E)
  | .set i e, E => ((semE Γ Cs e).v E).bind fun p => setSl G i p.1 p.2
  | .unpack t e, E => ((semE Γ Cs e).d E).bind fun p => (Rs.of (setT t p.1 p.2)).bind fun E1 => .ok (.nx E1)
  | .par2 i j a b, E => ((semE Γ Cs a).v E).bind fun p => match p.1 with
    | .dat q => ((semE Γ Cs b).v p.2).bind fun r => if i < r.2.length && j < r.2.length && !(i == j) && !G.contains i && !G.contains j then .ok (.nx ((r.2.set i (.dat q)).set j r.1)) else .bad
    | .own q => ((semE Γ Cs b).d p.2).bind fun r => if i < r.2.length && j < r.2.length && !(i == j) && !G.contains i && !G.contains j then .ok (.nx ((r.2.set i (.own q)).set j (.dat r.1))) else .bad
    | _ => .bad
  | .par3 i j l a b c, E => ((semE Γ Cs a).d E).bind fun p => ((semE Γ Cs b).d p.2).bind fun q => ((semE Γ Cs c).v q.2).bind fun r =>
    if i < r.2.length && j < r.2.length && l < r.2.length && !(i == j) && !(i == l) && !(j == l) && !G.contains i && !G.contains j && !G.contains l then .ok (.nx (((r.2.set i (.dat p.1)).set j (.dat q.1)).set l r.1)) else .bad
  | .ifs c y n, E => ((semE Γ Cs c).t E).bind fun p => if p.1 then semSs y p.2 else semSs n p.2
  | .loop t it body, E => match (semI Γ Cs it).own with
    | none => ((semI Γ Cs it).v E).bind fun p => loopF t (semSs body) p.1 p.2
    | some _ => .bad
  | .whl n c body, E => whileF (semE Γ Cs c).t (semSs body) n E
  | .append i e, E => match E[i]? with
    | some (.own (.list _)) => ((semE Γ Cs e).d E).bind fun p => match p.2[i]? with
      | some (.own (.list ds)) => if ds.length < 100000 then .ok (.nx (p.2.set i (.own (.list (ds ++ [p.1]))))) else .bad
      | _ => .bad
    | _ => .bad
  | .reverse i, E => match E[i]? with
    | some (.own (.list ds)) => .ok (.nx (E.set i (.own (.list ds.reverse))))
    | _ => .bad
  | .store i k e, E => if ownAt E i then ((semE Γ Cs e).d E).bind fun p => if ownAt p.2 i then ((semE Γ Cs k).d p.2).bind fun q => match q.2[i]?, q.1 with
      | some (.own (.list ds)), .int k => (Rs.of (ixN ds.length k)).bind fun n => .ok (.nx (q.2.set i (.own (.list (ds.set n p.1)))))
      | _, _ => .bad else .bad else .bad
  | .store2 i j k e, E => if ownAt E i then ((semE Γ Cs e).d E).bind fun p => match p.1 with
    | .tuple [d1, d2] => if ownAt p.2 i then ((semE Γ Cs k).d p.2).bind fun q => match q.2[i]?, q.1 with
      | some (.own (.list ds)), .int k => (Rs.of (ixN ds.length k)).bind fun n => if notOwnB (q.2.set i (.own (.list (ds.set n d1)))) j then .ok (.nx ((q.2.set i (.own (.list (ds.set n d1)))).set j (.dat d2))) else .bad
      | _, _ => .bad else .bad
    | _ => .bad else .bad
  | .aug i op e, E => match E[i]? with
    | some (.dat x) => ((semE Γ Cs e).d E).bind fun p => (Rs.of (augS op x p.1)).bind fun z => setSl G i (.dat z) p.2
    | _ => .bad
  | .freeze i, E => match E[i]? with
    | some (.own d) => if G.contains i then .bad else .ok (.nx (E.set i (.dat d)))
    | some (.dat d) => .ok (.nx E)
    | _ => .bad
  | .forget i, E => if G.contains i then .bad else .ok (.nx (E.set i .no))
  | .dictJoin i jt jv a b, E => dictJoinM G i jt jv (semE Γ Cs a) (semE Γ Cs b) E
  | .dictJoin0 i jt jv a b, E => dictJoin0M G i jt jv (semE Γ Cs a) (semE Γ Cs b) E
  | .brk, E => .ok (.bk E)
  | .cont, E => .ok (.ct E)
def semSs : ISs → En → Rs Fl
  | .nil, E => .ok (.nx E)
  | .cons s ss, E => (semS s E).bind fun f => match f with
    | .nx E1 => semSs ss E1
    | f => .ok f
end
/-- a def's own meaning -/
def outF : Rs Fl → Rs (Sl × En)
  | .ok (.nx E) => .ok (.dat .none, E)
  | .ok (.rt r E) => .ok (r, E)
  | .ok _ => .bad
  | .exc c p => .exc c p
  | .bad => .bad
end Wq
set_option maxHeartbeats 2000000
namespace Wq
open PySem L2

/-! ### a look: data, or a list that is one's own -/
def Lk (K : PySem.W.Frag) (R H : Hp) (v : V) : Sl → Prop
  | .no => False
  | .dat d => Dp K R v d
  | .own (.list ds) => ∃ a vs, v = .ref a ∧ H a = some (.lst vs) ∧ DpAll K R vs ds
  | .own _ => False
theorem RsOk.lk {K : PySem.W.Frag} {F : Fx} {s : St} {E : En} {R H : Hp} {v : V} {x : Sl} (h : RsOk K F s E R H v x) : Lk K R H v x := by
  cases x with
  | no => exact h
  | dat d => exact h
  | own d =>
    obtain ⟨a, rfl, _, h3, _⟩ := h
    cases d with
    | list ds => obtain ⟨vs, h4, h5⟩ := h3; exact ⟨a, vs, rfl, h4, h5⟩
    | _ => exact h3.elim
theorem Lk.pk {K : PySem.W.Frag} {R H : Hp} {v : V} {x : Sl} {d : D} (h : Lk K R H v x) (e : datS x = some d) : Pk K R H v d := by
  cases x with
  | no => exact h.elim
  | dat d' => cases e; exact .dat h
  | own d' =>
    cases e
    cases d with
    | list ds => obtain ⟨a, vs, rfl, h1, h2⟩ := h; exact .own h1 h2
    | _ => exact h.elim
theorem Lk.dp {K : PySem.W.Frag} {R H : Hp} {v : V} {x : Sl} {d : D} (h : Lk K R H v x) (s : Same R H) (e : datS x = some d) : Dp K H v d := (h.pk e).dp s
def WpL (S : Sx) (e : Expr) (E : En) (P : Sl → En → Prop) : Prop :=
  ∀ X, Has S X → ∀ F s R H, Rel S.K F s E R H → ∀ Q : VK,
    (∀ v r E' R' H', Same R R' → Rel S.K F s E' R' H' → Lk S.K R' H' v r → P r E' → Q v H') → RdE X e s H Q
theorem Wp.l {S : Sx} {e : Expr} {E : En} {P : Sl → En → Prop} (h : Wp S e E P) : WpL S e E P := fun X hX F s R H r Q k => h X hX F s R H r Q fun v r E' R' H' h1 h2 h3 h4 => k v r E' R' H' h1 h2 h3.lk h4
theorem WpL.k {S : Sx} {e : Expr} {E : En} {P : D → En → Prop} (h : WpL S e E fun x E' => ∃ d, datS x = some d ∧ P d E') : WpK S e E P := fun X hX F s R H r Q k => h X hX F s R H r Q fun v r E' R' H' h1 h2 h3 ⟨d, e, h4⟩ => k v d E' R' H' h1 h2 (h3.pk e) h4

/-! ### expressions of the forms that are told here -/
def plainE : Expr → Bool
  | .Name .. | .Constant .. | .BinOp .. | .UnaryOp .. | .Compare .. | .BoolOp .. | .IfExp .. | .Tuple .. | .List .. | .Subscript .. | .Call .. | .ListComp .. => true
  | _ => false
theorem plain_star {e : Expr} (h : plainE e = true) (es : List Expr) (env : Env) : starEach (e :: es) env = (false, eval e env) :: starEach es env := by
  cases e <;> first | rfl | cases h
theorem plain_marks {e : Expr} (h : plainE e = true) (op : CmpOp) : behindInMarks op e = false := by
  cases e <;> first | rfl | cases h
theorem plain_fold {e : Expr} (h : plainE e = true) (env : Env) (x : Value) : foldedSetIterable e env x = pure x := by
  cases e <;> first | rfl | cases h
theorem plain_ix {e : Expr} (h : plainE e = true) : PlainIx e := by
  cases e <;> first | (intro _ _; rfl) | cases h
def compE : Expr → Bool
  | .ListComp .. => true
  | _ => false
theorem plain_swap {e : Expr} (h : plainE e = true) (hc : compE e = false) (t : Option Expr) (l : Nat) (env : Env) : swapsWith e t l env = pure false := by
  cases e <;> first | rfl | (simp [plainE] at h; done) | (simp [compE] at hc; done)
def testE : Expr → Bool
  | .UnaryOp .Not .. | .BoolOp .. | .IfExp .. | .Compare .. => true
  | _ => false
theorem plain_test {e : Expr} (h : testE e = false) : plainT e := by
  cases e with
  | UnaryOp op a p => cases op <;> first | (intro _ _; rfl) | cases h
  | _ => first | (intro _ _; rfl) | cases h

structure Snd (S : Sx) (m : Mn) (e : Expr) : Prop where
  pl : plainE e = true
  v : ∀ E r E', m.v E = .ok (r, E') → ∀ P : Sl → En → Prop, P r E' → Wp S e E P
  k : ∀ E r E', m.k E = .ok (r, E') → ∀ P : Sl → En → Prop, P r E' → WpL S e E P
  t : ∀ E b E', m.t E = .ok (b, E') → ∀ P : Bool → En → Prop, P b E' → WpT S e E P
  s : ∀ i, m.s = some i → ∃ x p, e = .Name x p ∧ S.N[i]? = some x ∧ Vis S.sc x ∧ (x == ("__debug__" : Str)) = false ∧ (x == ("__classdict__" : Str)) = false

section
variable {S : Sx} {e a b c : Expr} {A B C : Mn} {E E' : En} {pos p : Pos}
theorem Snd.d (h : Snd S A e) {d : D} (hd : A.d E = .ok (d, E')) {P : D → En → Prop} (hP : P d E') : WpD S e E P := by
  obtain ⟨⟨r, E1⟩, h1, h2⟩ := Rs.bind_ok hd
  obtain ⟨d', h3, h4⟩ := Rs.bind_ok h2
  have h3 := Rs.of_ok h3
  cases h4
  refine Wp.d (h.v E r E1 h1 _ ?_)
  have : r.d = d := by
    cases r with
    | no => cases h3
    | dat q => exact Option.some.inj h3
    | own q => exact Option.some.inj h3
  rw [this]
  exact hP
theorem Snd.wk (h : Snd S A e) {r : Sl} {d : D} (hk : A.k E = .ok (r, E')) (hd : datS r = some d) {P : D → En → Prop} (hP : P d E') : WpK S e E P :=
  WpL.k (h.k E r E' hk _ ⟨d, hd, hP⟩)
theorem tru_some {r : Rs (Sl × En)} {b : Bool} (h : truthM r = .ok (b, E')) : ∃ x, r = .ok (x, E') ∧ truthS x = some b := by
  obtain ⟨⟨x, E1⟩, h1, h2⟩ := Rs.bind_ok h
  obtain ⟨b', h3, h4⟩ := Rs.bind_ok h2
  cases h4
  exact ⟨x, h1, Rs.of_ok h3⟩
/-- a look's truth -/
theorem wt_look {P : Bool → En → Prop} {b : Bool} {x : Sl} (h : ∀ P : Sl → En → Prop, P x E' → WpL S e E P) (hx : truthS x = some b) (hP : P b E') (he : testE e = false) : WpT S e E P := by
  cases x with
  | no => cases hx
  | dat d =>
    cases d with
    | bool t =>
      cases hx
      intro X hX F s R H r Q k
      refine ⟨_, pt_val pe_rd (plain_test he _), ?_⟩
      refine h (fun r E1 => r = .dat (.bool b) ∧ E1 = E') ⟨rfl, rfl⟩ X hX F s R H r _ fun v1 r1 E1 R1 H1 s1 q1 p1 ⟨e1, e2⟩ => ?_
      subst e1 e2
      cases p1
      exact ⟨b, rfl, k b E1 R1 H1 s1 q1 hP⟩
    | list ds => cases hx; exact wt_some (WpL.k (h _ ⟨.list ds, rfl, ds, rfl, hP⟩)) (plain_test he)
    | _ => cases hx
  | own d =>
    cases d with
    | list ds => cases hx; exact wt_some (WpL.k (h _ ⟨.list ds, rfl, ds, rfl, hP⟩)) (plain_test he)
    | _ => cases hx
/-- a meaning by its value alone -/
theorem snd_of {f : RE} (pl : plainE e = true) (he : testE e = false) (h : ∀ E r E', f E = .ok (r, E') → ∀ P : Sl → En → Prop, P r E' → Wp S e E P) : Snd S (Mn.of f) e where
  pl := pl
  v := h
  k := fun E r E' q P hP => (h E r E' q P hP).l
  t := fun E b E' q P hP => by
    obtain ⟨x, h1, h2⟩ := tru_some q
    exact wt_look (fun P hP => (h E x E' h1 P hP).l) h2 hP he
  s := fun i q => by cases q
theorem snd_ofV {f : RE} (pl : plainE e = true) (h : ∀ E r E', f E = .ok (r, E') → ∀ P : Sl → En → Prop, P r E' → Wp S e E P) : Snd S (Mn.ofV f) e where
  pl := pl
  v := h
  k := fun E r E' q P hP => (h E r E' q P hP).l
  t := fun E b E' q P hP => by cases q
  s := fun i q => by cases q

/-! ### names, constants -/
theorem snd_slot {x : Str} {i : Nat} (hN : S.N[i]? = some x) (hv : Vis S.sc x) (hd : (x == ("__debug__" : Str)) = false) (hcd : (x == ("__classdict__" : Str)) = false) : Snd S (slotM i) (.Name x p) := by
  have hk : ∀ E r E', slotK i E = .ok (r, E') → ∀ P : Sl → En → Prop, P r E' → WpL S (.Name x p) E P := fun E r E' q P hP => by
    unfold slotK at q
    split at q
    · rename_i d he
      cases q
      exact (WpD.wp (wd_name hN hv he hP hd hcd)).l
    · rename_i d he
      cases q
      intro X hX F s R H r Q k
      refine ⟨_, pe_var (i := i) (by rw [hX.N]; exact hN) (by rw [hX.sc]; exact hv) hd hcd, ?_⟩
      obtain ⟨a, h1, h2, ⟨vs, h3, h4⟩, _⟩ := r.own i _ he
      exact ⟨_, h1, k _ (.own (.list d)) E R H (Same.refl _) r ⟨a, vs, rfl, h3, h4⟩ hP⟩
    · cases q
  exact {
    pl := rfl
    v := fun E r E' q P hP => by
      have q : slotV i E = .ok (r, E') := q
      unfold slotV at q
      split at q
      · rename_i d he
        cases q
        exact WpD.wp (wd_name hN hv he hP hd hcd)
      · cases q
    k := hk
    t := fun E b E' q P hP => by
      obtain ⟨y, h1, h2⟩ := tru_some q
      exact wt_look (fun P hP => hk E y E' h1 P hP) h2 hP rfl
    s := fun j q => by
      cases q
      exact ⟨x, p, rfl, hN, hv, hd, hcd⟩ }
theorem snd_int {i : Int} {j} : Snd S (.ofD (.int i)) (.Constant (.int i) j p) := snd_of rfl rfl fun E r E' q P hP => by cases q; exact WpD.wp (wd_int hP)
theorem snd_str {i : Str} {j} : Snd S (.ofD (.str i)) (.Constant (.str i) j p) := snd_of rfl rfl fun E r E' q P hP => by cases q; exact WpD.wp (wd_str hP)
theorem snd_bl {i : Bool} {j} : Snd S (.ofD (.bool i)) (.Constant (.bool i) j p) := snd_of rfl rfl fun E r E' q P hP => by cases q; exact WpD.wp (wd_bl hP)
theorem snd_non {j} : Snd S (.ofV fun E => .ok (.dat .none, E)) (.Constant .none j p) := snd_ofV rfl fun E r E' q P hP => by cases q; exact WpD.wp (wd_non hP)

/-! ### arguments -/
inductive SndA (S : Sx) : List Mn → List Expr → Prop
  | nil : SndA S [] []
  | cons {m : Mn} {e : Expr} {ms : List Mn} {es : List Expr} : Snd S m e → SndA S ms es → SndA S (m :: ms) (e :: es)
theorem SndA.run : ∀ {ms : List Mn} {es : List Expr}, SndA S ms es → ∀ {E E' : En} {ds : List D}, argsM ms E = .ok (ds, E') → ∀ {P : List D → En → Prop}, P ds E' → WpA S es E P
  | _, _, .nil, E, E', ds, q, P, hP => by cases q; exact wa_nil hP
  | _, _, .cons h t, E, E', ds, q, P, hP => by
    obtain ⟨⟨d, E1⟩, h1, h2⟩ := Rs.bind_ok q
    obtain ⟨⟨ds', E2⟩, h3, h4⟩ := Rs.bind_ok h2
    cases h4
    exact wa_cons (h.d h1 (t.run h3 hP)) (plain_star h.pl _)

/-! ### two things -/
theorem Snd.pair (hA : Snd S A a) (hB : Snd S B b) {x1 x2 : Sl} (h : pairM A B E = .ok ((x1, x2), E')) {X : Cx} (hX : Has S X) {F : Fx} {s : St} {R H : Hp} (r0 : Rel S.K F s E R H) {Q : V → V → Hp → Prop}
    (k : ∀ v1 v2 R' H', Same R R' → Rel S.K F s E' R' H' → Lk S.K R' H' v1 x1 → Lk S.K R' H' v2 x2 → Q v1 v2 H') : RdE X a s H fun v1 H1 => RdE X b s H1 fun v2 H2 => Q v1 v2 H2 := by
  have hV : pairV A B E = .ok ((x1, x2), E') → RdE X a s H fun v1 H1 => RdE X b s H1 fun v2 H2 => Q v1 v2 H2 := fun h => by
    obtain ⟨⟨r1, E1⟩, h1, h2⟩ := Rs.bind_ok h
    obtain ⟨⟨r2, E2⟩, h3, h4⟩ := Rs.bind_ok h2
    cases h4
    refine hA.v E r1 E1 h1 (fun r E' => r = r1 ∧ E' = E1) ⟨rfl, rfl⟩ X hX F s R H r0 _ fun v1 y1 E1' R1 H1 s1 q1 p1 ⟨e1, e2⟩ => ?_
    subst e1 e2
    refine hB.k E1' r2 E2 h3 (fun r E' => r = r2 ∧ E' = E2) ⟨rfl, rfl⟩ X hX ⟨H1, R1, owners s E1'⟩ s R1 H1 q1.nest _ fun v2 y2 E2' R2 H2 s2 q2 p2 ⟨e1, e2⟩ => ?_
    subst e1 e2
    refine k v1 v2 R2 H2 (s1.trans s2) (q1.unnest q2) ?_ p2
    cases y1 with
    | no => exact p1
    | dat d => exact dp_mono s2 _ _ p1
    | own d =>
      obtain ⟨ad, rfl, h5, h6, h7, h8⟩ := p1
      cases d with
      | list ds =>
        obtain ⟨vs, h9, h10⟩ := h6
        refine ⟨ad, vs, rfl, q2.keep ad _ h9 fun p hp z => ?_, dpAll_mono s2 _ _ h10⟩
        obtain ⟨j, c⟩ := p
        obtain ⟨⟨d', g1⟩, g2⟩ := mem_owners.mp hp
        have z : c = ad := z
        subst z
        exact h8 j d' g1 g2
      | _ => exact h6.elim
  unfold pairM at h
  split at h
  · rename_i i hs
    obtain ⟨x, p, rfl, hN, hv, hd, hcd⟩ := hA.s i hs
    split at h
    · rename_i ho
      obtain ⟨⟨r2, E2⟩, h1, h2⟩ := Rs.bind_ok h
      unfold ownAt at ho
      split at ho
      · rename_i d0 he
        obtain ⟨ad, g1, _, _, _⟩ := r0.own i d0 he
        have h2 : (match E2[i]? with
          | some (.own (.list d)) => Rs.ok ((Sl.own (.list d), r2), E2)
          | _ => .bad) = .ok ((x1, x2), E') := h2
        split at h2
        · rename_i d he2
          cases h2
          refine ⟨_, pe_var (i := i) (by rw [hX.N]; exact hN) (by rw [hX.sc]; exact hv) hd hcd, _, g1, ?_⟩
          refine hB.k E x2 E' h1 (fun r E2 => r = x2 ∧ E2 = E') ⟨rfl, rfl⟩ X hX F s R H r0 _ fun v2 y2 E2' R2 H2 s2 q2 p2 ⟨e1, e2⟩ => ?_
          subst e1 e2
          obtain ⟨ad', g1', _, ⟨vs, g3, g4⟩, _⟩ := q2.own i _ he2
          rw [g1] at g1'
          cases g1'
          exact k _ v2 R2 H2 s2 q2 ⟨ad, vs, rfl, g3, g4⟩ p2
        · cases h2
      · cases ho
    · exact hV h
  · exact hV h
end
end Wq
set_option maxHeartbeats 2000000
namespace Wq
open PySem L2
section
variable {S : Sx} {e a b c : Expr} {A B C : Mn} {E E' : En} {pos p : Pos}

/-! ### operators -/
def binF (op : Operator) (A B : Mn) : RE := fun E => (pairM A B E).bind fun p => (Rs.of (binS op p.1.1 p.1.2)).bind fun x => .ok (x, p.2)
/-- what an operator is asked of two looked-at things -/
def OpL (S : Sx) (r : R2) (x1 x2 x : Sl) : Prop := ∀ F s E R H v1 v2, Rel S.K F s E R H → Lk S.K R H v1 x1 → Lk S.K R H v2 x2 → ∀ Q : VK,
  (∀ v R' H', Same R R' → Rel S.K F s E R' H' → RsOk S.K F s E R' H' v x → Q v H') → r v1 v2 H Q
theorem bin_by {op : Operator} (hA : Snd S A a) (hB : Snd S B b) {x1 x2 x : Sl} (hp : pairM A B E = .ok ((x1, x2), E')) (ho : ∀ X, Has S X → ∃ r, OpR X (binaryOp op) r ∧ OpL S r x1 x2 x) {P : Sl → En → Prop} (hP : P x E') : Wp S (.BinOp a op b pos) E P := fun X hX F s R H r0 Q k => by
  obtain ⟨r, h1, h2⟩ := ho X hX
  refine ⟨_, pe_op h1 pe_rd pe_rd, ?_⟩
  exact hA.pair hB hp hX r0 fun v1 v2 R' H' s1 r1 l1 l2 => h2 F s E' R' H' v1 v2 r1 l1 l2 Q fun v R2 H2 s2 r2 q => k v x E' R2 H2 (s1.trans s2) r2 q hP
theorem opl_dat {r : R2} {x1 x2 : Sl} {d : D} (h : ∀ R H v1 v2, Same R H → Lk S.K R H v1 x1 → Lk S.K R H v2 x2 → ∃ v, Dp S.K R v d ∧ ∀ Q : VK, Q v H → r v1 v2 H Q) : OpL S r x1 x2 (.dat d) := fun F s E R H v1 v2 r0 l1 l2 Q k => by
  obtain ⟨v, h1, h2⟩ := h R H v1 v2 r0.sub l1 l2
  exact h2 Q (k v R H (Same.refl _) r0 h1)
theorem opl_int {C : Int → Int → Prop} {g : Int → Int → V} {i j : Int} {d : D} (hc : C i j) (hg : ∀ R, Dp S.K R (g i j) d) : OpL S (rI C g) (.dat (.int i)) (.dat (.int j)) (.dat d) := opl_dat fun R H v1 v2 _ l1 l2 => by
  cases l1; cases l2
  exact ⟨_, hg R, fun Q q => ⟨i, j, rfl, rfl, hc, q⟩⟩
theorem opl_int0 {g : Int → Int → V} {i j : Int} {d : D} (hg : ∀ R, Dp S.K R (g i j) d) : OpL S (rI0 g) (.dat (.int i)) (.dat (.int j)) (.dat d) := opl_dat fun R H v1 v2 _ l1 l2 => by
  cases l1; cases l2
  exact ⟨_, hg R, fun Q q => ⟨i, j, rfl, rfl, q⟩⟩
theorem bin_op {op : Operator} {x1 x2 x : Sl} (h : binS op x1 x2 = some x) (X : Cx) (hX : Has S X) : ∃ r, OpR X (binaryOp op) r ∧ OpL S r x1 x2 x := by
  unfold binS at h
  split at h
  · cases h; exact ⟨_, op_add, opl_int0 fun _ => .int _⟩
  · split at h
    · rename_i hl
      cases h
      refine ⟨_, op_add_str, opl_dat fun R H v1 v2 _ l1 l2 => ?_⟩
      cases l1; cases l2
      exact ⟨_, .str _, fun Q q => ⟨_, _, rfl, rfl, Nat.le_trans hl (by decide), q⟩⟩
    · cases h
  · split at h
    · rename_i xs ys hl
      cases h
      refine ⟨_, op_catA, fun F s E R H v1 v2 r l1 l2 Q k => ?_⟩
      cases l1 with
      | tup q1 d1 =>
        cases l2 with
        | tup q2 d2 =>
          rw [hX.K]
          refine ⟨_, _, _, _, rfl, rfl, same_t r.sub q1, same_t r.sub q2, Nat.le_trans (by rw [dpAll_len d1, dpAll_len d2]; exact hl) (by decide), fun e => ?_, fun _ e => ?_, fun _ _ q hq => ?_⟩
          · subst e
            cases d1
            exact k _ R H (Same.refl _) r (Dp.tup q2 d2)
          · subst e
            cases d2
            have : RsOk S.K F s E R H (.ref _) (.dat (.tuple xs)) := Dp.tup q1 d1
            rw [List.append_nil] at k
            exact k _ R H (Same.refl _) r this
          · refine k _ (upd R q (.tup _)) _ (same_upd (r.freeR hq)) (r.growR hq) (Dp.tup (SqT.of upd_same) (dpAll_mono (same_upd (r.freeR hq)) _ _ (dpAll_app d1 d2)))
    · cases h
  · split at h
    · rename_i xs ys hl
      cases h
      refine ⟨_, op_cat, fun F s E R H v1 v2 r l1 l2 Q k => ?_⟩
      obtain ⟨a1, vs1, rfl, h1, g1⟩ := l1
      obtain ⟨a2, vs2, rfl, h2, g2⟩ := l2
      refine ⟨a1, a2, vs1, vs2, rfl, rfl, h1, h2, Nat.le_trans (by rw [dpAll_len g1, dpAll_len g2]; exact hl) (by decide), fun q hq => ?_⟩
      exact k _ R _ (Same.refl _) (r.grow hq) ⟨q, rfl, r.freeR hq, ⟨_, upd_same, dpAll_app g1 g2⟩, r.free0 hq, own_no r hq⟩
    · cases h
  · cases h; exact ⟨_, op_sub, opl_int0 fun _ => .int _⟩
  · split at h
    · rename_i hc
      cases h
      exact ⟨_, op_mul, opl_int (by unfold CMul; omega) fun _ => .int _⟩
    · cases h
  · split at h
    · rename_i z j hc
      cases h
      refine ⟨_, op_mulS, opl_dat fun R H v1 v2 _ l1 l2 => ?_⟩
      cases l1; cases l2
      refine ⟨_, .str _, fun Q q => ⟨z, j.toNat, rfl, ?_, by omega, hc.2.2, q⟩⟩
      rw [Int.toNat_of_nonneg hc.1]
    · cases h
  · split at h
    · rename_i z j hc
      cases h
      refine ⟨_, op_rep, fun F s E R H v1 v2 r l1 l2 Q k => ?_⟩
      obtain ⟨a1, vs1, rfl, h1, g1⟩ := l1
      cases l2
      have hl : vs1.length = z.length := dpAll_len g1
      refine ⟨a1, j, vs1, rfl, rfl, h1, by omega, by omega, ?_, fun q hq => ?_⟩
      · rw [hl]
        exact Nat.le_trans (Nat.mul_le_mul hc.2.2 (by omega : j.toNat ≤ 1000)) (by decide)
      · have g : ∀ n, DpAll S.K R (List.replicate n vs1).flatten (List.replicate n z).flatten := fun n => by
          induction n with
          | zero => exact .nil
          | succ n ih => rw [List.replicate_succ, List.replicate_succ, List.flatten_cons, List.flatten_cons]; exact dpAll_app g1 ih
        exact k _ R _ (Same.refl _) (r.grow hq) ⟨q, rfl, r.freeR hq, ⟨_, upd_same, g _⟩, r.free0 hq, own_no r hq⟩
    · cases h
  · split at h
    · rename_i hc
      cases h
      exact ⟨_, op_fdiv, opl_int hc fun _ => .int _⟩
    · cases h
  · split at h
    · rename_i hc
      cases h
      exact ⟨_, op_mod, opl_int hc fun _ => .int _⟩
    · cases h
  · split at h
    · rename_i hc
      cases h
      exact ⟨_, op_pow, opl_int (by unfold CPow; omega) fun _ => .int _⟩
    · cases h
  · cases h
theorem snd_bin {op : Operator} (hA : Snd S A a) (hB : Snd S B b) : Snd S (.of (binF op A B)) (.BinOp a op b pos) := snd_of rfl rfl fun E r E' q P hP => by
  obtain ⟨⟨⟨x1, x2⟩, E1⟩, h1, h2⟩ := Rs.bind_ok q
  obtain ⟨x, h3, h4⟩ := Rs.bind_ok h2
  cases h4
  exact bin_by hA hB h1 (bin_op (Rs.of_ok h3)) hP
theorem snd_neg (hA : Snd S A a) : Snd S (.ofV fun E => (A.d E).bind fun p => match p.1 with
    | .int i => .ok (.dat (.int (-i)), p.2)
    | _ => .bad) (.UnaryOp .USub a pos) := snd_ofV rfl fun E r E' q P hP => by
  obtain ⟨⟨d, E1⟩, h1, h2⟩ := Rs.bind_ok q
  cases d with
  | int i => cases h2; exact WpD.wp (wd_neg (hA.d h1 ⟨i, rfl, hP⟩))
  | _ => cases h2

/-! ### comparisons -/
theorem eqv_flat {K : PySem.W.Frag} {R R' : Hp} {v1 v2 : V} {d1 d2 : D} (p1 : Dp K R v1 d1) (p2 : Dp K R' v2 d2) (f1 : flatD d1 = true) (f2 : flatD d2 = true) : eqV v1 v2 = PyData.eqv d1 d2 := by
  cases p1 <;> cases p2 <;> first | rfl | (simp [flatD] at f1; done) | (simp [flatD] at f2; done) | simp [eqV, PyData.eqv]
theorem flat_v {K : PySem.W.Frag} {R : Hp} {v : V} {d : D} (p : Dp K R v d) (f : flatD d = true) : flatV v = true := by
  cases p <;> first | rfl | cases f
theorem in_flat {K : PySem.W.Frag} {R : Hp} {v : V} {d : D} (p : Dp K R v d) (f : flatD d = true) : ∀ {vs : List V} {ds : List D}, DpAll K R vs ds → ds.all flatD = true → vs.all flatV = true ∧ inV v vs = ds.any fun z => PyData.eqv z d
  | _, _, .nil, _ => ⟨rfl, rfl⟩
  | _, _, .cons h t, q => by
    rw [List.all_cons, Bool.and_eq_true] at q
    obtain ⟨i1, i2⟩ := in_flat p f t q.2
    refine ⟨by rw [List.all_cons, flat_v h q.1, i1]; rfl, ?_⟩
    unfold inV at i2 ⊢
    rw [List.any_cons, List.any_cons, i2, eqv_flat h p q.1 f]
def CmpL (S : Sx) (r : R2) (d1 d2 : D) (t : Bool) : Prop := ∀ F s E R H v1 v2, Rel S.K F s E R H → Pk S.K R H v1 d1 → Pk S.K R H v2 d2 → ∀ Q : VK, Q (.bl t) H → r v1 v2 H Q
theorem pk_flat {K : PySem.W.Frag} {R H : Hp} {v : V} {d : D} (h : Pk K R H v d) (f : flatD d = true) : Dp K R v d := by
  cases h with
  | dat h => exact h
  | own h1 h2 => cases f
theorem in_op {d1 d2 : D} {t neg : Bool} (h : inS d1 d2 = some t) (X : Cx) (hX : Has S X) : ∃ r, OpR X (compareOp (if neg then .NotIn else .In)) r ∧ CmpL S r d1 d2 (if neg then !t else t) := by
  unfold inS at h
  split at h
  · split at h
    · rename_i hs
      rw [Bool.and_eq_true] at hs
      cases h
      cases neg with
      | false => exact ⟨_, op_inD (by have := hX.room.un; omega), fun F s E R H v1 v2 r p1 p2 Q q => by rw [hX.K]; exact ⟨_, _, p1.dp r.sub, p2.dp r.sub, hs.1, hs.2, q⟩⟩
      | true => exact ⟨_, op_notInD (by have := hX.room.un; omega), fun F s E R H v1 v2 r p1 p2 Q q => by rw [hX.K]; exact ⟨_, _, p1.dp r.sub, p2.dp r.sub, hs.1, hs.2, q⟩⟩
    · cases h
  · split at h
    · rename_i hs
      rw [Bool.and_eq_true] at hs
      cases h
      have key : ∀ (ng : Bool) (F : Fx) (s : St) (E : En) (R H : Hp) (v1 v2 : V), Rel S.K F s E R H → Pk S.K R H v1 d1 → Pk S.K R H v2 (.tuple _) → ∀ Q : VK, Q (.bl (if ng then !_ else _)) H → rIn X.K ng v1 v2 H Q := fun ng F s E R H v1 v2 r p1 p2 Q q => by
        have p1 := pk_flat p1 hs.1
        cases p2 with
        | dat p2 =>
          cases p2 with
          | tup q1 q2 =>
            obtain ⟨i1, i2⟩ := in_flat p1 hs.1 q2 hs.2
            refine ⟨_, _, rfl, .inr (by rw [hX.K]; exact same_t r.sub q1), flat_v p1 hs.1, i1, ?_⟩
            rw [i2]
            exact q
      cases neg with
      | false => exact ⟨_, op_in_seq, fun F s E R H v1 v2 r p1 p2 Q q => key false F s E R H v1 v2 r p1 p2 Q q⟩
      | true => exact ⟨_, op_notIn_seq, fun F s E R H v1 v2 r p1 p2 Q q => key true F s E R H v1 v2 r p1 p2 Q q⟩
    · cases h
  · rename_i c z
    cases h
    cases neg with
    | false => exact ⟨_, op_in_sign, fun F s E R H v1 v2 r p1 p2 Q q => by
        have p1 := pk_flat p1 rfl
        have p2 := pk_flat p2 rfl
        cases p1; cases p2
        exact ⟨c, z, rfl, rfl, q⟩⟩
    | true => exact ⟨_, op_notIn_sign, fun F s E R H v1 v2 r p1 p2 Q q => by
        have p1 := pk_flat p1 rfl
        have p2 := pk_flat p2 rfl
        cases p1; cases p2
        exact ⟨c, z, rfl, rfl, q⟩⟩
  · cases h
theorem is_no {K : PySem.W.Frag} {R H : Hp} {v : V} {d : D} (h : Pk K R H v d) : decide (v = V.non) = isNo d := by
  cases h with
  | dat h => cases h <;> simp [isNo]
  | own h1 h2 => simp [isNo]
theorem scal_flat {a b : D} (h : scalD a b = true) : flatD a = true ∧ flatD b = true := by
  cases a <;> cases b <;> first | exact ⟨rfl, rfl⟩ | cases h
theorem cmp_op {op : CmpOp} {d1 d2 : D} {t : Bool} (h : cmpDD op d1 d2 = some t) (X : Cx) (hX : Has S X) : ∃ r, OpR X (compareOp op) r ∧ CmpL S r d1 d2 t := by
  unfold cmpDD at h
  split at h
  · unfold eqS at h
    split at h
    · rename_i hs
      cases h
      obtain ⟨f1, f2⟩ := scal_flat hs
      exact ⟨_, op_eq, fun F s E R H v1 v2 r p1 p2 Q q => by
        obtain ⟨e1, e2⟩ := scal_same (pk_flat p1 f1) (pk_flat p2 f2) hs
        exact ⟨e1, by rw [e2]; exact q⟩⟩
    · split at h
      · rename_i hs
        rw [Bool.and_eq_true] at hs
        cases h
        exact ⟨_, op_eqD hX.room.units, fun F s E R H v1 v2 r p1 p2 Q q => by rw [hX.K]; exact ⟨_, _, p1.dp r.sub, p2.dp r.sub, hs.1, hs.2, q⟩⟩
      · cases h
  · unfold eqS at h
    split at h
    · rename_i hs
      cases h
      obtain ⟨f1, f2⟩ := scal_flat hs
      exact ⟨_, op_ne, fun F s E R H v1 v2 r p1 p2 Q q => by
        obtain ⟨e1, e2⟩ := scal_same (pk_flat p1 f1) (pk_flat p2 f2) hs
        exact ⟨e1, by rw [e2]; exact q⟩⟩
    · split at h
      · rename_i hs
        rw [Bool.and_eq_true] at hs
        cases h
        exact ⟨_, op_neD hX.room.units, fun F s E R H v1 v2 r p1 p2 Q q => by rw [hX.K]; exact ⟨_, _, p1.dp r.sub, p2.dp r.sub, hs.1, hs.2, q⟩⟩
      · cases h
  · exact in_op (neg := false) h X hX
  · cases q : inS d1 d2 with
    | none => rw [q] at h; cases h
    | some t' =>
      rw [q] at h
      cases h
      exact in_op (neg := true) q X hX
  · cases h
    exact ⟨_, op_isN, fun F s E R H v1 v2 r p1 p2 Q q => by
      have p2 := pk_flat p2 rfl
      cases p2
      exact ⟨rfl, by rw [is_no p1]; exact q⟩⟩
  · cases h
    exact ⟨_, op_notN, fun F s E R H v1 v2 r p1 p2 Q q => by
      have p2 := pk_flat p2 rfl
      cases p2
      exact ⟨rfl, by rw [is_no p1]; exact q⟩⟩
  · cases h; exact ⟨_, op_lt, fun F s E R H v1 v2 r p1 p2 Q q => by cases pk_flat p1 rfl; cases pk_flat p2 rfl; exact ⟨_, _, rfl, rfl, q⟩⟩
  · cases h; exact ⟨_, op_le, fun F s E R H v1 v2 r p1 p2 Q q => by cases pk_flat p1 rfl; cases pk_flat p2 rfl; exact ⟨_, _, rfl, rfl, q⟩⟩
  · cases h; exact ⟨_, op_gt, fun F s E R H v1 v2 r p1 p2 Q q => by cases pk_flat p1 rfl; cases pk_flat p2 rfl; exact ⟨_, _, rfl, rfl, q⟩⟩
  · cases h; exact ⟨_, op_ge, fun F s E R H v1 v2 r p1 p2 Q q => by cases pk_flat p1 rfl; cases pk_flat p2 rfl; exact ⟨_, _, rfl, rfl, q⟩⟩
  · cases h; exact ⟨_, op_lt_str, fun F s E R H v1 v2 r p1 p2 Q q => by cases pk_flat p1 rfl; cases pk_flat p2 rfl; exact ⟨_, _, rfl, rfl, q⟩⟩
  · cases h
theorem cmp_ok {op : CmpOp} {t : Bool} (q : cmpM op A B E = .ok (t, E')) : ∃ x1 x2 d1 d2, pairM A B E = .ok ((x1, x2), E') ∧ datS x1 = some d1 ∧ datS x2 = some d2 ∧ cmpDD op d1 d2 = some t := by
  obtain ⟨⟨⟨x1, x2⟩, E1⟩, h1, h2⟩ := Rs.bind_ok q
  obtain ⟨x, h3, h4⟩ := Rs.bind_ok h2
  cases h4
  have h3 := Rs.of_ok h3
  unfold cmpS at h3
  split at h3
  · rename_i d1 d2 e1 e2
    exact ⟨x1, x2, d1, d2, h1, e1, e2, h3⟩
  · cases h3
theorem cmp_v {op : CmpOp} (hA : Snd S A a) (hB : Snd S B b) {t : Bool} (q : cmpM op A B E = .ok (t, E')) {P : D → En → Prop} (hP : P (.bool t) E') : WpD S (.Compare a [op] [b] pos) E P := fun X hX F s R H r0 Q k => by
  obtain ⟨x1, x2, d1, d2, h1, e1, e2, h3⟩ := cmp_ok q
  obtain ⟨r, g1, g2⟩ := cmp_op h3 X hX
  refine ⟨_, pe_cmpR g1 pe_rd pe_rd (plain_marks hB.pl _), ?_⟩
  exact hA.pair hB h1 hX r0 fun v1 v2 R' H' s1 r1 l1 l2 => g2 F s E' R' H' v1 v2 r1 (l1.pk e1) (l2.pk e2) Q (k _ _ E' R' H' s1 r1 (.bl t) hP)
theorem cmp_t {op : CmpOp} (hA : Snd S A a) (hB : Snd S B b) {t : Bool} (q : cmpM op A B E = .ok (t, E')) {P : Bool → En → Prop} (hP : P t E') : WpT S (.Compare a [op] [b] pos) E P := fun X hX F s R H r0 Q k => by
  obtain ⟨x1, x2, d1, d2, h1, e1, e2, h3⟩ := cmp_ok q
  obtain ⟨r, g1, g2⟩ := cmp_op h3 X hX
  refine ⟨_, pt_cmpR g1 pe_rd pe_rd (plain_marks hB.pl _), ?_⟩
  exact hA.pair hB h1 hX r0 fun v1 v2 R' H' s1 r1 l1 l2 => g2 F s E' R' H' v1 v2 r1 (l1.pk e1) (l2.pk e2) _ ⟨t, rfl, k t E' R' H' s1 r1 hP⟩
def cmpF (op : CmpOp) (A B : Mn) : Mn := ⟨none, fun E => (cmpM op A B E).bind fun p => .ok (.dat (.bool p.1), p.2), fun E => (cmpM op A B E).bind fun p => .ok (.dat (.bool p.1), p.2), fun E => cmpM op A B E⟩
theorem snd_cmp {op : CmpOp} (hA : Snd S A a) (hB : Snd S B b) : Snd S (cmpF op A B) (.Compare a [op] [b] pos) := by
  have hv : ∀ E r E', (cmpF op A B).v E = .ok (r, E') → ∀ P : Sl → En → Prop, P r E' → Wp S (.Compare a [op] [b] pos) E P := fun E r E' q P hP => by
    obtain ⟨⟨t, E1⟩, h1, h2⟩ := Rs.bind_ok q
    cases h2
    exact WpD.wp (cmp_v hA hB h1 hP)
  exact { pl := rfl, v := hv, k := fun E r E' q P hP => (hv E r E' q P hP).l, t := fun E t E' q P hP => cmp_t hA hB q hP, s := fun i q => by cases q }
end
end Wq
set_option maxHeartbeats 2000000
namespace Wq
open PySem L2
section
variable {S : Sx} {e a b c : Expr} {es : List Expr} {A B C : Mn} {ms : List Mn} {E E' : En} {pos p : Pos}

/-! ### and, or, not, a if c else b -/
theorem and_t : ∀ {ms : List Mn} {es : List Expr}, SndA S ms es → ∀ {E E' : En} {t : Bool}, andT ms E = .ok (t, E') → ∀ {P : Bool → En → Prop}, P t E' → WpW S (.BoolOp .And es pos) E P
  | _, _, .nil, E, E', t, q, P, hP => by cases q
  | _, _, .cons h .nil, E, E', t, q, P, hP => ww_and1 (h.t E t E' q P hP)
  | _, _, .cons h (.cons h2 r), E, E', t, q, P, hP => by
    obtain ⟨⟨t1, E1⟩, h1, h3⟩ := Rs.bind_ok q
    refine ww_and (h.t E t1 E1 h1 _ ⟨fun e => ?_, fun e => ?_⟩)
    · subst e
      exact and_t (.cons h2 r) (by simpa using h3) hP
    · subst e
      have h3 : Rs.ok (false, E1) = .ok (t, E') := by simpa using h3
      cases h3
      exact hP
theorem or_t : ∀ {ms : List Mn} {es : List Expr}, SndA S ms es → ∀ {E E' : En} {t : Bool}, orT ms E = .ok (t, E') → ∀ {P : Bool → En → Prop}, P t E' → WpW S (.BoolOp .Or es pos) E P
  | _, _, .nil, E, E', t, q, P, hP => by cases q
  | _, _, .cons h .nil, E, E', t, q, P, hP => ww_or1 (h.t E t E' q P hP)
  | _, _, .cons h (.cons h2 r), E, E', t, q, P, hP => by
    obtain ⟨⟨t1, E1⟩, h1, h3⟩ := Rs.bind_ok q
    refine ww_or (h.t E t1 E1 h1 _ ⟨fun e => ?_, fun e => ?_⟩)
    · subst e
      have h3 : Rs.ok (true, E1) = .ok (t, E') := by simpa using h3
      cases h3
      exact hP
    · subst e
      exact or_t (.cons h2 r) (by simpa using h3) hP
theorem and_v : ∀ {ms : List Mn} {es : List Expr}, SndA S ms es → ∀ {E E' : En} {x : Sl}, andM ms E = .ok (x, E') → ∀ {P : D → En → Prop}, (∀ d, x = .dat d → P d E') → WpD S (.BoolOp .And es pos) E P
  | _, _, .nil, E, E', t, q, P, hP => by cases q
  | _, _, .cons h .nil, E, E', t, q, P, hP => by
    obtain ⟨⟨d, E1⟩, h1, h3⟩ := Rs.bind_ok q
    cases h3
    exact wd_one (h.d h1 (hP _ rfl))
  | _, _, .cons h (.cons h2 r), E, E', t, q, P, hP => by
    obtain ⟨⟨d, E1⟩, h1, h3⟩ := Rs.bind_ok q
    cases d with
    | bool t1 =>
      refine wd_and (h.d h1 ⟨t1, rfl, fun e => ?_, fun e => ?_⟩)
      · subst e
        exact and_v (.cons h2 r) h3 hP
      · subst e
        cases h3
        exact hP _ rfl
    | _ => cases h3
theorem or_v : ∀ {ms : List Mn} {es : List Expr}, SndA S ms es → ∀ {E E' : En} {x : Sl}, orM ms E = .ok (x, E') → ∀ {P : D → En → Prop}, (∀ d, x = .dat d → P d E') → WpD S (.BoolOp .Or es pos) E P
  | _, _, .nil, E, E', t, q, P, hP => by cases q
  | _, _, .cons h .nil, E, E', t, q, P, hP => by
    obtain ⟨⟨d, E1⟩, h1, h3⟩ := Rs.bind_ok q
    cases h3
    exact wd_one (h.d h1 (hP _ rfl))
  | _, _, .cons h (.cons h2 r), E, E', t, q, P, hP => by
    obtain ⟨⟨d, E1⟩, h1, h3⟩ := Rs.bind_ok q
    cases d with
    | bool t1 =>
      refine wd_or (h.d h1 ⟨t1, rfl, fun e => ?_, fun e => ?_⟩)
      · subst e
        cases h3
        exact hP _ rfl
      · subst e
        exact or_v (.cons h2 r) h3 hP
    | _ => cases h3
theorem andM_dat : ∀ {ms : List Mn} {E E' : En} {x : Sl}, andM ms E = .ok (x, E') → ∃ d, x = .dat d
  | [], E, E', x, q => by cases q
  | [A], E, E', x, q => by
    obtain ⟨⟨d, E1⟩, h1, h3⟩ := Rs.bind_ok q
    cases h3
    exact ⟨_, rfl⟩
  | A :: B :: r, E, E', x, q => by
    obtain ⟨⟨d, E1⟩, h1, h3⟩ := Rs.bind_ok q
    cases d with
    | bool t1 =>
      cases t1 with
      | true => exact andM_dat (ms := B :: r) h3
      | false => cases h3; exact ⟨_, rfl⟩
    | _ => cases h3
theorem orM_dat : ∀ {ms : List Mn} {E E' : En} {x : Sl}, orM ms E = .ok (x, E') → ∃ d, x = .dat d
  | [], E, E', x, q => by cases q
  | [A], E, E', x, q => by
    obtain ⟨⟨d, E1⟩, h1, h3⟩ := Rs.bind_ok q
    cases h3
    exact ⟨_, rfl⟩
  | A :: B :: r, E, E', x, q => by
    obtain ⟨⟨d, E1⟩, h1, h3⟩ := Rs.bind_ok q
    cases d with
    | bool t1 =>
      cases t1 with
      | false => exact orM_dat (ms := B :: r) h3
      | true => cases h3; exact ⟨_, rfl⟩
    | _ => cases h3
theorem snd_and (h : SndA S ms es) : Snd S ⟨none, andM ms, andM ms, andT ms⟩ (.BoolOp .And es pos) := by
  have hv : ∀ E r E', andM ms E = .ok (r, E') → ∀ P : Sl → En → Prop, P r E' → Wp S (.BoolOp .And es pos) E P := fun E r E' q P hP => by
    obtain ⟨d, rfl⟩ := andM_dat q
    exact WpD.wp (and_v h q fun d' e => by cases e; exact hP)
  exact { pl := rfl, v := hv, k := fun E r E' q P hP => (hv E r E' q P hP).l, t := fun E t E' q P hP => (and_t h q hP).t, s := fun i q => by cases q }
theorem snd_or (h : SndA S ms es) : Snd S ⟨none, orM ms, orM ms, orT ms⟩ (.BoolOp .Or es pos) := by
  have hv : ∀ E r E', orM ms E = .ok (r, E') → ∀ P : Sl → En → Prop, P r E' → Wp S (.BoolOp .Or es pos) E P := fun E r E' q P hP => by
    obtain ⟨d, rfl⟩ := orM_dat q
    exact WpD.wp (or_v h q fun d' e => by cases e; exact hP)
  exact { pl := rfl, v := hv, k := fun E r E' q P hP => (hv E r E' q P hP).l, t := fun E t E' q P hP => (or_t h q hP).t, s := fun i q => by cases q }
def notV (A : Mn) : RE := fun E => (A.d E).bind fun p => match p.1 with
      | .bool b => .ok (.dat (.bool !b), p.2)
      | _ => .bad
theorem snd_not (hA : Snd S A a) : Snd S ⟨none, notV A, notV A, fun E => (A.t E).bind fun p => .ok (!p.1, p.2)⟩ (.UnaryOp .Not a pos) := by
  have hv : ∀ E r E', notV A E = .ok (r, E') → ∀ P : Sl → En → Prop, P r E' → Wp S (.UnaryOp .Not a pos) E P := fun E r E' q P hP => by
    obtain ⟨⟨d, E1⟩, h1, h3⟩ := Rs.bind_ok q
    cases d with
    | bool t => cases h3; exact WpD.wp (wd_not (hA.d h1 ⟨t, rfl, hP⟩))
    | _ => cases h3
  exact { pl := rfl, v := hv, k := fun E r E' q P hP => (hv E r E' q P hP).l, t := fun E t E' q P hP => by
            obtain ⟨⟨t1, E1⟩, h1, h3⟩ := Rs.bind_ok q
            cases h3
            exact wt_not (hA.t E t1 _ h1 _ hP)
          s := fun i q => by cases q }
def iteF (C A B : Mn) : RE := fun E => (C.t E).bind fun p => if p.1 then A.v p.2 else B.v p.2
theorem snd_ite (hC : Snd S C c) (hA : Snd S A a) (hB : Snd S B b) : Snd S (.ofV (iteF C A B)) (.IfExp c a b pos) := snd_ofV rfl fun E r E' q P hP => by
  obtain ⟨⟨t, E1⟩, h1, h3⟩ := Rs.bind_ok q
  refine wp_if (hC.t E t E1 h1 _ ⟨fun e => ?_, fun e => ?_⟩)
  · subst e
    exact hA.v E1 r E' (by simpa using h3) P hP
  · subst e
    exact hB.v E1 r E' (by simpa using h3) P hP

/-! ### displays, items, slices -/
def tupF (ms : List Mn) : RE := fun E => (argsM ms E).bind fun p => if p.1.length ≤ 1000 then .ok (.dat (.tuple p.1), p.2) else .bad
def lstF (ms : List Mn) : RE := fun E => (argsM ms E).bind fun p => if p.1.length ≤ 1000 then .ok (.own (.list p.1), p.2) else .bad
theorem snd_tup {k} (h : SndA S ms es) : Snd S (.ofV (tupF ms)) (.Tuple es k pos) := snd_ofV rfl fun E r E' q P hP => by
  obtain ⟨⟨ds, E1⟩, h1, h3⟩ := Rs.bind_ok q
  have h3 : (if ds.length ≤ 1000 then Rs.ok (Sl.dat (.tuple ds), E1) else .bad) = .ok (r, E') := h3
  split at h3
  · rename_i hl
    cases h3
    exact WpD.wp (wd_tup (h.run h1 ⟨hl, hP⟩))
  · cases h3
theorem snd_lst (h : SndA S ms es) : Snd S (.ofV (lstF ms)) (.List es pos) := snd_ofV rfl fun E r E' q P hP => by
  obtain ⟨⟨ds, E1⟩, h1, h3⟩ := Rs.bind_ok q
  have h3 : (if ds.length ≤ 1000 then Rs.ok (Sl.own (.list ds), E1) else .bad) = .ok (r, E') := h3
  split at h3
  · rename_i hl
    cases h3
    exact wp_lst (h.run h1 ⟨hl, hP⟩)
  · cases h3
def ixF (A B : Mn) : RE := fun E => (pairM A B E).bind fun p => (Rs.of ((datS p.1.2).bind (ixS p.1.1))).bind fun x => .ok (.dat x, p.2)
theorem ix_by (hA : Snd S A a) (hB : Snd S B b) {x1 x2 : Sl} {d2 x : D} (h1 : pairM A B E = .ok ((x1, x2), E')) (hd : datS x2 = some d2) (h3 : ixS x1 d2 = some x) {P : Sl → En → Prop} (hP : P (.dat x) E') : Wp S (.Subscript a b pos) E P := by
  intro X hX F s R H r0 Q k
  unfold ixS at h3
  split at h3
  · rename_i ds j
    refine ⟨_, pe_ix ix_seq pe_rd pe_rd (plain_ix hB.pl), ?_⟩
    refine hA.pair hB h1 hX r0 fun v1 v2 R' H' s1 r1 l1 l2 => ?_
    cases pk_flat (l2.pk hd) rfl
    cases l1 with
    | lst hq hd' =>
      obtain ⟨v, e1, e2⟩ := dpAll_at hd' h3
      rw [hX.K]
      exact .inl ⟨_, _, _, v, rfl, rfl, r1.sub.seq hq, e1, k v (.dat x) E' R' H' s1 r1 e2 hP⟩
  · rename_i ds j
    refine ⟨_, pe_ix ix_seq pe_rd pe_rd (plain_ix hB.pl), ?_⟩
    refine hA.pair hB h1 hX r0 fun v1 v2 R' H' s1 r1 l1 l2 => ?_
    cases pk_flat (l2.pk hd) rfl
    obtain ⟨ad, vs, rfl, g1, g2⟩ := l1
    obtain ⟨v, e1, e2⟩ := dpAll_at g2 h3
    rw [hX.K]
    exact .inl ⟨_, _, _, v, rfl, rfl, SqL.of g1, e1, k v (.dat x) E' R' H' s1 r1 e2 hP⟩
  · rename_i ds j
    refine ⟨_, pe_ix ix_seq pe_rd pe_rd (plain_ix hB.pl), ?_⟩
    refine hA.pair hB h1 hX r0 fun v1 v2 R' H' s1 r1 l1 l2 => ?_
    cases pk_flat (l2.pk hd) rfl
    cases l1 with
    | tup hq hd' =>
      obtain ⟨v, e1, e2⟩ := dpAll_at hd' h3
      rw [hX.K]
      exact .inr (.inl ⟨_, _, _, v, rfl, rfl, same_t r1.sub hq, e1, k v (.dat x) E' R' H' s1 r1 e2 hP⟩)
  · rename_i z j
    split at h3
    · rename_i hz
      cases hc : atI z.cps.toList j with
      | none => rw [hc] at h3; cases h3
      | some c =>
        rw [hc] at h3
        cases h3
        refine ⟨_, pe_ix ix_seq pe_rd pe_rd (plain_ix hB.pl), ?_⟩
        refine hA.pair hB h1 hX r0 fun v1 v2 R' H' s1 r1 l1 l2 => ?_
        cases pk_flat (l2.pk hd) rfl
        cases l1
        exact .inr (.inr ⟨_, _, _, rfl, rfl, Nat.le_trans hz (by decide), hc, k _ (.dat _) E' R' H' s1 r1 (Dp.str _) hP⟩)
    · cases h3
  · cases h3
theorem snd_ix (hA : Snd S A a) (hB : Snd S B b) : Snd S (.of (ixF A B)) (.Subscript a b pos) := snd_of rfl rfl fun E r E' q P hP => by
  obtain ⟨⟨⟨x1, x2⟩, E1⟩, h1, h2⟩ := Rs.bind_ok q
  obtain ⟨x, h3, h4⟩ := Rs.bind_ok h2
  cases h4
  have h3 : (datS x2).bind (ixS x1) = some x := Rs.of_ok h3
  cases hd : datS x2 with
  | none => rw [hd] at h3; cases h3
  | some d2 =>
    rw [hd] at h3
    exact ix_by hA hB h1 hd h3 hP
inductive SndO (S : Sx) : List Mn → Option Expr → Prop
  | no : SndO S [] none
  | so {m : Mn} {e : Expr} : Snd S m e → SndO S [m] (some e)
theorem SndO.run {o : Option Expr} (h : SndO S ms o) {ds : List D} (q : argsM ms E = .ok (ds, E')) {l : Option Int} (hl : optI ds = some l) {P : Option Int → En → Prop} (hP : P l E') : WpO S o E P := by
  cases h with
  | no => cases q; cases hl; exact hP
  | so h =>
    obtain ⟨⟨d, E1⟩, h1, h3⟩ := Rs.bind_ok q
    cases h3
    cases d with
    | int k => cases hl; exact h.d h1 ⟨k, rfl, hP⟩
    | _ => cases hl
def slF (A : Mn) (lo hi : List Mn) : RE := fun E => (A.d E).bind fun p => (argsM lo p.2).bind fun l => (argsM hi l.2).bind fun u =>
      (Rs.of ((optI l.1).bind fun lo => (optI u.1).bind fun hi => slS p.1 lo hi)).bind fun x => .ok (x, u.2)
theorem snd_sl {lo hi : Option Expr} {ml mh : List Mn} {p2 : Pos} (hA : Snd S A a) (hl : SndO S ml lo) (hh : SndO S mh hi) : Snd S (.of (slF A ml mh)) (.Subscript a (.Slice lo hi none p2) pos) := snd_of rfl rfl fun E r E' q P hP => by
  obtain ⟨⟨d, E1⟩, h1, q⟩ := Rs.bind_ok q
  obtain ⟨⟨ls, E2⟩, h2, q⟩ := Rs.bind_ok q
  obtain ⟨⟨us, E3⟩, h3, q⟩ := Rs.bind_ok q
  obtain ⟨x, h4, q⟩ := Rs.bind_ok q
  cases q
  have h4 := Rs.of_ok h4
  cases e1 : optI ls with
  | none => rw [e1] at h4; cases h4
  | some l =>
    rw [e1] at h4
    cases e2 : optI us with
    | none => rw [e2] at h4; cases h4
    | some u =>
      rw [e2] at h4
      have h4 : slS d l u = some _ := h4
      unfold slS at h4
      split at h4
      · split at h4
        · rename_i hz
          cases h4
          exact WpD.wp (wd_slS (hA.d h1 (hl.run h2 e1 (hh.run h3 e2 ⟨_, rfl, hz, hP⟩))))
        · cases h4
      · cases h4
        exact wp_slL (hA.d h1 (hl.run h2 e1 (hh.run h3 e2 ⟨_, rfl, hP⟩)))
      · cases h4
        exact WpD.wp (wd_slT (hA.d h1 (hl.run h2 e1 (hh.run h3 e2 ⟨_, rfl, hP⟩))))
      · cases h4
def revF (A : Mn) : RE := fun E => (A.d E).bind fun p => match p.1 with
    | .str z => if z.length ≤ 100000 then .ok (.dat (.str (revS z)), p.2) else .bad
    | _ => .bad
theorem snd_rev {k : Nat} {p1 p2 p3 : Pos} (hA : Snd S A a) : Snd S (.of (revF A)) (.Subscript a (.Slice none none (some (.UnaryOp .USub (.Constant (.int 1) k p1) p2)) p3) pos) := snd_of rfl rfl fun E r E' q P hP => by
  obtain ⟨⟨d, E1⟩, h1, q⟩ := Rs.bind_ok q
  cases d with
  | str z =>
    have q : (if z.length ≤ 100000 then Rs.ok (Sl.dat (.str (revS z)), E1) else .bad) = .ok (r, E') := q
    split at q
    · rename_i hz
      cases q
      exact WpD.wp (wd_revS (hA.d h1 ⟨z, rfl, hz, hP⟩))
    · cases q
  | _ => cases q
theorem snd_join {z : Str} {k : Nat} {p1 ap : Pos} (hB : Snd S B b) (hl : (ap.endLine == pos.line) = true) : Snd S (.of (joinM (.ofD (.str z)) B)) (.Call (.Attribute (.Constant (.str z) k p1) "join" ap) [b] [] pos) := snd_of rfl rfl fun E r E' q P hP => by
  obtain ⟨⟨d, E1⟩, h1, q⟩ := Rs.bind_ok q
  obtain ⟨⟨x, E2⟩, h2, q⟩ := Rs.bind_ok q
  cases h1
  obtain ⟨ys, h3, q⟩ := Rs.bind_ok (f := fun ys => if (ys.map (·.length)).sum + ys.length * z.length ≤ 16777216 then Rs.ok (Sl.dat (.str (Txt.join z ys)), E2) else .bad) q
  split at q
  · rename_i hz
    cases q
    have h3 := Rs.of_ok h3
    have stOf : ∀ {ds : List D} {ys : List Str}, strsO ds = some ys → ds = ys.map PyData.str := by
      intro ds
      induction ds with
      | nil => intro ys h; cases h; rfl
      | cons d ds ih =>
        intro ys h
        cases d with
        | str w =>
          cases hq : strsO ds with
          | none => simp [strsO, hq] at h
          | some zs => simp [strsO, hq] at h; subst h; rw [ih hq]; rfl
        | _ => cases h
    cases hi : itemsS x with
    | none => rw [hi] at h3; cases h3
    | some ds =>
      rw [hi] at h3
      have e := stOf (show strsO ds = some ys from h3)
      subst e
      refine WpD.wp (wd_join (wd_str ⟨z, rfl, ?_⟩) (fun env => plain_star hB.pl [] env) (fun _ => rfl) hl)
      unfold itemsS at hi
      split at hi
      · cases hi; exact hB.wk h2 rfl ⟨ys, .inl rfl, hz, hP⟩
      · cases hi; exact hB.wk h2 rfl ⟨ys, .inl rfl, hz, hP⟩
      · cases hi; exact hB.wk h2 rfl ⟨ys, .inr rfl, hz, hP⟩
      · cases hi
  · cases q
end
end Wq
set_option maxHeartbeats 2000000
namespace Wq
open PySem L2
section
variable {S : Sx} {e a b c : Expr} {A B C : Mn} {E E' : En} {pos p : Pos}
/-- a < b < c -/
theorem cmp2_v {o1 o2 : CmpOp} (hA : Snd S A a) (hB : Snd S B b) (hC : Snd S C c) {t : Bool} (q : cmp2M o1 o2 A B C E = .ok (t, E')) {X : Cx} (hX : Has S X) {F : Fx} {s : St} {R H : Hp} (r0 : Rel S.K F s E R H) {Q : VK} (k : ∀ R' H', Same R R' → Rel S.K F s E' R' H' → Q (.bl t) H') :
    ∃ r r', OpR X (compareOp o1) r ∧ OpR X (compareOp o2) r' ∧ tChain r r' (RdE X a) (RdE X b) (RdE X c) s H Q := by
  obtain ⟨⟨d1, E1⟩, h1, q⟩ := Rs.bind_ok q
  obtain ⟨⟨d2, E2⟩, h2, q⟩ := Rs.bind_ok q
  have q : (if intD d1 && intD d2 then (Rs.of (cmpDD o1 d1 d2)).bind fun t => if t then (C.d E2).bind fun r => if intD r.1 then (Rs.of (cmpDD o2 d2 r.1)).bind fun u => Rs.ok (u, r.2) else .bad else .ok (false, E2) else .bad) = .ok (t, E') := q
  split at q
  · rename_i hi
    rw [Bool.and_eq_true] at hi
    obtain ⟨t1, h3, q⟩ := Rs.bind_ok q
    obtain ⟨r, g1, g2⟩ := cmp_op (Rs.of_ok h3) X hX
    have fr : ∀ {v : V} {d : D} {R R' : Hp}, intD d = true → Dp S.K R v d → Dp S.K R' v d := fun {v d R R'} h p => by
      cases d with
      | int i => cases p; exact .int i
      | _ => cases h
    cases t1 with
    | true =>
      obtain ⟨⟨d3, E3⟩, h4, q⟩ := Rs.bind_ok (x := C.d E2) q
      have q : (if intD d3 then (Rs.of (cmpDD o2 d2 d3)).bind fun u => Rs.ok (u, E3) else .bad) = .ok (t, E') := q
      split at q
      · rename_i hi3
        obtain ⟨u, h5, q⟩ := Rs.bind_ok q
        cases q
        obtain ⟨r', g3, g4⟩ := cmp_op (Rs.of_ok h5) X hX
        refine ⟨r, r', g1, g3, ?_⟩
        refine hA.d h1 (P := fun d E' => d = d1 ∧ E' = E1) ⟨rfl, rfl⟩ X hX F s R H r0 _ fun v1 y1 E1' R1 H1 s1 q1 p1 ⟨e1, e2⟩ => ?_
        subst e1 e2
        refine hB.d h2 (P := fun d E' => d = d2 ∧ E' = E2) ⟨rfl, rfl⟩ X hX F s R1 H1 q1 _ fun v2 y2 E2' R2 H2 s2 q2 p2 ⟨e1, e2⟩ => ?_
        subst e1 e2
        refine g2 F s _ R2 H2 v1 v2 q2 (.dat (dp_mono s2 _ _ p1)) (.dat p2) _ ⟨true, rfl, ?_⟩
        rw [if_pos rfl]
        refine hC.d h4 (P := fun d E'' => d = d3 ∧ E'' = E') ⟨rfl, rfl⟩ X hX F s R2 H2 q2 _ fun v3 y3 E3' R3 H3 s3 q3 p3 ⟨e1, e2⟩ => ?_
        subst e1 e2
        exact g4 F s _ R3 H3 v2 v3 q3 (.dat (fr hi.2 p2)) (.dat p3) Q (k R3 H3 ((s1.trans s2).trans s3) q3)
      · cases q
    | false =>
      cases q
      refine ⟨r, fun _ _ _ _ => False, g1, fun _ _ _ _ _ _ _ _ _ _ _ _ h => h.elim, ?_⟩
      refine hA.d h1 (P := fun d E' => d = d1 ∧ E' = E1) ⟨rfl, rfl⟩ X hX F s R H r0 _ fun v1 y1 E1' R1 H1 s1 q1 p1 ⟨e1, e2⟩ => ?_
      subst e1 e2
      refine hB.d h2 (P := fun d E'' => d = d2 ∧ E'' = E') ⟨rfl, rfl⟩ X hX F s R1 H1 q1 _ fun v2 y2 E2' R2 H2 s2 q2 p2 ⟨e1, e2⟩ => ?_
      subst e1 e2
      refine g2 F s _ R2 H2 v1 v2 q2 (.dat (dp_mono s2 _ _ p1)) (.dat p2) _ ⟨false, rfl, ?_⟩
      rw [if_neg Bool.false_ne_true]
      exact k R2 H2 (s1.trans s2) q2
  · cases q
theorem snd_cmp2 {o1 o2 : CmpOp} (hA : Snd S A a) (hB : Snd S B b) (hC : Snd S C c) : Snd S (cmp2F o1 o2 A B C) (.Compare a [o1, o2] [b, c] pos) := by
  have hm : lastMarks [o1, o2] [b, c] = false := plain_marks hC.pl o2
  have hv : ∀ E r E', (cmp2F o1 o2 A B C).v E = .ok (r, E') → ∀ P : Sl → En → Prop, P r E' → Wp S (.Compare a [o1, o2] [b, c] pos) E P := fun E r E' q P hP => by
    obtain ⟨⟨t, E1⟩, h1, h2⟩ := Rs.bind_ok q
    cases h2
    intro X hX F s R H r0 Q k
    obtain ⟨r, r', g1, g2, g3⟩ := cmp2_v hA hB hC h1 hX r0 (Q := Q) fun R' H' s1 r1 => k _ (.dat (.bool t)) _ R' H' s1 r1 (Dp.bl t) hP
    exact ⟨_, pe_chain g1 g2 pe_rd pe_rd pe_rd hm, g3⟩
  exact { pl := rfl, v := hv, k := fun E r E' q P hP => (hv E r E' q P hP).l
          t := fun E t E' q P hP X hX F s R H r0 Q k => by
            obtain ⟨r, r', g1, g2, g3⟩ := cmp2_v hA hB hC q hX r0 (Q := fun v H' => ∃ k, v = .bl k ∧ Q k H') fun R' H' s1 r1 => ⟨t, rfl, k t E' R' H' s1 r1 hP⟩
            exact ⟨_, pt_chain g1 g2 pe_rd pe_rd pe_rd hm, g3⟩
          s := fun i q => by cases q }
end
end Wq
set_option maxHeartbeats 2000000
namespace Wq
open PySem L2

/-! ### the defs, the builtins and the constants that a text may name -/
def cP (g : List D → Rs Sl) : List D → (Sl → Prop) → Prop := fun ds post => ∃ r, g ds = .ok r ∧ post r
def cB (g : D → List D → Rs (Sl × D)) : D → List D → (Sl → D → Prop) → Prop := fun b ds post => ∃ r b', g b ds = .ok (r, b') ∧ post r b'
def bltNames : List Str := ["len", "abs", "int", "min", "max", "divmod", "list", "tuple", "all", "any", "sum", "sorted", "repr", "str", "isinstance", "bool", "range", "enumerate", "zip", "dict", "set", "reversed"]
structure EnvOk (S : Sx) (Tb : List Str) (Γ : Nat → FnE) (Cn : List Str) (Cs : Nat → Option D) : Prop where
  room : 1 ≤ S.k
  blt : ∀ x ∈ bltNames, S.mg x = none
  pu : ∀ f x g, Tb[f]? = some x → Γ f = .pu g → ∃ ps k, k ≤ S.k ∧ CallOk S x k ps (spP S.K (cP g))
  bx : ∀ f x g, Tb[f]? = some x → Γ f = .bx g → ∃ ps k, k ≤ S.k ∧ CallOk S x k ps (spB S.K (cB g))
  cst : ∀ n x d, Cn[n]? = some x → Cs n = some d → ∃ u v, S.mg x = some u ∧ RelV v u ∧ ∀ R, Dp S.K R v d
theorem EnvOk.blk {S : Sx} {Tb : List Str} {Γ : Nat → FnE} {Cn : List Str} {Cs : Nat → Option D} (h : EnvOk S Tb Γ Cn Cs) (scope : Scope) : EnvOk (blkS S scope) Tb Γ Cn Cs where
  room := h.room
  blt := h.blt
  pu := fun f x g h1 h2 => by obtain ⟨ps, k, hk, C⟩ := h.pu f x g h1 h2; exact ⟨ps, k, hk, C.blk scope⟩
  bx := fun f x g h1 h2 => by obtain ⟨ps, k, hk, C⟩ := h.bx f x g h1 h2; exact ⟨ps, k, hk, C.blk scope⟩
  cst := h.cst

section
variable {S : Sx} {e a b c : Expr} {es : List Expr} {A B C : Mn} {ms : List Mn} {E E' : En} {pos p : Pos} {x : Str} {k : Nat} {ps : List Str}
theorem snd_cst {d : D} {u : Value} {v : V} (hg : GlS S x) (hm : S.mg x = some u) (hu : RelV v u) (hd : ∀ R, Dp S.K R v d) (hdb : (x == ("__debug__" : Str)) = false) {o : Option D} (ho : o = some d) : Snd S (.of fun E => (Rs.of o).bind fun d => .ok (.dat d, E)) (.Name x p) := snd_of rfl rfl fun E r E' q P hP => by
  subst ho
  cases q
  exact WpD.wp fun X hX F s R H r Q k => ⟨_, pe_glob (hg.gl hX) (by rw [hX.mg]; exact hm) hu hdb, k _ _ E R H (Same.refl _) r (hd R) hP⟩
theorem snd_bad {pl : plainE e = true} : Snd S (.of fun _ => .bad) e where
  pl := pl
  v := fun E r E' q => by cases q
  k := fun E r E' q => by cases q
  t := fun E r E' q => by cases q
  s := fun i q => by cases q

/-! ### calls -/
theorem SndA.pl : ∀ {ms : List Mn} {es : List Expr}, SndA S ms es → ∀ env : Env, (starEach es env).any (·.1) = false
  | _, _, .nil, env => rfl
  | _, _, .cons h t, env => by rw [plain_star h.pl, List.any_cons, SndA.pl t env]; rfl
theorem back_any {l : List (Bool × Sem Value)} (h : l.any (·.1) = false) (pos : Pos) : (backTo pos l).any (·.1) = false := by
  have e : (backTo pos l).map (·.1) = l.map (·.1) := by
    unfold backTo
    simp [List.map_map, Function.comp_def]
  have : ∀ l : List (Bool × Sem Value), l.any (·.1) = (l.map (·.1)).any id := fun l => by rw [List.any_map]; rfl
  rw [this, e, ← this, h]
theorem snd_call {g : List D → Rs Sl} (C : CallOk S x k ps (spP S.K (cP g))) (hk : k ≤ S.k) (hg : GlS S x) (hdb : (x == ("__debug__" : Str)) = false) (h : SndA S (A :: ms) (e :: es)) : Snd S (.of (callM (.pu g) (A :: ms))) (.Call (.Name x p) (e :: es) [] pos) := snd_of rfl rfl fun E r E' q P hP => by
  obtain ⟨⟨ds, E1⟩, h1, q⟩ := Rs.bind_ok (x := argsM (A :: ms) E) q
  obtain ⟨r', h2, q⟩ := Rs.bind_ok q
  cases q
  cases h with
  | cons hA ht => exact wp_callP C hk hg ((SndA.cons hA ht).run h1 ⟨_, h2, hP⟩) (plain_star hA.pl _) (fun env => back_any (ht.pl env) pos) hdb
theorem snd_callB {g : D → List D → Rs (Sl × D)} {i : Nat} {bx : Str} {bp : Pos} (C : CallOk S x k ps (spB S.K (cB g))) (hk : k ≤ S.k) (hg : GlS S x) (hdb : (x == ("__debug__" : Str)) = false) (hN : S.N[i]? = some bx) (hv : Vis S.sc bx) (hd : (bx == ("__debug__" : Str)) = false) (hcd : (bx == ("__classdict__" : Str)) = false) (h : SndA S ms es) :
    Snd S (.of (callBM (.bx g) i ms)) (.Call (.Name x p) (.Name bx bp :: es) [] pos) := snd_of rfl rfl fun E r E' q P hP => by
  have q : (if ownAt E i then (argsM ms E).bind fun p => match p.2[i]? with
      | some (.own b) => (g b p.1).bind fun r => .ok (r.1, p.2.set i (.own r.2))
      | _ => .bad
    else .bad) = .ok (r, E') := q
  split at q
  · rename_i ho
    obtain ⟨⟨ds, E1⟩, h1, q⟩ := Rs.bind_ok q
    have q : (match E1[i]? with
      | some (.own b) => (g b ds).bind fun r => .ok (r.1, E1.set i (.own r.2))
      | _ => .bad) = .ok (r, E') := q
    split at q
    · rename_i b hb
      obtain ⟨⟨r', b'⟩, h2, q⟩ := Rs.bind_ok q
      cases q
      have hE : ∃ b0, E[i]? = some (Sl.own b0) := by
        unfold ownAt at ho
        split at ho
        · rename_i d0 he; exact ⟨d0, he⟩
        · cases ho
      exact wp_callB C hk hg hN hv hE (h.run h1 ⟨b, hb, _, b', h2, hP⟩) (fun env => rfl) (fun env => back_any (h.pl env) pos) hdb hd hcd
    · cases q
  · cases q
/-- a new list lent -/
theorem snd_callT {g : D → List D → Rs (Sl × D)} (C : CallOk S x k ps (spB S.K (cB g))) (hk : k ≤ S.k) (hg : GlS S x) (hdb : (x == ("__debug__" : Str)) = false) (h : Snd S A e) :
    Snd S (.of (callTM (.bx g) A)) (.Call (.Name x p) [e] [] pos) := snd_of rfl rfl fun E r E' q P hP => by
  obtain ⟨⟨r1, E1⟩, h1, q⟩ := Rs.bind_ok (x := A.v E) q
  cases r1 with
  | own b =>
    obtain ⟨⟨r2, b2⟩, h2, q⟩ := Rs.bind_ok (x := g b []) q
    cases q
    exact wp_callT C hk hg (h.v _ _ _ h1 _ ⟨b, rfl, _, b2, h2, hP⟩) (plain_star h.pl []) hdb
  | _ => cases q
/-- x.pop(k) -/
theorem snd_pop {i : Nat} {ap : Pos} (hN : S.N[i]? = some x) (hv : Vis S.sc x) (hd : (x == ("__debug__" : Str)) = false) (hcd : (x == ("__classdict__" : Str)) = false) (hl : (ap.endLine == pos.line) = true) (h : Snd S A e) :
    Snd S (.of (popM i A)) (.Call (.Attribute (.Name x p) ("pop" : Str) ap) [e] [] pos) := snd_of rfl rfl fun E r E' q P hP => by
  have q : (match E[i]? with
    | some (.own (.list _)) => (A.d E).bind fun p => match p.1, p.2[i]? with
      | .int k, some (.own (.list ds)) => (Rs.of (popS ds k)).bind fun y => .ok (Sl.dat y.1, p.2.set i (.own (.list y.2)))
      | _, _ => .bad
    | _ => .bad) = .ok (r, E') := q
  split at q
  · rename_i d0 he0
    obtain ⟨⟨d1, E1⟩, h1, q⟩ := Rs.bind_ok q
    split at q
    · rename_i k1 ds e1 e2
      have e1 : d1 = .int k1 := e1
      subst e1
      obtain ⟨⟨y, ds2⟩, h2, q⟩ := Rs.bind_ok q
      cases q
      have h2 := Rs.of_ok h2
      unfold popS at h2
      split at h2
      · rename_i hc
        cases hy : ds[k1.toNat]? with
        | none => rw [hy] at h2; cases h2
        | some y1 =>
          rw [hy] at h2
          cases h2
          refine WpD.wp (wd_popAt hN hv ⟨d0, he0⟩ (h.d h1 ⟨ds, k1.toNat, y, by rw [Int.toNat_of_nonneg hc.1], e2, hc.2, hy, hP⟩) (plain_star h.pl []) (fun _ => rfl) (fun env => by rw [plain_star h.pl]; rfl) hl hd hcd)
      · cases h2
    · cases q
  · cases q
/-- an owned list lent, a plain value back -/
theorem wp_callO {c : List D → (Sl → Prop) → Prop} {i : Nat} {bx : Str} {bp : Pos} {Z : D → En → Prop} (C : CallOk S x k ps (spP S.K c)) (hk : k ≤ S.k) (hg : GlS S x) (hN : S.N[i]? = some bx) (hv : Vis S.sc bx) (hE : ∃ b0, E[i]? = some (Sl.own b0))
    (h : WpA S es E fun ds E1 => ∃ b : List D, E1[i]? = some (Sl.own (.list b)) ∧ c (.list b :: ds) fun r => ∃ d, r = .dat d ∧ plainD d = true ∧ Z d E1)
    (hpl : ∀ env : Env, (backTo pos (starEach es env)).any (·.1) = false) (hdb : (x == ("__debug__" : Str)) = false) (hd : (bx == ("__debug__" : Str)) = false) (hcd : (bx == ("__classdict__" : Str)) = false) : WpD S (.Call (.Name x p) (.Name bx bp :: es) [] pos) E Z := fun X hX F s R H r Q kk => by
  obtain ⟨f, fd, Fn, hm, kp, hb⟩ := C.ex
  have Fn' : FnG X.prog X.w X.K X.mg X.base k f fd ps (spP X.K c) := by
    rw [hX.prog, hX.w, hX.K, hX.mg, hX.base]
    exact Fn
  refine ⟨_, peg_call Fn' (hX.room.mono hk) hX.grd (hg.gl hX) (by rw [hX.mg]; exact hm) (by rw [hX.K]; exact kp) (by rw [hX.K]; exact hb) (pa_cons (pe_var (i := i) (by rw [hX.N]; exact hN) (by rw [hX.sc]; exact hv) hd hcd) pa_rd rfl) hdb rfl (hpl _), ?_⟩
  obtain ⟨b0, hE0⟩ := hE
  obtain ⟨ad, ha, _⟩ := r.own i b0 hE0
  refine ⟨_, ha, ?_⟩
  refine h X hX F s R H r _ fun vs ds E1 R1 H1 s1 r1 p1 ⟨b, hE1, h1⟩ => ?_
  obtain ⟨ad', ha', hR, ⟨bs, hH, hbs⟩, _⟩ := r1.own i _ hE1
  obtain rfl : ad = ad' := by
    rw [ha] at ha'
    cases ha'
    rfl
  have sm : Same R1 (upd R1 ad (.lst bs)) := same_upd hR
  show spP X.K c ((V.ref ad :: vs) ++ []) H1 _ _
  rw [List.append_nil, hX.K]
  have pargs : DpAll S.K (upd R1 ad (.lst bs)) (V.ref ad :: vs) (.list b :: ds) := .cons (.lst (SqL.of upd_same) (dpAll_mono sm _ _ hbs)) (dpAll_mono sm _ _ p1)
  have subx : Same (upd R1 ad (.lst bs)) H1 := fun c o e => by
    by_cases hc : c = ad
    · subst hc
      rw [upd_same] at e
      cases e
      exact hH
    · rw [upd_ne hc] at e
      exact r1.sub c o e
  have rel : Rel S.K ⟨H1, upd R1 ad (.lst bs), []⟩ ((V.ref ad :: vs).map some) ((PyData.list b :: ds).map Sl.dat) (upd R1 ad (.lst bs)) H1 := {
    len := by rw [List.length_map, List.length_map, dpAll_len pargs]
    sub := subx
    sub0 := Same.refl _
    keep := fun _ _ e _ => e
    new := fun a o e => .inl ⟨o, e⟩
    giv := fun p hp => nomatch hp
    dat := fun j d e => by
      rw [List.getElem?_map] at e
      cases z : (PyData.list b :: ds)[j]? with
      | none => rw [z] at e; cases e
      | some d' =>
        rw [z] at e
        cases e
        obtain ⟨v, g1, g2⟩ := dpAll_get pargs z
        exact ⟨v, by rw [List.getElem?_map, g1]; rfl, g2⟩
    own := fun j d e => by
      rw [List.getElem?_map] at e
      cases z : (PyData.list b :: ds)[j]? with
      | none => rw [z] at e; cases e
      | some d' => rw [z] at e; cases e
    inj := fun j l d d' a e => by
      rw [List.getElem?_map] at e
      cases z : (PyData.list b :: ds)[j]? with
      | none => rw [z] at e; cases e
      | some d' => rw [z] at e; cases e }
  refine ⟨upd R1 ad (.lst bs), [], (PyData.list b :: ds).map Sl.dat, fun r _ => ∃ d, r = .dat d ∧ plainD d = true ∧ Z d E1, rfl, rel, ⟨_, rfl, ?_⟩, fun v x outs R' H' a q ok z => ?_⟩
  · have e : (fun r => ∀ outs : List Sl, ∃ d, r = Sl.dat d ∧ plainD d = true ∧ Z d E1) = fun r => ∃ d, r = Sl.dat d ∧ plainD d = true ∧ Z d E1 := by funext r; exact propext ⟨fun h => h [], fun h _ => h⟩
    rw [e]
    exact h1
  · obtain ⟨d, rfl, hp, z⟩ := z
    exact kk v d E1 R1 H' s1 (r1.backS sm q) (dp_plain ok hp) z
theorem snd_callO {g : List D → Rs Sl} {i : Nat} {bx : Str} {bp : Pos} (C : CallOk S x k ps (spP S.K (cP g))) (hk : k ≤ S.k) (hg : GlS S x) (hdb : (x == ("__debug__" : Str)) = false) (hN : S.N[i]? = some bx) (hv : Vis S.sc bx) (hd : (bx == ("__debug__" : Str)) = false) (hcd : (bx == ("__classdict__" : Str)) = false) (h : SndA S ms es) :
    Snd S (.of (callOM (.pu g) i ms)) (.Call (.Name x p) (.Name bx bp :: es) [] pos) := snd_of rfl rfl fun E r E' q P hP => by
  have q : (if ownAt E i then (argsM ms E).bind fun p => match p.2[i]? with
      | some (.own (.list b)) => (g (.list b :: p.1)).bind fun r => match r with
        | .dat d => if plainD d then Rs.ok (Sl.dat d, p.2) else .bad
        | _ => .bad
      | _ => .bad
    else .bad) = .ok (r, E') := q
  split at q
  · rename_i ho
    obtain ⟨⟨ds, E1⟩, h1, q⟩ := Rs.bind_ok q
    have q : (match E1[i]? with
      | some (.own (.list b)) => (g (.list b :: ds)).bind fun r => match r with
        | .dat d => if plainD d then Rs.ok (Sl.dat d, E1) else .bad
        | _ => .bad
      | _ => .bad) = .ok (r, E') := q
    split at q
    · rename_i b hb
      obtain ⟨r', h2, q⟩ := Rs.bind_ok q
      cases r' with
      | dat d =>
        have q : (if plainD d then Rs.ok (Sl.dat d, E1) else .bad) = .ok (r, E') := q
        split at q
        · rename_i hpd
          cases q
          have hE : ∃ b0, E[i]? = some (Sl.own b0) := by
            unfold ownAt at ho
            split at ho
            · rename_i d0 he; exact ⟨d0, he⟩
            · cases ho
          exact WpD.wp (wp_callO C hk hg hN hv hE (h.run h1 ⟨b, hb, _, h2, d, rfl, hpd, hP⟩) (fun env => back_any (h.pl env) pos) hdb hd hcd)
        · cases q
      | _ => cases q
    · cases q
  · cases q

/-! ### built-in functions -/
theorem bools_of : ∀ {ds : List D} {bs : List Bool}, boolsD ds = some bs → ds = bs.map PyData.bool
  | [], bs, h => by cases h; rfl
  | d :: ds, bs, h => by
    cases d with
    | bool b =>
      cases hq : boolsD ds with
      | none => simp [boolsD, hq] at h
      | some zs => simp [boolsD, hq] at h; subst h; rw [bools_of hq]; rfl
    | _ => cases h
theorem ints_of : ∀ {ds : List D} {bs : List Int}, intsO ds = some bs → ds = bs.map PyData.int
  | [], bs, h => by cases h; rfl
  | d :: ds, bs, h => by
    cases d with
    | int b =>
      cases hq : intsO ds with
      | none => simp [intsO, hq] at h
      | some zs => simp [intsO, hq] at h; subst h; rw [ints_of hq]; rfl
    | _ => cases h
theorem keys_of : ∀ {ds : List D} {bs : List Key}, keysO ds = some bs → ds = bs.map kD
  | [], bs, h => by cases h; rfl
  | d :: ds, bs, h => by
    cases hk : keyO d with
    | none => simp [keysO, hk] at h
    | some k =>
      cases hq : keysO ds with
      | none => simp [keysO, hk, hq] at h
      | some zs =>
        simp [keysO, hk, hq] at h
        subst h
        rw [keys_of hq]
        have : d = kD k := by
          cases d with
          | int i => cases hk; rfl
          | str i => cases hk; rfl
          | _ => cases hk
        rw [this]
        rfl
theorem rows_of : ∀ {ds : List D} {bs : List (List Key)}, rowsO ds = some bs → ds = bs.map tupK
  | [], bs, h => by cases h; rfl
  | d :: ds, bs, h => by
    cases d with
    | tuple r =>
      cases hk : keysO r with
      | none => simp [rowsO, hk] at h
      | some k =>
        cases hq : rowsO ds with
        | none => simp [rowsO, hk, hq] at h
        | some zs =>
          simp [rowsO, hk, hq] at h
          subst h
          rw [rows_of hq, keys_of hk]
          rfl
    | _ => cases h
theorem leK_trans (x y z : List Key) (h1 : leK x y = true) (h2 : leK y z = true) : leK x z = true := by
  unfold leK at *
  rw [Bool.not_eq_true'] at *
  cases h : lexK z x with
  | false => rfl
  | true =>
    cases h3 : lexK x y with
    | false =>
      have := lexK_total h3 h1
      subst this
      rw [h] at h2
      cases h2
    | true =>
      rw [lexK_trans h h3] at h2
      cases h2
theorem leK_total (x y : List Key) : (leK x y || leK y x) = true := by
  unfold leK
  cases h : lexK y x with
  | false => rfl
  | true => rw [lexK_asym h]; rfl
theorem sortK_perm (l : List (List Key)) : (sortK l).Perm l := List.mergeSort_perm l leK
theorem sortK_pw (l : List (List Key)) : (sortK l).Pairwise fun x y => lexK y x = false := by
  have := List.pairwise_mergeSort (le := leK) leK_trans leK_total l
  refine this.imp fun h => ?_
  unfold leK at h
  rwa [Bool.not_eq_true'] at h
theorem sortK_eq {a l : List (List Key)} (h : a.Perm l) (ha : a.Pairwise fun x y => lexK y x = false) : a = sortK l := sorted_eq (h.trans (sortK_perm l).symm) ha (sortK_pw l)
theorem sig_of {kss : List (List Key)} (h : sigOk kss = true) : ∃ (b : Bool) (sig : List Bool), ∀ ks ∈ kss, ks.map isInt = b :: sig := by
  cases kss with
  | nil => exact ⟨true, [], fun ks h => nomatch h⟩
  | cons r rs =>
    cases r with
    | nil => simp [sigOk] at h
    | cons q r =>
      simp only [sigOk, List.isEmpty_cons, Bool.not_false, Bool.true_and, List.all_eq_true, decide_eq_true_eq] at h
      refine ⟨isInt q, r.map isInt, fun ks hm => ?_⟩
      rcases List.mem_cons.mp hm with rfl | hm
      · rfl
      · rw [h ks hm]; rfl
def bltName : Blt → Str
  | .len => "len" | .abs => "abs" | .int => "int" | .min => "min" | .max => "max" | .divmod => "divmod" | .list => "list" | .tuple => "tuple" | .all => "all" | .any => "any" | .sum => "sum" | .sorted => "sorted" | .repr => "repr" | .str => "str"
  | _ => "isinstance"
theorem wk_items (hA : Snd S A a) {y : Sl} (hk : A.k E = .ok (y, E')) {ds : List D} (hi : itemsS y = some ds) {P : D → En → Prop} (hP : ∀ d, (d = .list ds ∨ d = .tuple ds) → P d E') : WpK S a E P := by
  unfold itemsS at hi
  split at hi
  · cases hi; exact hA.wk hk rfl (hP _ (.inl rfl))
  · cases hi; exact hA.wk hk rfl (hP _ (.inl rfl))
  · cases hi; exact hA.wk hk rfl (hP _ (.inr rfl))
  · cases hi
theorem wd_look (hA : Snd S A a) {d : D} (hk : A.k E = .ok (.dat d, E')) (hpd : plainD d = true) {P : D → En → Prop} (hP : P d E') : WpD S a E P := fun X hX F s R H r0 Q k =>
  hA.k E _ E' hk (fun y E1 => y = .dat d ∧ E1 = E') ⟨rfl, rfl⟩ X hX F s R H r0 Q fun v y E1 R1 H1 s1 r1 p1 ⟨e1, e2⟩ => by
    subst e1 e2
    exact k v d _ R1 H1 s1 r1 p1 hP
/-- a builtin of one thing -/
theorem blt1_by {bl : Blt} (hg : GlS S (bltName bl)) (hm : S.mg (bltName bl) = none) (hi : bltName bl ≠ "isinstance") (hA : Snd S A a) {y z : Sl} (h1 : A.k E = .ok (y, E')) (h2 : blt1 bl y = some z) {P : Sl → En → Prop} (hP : P z E') : Wp S (.Call (.Name (bltName bl) p) [a] [] pos) E P := by
  have st : ∀ env : Env, starEach [a] env = (false, eval a env) :: starEach [] env := plain_star hA.pl []
  unfold blt1 at h2
  split at h2
  · cases hl : lenS y with
    | none => rw [hl] at h2; cases h2
    | some n =>
      rw [hl] at h2
      cases h2
      refine WpD.wp (wd_len hg hm ?_ st)
      unfold lenS at hl
      split at hl
      · cases hl; exact hA.wk h1 rfl ⟨_, .lst, hP⟩
      · cases hl; exact hA.wk h1 rfl ⟨_, .lst, hP⟩
      · cases hl; exact hA.wk h1 rfl ⟨_, .tup, hP⟩
      · split at hl
        · rename_i hz; cases hl; exact hA.wk h1 rfl ⟨_, .str hz, hP⟩
        · cases hl
      · cases hl
  · cases h2; exact WpD.wp (wd_abs hg hm (wd_look hA h1 rfl ⟨_, rfl, hP⟩) st)
  · cases h2; exact WpD.wp (wd_int1 hg hm (wd_look hA h1 rfl (.inl ⟨_, rfl, hP⟩)) st)
  · cases h2; exact WpD.wp (wd_int1 hg hm (wd_look hA h1 rfl (.inr ⟨_, rfl, hP⟩)) st)
  · split at h2
    · rename_i hz; cases h2; exact wp_listS hg hm (wd_look hA h1 rfl ⟨_, rfl, hz, hP⟩) st
    · cases h2
  · cases hl : itemsS y with
    | none => rw [hl] at h2; cases h2
    | some ds => rw [hl] at h2; cases h2; exact wp_list hg hm (wk_items hA h1 hl fun d hd => ⟨ds, hd, hP⟩) st
  · cases hl : itemsS y with
    | none => rw [hl] at h2; cases h2
    | some ds => rw [hl] at h2; cases h2; exact WpD.wp (wd_tuple hg hm (wk_items hA h1 hl fun d hd => ⟨ds, hd, hP⟩) st)
  · rename_i ds
    cases hl : boolsD ds with
    | none => rw [hl] at h2; cases h2
    | some bs => rw [hl] at h2; cases h2; rw [bools_of hl] at h1; exact WpD.wp (wd_all hg hm (hA.wk h1 rfl ⟨bs, rfl, hP⟩) st)
  · rename_i ds
    cases hl : boolsD ds with
    | none => rw [hl] at h2; cases h2
    | some bs => rw [hl] at h2; cases h2; rw [bools_of hl] at h1; exact WpD.wp (wd_all hg hm (hA.wk h1 rfl ⟨bs, rfl, hP⟩) st)
  · rename_i ds
    cases hl : boolsD ds with
    | none => rw [hl] at h2; cases h2
    | some bs => rw [hl] at h2; cases h2; rw [bools_of hl] at h1; exact WpD.wp (wd_any hg hm (hA.wk h1 rfl ⟨bs, rfl, hP⟩) st)
  · rename_i ds
    cases hl : boolsD ds with
    | none => rw [hl] at h2; cases h2
    | some bs => rw [hl] at h2; cases h2; rw [bools_of hl] at h1; exact WpD.wp (wd_any hg hm (hA.wk h1 rfl ⟨bs, rfl, hP⟩) st)
  · rename_i ds
    cases hl : intsO ds with
    | none => rw [hl] at h2; cases h2
    | some bs => rw [hl] at h2; cases h2; rw [ints_of hl] at h1; exact WpD.wp (wd_sum hg hm (hA.wk h1 rfl ⟨bs, rfl, hP⟩) st)
  · rename_i ds
    cases hl : intsO ds with
    | none => rw [hl] at h2; cases h2
    | some bs => rw [hl] at h2; cases h2; rw [ints_of hl] at h1; exact WpD.wp (wd_sum hg hm (hA.wk h1 rfl ⟨bs, rfl, hP⟩) st)
  · rename_i ds
    cases hl : rowsO ds with
    | none => simp [sortS, hl] at h2
    | some kss =>
      by_cases hs : sigOk kss = true
      · simp [sortS, hl, hs] at h2
        subst h2
        rw [rows_of hl] at h1
        obtain ⟨b, sig, hb⟩ := sig_of hs
        exact wp_sorted hg hm (hA.wk h1 rfl ⟨kss, b, sig, rfl, hb, fun ls pl pw => by rw [sortK_eq pl pw]; exact hP⟩) st
      · simp [sortS, hl, hs] at h2
  · rename_i ds
    cases hl : rowsO ds with
    | none => simp [sortS, hl] at h2
    | some kss =>
      by_cases hs : sigOk kss = true
      · simp [sortS, hl, hs] at h2
        subst h2
        rw [rows_of hl] at h1
        obtain ⟨b, sig, hb⟩ := sig_of hs
        exact wp_sorted hg hm (hA.wk h1 rfl ⟨kss, b, sig, rfl, hb, fun ls pl pw => by rw [sortK_eq pl pw]; exact hP⟩) st
      · simp [sortS, hl, hs] at h2
  · rename_i d
    cases hl : reprS d with
    | none => rw [hl] at h2; cases h2
    | some z =>
      rw [hl] at h2
      cases h2
      unfold reprS at hl
      split at hl
      · rename_i hc
        cases hl
        simp only [Bool.and_eq_true, Bool.not_eq_true', decide_eq_true_eq] at hc
        exact WpD.wp (wd_repr hg hm (hA.wk h1 rfl ⟨hc.1.1.1.1, hc.1.1.1.2, hc.1.1.2, hc.1.2, hc.2, hP⟩) st)
      · cases hl
  · rename_i d
    cases hl : reprS d with
    | none => rw [hl] at h2; cases h2
    | some z =>
      rw [hl] at h2
      cases h2
      unfold reprS at hl
      split at hl
      · rename_i hc
        cases hl
        simp only [Bool.and_eq_true, Bool.not_eq_true', decide_eq_true_eq] at hc
        exact WpD.wp (wd_repr hg hm (hA.wk h1 rfl ⟨hc.1.1.1.1, hc.1.1.1.2, hc.1.1.2, hc.1.2, hc.2, hP⟩) st)
      · cases hl
  · exact absurd rfl hi
  · exact absurd rfl hi
  · exact absurd rfl hi
  · exact absurd rfl hi
  · exact absurd rfl hi
  · exact absurd rfl hi
  · cases h2
theorem snd_blt1 {bl : Blt} (hg : GlS S (bltName bl)) (hm : S.mg (bltName bl) = none) (hi : bltName bl ≠ "isinstance") (hA : Snd S A a) : Snd S (.of (bltM bl [A])) (.Call (.Name (bltName bl) p) [a] [] pos) := snd_of rfl rfl fun E r E' q P hP => by
  obtain ⟨⟨y, E1⟩, h1, q⟩ := Rs.bind_ok (x := A.k E) q
  obtain ⟨z, h2, q⟩ := Rs.bind_ok q
  cases q
  exact blt1_by hg hm hi hA h1 (Rs.of_ok h2) hP
theorem blt2_by {bl : Blt} (hg : GlS S (bltName bl)) (hm : S.mg (bltName bl) = none) (hA : Snd S A a) (hB : Snd S B b) {E1 : En} {d1 d2 z : D} (h1 : A.d E = .ok (d1, E1)) (h2 : B.d E1 = .ok (d2, E')) (h3 : blt2 bl d1 d2 = some z) {P : Sl → En → Prop} (hP : P (.dat z) E') : Wp S (.Call (.Name (bltName bl) p) [a, b] [] pos) E P := by
  have st : ∀ env : Env, starEach [a, b] env = (false, eval a env) :: starEach [b] env := plain_star hA.pl [b]
  have st2 : ∀ env : Env, starEach [b] env = (false, eval b env) :: starEach [] env := plain_star hB.pl []
  have sp : ∀ env : Env, (backTo pos (starEach [b] env)).any (·.1) = false := fun env => back_any (by rw [st2]; rfl) pos
  unfold blt2 at h3
  split at h3
  · cases h3; exact WpD.wp (wd_min2 hg hm (hA.d h1 (hB.d h2 ⟨_, _, rfl, rfl, hP⟩)) st st2 sp)
  · cases h3; exact WpD.wp (wd_max2 hg hm (hA.d h1 (hB.d h2 ⟨_, _, rfl, rfl, hP⟩)) st st2 sp)
  · split at h3
    · rename_i hc; cases h3; exact WpD.wp (wd_divmod hg hm (hA.d h1 (hB.d h2 ⟨_, _, rfl, rfl, hc, hP⟩)) st st2 sp)
    · cases h3
  · cases h3
theorem snd_blt2 {bl : Blt} (hg : GlS S (bltName bl)) (hm : S.mg (bltName bl) = none) (hA : Snd S A a) (hB : Snd S B b) : Snd S (.of (bltM bl [A, B])) (.Call (.Name (bltName bl) p) [a, b] [] pos) := snd_of rfl rfl fun E r E' q P hP => by
  obtain ⟨⟨d1, E1⟩, h1, q⟩ := Rs.bind_ok (x := A.d E) q
  obtain ⟨⟨d2, E2⟩, h2, q⟩ := Rs.bind_ok q
  obtain ⟨z, h3, q⟩ := Rs.bind_ok q
  cases q
  exact blt2_by hg hm hA hB h1 h2 (Rs.of_ok h3) hP
def isiName : Blt → Option (Str × String)
  | .isInt => some ("int", "int")
  | .isStr => some ("str", "str")
  | .isBool => some ("bool", "bool")
  | .isList => some ("list", "list")
  | .isTuple => some ("tuple", "tuple")
  | _ => none
theorem snd_isi {bl : Blt} {tx : Str} {T : String} {q : Pos} (hn : isiName bl = some (tx, T)) (hg : GlS S "isinstance") (hm : S.mg "isinstance" = none) (hg2 : GlS S tx) (hm2 : S.mg tx = none) (hA : Snd S A a) : Snd S (.of (bltM bl [A])) (.Call (.Name "isinstance" p) [a, .Name tx q] [] pos) := snd_of rfl rfl fun E r E' qq P hP => by
  obtain ⟨⟨y, E1⟩, h1, qq⟩ := Rs.bind_ok (x := A.k E) qq
  obtain ⟨z, h2, qq⟩ := Rs.bind_ok qq
  cases qq
  have h2 : blt1 bl y = some _ := Rs.of_ok h2
  have st : ∀ env : Env, starEach [a, .Name tx q] env = (false, eval a env) :: starEach [.Name tx q] env := plain_star hA.pl [.Name tx q]
  cases hd : datS y with
  | none => cases bl <;> first | (cases hn; done) | (simp [blt1, hd] at h2; done)
  | some d =>
    cases bl <;> first
      | (cases hn; done)
      | (cases hn; simp [blt1, hd] at h2; subst h2; exact WpD.wp (wd_isi hg hm hg2 hm2 (by decide +kernel) (by decide) (hA.wk h1 hd hP) st (by decide +kernel) (by decide +kernel)))
theorem snd_isiLT {q1 q2 q3 : Pos} {kk : Nat} (hg : GlS S "isinstance") (hm : S.mg "isinstance" = none) (hg1 : GlS S "list") (hm1 : S.mg "list" = none) (hg2 : GlS S "tuple") (hm2 : S.mg "tuple" = none) (hA : Snd S A a) : Snd S (.of (bltM .isSeq [A])) (.Call (.Name "isinstance" p) [a, .Tuple [.Name "list" q1, .Name "tuple" q2] kk q3] [] pos) := snd_of rfl rfl fun E r E' qq P hP => by
  obtain ⟨⟨y, E1⟩, h1, qq⟩ := Rs.bind_ok (x := A.k E) qq
  obtain ⟨z, h2, qq⟩ := Rs.bind_ok qq
  cases qq
  have h2 : blt1 .isSeq y = some _ := Rs.of_ok h2
  cases hd : datS y with
  | none => simp [blt1, hd] at h2
  | some d =>
    simp [blt1, hd] at h2
    subst h2
    exact WpD.wp (wd_isiLT hg hm hg1 hm1 hg2 hm2 (hA.wk h1 hd hP) (plain_star hA.pl _))
end
end Wq
set_option maxHeartbeats 2000000
namespace Wq
open PySem L2

theorem notOwn_of {E : En} {i : Nat} (h : notOwnB E i = true) : notOwn E i := by
  unfold notOwnB at h
  split at h
  · cases h
  · rename_i q hn hq
    exact ⟨q, hq, fun d z => by subst z; exact hn d rfl⟩
  · cases h
theorem allNo_of {E : En} {vs : List Nat} (h : vs.all (notOwnB E) = true) : ∀ i ∈ vs, notOwn E i := fun i hi => notOwn_of (List.all_eq_true.mp h i hi)
theorem drop_at {α : Type} {l : List α} {t : Nat} {d : α} (h : l[t]? = some d) : l.drop t = d :: l.drop (t + 1) := by
  obtain ⟨h1, h2⟩ := List.getElem?_eq_some_iff.mp h
  rw [List.drop_eq_getElem_cons h1, h2]

/-! ### targets -/
mutual
inductive SndT (S : Sx) : IT → Expr → Prop
  | nm {i : Nat} {x : Str} {p : Pos} (hN : S.N[i]? = some x) (hx : Loc S.sc x) (hA : S.asg x = true) : SndT S (.nm i) (.Name x p)
  | tp {ts : ITs} {es : List Expr} {k : Nat} {p : Pos} (h : SndTs S ts es) : SndT S (.tp ts) (.Tuple es k p)
inductive SndTs (S : Sx) : ITs → List Expr → Prop
  | nil : SndTs S .nil []
  | cons {t : IT} {e : Expr} {ts : ITs} {es : List Expr} (h : SndT S t e) (hs : SndTs S ts es) : SndTs S (.cons t ts) (e :: es)
end
section
variable {S : Sx}
theorem SndT.each {t : IT} {e : Expr} (h : SndT S t e) (es : List Expr) (env : Env) : assignEach (e :: es) env = (false, assign e env) :: assignEach es env := by
  cases h <;> rfl
theorem SndTs.len : ∀ {ts : ITs} {es : List Expr}, SndTs S ts es → ∀ env : Env, (assignEach es env).length = es.length ∧ (assignEach es env).findIdx? (·.1) = none
  | _, _, .nil, env => ⟨rfl, rfl⟩
  | _, _, .cons h hs, env => by
    obtain ⟨h1, h2⟩ := SndTs.len hs env
    rw [h.each, List.length_cons, List.length_cons, h1]
    refine ⟨rfl, ?_⟩
    rw [List.findIdx?_cons, h2]
    rfl
theorem SndTs.same : ∀ {ts : ITs} {es : List Expr}, SndTs S ts es → ∀ {ds : List D} {E E' : En}, setTs ts ds E = some E' → es.length = ds.length
  | _, _, .nil, ds, E, E', h => by
    cases ds with
    | nil => rfl
    | cons d ds => cases h
  | _, _, .cons h hs, ds, E, E', q => by
    cases ds with
    | nil => cases q
    | cons d ds =>
      unfold setTs at q
      cases h1 : setT _ d E with
      | none => rw [h1] at q; cases q
      | some E1 =>
        rw [h1] at q
        rw [List.length_cons, List.length_cons, SndTs.same hs q]
mutual
theorem SndT.run : ∀ {t : IT} {e : Expr}, SndT S t e → ∀ {d : D} {E E' : En}, setT t d E = some E' → ∀ {vs : List Nat}, (∀ i ∈ t.slots, i ∈ vs) → ∀ {P : En → Prop}, P E' → WpG S vs e d E P
  | .nm i, _, .nm hN hx hA, d, E, E', q, vs, hv, P, hP => by
    unfold setT at q
    split at q
    · rename_i h
      cases q
      exact g_name hN hx hA (hv _ (by simp [IT.slots])) (notOwn_of h) hP
    · cases q
  | .tp ts, _, .tp h, d, E, E', q, vs, hv, P, hP => by
    have hv' : ∀ i ∈ ts.slots, i ∈ vs := fun i hi => hv i (by simpa [IT.slots] using hi)
    cases d with
    | tuple ds =>
      have q : setTs ts ds E = some E' := by simpa [setT] using q
      exact g_tupN (SndTs.run h q hv' hP) (fun env => by rw [(h.len env).1, h.same q]) (fun env => (h.len env).2)
    | list ds =>
      have q : setTs ts ds E = some E' := by simpa [setT] using q
      exact g_lstN (SndTs.run h q hv' hP) (fun env => by rw [(h.len env).1, h.same q]) (fun env => (h.len env).2)
    | _ => simp [setT] at q
theorem SndTs.run : ∀ {ts : ITs} {es : List Expr}, SndTs S ts es → ∀ {ds : List D} {E E' : En}, setTs ts ds E = some E' → ∀ {vs : List Nat}, (∀ i ∈ ts.slots, i ∈ vs) → ∀ {P : En → Prop}, P E' → WpGs S vs es ds E P
  | .nil, _, .nil, ds, E, E', q, vs, hv, P, hP => by
    cases ds with
    | nil => cases q; exact gs_nil hP
    | cons d ds => cases q
  | .cons t ts, _, .cons h hs, ds, E, E', q, vs, hv, P, hP => by
    cases ds with
    | nil => cases q
    | cons d ds =>
      unfold setTs at q
      cases h1 : setT t d E with
      | none => rw [h1] at q; cases q
      | some E1 =>
        rw [h1] at q
        exact gs_cons (SndT.run h h1 (fun i hi => hv i (by simp [ITs.slots, hi])) (SndTs.run hs q (fun i hi => hv i (by simp [ITs.slots, hi])) hP)) (fun env => by rw [h.each]; rfl)
end
end

/-! ### what is walked -/
structure SndI (S : Sx) (m : MIt) (tg it : Expr) : Prop where
  pl : plainE it = true
  v : m.own = none → ∀ E ds E', m.v E = .ok (ds, E') → ∀ P : List D → En → Prop, P ds E' → WpI S tg it E P
  s : ∀ i, m.own = some i → ∃ x p, it = .Name x p ∧ S.N[i]? = some x ∧ Vis S.sc x ∧ (x == ("__debug__" : Str)) = false ∧ (x == ("__classdict__" : Str)) = false
section
variable {S : Sx} {e a b c tg it : Expr} {es : List Expr} {A B C : Mn} {ms : List Mn} {E E' : En} {pos p : Pos} {x : Str}
theorem sndI_rng (hg : GlS S "range") (hm : S.mg "range" = none) (hA : Snd S A a) : SndI S ⟨none, fun E => (A.d E).bind fun p => (Rs.of (rngS p.1)).bind fun ds => .ok (ds, p.2)⟩ tg (.Call (.Name "range" p) [a] [] pos) where
  pl := rfl
  v := fun _ E ds E' q P hP => by
    obtain ⟨⟨d, E1⟩, h1, q⟩ := Rs.bind_ok q
    obtain ⟨ds', h2, q⟩ := Rs.bind_ok q
    cases q
    have h2 := Rs.of_ok h2
    cases d with
    | int n =>
      simp only [rngS] at h2
      split at h2
      · cases h2
        exact wi_range1 hg hm (hA.d h1 ⟨n, rfl, by omega, by omega, hP⟩) (plain_star hA.pl [])
      · cases h2
    | _ => cases h2
  s := fun i q => by cases q
theorem sndI_rng2 (hg : GlS S "range") (hm : S.mg "range" = none) (hA : Snd S A a) (hB : Snd S B b) : SndI S ⟨none, fun E => (A.d E).bind fun p => (B.d p.2).bind fun q => (Rs.of (rng2S p.1 q.1)).bind fun ds => .ok (ds, q.2)⟩ tg (.Call (.Name "range" p) [a, b] [] pos) where
  pl := rfl
  v := fun _ E ds E' q P hP => by
    obtain ⟨⟨d, E1⟩, h1, q⟩ := Rs.bind_ok q
    obtain ⟨⟨d', E2⟩, h1', q⟩ := Rs.bind_ok q
    obtain ⟨ds', h2, q⟩ := Rs.bind_ok q
    cases q
    have h2 := Rs.of_ok h2
    cases d with
    | int m =>
      cases d' with
      | int n =>
        simp only [rng2S] at h2
        split at h2
        · cases h2
          exact wi_range2 hg hm (hA.d h1 (hB.d h1' ⟨m, n, rfl, rfl, by omega, hP⟩)) (plain_star hA.pl [b]) (plain_star hB.pl [])
        · cases h2
      | _ => cases h2
    | _ => cases h2
  s := fun i q => by cases q
theorem sndI_val (hA : Snd S A a) : SndI S ⟨none, fun E => (A.v E).bind fun p => (Rs.of (walkS p.1)).bind fun ds => .ok (ds, p.2)⟩ tg a where
  pl := hA.pl
  v := fun _ E ds E' q P hP => by
    obtain ⟨⟨r, E1⟩, h1, q⟩ := Rs.bind_ok q
    obtain ⟨ds', h2, q⟩ := Rs.bind_ok q
    cases q
    have h2 : walkS r = some _ := Rs.of_ok h2
    have hd : ∀ d, datS r = some d → A.d E = .ok (d, E1) := fun d e => by
      unfold Mn.d
      rw [h1]
      show (Rs.of (datS r)).bind _ = _
      rw [e]
      rfl
    unfold walkS at h2
    split at h2
    · cases h2
      exact wi_str (hA.d (hd _ rfl) ⟨_, rfl, hP⟩)
    · unfold itemsS at h2
      split at h2
      · cases h2; exact wi_list (hA.d (hd _ rfl) ⟨_, rfl, hP⟩)
      · cases h2; exact wi_list (hA.d (hd _ rfl) ⟨_, rfl, hP⟩)
      · cases h2; exact wi_tup (hA.d (hd _ rfl) ⟨_, rfl, hP⟩)
      · cases h2
  s := fun i q => by cases q
theorem sndI_enum {elts : List Expr} {kk : Nat} {tp : Pos} (hg : GlS S "enumerate") (hm : S.mg "enumerate" = none) (hA : Snd S A a) : SndI S ⟨none, fun E => (A.d E).bind fun p => (Rs.of (enumS p.1)).bind fun ds => .ok (ds, p.2)⟩ (.Tuple elts kk tp) (.Call (.Name "enumerate" p) [a] [] pos) where
  pl := rfl
  v := fun _ E ds E' q P hP => by
    obtain ⟨⟨d, E1⟩, h1, q⟩ := Rs.bind_ok q
    obtain ⟨ds', h2, q⟩ := Rs.bind_ok q
    cases q
    have h2 := Rs.of_ok h2
    cases d with
    | list n => cases h2; exact wi_enum hg hm (hA.d h1 ⟨n, rfl, hP⟩) (plain_star hA.pl [])
    | str n => cases h2; exact wi_enumS hg hm (hA.d h1 ⟨n, rfl, hP⟩) (plain_star hA.pl [])
    | _ => cases h2
  s := fun i q => by cases q
theorem sndI_zip {elts : List Expr} {kk : Nat} {tp : Pos} (hg : GlS S "zip") (hm : S.mg "zip" = none) (hA : Snd S A a) (hB : Snd S B b) : SndI S ⟨none, fun E => (A.d E).bind fun p => (B.d p.2).bind fun q => (Rs.of (zipS p.1 q.1)).bind fun ds => .ok (ds, q.2)⟩ (.Tuple elts kk tp) (.Call (.Name "zip" p) [a, b] [] pos) where
  pl := rfl
  v := fun _ E ds E' q P hP => by
    obtain ⟨⟨d, E1⟩, h1, q⟩ := Rs.bind_ok q
    obtain ⟨⟨d', E2⟩, h1', q⟩ := Rs.bind_ok q
    obtain ⟨ds', h2, q⟩ := Rs.bind_ok q
    cases q
    have h2 : zipS d d' = some _ := Rs.of_ok h2
    have st2 : ∀ env : Env, starEach [b] env = (false, eval b env) :: starEach [] env := plain_star hB.pl []
    clear q
    unfold zipS at h2
    split at h2
    · cases h2; exact wi_zip hg hm (hA.d h1 (hB.d h1' ⟨_, _, .inl ⟨rfl, rfl⟩, hP⟩)) (plain_star hA.pl [b]) st2 (fun env => back_any (by rw [st2]; rfl) pos)
    · cases h2; exact wi_zip hg hm (hA.d h1 (hB.d h1' ⟨_, _, .inr ⟨rfl, rfl⟩, hP⟩)) (plain_star hA.pl [b]) st2 (fun env => back_any (by rw [st2]; rfl) pos)
    · cases h2
  s := fun i q => by cases q
theorem sndI_own {i : Nat} (hN : S.N[i]? = some x) (hv : Vis S.sc x) (hd : (x == ("__debug__" : Str)) = false) (hcd : (x == ("__classdict__" : Str)) = false) : SndI S ⟨some i, fun _ => .bad⟩ tg (.Name x p) where
  pl := rfl
  v := fun q => by cases q
  s := fun j q => by cases q; exact ⟨x, p, rfl, hN, hv, hd, hcd⟩
end

/-! ### comprehensions -/
inductive SndF (S : Sx) : List Mn → List Expr → Prop
  | no : SndF S [] []
  | so {m : Mn} {e : Expr} : Snd S m e → SndF S [m] [e]
section
variable {S S' : Sx} {elt tg it tg1 it1 : Expr} {ifs ifs1 : List Expr} {M : Mn} {t t1 : IT} {ms ms1 : List Mn} {E E' : En} {pos p : Pos}
theorem SndF.run (h : SndF S ms ifs) {b : Bool} (q : testsM ms E = .ok (b, E')) {P : Bool → En → Prop} (hP : P b E') : WpTs S ifs E P := by
  cases h with
  | no => cases q; exact wts_nil hP
  | so h => exact wts_one (h.t E b E' q P hP)
/-- a turn -/
theorem turn_by (hT : SndT S' t tg) (hF : SndF S' ms ifs) (hM : Snd S' M elt) {vs : List Nat} (hv : ∀ i ∈ t.slots, i ∈ vs) {d : D} {ds acc accF : List D} {EF : En}
    (q : loopC (stepC t ms M) vs (d :: ds) acc E = .ok (accF, EF)) {Iv : List D → En → Prop} (hI : ∀ acc' E', loopC (stepC t ms M) vs ds acc' E' = .ok (accF, EF) → Iv acc' E') :
    WpG S' vs tg d E fun E2 => WpTs S' ifs E2 fun b E3 =>
      (b = true → WpD S' elt E3 fun y E4 => acc.length < 1000000 ∧ (∀ i ∈ vs, notOwn E4 i) ∧ Iv (acc ++ [y]) (wipeE E4 vs)) ∧ (b = false → (∀ i ∈ vs, notOwn E3 i) ∧ Iv acc (wipeE E3 vs)) := by
  unfold loopC at q
  obtain ⟨⟨o, E1⟩, h1, q⟩ := Rs.bind_ok q
  split at q
  · rename_i hc
    rw [Bool.and_eq_true, decide_eq_true_eq] at hc
    obtain ⟨E2, h2, h1⟩ := Rs.bind_ok h1
    obtain ⟨⟨b, E3⟩, h3, h1⟩ := Rs.bind_ok h1
    refine hT.run (Rs.of_ok h2) hv (hF.run h3 ?_)
    cases b with
    | true =>
      obtain ⟨⟨y, E4⟩, h4, h1⟩ := Rs.bind_ok h1
      cases h1
      refine ⟨fun _ => hM.d h4 ⟨hc.2, allNo_of hc.1, hI _ _ q⟩, fun z => by cases z⟩
    | false =>
      cases h1
      refine ⟨fun z => (by cases z), fun _ => ⟨allNo_of hc.1, hI _ _ ?_⟩⟩
      simpa using q
  · cases q
theorem lc_by {scope : Scope} {I : MIt} (hI : SndI S I tg it) (ho : I.own = none) (hT : SndT (blkS S scope) t tg) (hF : SndF (blkS S scope) ms ifs) (hM : Snd (blkS S scope) M elt) {x : Sl} (q : compM M t I ms E = .ok (x, E')) {P : List D → En → Prop} (hP : ∀ acc, x = .own (.list acc) → P acc E') :
    WpLc S (blkS S scope) t.slots elt tg it ifs E P := by
  unfold compM at q
  rw [ho] at q
  obtain ⟨⟨ds, E1⟩, h1, q⟩ := Rs.bind_ok q
  split at q
  · rename_i hc
    obtain ⟨⟨acc, E2⟩, h2, q⟩ := Rs.bind_ok q
    cases q
    refine hI.v ho E ds E1 h1 _ ⟨allNo_of hc, fun n ac En => loopC (stepC t ms M) t.slots (ds.drop n) ac En = .ok (acc, E2), h2, ?_, ?_⟩
    · intro n ac Et d hd hq
      rw [drop_at hd] at hq
      exact turn_by (Iv := fun ac En => loopC (stepC t ms M) t.slots (ds.drop (n + 1)) ac En = .ok (acc, E2)) hT hF hM (fun _ h => h) hq fun _ _ h => h
    · intro ac Et hq
      rw [List.drop_length] at hq
      cases hq
      exact hP _ rfl
  · cases q
theorem lo_by {scope : Scope} {I : MIt} {i : Nat} (ho : I.own = some i) (hT : SndT (blkS S scope) t tg) (hF : SndF (blkS S scope) ms ifs) (hM : Snd (blkS S scope) M elt) {x : Sl} (q : compM M t I ms E = .ok (x, E')) {P : List D → En → Prop} (hP : ∀ acc, x = .own (.list acc) → P acc E') :
    ∃ ds, E[i]? = some (Sl.own (.list ds)) ∧ i ∉ t.slots ∧ WpLo (blkS S scope) t.slots elt tg ifs (E.set i .no) ds fun acc E' => E'[i]? = some Sl.no ∧ P acc (E'.set i (.own (.list ds))) := by
  unfold compM at q
  rw [ho] at q
  have q : (match E[i]? with
    | some (.own (.list ds)) => if !t.slots.contains i && t.slots.all (notOwnB (E.set i .no)) then
        (loopC (stepC t ms M) t.slots ds [] (wipeE (E.set i .no) t.slots)).bind fun q => match q.2[i]? with
          | some .no => Rs.ok (Sl.own (.list q.1), q.2.set i (.own (.list ds)))
          | _ => .bad
      else .bad
    | _ => .bad) = .ok (x, E') := q
  split at q
  · rename_i ds he
    split at q
    · rename_i hc
      rw [Bool.and_eq_true] at hc
      obtain ⟨⟨acc, E2⟩, h2, q⟩ := Rs.bind_ok q
      have q : (match E2[i]? with
          | some .no => Rs.ok (Sl.own (.list acc), E2.set i (.own (.list ds)))
          | _ => .bad) = .ok (x, E') := q
      split at q
      · rename_i hn
        cases q
        refine ⟨ds, he, fun h => ?_, allNo_of hc.2, fun n ac En => loopC (stepC t ms M) t.slots (ds.drop n) ac En = .ok (acc, E2), h2, ?_, ?_⟩
        · have := hc.1
          rw [List.contains_iff_mem.mpr h] at this
          cases this
        · intro n ac Et d hd hq
          rw [drop_at hd] at hq
          exact turn_by (Iv := fun ac En => loopC (stepC t ms M) t.slots (ds.drop (n + 1)) ac En = .ok (acc, E2)) hT hF hM (fun _ h => h) hq fun _ _ h => h
        · intro ac Et hq
          rw [List.drop_length] at hq
          cases hq
          exact ⟨hn, hP _ rfl⟩
      · cases q
    · cases q
  · cases q
theorem compM_own {I : MIt} {x : Sl} (q : compM M t I ms E = .ok (x, E')) : ∃ acc, x = .own (.list acc) := by
  unfold compM at q
  split at q
  · obtain ⟨⟨ds, E1⟩, h1, q⟩ := Rs.bind_ok q
    split at q
    · obtain ⟨⟨acc, E2⟩, h2, q⟩ := Rs.bind_ok q
      cases q
      exact ⟨_, rfl⟩
    · cases q
  · split at q
    · split at q
      · obtain ⟨⟨acc, E2⟩, h2, q⟩ := Rs.bind_ok q
        split at q
        · cases q; exact ⟨_, rfl⟩
        · cases q
      · cases q
    · cases q
def ownOf (N : List Str) (vs : List Nat) : List (Str × Nat) := vs.map fun i => ((N[i]?).getD "", i)
theorem ownOf_ix (N : List Str) (vs : List Nat) : (ownOf N vs).map (·.2) = vs := by
  unfold ownOf
  rw [List.map_map]
  exact List.map_id' vs
theorem snd_comp {scope : Scope} {I : MIt} (ok : BlkOk S.N S.sc scope (ownOf S.N t.slots)) (hI : SndI S I tg it) (hT : SndT (blkS S scope) t tg) (hF : SndF (blkS S scope) ms ifs) (hM : Snd (blkS S scope) M elt) : Snd S (.of (compM M t I ms)) (.ListComp elt [⟨tg, it, ifs, 0⟩] scope pos) := snd_of rfl rfl fun E r E' q P hP => by
  obtain ⟨acc, rfl⟩ := compM_own q
  cases ho : I.own with
  | none =>
    refine wp_lc (ownOf S.N t.slots) ok ?_ (plain_fold hI.pl)
    rw [ownOf_ix]
    exact lc_by hI ho hT hF hM q fun ac e => by cases e; exact hP
  | some i =>
    obtain ⟨x, p, rfl, hN, hv, hd, hcd⟩ := hI.s i ho
    obtain ⟨ds, h1, h2, h3⟩ := lo_by ho hT hF hM q (P := fun ac E' => P (.own (.list ac)) E') fun ac e => by cases e; exact hP
    refine wp_lcOwn (ownOf S.N t.slots) ok hN hv h1 (by rw [ownOf_ix]; exact h2) ?_ (plain_fold rfl) hd hcd
    rw [ownOf_ix]
    exact h3
theorem lc2_by {scope : Scope} {I I1 : MIt} (hI : SndI S I tg it) (hT : SndT (blkS S scope) t tg) (hF : SndF (blkS S scope) ms ifs) (hI1 : SndI (blkS S scope) I1 tg1 it1) (hT1 : SndT (blkS S scope) t1 tg1) (hF1 : SndF (blkS S scope) ms1 ifs1) (hM : Snd (blkS S scope) M elt) {x : Sl}
    (q : comp2M M t I ms t1 I1 ms1 E = .ok (x, E')) {P : List D → En → Prop} (hP : ∀ acc, x = .own (.list acc) → P acc E') : WpLc2 S (blkS S scope) (t.slots ++ t1.slots) t1.slots elt tg it ifs tg1 it1 ifs1 E P := by
  unfold comp2M at q
  split at q
  · rename_i ho ho1
    obtain ⟨⟨ds, E1⟩, h1, q⟩ := Rs.bind_ok q
    split at q
    · rename_i hc
      obtain ⟨⟨acc, E2⟩, h2, q⟩ := Rs.bind_ok q
      cases q
      refine hI.v ho E ds E1 h1 _ ⟨allNo_of hc, fun n ac En => loop2 t ms I1.v t1 ms1 M (t.slots ++ t1.slots) (ds.drop n) ac En = .ok (acc, E2), h2, ?_, ?_⟩
      · intro n ac Et d hd hq
        rw [drop_at hd] at hq
        unfold loop2 at hq
        obtain ⟨E3, g1, hq⟩ := Rs.bind_ok hq
        obtain ⟨⟨b, E4⟩, g2, hq⟩ := Rs.bind_ok hq
        refine hT.run (Rs.of_ok g1) (fun i hi => List.mem_append_left _ hi) (hF.run g2 ?_)
        cases b with
        | true =>
          refine ⟨fun _ => ?_, fun z => by cases z⟩
          obtain ⟨⟨ds1, E5⟩, g3, hq⟩ := Rs.bind_ok hq
          split at hq
          · rename_i hc1
            obtain ⟨⟨acc1, E6⟩, g4, hq⟩ := Rs.bind_ok hq
            split at hq
            · rename_i hc2
              refine hI1.v ho1 E4 ds1 E5 g3 _ ⟨allNo_of hc1, fun m ac1 Em => loopC (stepC t1 ms1 M) t1.slots (ds1.drop m) ac1 Em = .ok (acc1, E6), g4, ?_, ?_⟩
              · intro m ac1 Em d1 hd1 hq1
                rw [drop_at hd1] at hq1
                exact turn_by (Iv := fun ac En => loopC (stepC t1 ms1 M) t1.slots (ds1.drop (m + 1)) ac En = .ok (acc1, E6)) hT1 hF1 hM (fun _ h => h) hq1 fun _ _ h => h
              · intro ac1 Em hq1
                rw [List.drop_length] at hq1
                cases hq1
                exact ⟨allNo_of hc2, hq⟩
            · cases hq
          · cases hq
        | false =>
          refine ⟨fun z => (by cases z), fun _ => ?_⟩
          have hq : (if (t.slots ++ t1.slots).all (notOwnB E4) then loop2 t ms I1.v t1 ms1 M (t.slots ++ t1.slots) (ds.drop (n + 1)) ac (wipeE E4 (t.slots ++ t1.slots)) else .bad) = .ok (acc, E2) := hq
          split at hq
          · rename_i hc2
            exact ⟨allNo_of hc2, hq⟩
          · cases hq
      · intro ac Et hq
        rw [List.drop_length] at hq
        cases hq
        exact hP _ rfl
    · cases q
  · cases q
theorem comp2M_own {I I1 : MIt} {x : Sl} (q : comp2M M t I ms t1 I1 ms1 E = .ok (x, E')) : ∃ acc, x = .own (.list acc) := by
  unfold comp2M at q
  split at q
  · obtain ⟨⟨ds, E1⟩, h1, q⟩ := Rs.bind_ok q
    split at q
    · obtain ⟨⟨acc, E2⟩, h2, q⟩ := Rs.bind_ok q
      cases q
      exact ⟨_, rfl⟩
    · cases q
  · cases q
theorem snd_comp2 {scope : Scope} {I I1 : MIt} (ok : BlkOk S.N S.sc scope (ownOf S.N (t.slots ++ t1.slots))) (hI : SndI S I tg it) (hT : SndT (blkS S scope) t tg) (hF : SndF (blkS S scope) ms ifs) (hI1 : SndI (blkS S scope) I1 tg1 it1) (hT1 : SndT (blkS S scope) t1 tg1) (hF1 : SndF (blkS S scope) ms1 ifs1) (hM : Snd (blkS S scope) M elt) :
    Snd S (.of (comp2M M t I ms t1 I1 ms1)) (.ListComp elt [⟨tg, it, ifs, 0⟩, ⟨tg1, it1, ifs1, 0⟩] scope pos) := snd_of rfl rfl fun E r E' q P hP => by
  obtain ⟨acc, rfl⟩ := comp2M_own q
  refine wp_lc2 (ownOf S.N (t.slots ++ t1.slots)) t1.slots ok (by rw [ownOf_ix]; exact fun i hi => List.mem_append_right _ hi) ?_ (plain_fold hI.pl) (plain_fold hI1.pl)
  rw [ownOf_ix]
  exact lc2_by hI hT hF hI1 hT1 hF1 hM q fun ac e => by cases e; exact hP
end
end Wq
set_option maxHeartbeats 4000000
namespace Wq
open PySem L2

structure Stt where
  N : List Str
  sc : Scope
  asg : Str → Bool
  Tb : List Str
  Cn : List Str
def Stt.blk (Q : Stt) (scope : Scope) : Stt := { Q with sc := relS scope Q.sc, asg := fun x => scope.names.lookup x == some NameKind.local || scope.names.lookup x == some NameKind.cell }
structure Tie (S : Sx) (Q : Stt) : Prop where
  N : S.N = Q.N
  sc : S.sc = Q.sc
  asg : S.asg = Q.asg
theorem Tie.blk {S : Sx} {Q : Stt} (h : Tie S Q) (scope : Scope) : Tie (blkS S scope) (Q.blk scope) := ⟨h.N, by show relS scope S.sc = relS scope Q.sc; rw [h.sc], rfl⟩
def visB (sc : Scope) (x : Str) : Bool := match sc.names.lookup x with
  | some .local => true
  | some .cell => true
  | some .free => true
  | _ => false
def locB (sc : Scope) (x : Str) : Bool := match sc.names.lookup x with
  | some .local => true
  | some .cell => true
  | _ => false
theorem vis_of {sc : Scope} {x : Str} (h : visB sc x = true) : Vis sc x := by
  unfold visB at h
  split at h
  · exact .inl (by assumption)
  · exact .inr (.inl (by assumption))
  · exact .inr (.inr (by assumption))
  · cases h
theorem loc_of {sc : Scope} {x : Str} (h : locB sc x = true) : Loc sc x := by
  unfold locB at h
  split at h
  · exact .inl (by assumption)
  · exact .inr (by assumption)
  · cases h
def nameB (Q : Stt) (i : Nat) (x : Str) : Bool := decide (Q.N[i]? = some x) && visB Q.sc x && !(x == ("__debug__" : Str)) && !(x == ("__classdict__" : Str))
def glB (Q : Stt) (x : Str) : Bool := decide (Q.sc.names.lookup x = some NameKind.globalImplicit)
def fnB (Q : Stt) (f : Nat) (x : Str) : Bool := decide (Q.Tb[f]? = some x) && glB Q x && !(x == ("__debug__" : Str))
theorem fn_of {S : Sx} {Q : Stt} (tie : Tie S Q) {f : Nat} {x : Str} (h : fnB Q f x = true) : Q.Tb[f]? = some x ∧ GlS S x ∧ (x == ("__debug__" : Str)) = false := by
  unfold fnB glB at h
  rw [Bool.and_eq_true, Bool.and_eq_true, decide_eq_true_eq, decide_eq_true_eq, Bool.not_eq_true'] at h
  obtain ⟨⟨h1, h2⟩, h3⟩ := h
  exact ⟨h1, by unfold GlS; rw [tie.sc]; exact h2, h3⟩
theorem gl_of {S : Sx} {Q : Stt} (tie : Tie S Q) {x : Str} (h : glB Q x = true) : GlS S x := by
  unfold glB at h
  unfold GlS
  rw [tie.sc]
  exact of_decide_eq_true h
theorem name_of {S : Sx} {Q : Stt} (tie : Tie S Q) {i : Nat} {x : Str} (h : nameB Q i x = true) : S.N[i]? = some x ∧ Vis S.sc x ∧ (x == ("__debug__" : Str)) = false ∧ (x == ("__classdict__" : Str)) = false := by
  unfold nameB at h
  rw [Bool.and_eq_true, Bool.and_eq_true, Bool.and_eq_true, decide_eq_true_eq, Bool.not_eq_true', Bool.not_eq_true'] at h
  obtain ⟨⟨⟨h1, h2⟩, h3⟩, h4⟩ := h
  exact ⟨by rw [tie.N]; exact h1, by rw [tie.sc]; exact vis_of h2, h3, h4⟩
mutual
def chkT (Q : Stt) : IT → Expr → Bool
  | .nm i, e => (match e with
    | .Name x _ => decide (Q.N[i]? = some x) && locB Q.sc x && Q.asg x
    | _ => false)
  | .tp ts, e => (match e with
    | .Tuple es _ _ => chkTs Q ts es
    | _ => false)
def chkTs (Q : Stt) : ITs → List Expr → Bool
  | .nil, es => es.isEmpty
  | .cons t ts, es => (match es with
    | e :: es => chkT Q t e && chkTs Q ts es
    | [] => false)
end
mutual
theorem sndT_of {S : Sx} {Q : Stt} (tie : Tie S Q) : ∀ (t : IT) (e : Expr), chkT Q t e = true → SndT S t e
  | .nm i, e, h => by
    simp only [chkT] at h
    split at h
    · rw [Bool.and_eq_true, Bool.and_eq_true, decide_eq_true_eq] at h
      exact .nm (by rw [tie.N]; exact h.1.1) (by rw [tie.sc]; exact loc_of h.1.2) (by rw [tie.asg]; exact h.2)
    · cases h
  | .tp ts, e, h => by
    simp only [chkT] at h
    split at h
    · exact .tp (sndTs_of tie ts _ h)
    · cases h
theorem sndTs_of {S : Sx} {Q : Stt} (tie : Tie S Q) : ∀ (t : ITs) (e : List Expr), chkTs Q t e = true → SndTs S t e
  | .nil, e, h => by
    simp only [chkTs] at h
    cases e with
    | nil => exact .nil
    | cons _ _ => cases h
  | .cons t ts, e, h => by
    simp only [chkTs] at h
    split at h
    · rw [Bool.and_eq_true] at h
      exact .cons (sndT_of tie t _ h.1) (sndTs_of tie ts _ h.2)
    · cases h
end
def isTup : Expr → Bool
  | .Tuple .. => true
  | _ => false
mutual
def chkE (Q : Stt) : IE → Expr → Bool
  | .slot i, e => (match e with
    | .Name x _ => nameB Q i x
    | _ => false)
  | .cst n, e => (match e with
    | .Name x _ => decide (Q.Cn[n]? = some x) && glB Q x && !(x == ("__debug__" : Str))
    | _ => false)
  | .int i, e => (match e with
    | .Constant (.int j) _ _ => decide (i = j)
    | _ => false)
  | .str i, e => (match e with
    | .Constant (.str j) _ _ => decide (i = j)
    | _ => false)
  | .bl i, e => (match e with
    | .Constant (.bool j) _ _ => decide (i = j)
    | _ => false)
  | .non, e => (match e with
    | .Constant .none _ _ => true
    | _ => false)
  | .bin op a b, e => (match e with
    | .BinOp a' op' b' _ => decide (op = op') && chkE Q a a' && chkE Q b b'
    | _ => false)
  | .neg a, e => (match e with
    | .UnaryOp .USub a' _ => chkE Q a a'
    | _ => false)
  | .cmp op a b, e => (match e with
    | .Compare a' [op'] [b'] _ => decide (op = op') && chkE Q a a' && chkE Q b b'
    | _ => false)
  | .cmp2 o1 o2 a b c, e => (match e with
    | .Compare a' [o1', o2'] [b', c'] _ => decide (o1 = o1') && decide (o2 = o2') && chkE Q a a' && chkE Q b b' && chkE Q c c'
    | _ => false)
  | .bop op es, e => (match e with
    | .BoolOp op' es' _ => decide (op = op') && chkAs Q es es'
    | _ => false)
  | .not a, e => (match e with
    | .UnaryOp .Not a' _ => chkE Q a a'
    | _ => false)
  | .ite c a b, e => (match e with
    | .IfExp c' a' b' _ => chkE Q c c' && chkE Q a a' && chkE Q b b'
    | _ => false)
  | .tup es, e => (match e with
    | .Tuple es' _ _ => chkAs Q es es'
    | _ => false)
  | .lst es, e => (match e with
    | .List es' _ => chkAs Q es es'
    | _ => false)
  | .ix a b, e => (match e with
    | .Subscript a' b' _ => chkE Q a a' && chkE Q b b'
    | _ => false)
  | .sl a lo hi, e => (match e with
    | .Subscript a' (.Slice lo' hi' none _) _ => chkE Q a a' && chkO Q lo lo' && chkO Q hi hi'
    | _ => false)
  | .rev a, e => (match e with
    | .Subscript a' (.Slice none none (some (.UnaryOp .USub (.Constant (.int 1) _ _) _)) _) _ => chkE Q a a'
    | _ => false)
  | .call f es, e => (match e with
    | .Call (.Name x _) (e' :: es') [] _ => fnB Q f x && chkAs Q es (e' :: es')
    | _ => false)
  | .callB f i es, e => (match e with
    | .Call (.Name x _) (.Name bx _ :: es') [] _ => fnB Q f x && nameB Q i bx && chkAs Q es es'
    | _ => false)
  | .callO f i es, e => (match e with
    | .Call (.Name x _) (.Name bx _ :: es') [] _ => fnB Q f x && nameB Q i bx && chkAs Q es es'
    | _ => false)
  | .callT f a, e => (match e with
    | .Call (.Name x _) [a'] [] _ => fnB Q f x && chkE Q a a'
    | _ => false)
  | .pop i k, e => (match e with
    | .Call (.Attribute (.Name x _) at' ap) [k'] [] pos => decide (at' = ("pop" : Str)) && nameB Q i x && (ap.endLine == pos.line) && chkE Q k k'
    | _ => false)
  | .blt b es, e => (match e with
    | .Call (.Name x _) [a'] [] _ => decide (x = bltName b) && decide (bltName b ≠ ("isinstance" : Str)) && glB Q x && decide (bltName b ∈ bltNames) && chkAs Q es [a']
    | .Call (.Name x _) [a', b'] [] _ => (match isiName b, b' with
      | some (tx, _), .Name y _ => decide (x = ("isinstance" : Str)) && glB Q x && decide (y = tx) && glB Q y && decide (tx ∈ bltNames) && chkAs Q es [a']
      | some _, _ => false
      | none, b' => if b = .isSeq then (match b' with
          | .Tuple [.Name y _, .Name z _] _ _ => decide (x = ("isinstance" : Str)) && decide (y = ("list" : Str)) && decide (z = ("tuple" : Str)) && glB Q x && glB Q y && glB Q z && chkAs Q es [a']
          | _ => false)
        else decide (x = bltName b) && glB Q x && decide (bltName b ∈ bltNames) && chkAs Q es [a', b'])
    | _ => false)
  | .join a b, e => (match e with
    | .Call (.Attribute (.Constant (.str z') _ _) at' ap) [b'] [] pos => (match a with
      | .str z => decide (z = z')
      | _ => false) && decide (at' = ("join" : Str)) && (ap.endLine == pos.line) && chkE Q b b'
    | _ => false)
  | .comp elt tg it ifs, e => (match e with
    | .ListComp elt' [⟨tg', it', ifs', as⟩] scope _ => decide (as = 0) && blkC Q.N Q.sc scope (ownOf Q.N tg.slots) && chkI Q it tg' it' && chkT (Q.blk scope) tg tg' && chkF (Q.blk scope) ifs ifs' && chkE (Q.blk scope) elt elt'
    | _ => false)
  | .comp2 elt tg it ifs tg1 it1 ifs1, e => (match e with
    | .ListComp elt' [⟨tg', it', ifs', as⟩, ⟨tg1', it1', ifs1', as1⟩] scope _ => decide (as = 0) && decide (as1 = 0) && blkC Q.N Q.sc scope (ownOf Q.N (tg.slots ++ tg1.slots)) && chkI Q it tg' it' && chkT (Q.blk scope) tg tg' && chkF (Q.blk scope) ifs ifs' &&
        chkI (Q.blk scope) it1 tg1' it1' && chkT (Q.blk scope) tg1 tg1' && chkF (Q.blk scope) ifs1 ifs1' && chkE (Q.blk scope) elt elt'
    | _ => false)
def chkAs (Q : Stt) : IA → List Expr → Bool
  | .nil, es => es.isEmpty
  | .cons a as, es => (match es with
    | e :: es => chkE Q a e && chkAs Q as es
    | [] => false)
def chkF (Q : Stt) : IA → List Expr → Bool
  | .nil, es => es.isEmpty
  | .cons a as, es => (match es with
    | [e] => chkE Q a e && (match as with
      | .nil => true
      | _ => false)
    | _ => false)
def chkO (Q : Stt) : IA → Option Expr → Bool
  | .nil, o => o.isNone
  | .cons a as, o => (match o with
    | some e => chkE Q a e && (match as with
      | .nil => true
      | _ => false)
    | none => false)
def chkI (Q : Stt) : II → Expr → Expr → Bool
  | .rng a, tg, e => (match e with
    | .Call (.Name x _) [a'] [] _ => decide (x = ("range" : Str)) && glB Q x && chkE Q a a'
    | _ => false)
  | .rng2 a b, tg, e => (match e with
    | .Call (.Name x _) [a', b'] [] _ => decide (x = ("range" : Str)) && glB Q x && chkE Q a a' && chkE Q b b'
    | _ => false)
  | .val a, tg, e => chkE Q a e
  | .enum a, tg, e => isTup tg && (match e with
    | .Call (.Name x _) [a'] [] _ => decide (x = ("enumerate" : Str)) && glB Q x && chkE Q a a'
    | _ => false)
  | .zip a b, tg, e => isTup tg && (match e with
    | .Call (.Name x _) [a', b'] [] _ => decide (x = ("zip" : Str)) && glB Q x && chkE Q a a' && chkE Q b b'
    | _ => false)
  | .own i, tg, e => (match e with
    | .Name x _ => nameB Q i x
    | _ => false)
end
end Wq
set_option maxHeartbeats 4000000
namespace Wq
open PySem L2
section
variable (Γ : Nat → FnE) (Cs : Nat → Option D)
mutual
theorem snd_E : ∀ (ie : IE) (S : Sx) (Q : Stt), Tie S Q → EnvOk S Q.Tb Γ Q.Cn Cs → ∀ e, chkE Q ie e = true → Snd S (semE Γ Cs ie) e
  | .slot i, S, Q, tie, ok, e, h => by
    simp only [chkE] at h
    split at h
    · obtain ⟨h1, h2, h3, h4⟩ := name_of tie h
      exact snd_slot h1 h2 h3 h4
    · cases h
  | .cst n, S, Q, tie, ok, e, h => by
    simp only [chkE] at h
    split at h
    · rw [Bool.and_eq_true, Bool.and_eq_true, decide_eq_true_eq, Bool.not_eq_true'] at h
      cases hc : Cs n with
      | none =>
        have e : semE Γ Cs (.cst n) = Mn.of fun _ => .bad := by simp only [semE, hc, Rs.of, Rs.bind]
        rw [e]
        exact snd_bad (pl := rfl)
      | some d =>
        obtain ⟨u, v, h1, h2, h3⟩ := ok.cst n _ d h.1.1 hc
        exact snd_cst (gl_of tie h.1.2) h1 h2 h3 h.2 hc
    · cases h
  | .int i, S, Q, tie, ok, e, h => by
    simp only [chkE] at h
    split at h
    · cases of_decide_eq_true h; exact snd_int
    · cases h
  | .str i, S, Q, tie, ok, e, h => by
    simp only [chkE] at h
    split at h
    · cases of_decide_eq_true h; exact snd_str
    · cases h
  | .bl i, S, Q, tie, ok, e, h => by
    simp only [chkE] at h
    split at h
    · cases of_decide_eq_true h; exact snd_bl
    · cases h
  | .non, S, Q, tie, ok, e, h => by
    simp only [chkE] at h
    split at h
    · exact snd_non
    · cases h
  | .bin op a b, S, Q, tie, ok, e, h => by
    simp only [chkE] at h
    split at h
    · rw [Bool.and_eq_true, Bool.and_eq_true, decide_eq_true_eq] at h
      obtain ⟨⟨rfl, h1⟩, h2⟩ := h
      exact snd_bin (snd_E a S Q tie ok _ h1) (snd_E b S Q tie ok _ h2)
    · cases h
  | .neg a, S, Q, tie, ok, e, h => by
    simp only [chkE] at h
    split at h
    · exact snd_neg (snd_E a S Q tie ok _ h)
    · cases h
  | .cmp op a b, S, Q, tie, ok, e, h => by
    simp only [chkE] at h
    split at h
    · rw [Bool.and_eq_true, Bool.and_eq_true, decide_eq_true_eq] at h
      obtain ⟨⟨rfl, h1⟩, h2⟩ := h
      exact snd_cmp (snd_E a S Q tie ok _ h1) (snd_E b S Q tie ok _ h2)
    · cases h
  | .cmp2 o1 o2 a b c, S, Q, tie, ok, e, h => by
    simp only [chkE] at h
    split at h
    · simp only [Bool.and_eq_true, decide_eq_true_eq] at h
      obtain ⟨⟨⟨⟨rfl, rfl⟩, h1⟩, h2⟩, h3⟩ := h
      exact snd_cmp2 (snd_E a S Q tie ok _ h1) (snd_E b S Q tie ok _ h2) (snd_E c S Q tie ok _ h3)
    · cases h
  | .bop op es, S, Q, tie, ok, e, h => by
    simp only [chkE] at h
    split at h
    · rw [Bool.and_eq_true, decide_eq_true_eq] at h
      obtain ⟨rfl, h1⟩ := h
      cases op with
      | And => exact snd_and (snd_As es S Q tie ok _ h1)
      | Or => exact snd_or (snd_As es S Q tie ok _ h1)
    · cases h
  | .not a, S, Q, tie, ok, e, h => by
    simp only [chkE] at h
    split at h
    · exact snd_not (snd_E a S Q tie ok _ h)
    · cases h
  | .ite c a b, S, Q, tie, ok, e, h => by
    simp only [chkE] at h
    split at h
    · rw [Bool.and_eq_true, Bool.and_eq_true] at h
      exact snd_ite (snd_E c S Q tie ok _ h.1.1) (snd_E a S Q tie ok _ h.1.2) (snd_E b S Q tie ok _ h.2)
    · cases h
  | .tup es, S, Q, tie, ok, e, h => by
    simp only [chkE] at h
    split at h
    · exact snd_tup (snd_As es S Q tie ok _ h)
    · cases h
  | .lst es, S, Q, tie, ok, e, h => by
    simp only [chkE] at h
    split at h
    · exact snd_lst (snd_As es S Q tie ok _ h)
    · cases h
  | .ix a b, S, Q, tie, ok, e, h => by
    simp only [chkE] at h
    split at h
    · rw [Bool.and_eq_true] at h
      exact snd_ix (snd_E a S Q tie ok _ h.1) (snd_E b S Q tie ok _ h.2)
    · cases h
  | .sl a lo hi, S, Q, tie, ok, e, h => by
    simp only [chkE] at h
    split at h
    · rw [Bool.and_eq_true, Bool.and_eq_true] at h
      exact snd_sl (snd_E a S Q tie ok _ h.1.1) (snd_O lo S Q tie ok _ h.1.2) (snd_O hi S Q tie ok _ h.2)
    · cases h
  | .rev a, S, Q, tie, ok, e, h => by
    simp only [chkE] at h
    split at h
    · exact snd_rev (snd_E a S Q tie ok _ h)
    · cases h
  | .call f es, S, Q, tie, ok, e, h => by
    simp only [chkE] at h
    split at h
    · rw [Bool.and_eq_true] at h
      obtain ⟨h1, h3, h4⟩ := fn_of tie h.1
      have hA := snd_As es S Q tie ok _ h.2
      cases hg : Γ f with
      | pu g =>
        obtain ⟨ps, k, h2, C⟩ := ok.pu f _ g h1 hg
        have e : semE Γ Cs (.call f es) = Mn.of (callM (.pu g) (semAs Γ Cs es)) := by simp only [semE, hg]
        rw [e]
        cases hz : semAs Γ Cs es with
        | nil => rw [hz] at hA; cases hA
        | cons m ms => rw [hz] at hA; exact snd_call C h2 h3 h4 hA
      | bx g =>
        have e : semE Γ Cs (.call f es) = Mn.of fun _ => .bad := by simp only [semE, hg]; rfl
        rw [e]
        exact snd_bad (pl := rfl)
      | no =>
        have e : semE Γ Cs (.call f es) = Mn.of fun _ => .bad := by simp only [semE, hg]; rfl
        rw [e]
        exact snd_bad (pl := rfl)
    · cases h
  | .callB f i es, S, Q, tie, ok, e, h => by
    simp only [chkE] at h
    split at h
    · rw [Bool.and_eq_true, Bool.and_eq_true] at h
      obtain ⟨h1, h3, h4⟩ := fn_of tie h.1.1
      obtain ⟨g1, g2, g3, g4⟩ := name_of tie h.1.2
      have hA := snd_As es S Q tie ok _ h.2
      cases hg : Γ f with
      | bx g =>
        obtain ⟨ps, k, h2, C⟩ := ok.bx f _ g h1 hg
        have e : semE Γ Cs (.callB f i es) = Mn.of (callBM (.bx g) i (semAs Γ Cs es)) := by simp only [semE, hg]
        rw [e]
        exact snd_callB C h2 h3 h4 g1 g2 g3 g4 hA
      | pu g =>
        have e : semE Γ Cs (.callB f i es) = Mn.of fun _ => .bad := by simp only [semE, hg]; rfl
        rw [e]
        exact snd_bad (pl := rfl)
      | no =>
        have e : semE Γ Cs (.callB f i es) = Mn.of fun _ => .bad := by simp only [semE, hg]; rfl
        rw [e]
        exact snd_bad (pl := rfl)
    · cases h
  | .callT f a, S, Q, tie, ok, e, h => by
    simp only [chkE] at h
    split at h
    · rw [Bool.and_eq_true] at h
      obtain ⟨h1, h3, h4⟩ := fn_of tie h.1
      have hA := snd_E a S Q tie ok _ h.2
      cases hg : Γ f with
      | bx g =>
        obtain ⟨ps, k, h2, C⟩ := ok.bx f _ g h1 hg
        have e : semE Γ Cs (.callT f a) = Mn.of (callTM (.bx g) (semE Γ Cs a)) := by simp only [semE, hg]
        rw [e]
        exact snd_callT C h2 h3 h4 hA
      | pu g =>
        have e : semE Γ Cs (.callT f a) = Mn.of fun _ => .bad := by simp only [semE, hg]; rfl
        rw [e]
        exact snd_bad (pl := rfl)
      | no =>
        have e : semE Γ Cs (.callT f a) = Mn.of fun _ => .bad := by simp only [semE, hg]; rfl
        rw [e]
        exact snd_bad (pl := rfl)
    · cases h
  | .pop i k, S, Q, tie, ok, e, h => by
    simp only [chkE] at h
    split at h
    · rw [Bool.and_eq_true, Bool.and_eq_true, Bool.and_eq_true, decide_eq_true_eq] at h
      obtain ⟨⟨⟨rfl, h2⟩, h3⟩, h4⟩ := h
      obtain ⟨g1, g2, g3, g4⟩ := name_of tie h2
      exact snd_pop g1 g2 g3 g4 h3 (snd_E k S Q tie ok _ h4)
    · cases h
  | .callO f i es, S, Q, tie, ok, e, h => by
    simp only [chkE] at h
    split at h
    · rw [Bool.and_eq_true, Bool.and_eq_true] at h
      obtain ⟨h1, h3, h4⟩ := fn_of tie h.1.1
      obtain ⟨g1, g2, g3, g4⟩ := name_of tie h.1.2
      have hA := snd_As es S Q tie ok _ h.2
      cases hg : Γ f with
      | pu g =>
        obtain ⟨ps, k, h2, C⟩ := ok.pu f _ g h1 hg
        have e : semE Γ Cs (.callO f i es) = Mn.of (callOM (.pu g) i (semAs Γ Cs es)) := by simp only [semE, hg]
        rw [e]
        exact snd_callO C h2 h3 h4 g1 g2 g3 g4 hA
      | bx g =>
        have e : semE Γ Cs (.callO f i es) = Mn.of fun _ => .bad := by simp only [semE, hg]; rfl
        rw [e]
        exact snd_bad (pl := rfl)
      | no =>
        have e : semE Γ Cs (.callO f i es) = Mn.of fun _ => .bad := by simp only [semE, hg]; rfl
        rw [e]
        exact snd_bad (pl := rfl)
    · cases h
  | .blt b es, S, Q, tie, ok, e, h => by
    have hS := fun es' h' => snd_As es S Q tie ok es' h'
    simp only [chkE] at h
    split at h
    · simp only [Bool.and_eq_true, decide_eq_true_eq] at h
      obtain ⟨⟨⟨⟨rfl, h1⟩, h2⟩, h3⟩, h4⟩ := h
      have hA := hS _ h4
      simp only [semE]
      cases hz : semAs Γ Cs es with
      | nil => rw [hz] at hA; cases hA
      | cons m ms =>
        rw [hz] at hA
        cases hA with
        | cons q1 q2 =>
          cases q2
          exact snd_blt1 (gl_of tie h2) (ok.blt _ h3) h1 q1
    · split at h
      · rename_i tx T y p hi
        simp only [Bool.and_eq_true, decide_eq_true_eq] at h
        obtain ⟨⟨⟨⟨⟨rfl, h1⟩, rfl⟩, h3⟩, h4⟩, h5⟩ := h
        have hA := hS _ h5
        simp only [semE]
        cases hz : semAs Γ Cs es with
        | nil => rw [hz] at hA; cases hA
        | cons m ms =>
          rw [hz] at hA
          cases hA with
          | cons q1 q2 =>
            cases q2
            exact snd_isi hi (gl_of tie h1) (ok.blt _ (by decide +kernel)) (gl_of tie h3) (ok.blt _ h4) q1
      · cases h
      · split at h
        · rename_i hb
          subst hb
          split at h
          · simp only [Bool.and_eq_true, decide_eq_true_eq] at h
            obtain ⟨⟨⟨⟨⟨⟨rfl, rfl⟩, rfl⟩, h1⟩, h2⟩, h3⟩, h5⟩ := h
            have hA := hS _ h5
            simp only [semE]
            cases hz : semAs Γ Cs es with
            | nil => rw [hz] at hA; cases hA
            | cons m ms =>
              rw [hz] at hA
              cases hA with
              | cons q1 q2 =>
                cases q2
                exact snd_isiLT (gl_of tie h1) (ok.blt _ (by decide +kernel)) (gl_of tie h2) (ok.blt _ (by decide +kernel)) (gl_of tie h3) (ok.blt _ (by decide +kernel)) q1
          · cases h
        · simp only [Bool.and_eq_true, decide_eq_true_eq] at h
          obtain ⟨⟨⟨rfl, h1⟩, h3⟩, h5⟩ := h
          have hA := hS _ h5
          simp only [semE]
          cases hz : semAs Γ Cs es with
          | nil => rw [hz] at hA; cases hA
          | cons m ms =>
            rw [hz] at hA
            cases hA with
            | cons q1 q2 =>
              cases q2 with
              | cons q2 q3 =>
                cases q3
                exact snd_blt2 (gl_of tie h1) (ok.blt _ h3) q1 q2
    · cases h
  | .join a b, S, Q, tie, ok, e, h => by
    have hB := fun e' h' => snd_E b S Q tie ok e' h'
    simp only [chkE] at h
    split at h
    · rw [Bool.and_eq_true, Bool.and_eq_true, Bool.and_eq_true, decide_eq_true_eq] at h
      obtain ⟨⟨⟨h1, rfl⟩, h3⟩, h4⟩ := h
      split at h1
      · cases of_decide_eq_true h1
        exact snd_join (hB _ h4) h3
      · cases h1
    · cases h
  | .comp elt tg it ifs, S, Q, tie, ok, e, h => by
    simp only [chkE] at h
    split at h
    · rename_i elt' tg' it' ifs' as scope p
      simp only [Bool.and_eq_true, decide_eq_true_eq] at h
      obtain ⟨⟨⟨⟨⟨rfl, h1⟩, h2⟩, h3⟩, h4⟩, h5⟩ := h
      exact snd_comp (by rw [tie.N, tie.sc]; exact blkOk_by h1) (snd_I it S Q tie ok _ _ h2) (sndT_of (tie.blk scope) tg _ h3) (snd_F ifs _ _ (tie.blk scope) (ok.blk scope) _ h4) (snd_E elt _ _ (tie.blk scope) (ok.blk scope) _ h5)
    · cases h
  | .comp2 elt tg it ifs tg1 it1 ifs1, S, Q, tie, ok, e, h => by
    simp only [chkE] at h
    split at h
    · rename_i elt' tg' it' ifs' as tg1' it1' ifs1' as1 scope p
      simp only [Bool.and_eq_true, decide_eq_true_eq] at h
      obtain ⟨⟨⟨⟨⟨⟨⟨⟨⟨rfl, rfl⟩, h1⟩, h2⟩, h3⟩, h4⟩, h6⟩, h7⟩, h8⟩, h5⟩ := h
      exact snd_comp2 (by rw [tie.N, tie.sc]; exact blkOk_by h1) (snd_I it S Q tie ok _ _ h2) (sndT_of (tie.blk scope) tg _ h3) (snd_F ifs _ _ (tie.blk scope) (ok.blk scope) _ h4)
        (snd_I it1 _ _ (tie.blk scope) (ok.blk scope) _ _ h6) (sndT_of (tie.blk scope) tg1 _ h7) (snd_F ifs1 _ _ (tie.blk scope) (ok.blk scope) _ h8) (snd_E elt _ _ (tie.blk scope) (ok.blk scope) _ h5)
    · cases h
theorem snd_As : ∀ (ia : IA) (S : Sx) (Q : Stt), Tie S Q → EnvOk S Q.Tb Γ Q.Cn Cs → ∀ es, chkAs Q ia es = true → SndA S (semAs Γ Cs ia) es
  | .nil, S, Q, tie, ok, es, h => by
    simp only [chkAs] at h
    cases es with
    | nil => exact .nil
    | cons _ _ => cases h
  | .cons a as, S, Q, tie, ok, es, h => by
    simp only [chkAs] at h
    split at h
    · rw [Bool.and_eq_true] at h
      exact .cons (snd_E a S Q tie ok _ h.1) (snd_As as S Q tie ok _ h.2)
    · cases h
theorem snd_F : ∀ (ia : IA) (S : Sx) (Q : Stt), Tie S Q → EnvOk S Q.Tb Γ Q.Cn Cs → ∀ es, chkF Q ia es = true → SndF S (semAs Γ Cs ia) es
  | .nil, S, Q, tie, ok, es, h => by
    simp only [chkF] at h
    cases es with
    | nil => exact .no
    | cons _ _ => cases h
  | .cons a as, S, Q, tie, ok, es, h => by
    simp only [chkF] at h
    split at h
    · rw [Bool.and_eq_true] at h
      cases as with
      | nil => exact .so (snd_E a S Q tie ok _ h.1)
      | cons _ _ => exact absurd h.2 Bool.false_ne_true
    · cases h
theorem snd_O : ∀ (ia : IA) (S : Sx) (Q : Stt), Tie S Q → EnvOk S Q.Tb Γ Q.Cn Cs → ∀ o, chkO Q ia o = true → SndO S (semAs Γ Cs ia) o
  | .nil, S, Q, tie, ok, o, h => by
    simp only [chkO] at h
    cases o with
    | none => exact .no
    | some _ => cases h
  | .cons a as, S, Q, tie, ok, o, h => by
    simp only [chkO] at h
    split at h
    · rw [Bool.and_eq_true] at h
      cases as with
      | nil => exact .so (snd_E a S Q tie ok _ h.1)
      | cons _ _ => exact absurd h.2 Bool.false_ne_true
    · cases h
theorem snd_I : ∀ (ii : II) (S : Sx) (Q : Stt), Tie S Q → EnvOk S Q.Tb Γ Q.Cn Cs → ∀ tg e, chkI Q ii tg e = true → SndI S (semI Γ Cs ii) tg e
  | .rng a, S, Q, tie, ok, tg, e, h => by
    simp only [chkI] at h
    split at h
    · simp only [Bool.and_eq_true, decide_eq_true_eq] at h
      obtain ⟨⟨rfl, h1⟩, h2⟩ := h
      exact sndI_rng (gl_of tie h1) (ok.blt _ (by decide +kernel)) (snd_E a S Q tie ok _ h2)
    · cases h
  | .rng2 a b, S, Q, tie, ok, tg, e, h => by
    simp only [chkI] at h
    split at h
    · simp only [Bool.and_eq_true, decide_eq_true_eq] at h
      obtain ⟨⟨⟨rfl, h1⟩, h2⟩, h3⟩ := h
      exact sndI_rng2 (gl_of tie h1) (ok.blt _ (by decide +kernel)) (snd_E a S Q tie ok _ h2) (snd_E b S Q tie ok _ h3)
    · cases h
  | .val a, S, Q, tie, ok, tg, e, h => by
    simp only [chkI] at h
    exact sndI_val (snd_E a S Q tie ok _ h)
  | .enum a, S, Q, tie, ok, tg, e, h => by
    simp only [chkI] at h
    rw [Bool.and_eq_true] at h
    obtain ⟨h0, h⟩ := h
    split at h
    · simp only [Bool.and_eq_true, decide_eq_true_eq] at h
      obtain ⟨⟨rfl, h1⟩, h2⟩ := h
      unfold isTup at h0
      split at h0
      · exact sndI_enum (gl_of tie h1) (ok.blt _ (by decide +kernel)) (snd_E a S Q tie ok _ h2)
      · cases h0
    · cases h
  | .zip a b, S, Q, tie, ok, tg, e, h => by
    simp only [chkI] at h
    rw [Bool.and_eq_true] at h
    obtain ⟨h0, h⟩ := h
    split at h
    · simp only [Bool.and_eq_true, decide_eq_true_eq] at h
      obtain ⟨⟨⟨rfl, h1⟩, h2⟩, h3⟩ := h
      unfold isTup at h0
      split at h0
      · exact sndI_zip (gl_of tie h1) (ok.blt _ (by decide +kernel)) (snd_E a S Q tie ok _ h2) (snd_E b S Q tie ok _ h3)
      · cases h0
    · cases h
  | .own i, S, Q, tie, ok, tg, e, h => by
    simp only [chkI] at h
    split at h
    · obtain ⟨h1, h2, h3, h4⟩ := name_of tie h
      exact sndI_own h1 h2 h3 h4
    · cases h
end
end
end Wq
set_option maxHeartbeats 4000000
namespace Wq
open PySem L2

/-! ### swapped stores -/
def sw1 (sc : Scope) (ts vs : List Expr) : Bool := !(ts.length == 2 || ts.length == 3) || vs.length != ts.length || (if sc.kind.isAnnotationScope then ScopeKind.function else sc.kind) != .function
def sw2 (vs : List Expr) : Bool := vs.any fun | .Starred .. => true | _ => false
def swN (sc : Scope) (ts : List Expr) : List Str := ts.filterMap fun
    | .Name id pos => if sc.names.lookup id == some .local && pos.line == (ts.head?.map (·.pos.line)).getD 0 then some id else none
    | _ => none
def sw3 (sc : Scope) (ts : List Expr) : Bool := (swN sc ts).length != ts.length || (swN sc ts).eraseDups.length != (swN sc ts).length
def swapO (sc : Scope) (ts vs : List Expr) : Option (Option (List Str)) :=
  if sw1 sc ts vs then some none else if sw2 vs then some none else if sw3 sc ts then some none else
  if vs.all (foldedForSure 8) then some none else if vs.all (constantsAlone 8) then none else some (some (swN sc ts))
theorem swap_tup {sc : Scope} {ts vs : List Expr} {r : Option (List Str)} (h : swapO sc ts vs = some r) {k k2 : Nat} {p p2 : Pos} {env : Env} (he : env.scope = sc) : swappedStores [.Tuple ts k p] (.Tuple vs k2 p2) env = pure r := by
  subst he
  unfold swapO at h
  show (if sw1 env.scope ts vs = true then (pure none : Sem (Option (List Str))) else if sw2 vs = true then pure none else if sw3 env.scope ts = true then pure none else if vs.all (foldedForSure 8) = true then pure none else if vs.all (constantsAlone 8) = true then (do (unsupported "assign.tuple-of-constant-expressions:order-of-the-stores" : Sem PUnit); pure (some (swN env.scope ts))) else pure (some (swN env.scope ts))) = pure r
  by_cases h1 : sw1 env.scope ts vs = true
  · rw [if_pos h1] at h ⊢; cases h; rfl
  · rw [if_neg h1] at h ⊢
    by_cases h2 : sw2 vs = true
    · rw [if_pos h2] at h ⊢; cases h; rfl
    · rw [if_neg h2] at h ⊢
      by_cases h3 : sw3 env.scope ts = true
      · rw [if_pos h3] at h ⊢; cases h; rfl
      · rw [if_neg h3] at h ⊢
        by_cases h4 : vs.all (foldedForSure 8) = true
        · rw [if_pos h4] at h ⊢; cases h; rfl
        · rw [if_neg h4] at h ⊢
          by_cases h5 : vs.all (constantsAlone 8) = true
          · rw [if_pos h5] at h; cases h
          · rw [if_neg h5] at h ⊢; cases h; rfl
theorem swap_no {ts : List Expr} {a : Expr} (h : isTup a = false) {k : Nat} {p : Pos} {env : Env} : swappedStores [.Tuple ts k p] a env = pure none := by
  cases a <;> first | rfl | cases h
end Wq
set_option maxHeartbeats 4000000
namespace Wq
open PySem L2
def fits (Z : EnS) : Fl → Prop
  | .nx E => Z.nx E
  | .rt r E => Z.rt r E
  | .bk E => Z.bk E
  | .ct E => Z.ct E
def SndS (S : Sx) (G : List Nat) (m : En → Rs Fl) (st : Stmt) : Prop := ∀ E fl, m E = .ok fl → ∀ Z, fits Z fl → WpS S G st E Z
def SndB (S : Sx) (G : List Nat) (m : En → Rs Fl) (sts : List Stmt) : Prop := ∀ E fl, m E = .ok fl → ∀ Z, fits Z fl → WpSs S G sts E Z
section
variable {S : Sx} {G : List Nat} {e a b c : Expr} {A B C : Mn} {E E' : En} {pos p : Pos} {x y z : Str} {i j l : Nat} {Z : EnS}
theorem not_mem_of {G : List Nat} {i : Nat} (h : G.contains i = false) : i ∉ G := fun q => by rw [List.contains_iff_mem.mpr q] at h; cases h
theorem s_brk (h : Z.bk E) : WpS S G (.Break pos) E Z := fun X hX F s R H hg r D W => ⟨_, ps_break, W.bk E s R H (Same.refl _) r h⟩
theorem s_cnt (h : Z.ct E) : WpS S G (.Continue pos) E Z := fun X hX F s R H hg r D W => ⟨_, ps_continue, W.ct E s R H (Same.refl _) r h⟩
/-- x = e, the scope known -/
theorem s_set' (hN : S.N[i]? = some x) (hx : Loc S.sc x) (hA : S.asg x = true) (hG : i ∉ G) (h : Wp S e E fun r E' => i < E'.length ∧ Z.nx (E'.set i r)) (hs : ∀ env : Env, env.scope = S.sc → swapsWith e (some (.Name x p)) pos.line env = pure false) :
    WpS S G (.Assign [.Name x p] e pos) E Z := fun X hX F s R H hg r D W => by
  have hl : Loc X.env.scope x := by rw [hX.sc]; exact hx
  refine ⟨_, ps_set (i := i) hX.nd (by rw [hX.N]; exact hN) hl pe_rd (hs _ hX.sc) (hX.fnl x hA), ?_⟩
  have hgi : ∀ p ∈ F.g, p.1 ≠ i := fun p hp e => hG (by rw [← hg, ← e]; exact List.mem_map_of_mem hp)
  refine h X hX F s R H r _ fun v r' E' R' H' a r1 p q => ?_
  cases r' with
  | no => exact p.elim
  | dat d => exact W.nx _ _ R' H' a (r1.setDat q.1 hgi p) q.2
  | own d =>
    obtain ⟨b, rfl, z⟩ := id p
    exact W.nx _ _ R' H' a (r1.setOwn q.1 hgi p) q.2
theorem s_setLcOwn {ds0 : List D} {elt tg : Expr} {ifs : List Expr} {xo : Str} {io : Nat} {po py spos : Pos} {scope : Scope} (own : List (Str × Nat)) (ok : BlkOk S.N S.sc scope own) (hNo : S.N[io]? = some xo) (hvo : Vis S.sc xo) (hE : E[io]? = some (Sl.own (.list ds0))) (hiv : io ∉ own.map (·.2))
    (hN : S.N[i]? = some x) (hx : S.sc.names.lookup x = some NameKind.local) (hG : i ∉ G) (hk : S.sc.kind = .function) (hl : (py.line == pos.line) = true) (hy : (scope.names.any fun (n, k) => n == x && (k == .local || k == .cell)) = false)
    (h : WpLo (blkS S scope) (own.map (·.2)) elt tg ifs (E.set io .no) ds0 fun acc E' => E'[io]? = some Sl.no ∧ i < (E'.set io (.own (.list ds0))).length ∧ Z.nx ((E'.set io (.own (.list ds0))).set i (.own (.list acc))))
    (hd : (xo == ("__debug__" : Str)) = false) (hcd : (xo == ("__classdict__" : Str)) = false) : WpS S G (.Assign [.Name x py] (.ListComp elt [⟨tg, .Name xo po, ifs, 0⟩] scope pos) spos) E Z := fun X hX F s R H hg r D W => by
  have hx' : X.env.scope.names.lookup x = some NameKind.local := by rw [hX.sc]; exact hx
  refine ⟨_, ps_setLc (i := i) (own := own) hX.calm hX.nd (by rw [hX.N]; exact hN) hx' (sw_true (by rw [hX.sc]; exact hk) hx' hl hy) (pi_list (pe_var (i := io) (by rw [hX.N]; exact hNo) (by rw [hX.sc]; exact hvo) hd hcd)) (by rw [hX.N, hX.sc]; exact ok)
    (fun s H C cl fp => pg_all (has_blk hX s H C cl fp)) (fun s H C cl fp => pts_all (has_blk hX s H C cl fp)) (fun s H C cl fp => pe_all (has_blk hX s H C cl fp)) (fun _ => rfl), ?_⟩
  have hgi : ∀ p ∈ F.g, p.1 ≠ i := fun p hp e => hG (by rw [← hg, ← e]; exact List.mem_map_of_mem hp)
  refine lc_readOwn (P := fun acc E' => i < E'.length ∧ Z.nx (E'.set i (.own (.list acc)))) hE hiv h hX r fun v r' E' R' H' a r1 p ⟨acc, e, q⟩ => ?_
  subst e
  obtain ⟨b, rfl, z⟩ := id p
  exact W.nx _ _ R' H' a (r1.setOwn q.1 hgi p) q.2
theorem s_setLc2 {elt tg it tg1 it1 : Expr} {ifs ifs1 : List Expr} {py spos : Pos} {scope : Scope} (own : List (Str × Nat)) (vs1 : List Nat) (ok : BlkOk S.N S.sc scope own) (hsub : ∀ i ∈ vs1, i ∈ own.map (·.2))
    (hN : S.N[i]? = some x) (hx : S.sc.names.lookup x = some NameKind.local) (hG : i ∉ G) (hk : S.sc.kind = .function) (hl : (py.line == pos.line) = true) (hy : (scope.names.any fun (n, k) => n == x && (k == .local || k == .cell)) = false)
    (h : WpLc2 S (blkS S scope) (own.map (·.2)) vs1 elt tg it ifs tg1 it1 ifs1 E fun acc E' => i < E'.length ∧ Z.nx (E'.set i (.own (.list acc))))
    (hs : ∀ (env : Env) x, foldedSetIterable it env x = pure x) (hs1 : ∀ (env : Env) x, foldedSetIterable it1 env x = pure x) : WpS S G (.Assign [.Name x py] (.ListComp elt [⟨tg, it, ifs, 0⟩, ⟨tg1, it1, ifs1, 0⟩] scope pos) spos) E Z := fun X hX F s R H hg r D W => by
  have hx' : X.env.scope.names.lookup x = some NameKind.local := by rw [hX.sc]; exact hx
  refine ⟨_, ps_setLc2 (i := i) (own := own) (vs1 := vs1) hX.calm hX.nd (by rw [hX.N]; exact hN) hx' (sw_true (by rw [hX.sc]; exact hk) hx' hl hy) pi_rd (by rw [hX.N, hX.sc]; exact ok) hsub
    (fun s H C cl fp => pg_all (has_blk hX s H C cl fp)) (fun s H C cl fp => pts_all (has_blk hX s H C cl fp)) (fun s H C cl fp => pi_all (has_blk hX s H C cl fp)) (fun s H C cl fp => pg_all (has_blk hX s H C cl fp)) (fun s H C cl fp => pts_all (has_blk hX s H C cl fp)) (fun s H C cl fp => pe_all (has_blk hX s H C cl fp)) (hs _) hs1, ?_⟩
  have hgi : ∀ p ∈ F.g, p.1 ≠ i := fun p hp e => hG (by rw [← hg, ← e]; exact List.mem_map_of_mem hp)
  refine lc2_read hsub h hX r fun v r' E' R' H' a r1 p ⟨acc, e, q⟩ => ?_
  subst e
  obtain ⟨b, rfl, z⟩ := id p
  exact W.nx _ _ R' H' a (r1.setOwn q.1 hgi p) q.2
/-- a, b, c = e1, e2, e3; the last may be a list of one's own -/
theorem s_par3' {px py pz pt pt2 sp : Pos} {kt k2 : Nat} (hN : S.N[i]? = some x) (hx : S.sc.names.lookup x = some NameKind.local) (hNy : S.N[j]? = some y) (hy : S.sc.names.lookup y = some NameKind.local) (hNz : S.N[l]? = some z) (hz : S.sc.names.lookup z = some NameKind.local) (hij : i ≠ j) (hil : i ≠ l) (hjl : j ≠ l) (hGi : i ∉ G) (hGj : j ∉ G) (hGl : l ∉ G)
    (pa : plainE a = true) (pb : plainE b = true) (pc : plainE c = true)
    (h : WpD S a E fun d1 E1 => WpD S b E1 fun d2 E2 => Wp S c E2 fun r E3 => i < E3.length ∧ j < E3.length ∧ l < E3.length ∧ Z.nx (((E3.set i (.dat d1)).set j (.dat d2)).set l r))
    (hw : ∀ env : Env, env.scope = S.sc → swappedStores [.Tuple [.Name x px, .Name y py, .Name z pz] kt pt] (.Tuple [a, b, c] k2 pt2) env = pure (some [x, y, z])) :
    WpS S G (.Assign [.Tuple [.Name x px, .Name y py, .Name z pz] kt pt] (.Tuple [a, b, c] k2 pt2) sp) E Z := fun X hX F s R H hg r D W => by
  refine ⟨_, ps_par3 (i := i) (j := j) (l := l) hX.calm hX.nd (by rw [hX.N]; exact hN) (by rw [hX.N]; exact hNy) (by rw [hX.N]; exact hNz) hij hil hjl (by rw [hX.sc]; exact hx) (by rw [hX.sc]; exact hy) (by rw [hX.sc]; exact hz)
    (pa_cons pe_rd (pa_cons pe_rd (pa_cons pe_rd pa_nil (plain_star pc _ _)) (plain_star pb _ _)) (plain_star pa _ _)) (hw _ hX.sc) rfl, ?_⟩
  have gi : ∀ q, q ∉ G → ∀ p ∈ F.g, p.1 ≠ q := fun q hq p hp e => hq (by rw [← hg, ← e]; exact List.mem_map_of_mem hp)
  refine h X hX F s R H r _ fun v1 d1 E1 R1 H1 s1 r1 p1 h1 => ?_
  refine h1 X hX F s R1 H1 r1 _ fun v2 d2 E2 R2 H2 s2 r2 p2 h2 => ?_
  refine h2 X hX F s R2 H2 r2 _ fun v3 d3 E3 R3 H3 s3 r3 p3 ⟨l1, l2, l3, h3⟩ => ?_
  refine ⟨v1, v2, v3, rfl, ?_⟩
  have q1 := r3.setDat (i := i) l1 (gi i hGi) (dp_mono s3 _ _ (dp_mono s2 _ _ p1))
  have q2 := q1.setDat (i := j) (by rw [List.length_set]; exact l2) (gi j hGj) (dp_mono s3 _ _ p2)
  cases d3 with
  | no => exact p3.elim
  | dat d => exact W.nx _ _ R3 H3 ((s1.trans s2).trans s3) (q2.setDat (by rw [List.length_set, List.length_set]; exact l3) (gi l hGl) p3) h3
  | own d =>
    obtain ⟨ad, rfl, z1, z2, z3, z4⟩ := p3
    refine W.nx _ _ R3 H3 ((s1.trans s2).trans s3) (q2.setOwn (by rw [List.length_set, List.length_set]; exact l3) (gi l hGl) ⟨ad, rfl, z1, z2, z3, fun m d' e z => ?_⟩) h3
    rcases get_set e with ⟨_, e'⟩ | ⟨hn, e'⟩
    · cases e'
    · rcases get_set e' with ⟨_, e''⟩ | ⟨hn', e''⟩
      · cases e''
      · rw [set_ne hn, set_ne hn'] at z
        exact z4 m d' e'' z
/-- x op= e -/
theorem s_aug {op : Operator} {d0 : D} (hN : S.N[i]? = some x) (hx : Loc S.sc x) (hA : S.asg x = true) (hG : i ∉ G) (hE : E[i]? = some (.dat d0)) (h : WpD S e E fun d E1 => ∃ z, augS op d0 d = some z ∧ i < E1.length ∧ Z.nx (E1.set i (.dat z))) : WpS S G (.AugAssign (.Name x p) op e pos) E Z := fun X hX F s R H hg r D W => by
  have hl : Loc X.env.scope x := by rw [hX.sc]; exact hx
  have hgi : ∀ p ∈ F.g, p.1 ≠ i := fun p hp e => hG (by rw [← hg, ← e]; exact List.mem_map_of_mem hp)
  obtain ⟨v0, g1, g2⟩ := r.dat i d0 hE
  have key : ∀ (ti : TIp), PIp X op ti → (∀ v1 d E1 R1 H1, Same R R1 → Rel S.K F s E1 R1 H1 → Dp S.K R1 v1 d → (∃ z, augS op d0 d = some z ∧ i < E1.length ∧ Z.nx (E1.set i (.dat z))) → ti v0 v1 H1 fun v H2 => D.nx (s.set i (some v)) H2) → RdS X (.AugAssign (.Name x p) op e pos) D s H := fun ti hti hk => by
    refine ⟨_, ps_aug (i := i) hX.nd (by rw [hX.N]; exact hN) hl pe_rd hti (hX.fnl x hA), v0, g1, ?_⟩
    exact h X hX F s R H r _ fun v1 d E1 R1 H1 s1 r1 p1 h1 => hk v1 d E1 R1 H1 s1 r1 p1 h1
  cases op with
  | Add =>
    cases d0 with
    | int a0 =>
      refine key _ ip_add fun v1 d E1 R1 H1 s1 r1 p1 ⟨z, e1, l1, h1⟩ => ?_
      cases d with
      | int b0 => cases e1; cases g2; cases p1; exact ⟨a0, b0, rfl, rfl, W.nx _ _ R1 H1 s1 (r1.setDat l1 hgi (.int _)) h1⟩
      | _ => cases e1
    | str a0 =>
      refine key _ iop_add_str fun v1 d E1 R1 H1 s1 r1 p1 ⟨z, e1, l1, h1⟩ => ?_
      cases d with
      | str b0 =>
        simp only [augS] at e1
        split at e1
        · rename_i hz; cases e1; cases g2; cases p1; exact ⟨a0, b0, rfl, rfl, Nat.le_trans hz (by decide), W.nx _ _ R1 H1 s1 (r1.setDat l1 hgi (.str _)) h1⟩
        · cases e1
      | _ => cases e1
    | _ => exact key (fun _ _ _ _ => False) (fun _ _ _ _ _ _ _ _ _ _ _ _ h => h.elim) fun v1 d E1 R1 H1 s1 r1 p1 ⟨z, e1, _⟩ => by cases e1
  | Sub =>
    cases d0 with
    | int a0 =>
      refine key _ ip_sub fun v1 d E1 R1 H1 s1 r1 p1 ⟨z, e1, l1, h1⟩ => ?_
      cases d with
      | int b0 => cases e1; cases g2; cases p1; exact ⟨a0, b0, rfl, rfl, W.nx _ _ R1 H1 s1 (r1.setDat l1 hgi (.int _)) h1⟩
      | _ => cases e1
    | _ => exact key (fun _ _ _ _ => False) (fun _ _ _ _ _ _ _ _ _ _ _ _ h => h.elim) fun v1 d E1 R1 H1 s1 r1 p1 ⟨z, e1, _⟩ => by cases e1
  | _ => exact key (fun _ _ _ _ => False) (fun _ _ _ _ _ _ _ _ _ _ _ _ h => h.elim) fun v1 d E1 R1 H1 s1 r1 p1 ⟨z, e1, _⟩ => by cases e1

/-! ### loops -/
theorem snd_loop {t : IT} {tg it : Expr} {I : MIt} {m : En → Rs Fl} {body : List Stmt} (hI : SndI S I tg it) (ho : I.own = none) (hT : SndT S t tg) (hB : SndB S G m body) : SndS S G (fun E => (I.v E).bind fun p => loopF t m p.1 p.2) (.For tg it body [] pos) := fun E fl q Z hZ => by
  obtain ⟨⟨ds, E1⟩, h1, q⟩ := Rs.bind_ok q
  refine s_for t.slots (hI.v ho E ds E1 h1 _ ⟨fun n En => loopF t m (ds.drop n) En = .ok fl, q, ?_, ?_⟩) (plain_fold hI.pl)
  · intro n Et d hd hq
    rw [drop_at hd] at hq
    unfold loopF at hq
    obtain ⟨E2, g1, hq⟩ := Rs.bind_ok hq
    obtain ⟨f, g2, hq⟩ := Rs.bind_ok hq
    refine hT.run (Rs.of_ok g1) (fun _ h => h) (hB E2 f g2 _ ?_)
    cases f with
    | nx E3 => exact hq
    | ct E3 => exact hq
    | bk E3 => cases hq; exact hZ
    | rt r E3 => cases hq; exact hZ
  · intro Et hq
    rw [List.drop_length] at hq
    cases hq
    exact hZ
theorem snd_while {m : En → Rs Fl} {body : List Stmt} {n : Nat} (hC : Snd S C c) (hB : SndB S G m body) : SndS S G (fun E => whileF C.t m n E) (.While c body [] pos) := fun E fl q Z hZ X hX F s R H hg r D W => by
  refine ⟨_, ps_while (by rw [hX.xe]; exact PassesOwn.never) pt_rd pss_rd, ?_⟩
  refine ⟨fun k s2 H2 => ∃ E2 R2, Same R R2 ∧ Rel S.K F s2 E2 R2 H2 ∧ whileF C.t m k E2 = .ok fl, ⟨n, E, R, Same.refl _, r, q⟩, ?_⟩
  rintro k s2 H2 ⟨E2, R2, a2, r2, hq⟩
  cases k with
  | zero => cases hq
  | succ k =>
    unfold whileF at hq
    obtain ⟨⟨t, E3⟩, g1, hq⟩ := Rs.bind_ok hq
    refine hC.t E2 t E3 g1 (fun t' E' => t' = t ∧ E' = E3) ⟨rfl, rfl⟩ X hX F s2 R2 H2 r2 _ fun t' E' R3 H3 s3 r3 ⟨e1, e2⟩ => ?_
    subst e1 e2
    cases t' with
    | true =>
      rw [if_pos rfl]
      obtain ⟨f, g2, hq⟩ := Rs.bind_ok (x := m E') hq
      refine ⟨fun s4 H4 => ∃ E4 R4, Same R R4 ∧ Rel S.K F s4 E4 R4 H4 ∧ whileF C.t m k E4 = .ok fl, fun s4 H4 h4 => ⟨k, Nat.lt_succ_self k, h4⟩, ?_⟩
      have a3 : Same R R3 := a2.trans s3
      cases f with
      | nx E5 =>
        exact hB E' _ g2 ⟨fun E => E = E5, fun _ _ => False, fun _ => False, fun _ => False⟩ rfl X hX F s2 R3 H3 hg r3 _ ⟨fun E6 s' R' H' b r' e => ⟨E6, R', a3.trans b, r', by subst e; exact hq⟩, fun _ _ _ _ _ _ _ _ _ h => h.elim, fun _ _ _ _ _ _ h => h.elim, fun _ _ _ _ _ _ h => h.elim⟩
      | ct E5 =>
        exact hB E' _ g2 ⟨fun _ => False, fun _ _ => False, fun _ => False, fun E => E = E5⟩ rfl X hX F s2 R3 H3 hg r3 _ ⟨fun _ _ _ _ _ _ h => h.elim, fun _ _ _ _ _ _ _ _ _ h => h.elim, fun _ _ _ _ _ _ h => h.elim, fun E6 s' R' H' b r' e => ⟨E6, R', a3.trans b, r', by subst e; exact hq⟩⟩
      | bk E5 =>
        cases hq
        exact hB E' _ g2 ⟨fun _ => False, fun _ _ => False, fun E => E = E5, fun _ => False⟩ rfl X hX F s2 R3 H3 hg r3 _ ⟨fun _ _ _ _ _ _ h => h.elim, fun _ _ _ _ _ _ _ _ _ h => h.elim, fun E6 s' R' H' b r' e => by subst e; exact W.nx E6 s' R' H' (a3.trans b) r' hZ, fun _ _ _ _ _ _ h => h.elim⟩
      | rt x E5 =>
        cases hq
        exact hB E' _ g2 ⟨fun _ => False, fun x' E => x' = x ∧ E = E5, fun _ => False, fun _ => False⟩ ⟨rfl, rfl⟩ X hX F s2 R3 H3 hg r3 _ ⟨fun _ _ _ _ _ _ h => h.elim, fun v x' E6 s' R' H' b r' p e => by obtain ⟨e1, e2⟩ := e; subst e1 e2; exact W.rt v x' E6 s' R' H' (a3.trans b) r' p hZ, fun _ _ _ _ _ _ h => h.elim, fun _ _ _ _ _ _ h => h.elim⟩
    | false =>
      rw [if_neg Bool.false_ne_true]
      cases hq
      exact W.nx _ s2 R3 H3 (a2.trans s3) r3 hZ
end
end Wq
set_option maxHeartbeats 4000000
namespace Wq
open PySem L2
def setB (Q : Stt) (i : Nat) (x : Str) : Bool := decide (Q.N[i]? = some x) && locB Q.sc x && Q.asg x
def locN (Q : Stt) (i : Nat) (x : Str) : Bool := decide (Q.N[i]? = some x) && decide (Q.sc.names.lookup x = some NameKind.local)
theorem set_of {S : Sx} {Q : Stt} (tie : Tie S Q) {i : Nat} {x : Str} (h : setB Q i x = true) : S.N[i]? = some x ∧ Loc S.sc x ∧ S.asg x = true := by
  unfold setB at h
  rw [Bool.and_eq_true, Bool.and_eq_true, decide_eq_true_eq] at h
  exact ⟨by rw [tie.N]; exact h.1.1, by rw [tie.sc]; exact loc_of h.1.2, by rw [tie.asg]; exact h.2⟩
theorem locN_of {S : Sx} {Q : Stt} (tie : Tie S Q) {i : Nat} {x : Str} (h : locN Q i x = true) : S.N[i]? = some x ∧ S.sc.names.lookup x = some NameKind.local := by
  unfold locN at h
  rw [Bool.and_eq_true, decide_eq_true_eq, decide_eq_true_eq] at h
  exact ⟨by rw [tie.N]; exact h.1, by rw [tie.sc]; exact h.2⟩
def swB (Q : Stt) (x : Str) (py cpos : Pos) (scope : Scope) : Bool := decide (Q.sc.names.lookup x = some NameKind.local) && (py.line == cpos.line) && !(scope.names.any fun (n, k) => n == x && (k == .local || k == .cell))
def unpB (sc : Scope) (es : List Expr) : Expr → Bool
  | .Tuple vs _ _ => decide (swapO sc es vs = some none)
  | _ => true
theorem unp_of {sc : Scope} {es : List Expr} {e : Expr} (h : unpB sc es e = true) {k : Nat} {p : Pos} {env : Env} (he : env.scope = sc) : swappedStores [.Tuple es k p] e env = pure none := by
  unfold unpB at h
  split at h
  · exact swap_tup (of_decide_eq_true h) he
  · rename_i hn
    exact swap_no (by cases e <;> first | rfl | exact absurd rfl (hn _ _ _))
def isSl : Expr → Bool
  | .Slice .. => true
  | _ => false
mutual
def chkS (Q : Stt) : IS → Stmt → Bool
  | .ret e, st => (match st with
    | .Return (some e') _ => chkE Q e e'
    | _ => false)
  | .retN, st => (match st with
    | .Return none _ => true
    | _ => false)
  | .retI c i e, st => (match st with
    | .Return (some (.IfExp c' (.Name x _) e' _)) _ => chkE Q c c' && nameB Q i x && chkE Q e e'
    | _ => false)
  | .expr e, st => (match st with
    | .Expr e' _ => chkE Q e e' && !compE e'
    | _ => false)
  | .pass, st => (match st with
    | .Pass _ => true
    | _ => false)
  | .set i e, st => (match st with
    | .Assign [.Name x _] e' _ => setB Q i x && chkE Q e e' && decide (Q.sc.kind = .function)
    | _ => false)
  | .unpack t e, st => (match st with
    | .Assign [.Tuple es k p] e' _ => chkT Q t (.Tuple es k p) && chkE Q e e' && !compE e' && unpB Q.sc es e'
    | _ => false)
  | .par2 i j a b, st => (match st with
    | .Assign [.Tuple [.Name x px, .Name y py] _ _] (.Tuple [a', b'] _ _) _ => locN Q i x && locN Q j y && decide (swapO Q.sc [.Name x px, .Name y py] [a', b'] = some (some [x, y])) && chkE Q a a' && chkE Q b b'
    | _ => false)
  | .par3 i j l a b c, st => (match st with
    | .Assign [.Tuple [.Name x px, .Name y py, .Name z pz] _ _] (.Tuple [a', b', c'] _ _) _ => locN Q i x && locN Q j y && locN Q l z && decide (swapO Q.sc [.Name x px, .Name y py, .Name z pz] [a', b', c'] = some (some [x, y, z])) && chkE Q a a' && chkE Q b b' && chkE Q c c'
    | _ => false)
  | .ifs c y n, st => (match st with
    | .If c' y' n' _ => chkE Q c c' && chkSs Q y y' && chkSs Q n n'
    | _ => false)
  | .loop t it body, st => (match st with
    | .For tg it' body' [] _ => chkT Q t tg && chkI Q it tg it' && chkSs Q body body'
    | _ => false)
  | .whl n c body, st => (match st with
    | .While c' body' [] _ => chkE Q c c' && chkSs Q body body'
    | _ => false)
  | .append i e, st => (match st with
    | .Expr (.Call (.Attribute (.Name x _) at' ap) [e'] [] cp) _ => decide (at' = ("append" : Str)) && nameB Q i x && (ap.endLine == cp.line) && chkE Q e e'
    | _ => false)
  | .reverse i, st => (match st with
    | .Expr (.Call (.Attribute (.Name x _) at' ap) [] [] cp) _ => decide (at' = ("reverse" : Str)) && nameB Q i x && (ap.endLine == cp.line)
    | _ => false)
  | .store i k e, st => (match st with
    | .Assign [.Subscript (.Name x _) k' _] e' _ => nameB Q i x && chkE Q k k' && chkE Q e e' && !compE e'
    | _ => false)
  | .store2 i j k e, st => (match st with
    | .Assign [.Tuple [.Subscript (.Name x _) k' _, .Name y _] _ _] e' _ => nameB Q i x && setB Q j y && chkE Q k k' && chkE Q e e' && !compE e' && !isTup e'
    | _ => false)
  | .aug i op e, st => (match st with
    | .AugAssign (.Name x _) op' e' _ => setB Q i x && decide (op = op') && chkE Q e e'
    | _ => false)
  | .brk, st => (match st with
    | .Break _ => true
    | _ => false)
  | .cont, st => (match st with
    | .Continue _ => true
    | _ => false)
  | .freeze _, _ => false
  | .forget _, _ => false
  | .dictJoin _ _ _ _ _, _ => false
  | .dictJoin0 _ _ _ _ _, _ => false
def chkSs (Q : Stt) : ISs → List Stmt → Bool
  | .nil, sts => sts.isEmpty
  | .cons s ss, sts => (match s with
    | .dictJoin i jt jv a b => (match ss, sts with
      | .nil, [.Assign [.Name x _] (.Call (.Name nd _) [.Call (.Name nz _) [a', b'] [] _] [] _) _, .Return (some (.Call (.Attribute (.Constant (.str e0) _ _) at' apos) [.ListComp (.Subscript (.Name x' _) (.Name xv _) _) [⟨.Name xv' _, .Subscript (.Name xt _) (.Slice none none (some (.UnaryOp .USub (.Constant (.int 1) _ _) _)) _) _, [], 0⟩] scope _] [] jpos)) _] =>
        setB Q i x && nameB Q i x && decide (x' = x) && decide (xv' = xv) && nameB Q jt xt && decide (Q.N[jv]? = some xv) && blkC Q.N Q.sc scope [(xv, jv)] && locB (Q.blk scope).sc xv && (Q.blk scope).asg xv && nameB (Q.blk scope) jv xv && nameB (Q.blk scope) i x && decide (i ≠ jt) && decide (i ≠ jv) && decide (jt ≠ jv) &&
        decide (nd = ("dict" : Str)) && decide (nz = ("zip" : Str)) && glB Q ("dict" : Str) && glB Q ("zip" : Str) && decide (e0 = ("" : Str)) && decide (at' = ("join" : Str)) && (apos.endLine == jpos.line) && chkE Q a a' && chkE Q b b'
      | _, _ => false)
    | .dictJoin0 i jt jv a b => (match ss, sts with
      | .nil, [.Assign [.Name x _] (.Call (.Name nd _) [.Call (.Name nz _) [a', b'] [] _] [] _) _, .Return (some (.Call (.Attribute (.Constant (.str e0) _ _) at' apos) [.ListComp (.Subscript (.Name x' _) (.Name xv _) _) [⟨.Name xv' _, .Name xt _, [], 0⟩] scope _] [] jpos)) _] =>
        setB Q i x && nameB Q i x && decide (x' = x) && decide (xv' = xv) && nameB Q jt xt && decide (Q.N[jv]? = some xv) && blkC Q.N Q.sc scope [(xv, jv)] && locB (Q.blk scope).sc xv && (Q.blk scope).asg xv && nameB (Q.blk scope) jv xv && nameB (Q.blk scope) i x && decide (i ≠ jt) && decide (i ≠ jv) && decide (jt ≠ jv) &&
        decide (nd = ("dict" : Str)) && decide (nz = ("zip" : Str)) && glB Q ("dict" : Str) && glB Q ("zip" : Str) && decide (e0 = ("" : Str)) && decide (at' = ("join" : Str)) && (apos.endLine == jpos.line) && chkE Q a a' && chkE Q b b'
      | _, _ => false)
    | .freeze _ => chkSs Q ss sts
    | .forget _ => chkSs Q ss sts
    | s => (match sts with
      | st :: sts => chkS Q s st && chkSs Q ss sts
      | [] => false))
end
theorem ownAt_of {E : En} {i : Nat} (h : ownAt E i = true) : ∃ d, E[i]? = some (Sl.own d) := by
  unfold ownAt at h
  split at h
  · rename_i d he; exact ⟨d, he⟩
  · cases h
section
variable (Γ : Nat → FnE) (Cs : Nat → Option D) (G : List Nat)
/-- x = e -/
theorem snd_set {S : Sx} {Q : Stt} (tie : Tie S Q) (ok : EnvOk S Q.Tb Γ Q.Cn Cs) {i : Nat} {e : IE} {x : Str} {py pos : Pos} {e' : Expr} (hs : setB Q i x = true) (h : chkE Q e e' = true) (hk : Q.sc.kind = .function) : SndS S G (fun E => ((semE Γ Cs e).v E).bind fun p => setSl G i p.1 p.2) (.Assign [.Name x py] e' pos) := fun E fl q Z hZ => by
  obtain ⟨h1, h2, h3⟩ := set_of tie hs
  obtain ⟨⟨r, E1⟩, g1, q⟩ := Rs.bind_ok q
  have q : (if i < E1.length && !G.contains i then Rs.ok (Fl.nx (E1.set i r)) else .bad) = .ok fl := q
  split at q
  · rename_i hc
    rw [Bool.and_eq_true, decide_eq_true_eq, Bool.not_eq_true'] at hc
    cases q
    have hG := not_mem_of hc.2
    have hZ : Z.nx (E1.set i r) := hZ
    have hE := snd_E Γ Cs e S Q tie ok e' h
    have plain : (∀ env : Env, env.scope = S.sc → swapsWith e' (some (.Name x py)) pos.line env = pure false) → WpS S G (.Assign [.Name x py] e' pos) E Z := fun hs' => s_set' h1 h2 h3 hG (hE.v E r E1 g1 _ ⟨hc.1, hZ⟩) hs'
    cases hcm : compE e' with
    | false => exact plain fun env _ => plain_swap hE.pl hcm _ _ _
    | true =>
      cases e' with
      | ListComp elt gens scope cpos =>
        by_cases hw : swB Q x py cpos scope = true
        · have hw' := hw
          unfold swB at hw'
          rw [Bool.and_eq_true, Bool.and_eq_true, decide_eq_true_eq, Bool.not_eq_true'] at hw'
          have hx : S.sc.names.lookup x = some NameKind.local := by rw [tie.sc]; exact hw'.1.1
          have hk' : S.sc.kind = .function := by rw [tie.sc]; exact hk
          cases e with
          | comp ielt tg it ifs =>
            simp only [chkE] at h
            split at h
            · rename_i elt' tg' it' ifs' as scope' p' heq
              cases heq
              simp only [Bool.and_eq_true, decide_eq_true_eq] at h
              obtain ⟨⟨⟨⟨⟨rfl, k1⟩, k2⟩, k3⟩, k4⟩, k5⟩ := h
              have hI := snd_I Γ Cs it S Q tie ok _ _ k2
              have hT := sndT_of (tie.blk scope) tg _ k3
              have hF := snd_F Γ Cs ifs _ _ (tie.blk scope) (ok.blk scope) _ k4
              have hM := snd_E Γ Cs ielt _ _ (tie.blk scope) (ok.blk scope) _ k5
              have okB : BlkOk S.N S.sc scope (ownOf S.N tg.slots) := by rw [tie.N, tie.sc]; exact blkOk_by k1
              have g1 : compM (semE Γ Cs ielt) tg (semI Γ Cs it) (semAs Γ Cs ifs) E = .ok (r, E1) := g1
              obtain ⟨acc, rfl⟩ := compM_own g1
              cases ho : (semI Γ Cs it).own with
              | none =>
                refine s_setLc (ownOf S.N tg.slots) okB h1 hx hG hk' hw'.1.2 hw'.2 ?_ (plain_fold hI.pl)
                rw [ownOf_ix]
                exact lc_by hI ho hT hF hM g1 fun ac e => by cases e; exact ⟨hc.1, hZ⟩
              | some io =>
                obtain ⟨xo, po, rfl, hNo, hvo, hdo, hcdo⟩ := hI.s io ho
                obtain ⟨ds, m1, m2, m3⟩ := lo_by ho hT hF hM g1 (P := fun ac E' => i < E'.length ∧ Z.nx (E'.set i (.own (.list ac)))) fun ac e => by cases e; exact ⟨hc.1, hZ⟩
                refine s_setLcOwn (ownOf S.N tg.slots) okB hNo hvo m1 (by rw [ownOf_ix]; exact m2) h1 hx hG hk' hw'.1.2 hw'.2 ?_ hdo hcdo
                rw [ownOf_ix]
                exact m3
            · cases h
          | comp2 ielt tg it ifs tg1 it1 ifs1 =>
            simp only [chkE] at h
            split at h
            · rename_i elt' tg' it' ifs' as tg1' it1' ifs1' as1 scope' p' heq
              cases heq
              simp only [Bool.and_eq_true, decide_eq_true_eq] at h
              obtain ⟨⟨⟨⟨⟨⟨⟨⟨⟨rfl, rfl⟩, k1⟩, k2⟩, k3⟩, k4⟩, k6⟩, k7⟩, k8⟩, k5⟩ := h
              have hI := snd_I Γ Cs it S Q tie ok _ _ k2
              have hI1 := snd_I Γ Cs it1 _ _ (tie.blk scope) (ok.blk scope) _ _ k6
              have g1 : comp2M (semE Γ Cs ielt) tg (semI Γ Cs it) (semAs Γ Cs ifs) tg1 (semI Γ Cs it1) (semAs Γ Cs ifs1) E = .ok (r, E1) := g1
              obtain ⟨acc, rfl⟩ := comp2M_own g1
              refine s_setLc2 (ownOf S.N (tg.slots ++ tg1.slots)) tg1.slots (by rw [tie.N, tie.sc]; exact blkOk_by k1) (by rw [ownOf_ix]; exact fun i hi => List.mem_append_right _ hi) h1 hx hG hk' hw'.1.2 hw'.2 ?_ (plain_fold hI.pl) (plain_fold hI1.pl)
              rw [ownOf_ix]
              exact lc2_by hI (sndT_of (tie.blk scope) tg _ k3) (snd_F Γ Cs ifs _ _ (tie.blk scope) (ok.blk scope) _ k4) hI1 (sndT_of (tie.blk scope) tg1 _ k7) (snd_F Γ Cs ifs1 _ _ (tie.blk scope) (ok.blk scope) _ k8) (snd_E Γ Cs ielt _ _ (tie.blk scope) (ok.blk scope) _ k5) g1 fun ac e => by cases e; exact ⟨hc.1, hZ⟩
            · cases h
          | _ => simp [chkE] at h
        · refine plain fun env he => ?_
          have hb : env.blockKind = .function := by unfold Env.blockKind; rw [he, tie.sc, hk]; rfl
          have hkn : env.kindOf x = Q.sc.names.lookup x := by unfold Env.kindOf; rw [he, tie.sc]
          show (pure (env.blockKind == .function && env.kindOf x == some .local && py.line == cpos.line && !(scope.names.any fun (n, k) => n == x && (k == .local || k == .cell))) : Sem Bool) = pure false
          rw [hb, hkn]
          congr 1
          unfold swB at hw
          cases h5 : (py.line == cpos.line) with
          | false => simp
          | true =>
            cases h6 : (scope.names.any fun (n, k) => n == x && (k == .local || k == .cell)) with
            | true => simp
            | false =>
              rw [h5, h6] at hw
              have h7 : ¬ Q.sc.names.lookup x = some NameKind.local := fun z => hw (by rw [decide_eq_true z]; rfl)
              have h8 : (Q.sc.names.lookup x == some NameKind.local) = false := by
                cases h9 : (Q.sc.names.lookup x == some NameKind.local) with
                | false => rfl
                | true => exact absurd (eq_of_beq h9) h7
              rw [h8]
              rfl
      | _ => cases hcm
  · cases q
end
end Wq
set_option maxHeartbeats 4000000
namespace Wq
open PySem L2
section
variable (Γ : Nat → FnE) (Cs : Nat → Option D) (G : List Nat)
theorem plain_sole {e t : Expr} (h : plainE e = true) (hc : compE e = false) (l : Nat) (env : Env) : swapsWithSole [t] e l env = pure false := by
  show swapsWith e (some t) l env = pure false
  exact plain_swap h hc _ _ _
theorem few_ok {a : Expr} (h : plainE a = true) (cp : Pos) (env : Env) : ((backTo cp (starEach [a] env)).all (fun x => !x.1) && (backToKw cp (keywordEach [] env)).all (fun x => x.1.isSome) && decide (([a] : List Expr).length + ([] : List Keyword).length + (if ([] : List Keyword).isEmpty then 0 else 1) < 30)) = true := by
  rw [plain_star h]
  rfl
theorem swap_sub {x : Str} {p tp : Pos} {b e : Expr} {env : Env} : swappedStores [.Subscript (.Name x p) b tp] e env = pure none := by
  cases e <;> rfl
theorem swap_sub2 {x y : Str} {p tp yp qp : Pos} {kk : Nat} {b e : Expr} {env : Env} (h : isTup e = false) : swappedStores [.Tuple [.Subscript (.Name x p) b tp, .Name y yp] kk qp] e env = pure none := swap_no h
theorem asg_sub {x : Str} {p tp : Pos} {b : Expr} (h : plainE b = true) (env : Env) (v : Value) : assign (.Subscript (.Name x p) b tp) env v = (do
      let ov ← holding [v] (eval (.Name x p) env)
      let iv ← holding [v, ov] (eval b env)
      standAt tp
      holding [v, ov, iv] (setItem ov iv v)
      release [v, ov, iv] []) := by
  cases b <;> first | rfl | cases h
mutual
theorem snd_S : ∀ (s : IS) (S : Sx) (Q : Stt), Tie S Q → EnvOk S Q.Tb Γ Q.Cn Cs → ∀ st, chkS Q s st = true → SndS S G (semS Γ Cs G s) st
  | .ret e, S, Q, tie, ok, st, h => by
    simp only [chkS] at h
    split at h
    · rename_i e' p
      have hE := snd_E Γ Cs e S Q tie ok e' h
      intro E fl q Z hZ
      have gen : ((semE Γ Cs e).v E).bind (fun p => Rs.ok (Fl.rt p.1 p.2)) = .ok fl → WpS S G (.Return (some e') p) E Z := fun q => by
        obtain ⟨⟨r, E1⟩, g1, q⟩ := Rs.bind_ok q
        cases q
        exact s_ret (hE.v E r E1 g1 _ hZ)
      cases e with
      | slot i =>
        obtain ⟨x, px, rfl, hN, hv, hd, hcd⟩ := hE.s i rfl
        simp only [semS] at q
        split at q
        · rename_i d he
          cases q
          exact s_ret (WpD.wp (wd_name hN hv he hZ hd hcd))
        · rename_i d he
          split at q
          · cases q
          · rename_i hg
            cases q
            exact s_retOwn hN hv he (not_mem_of (by simpa using hg)) hZ hd hcd
        · cases q
      | _ => exact gen (by simpa only [semS] using q)
    · cases h
  | .retN, S, Q, tie, ok, st, h => by
    simp only [chkS] at h
    split at h
    · intro E fl q Z hZ
      cases q
      exact s_retN hZ
    · cases h
  | .retI c i e, S, Q, tie, ok, st, h => by
    simp only [chkS] at h
    split at h
    · simp only [Bool.and_eq_true] at h
      obtain ⟨hN, hv, hd, hcd⟩ := name_of tie h.1.2
      have hC := snd_E Γ Cs c S Q tie ok _ h.1.1
      have hE := snd_E Γ Cs e S Q tie ok _ h.2
      intro E fl q Z hZ
      simp only [semS] at q
      obtain ⟨⟨t, E1⟩, g1, q⟩ := Rs.bind_ok q
      by_cases hG : i ∈ G
      · cases t with
        | true =>
          rw [if_pos rfl] at q
          split at q
          · rw [if_pos (List.contains_iff_mem.mpr hG)] at q
            cases q
          · cases q
        | false =>
          rw [if_neg Bool.false_ne_true] at q
          obtain ⟨⟨r, E2⟩, g2, q⟩ := Rs.bind_ok q
          cases q
          refine s_ret (wp_if (hC.t E false E1 g1 _ ⟨fun z => (by cases z), fun _ => hE.v E1 r E2 g2 _ hZ⟩))
      · refine s_retIf hN hv hG (hC.t E t E1 g1 _ ⟨fun z => ?_, fun z => ?_⟩) hd hcd
        · subst z
          rw [if_pos rfl] at q
          split at q
          · rename_i d he
            rw [if_neg (fun z => hG (List.contains_iff_mem.mp z))] at q
            cases q
            exact ⟨d, he, hZ⟩
          · cases q
        · subst z
          rw [if_neg Bool.false_ne_true] at q
          obtain ⟨⟨r, E2⟩, g2, q⟩ := Rs.bind_ok q
          cases q
          exact hE.v E1 r E2 g2 _ hZ
    · cases h
  | .expr e, S, Q, tie, ok, st, h => by
    simp only [chkS] at h
    split at h
    · rw [Bool.and_eq_true, Bool.not_eq_true'] at h
      have hE := snd_E Γ Cs e S Q tie ok _ h.1
      intro E fl q Z hZ
      simp only [semS] at q
      obtain ⟨⟨r, E1⟩, g1, q⟩ := Rs.bind_ok q
      cases q
      exact s_expr (hE.v E r E1 g1 _ hZ) (fun env => plain_swap hE.pl h.2 _ _ env)
    · cases h
  | .pass, S, Q, tie, ok, st, h => by
    simp only [chkS] at h
    split at h
    · intro E fl q Z hZ
      cases q
      exact s_pass hZ
    · cases h
  | .set i e, S, Q, tie, ok, st, h => by
    simp only [chkS] at h
    split at h
    · rw [Bool.and_eq_true, Bool.and_eq_true, decide_eq_true_eq] at h
      intro E fl q Z hZ
      simp only [semS] at q
      exact snd_set Γ Cs G tie ok h.1.1 h.1.2 h.2 E fl q Z hZ
    · cases h
  | .unpack t e, S, Q, tie, ok, st, h => by
    simp only [chkS] at h
    split at h
    · simp only [Bool.and_eq_true, Bool.not_eq_true'] at h
      obtain ⟨⟨⟨h1, h2⟩, h3⟩, h4⟩ := h
      have hE := snd_E Γ Cs e S Q tie ok _ h2
      intro E fl q Z hZ
      simp only [semS] at q
      obtain ⟨⟨d, E1⟩, g1, q⟩ := Rs.bind_ok q
      obtain ⟨E2, g2, q⟩ := Rs.bind_ok q
      cases q
      exact s_unpack t.slots (hE.d g1 ((sndT_of tie t _ h1).run (Rs.of_ok g2) (fun _ h => h) hZ)) (fun env he => unp_of h4 (by rw [he, tie.sc])) (fun env => plain_sole hE.pl h3 _ env)
    · cases h
  | .par2 i j a b, S, Q, tie, ok, st, h => by
    simp only [chkS] at h
    split at h
    · simp only [Bool.and_eq_true, decide_eq_true_eq] at h
      obtain ⟨⟨⟨⟨h1, h2⟩, h3⟩, h4⟩, h5⟩ := h
      obtain ⟨hN, hx⟩ := locN_of tie h1
      obtain ⟨hNy, hy⟩ := locN_of tie h2
      have hA := snd_E Γ Cs a S Q tie ok _ h4
      have hB := snd_E Γ Cs b S Q tie ok _ h5
      intro E fl q Z hZ
      simp only [semS] at q
      obtain ⟨⟨r, E1⟩, g1, q⟩ := Rs.bind_ok q
      split at q
      · rename_i d he
        have he : r = .dat d := he
        subst he
        obtain ⟨⟨r2, E2⟩, g2, q⟩ := Rs.bind_ok q
        split at q
        · rename_i hc
          simp only [Bool.and_eq_true, decide_eq_true_eq, Bool.not_eq_true'] at hc
          obtain ⟨⟨⟨⟨c1, c2⟩, c3⟩, c4⟩, c5⟩ := hc
          cases q
          exact s_par hN hx hNy hy (fun z => by subst z; simp at c3) (not_mem_of c4) (not_mem_of c5) (hA.v E _ E1 g1 _ ⟨d, rfl, hB.v E1 r2 E2 g2 _ ⟨c1, c2, hZ⟩⟩) (fun env he => swap_tup h3 (by rw [he, tie.sc])) (plain_star hA.pl _) (plain_star hB.pl _) (fun _ => rfl)
        · cases q
      · rename_i d he
        have he : r = .own d := he
        subst he
        obtain ⟨⟨r2, E2⟩, g2, q⟩ := Rs.bind_ok q
        split at q
        · rename_i hc
          simp only [Bool.and_eq_true, decide_eq_true_eq, Bool.not_eq_true'] at hc
          obtain ⟨⟨⟨⟨c1, c2⟩, c3⟩, c4⟩, c5⟩ := hc
          cases q
          exact s_parO hN hx hNy hy (fun z => by subst z; simp at c3) (not_mem_of c4) (not_mem_of c5) (hA.v E _ E1 g1 _ ⟨d, rfl, hB.d g2 ⟨c1, c2, hZ⟩⟩) (fun env he => swap_tup h3 (by rw [he, tie.sc])) (plain_star hA.pl _) (plain_star hB.pl _) (fun _ => rfl)
        · cases q
      · cases q
    · cases h
  | .par3 i j l a b c, S, Q, tie, ok, st, h => by
    simp only [chkS] at h
    split at h
    · simp only [Bool.and_eq_true, decide_eq_true_eq] at h
      obtain ⟨⟨⟨⟨⟨⟨h1, h2⟩, h2'⟩, h3⟩, h4⟩, h5⟩, h6⟩ := h
      obtain ⟨hN, hx⟩ := locN_of tie h1
      obtain ⟨hNy, hy⟩ := locN_of tie h2
      obtain ⟨hNz, hz⟩ := locN_of tie h2'
      have hA := snd_E Γ Cs a S Q tie ok _ h4
      have hB := snd_E Γ Cs b S Q tie ok _ h5
      have hC := snd_E Γ Cs c S Q tie ok _ h6
      intro E fl q Z hZ
      simp only [semS] at q
      obtain ⟨⟨d1, E1⟩, g1, q⟩ := Rs.bind_ok q
      obtain ⟨⟨d2, E2⟩, g2, q⟩ := Rs.bind_ok q
      obtain ⟨⟨r, E3⟩, g3, q⟩ := Rs.bind_ok q
      split at q
      · rename_i hc
        simp only [Bool.and_eq_true, decide_eq_true_eq, Bool.not_eq_true'] at hc
        obtain ⟨⟨⟨⟨⟨⟨⟨⟨c1, c2⟩, c3⟩, c4⟩, c5⟩, c6⟩, c7⟩, c8⟩, c9⟩ := hc
        cases q
        exact s_par3' hN hx hNy hy hNz hz (fun z => by subst z; simp at c4) (fun z => by subst z; simp at c5) (fun z => by subst z; simp at c6) (not_mem_of c7) (not_mem_of c8) (not_mem_of c9) hA.pl hB.pl hC.pl (hA.d g1 (hB.d g2 (hC.v E2 r E3 g3 _ ⟨c1, c2, c3, hZ⟩))) (fun env he => swap_tup h3 (by rw [he, tie.sc]))
      · cases q
    · cases h
  | .ifs c y n, S, Q, tie, ok, st, h => by
    have hY := fun sts h => snd_Ss y S Q tie ok sts h
    have hN := fun sts h => snd_Ss n S Q tie ok sts h
    simp only [chkS] at h
    split at h
    · simp only [Bool.and_eq_true] at h
      have hC := snd_E Γ Cs c S Q tie ok _ h.1.1
      intro E fl q Z hZ
      simp only [semS] at q
      obtain ⟨⟨t, E1⟩, g1, q⟩ := Rs.bind_ok q
      refine s_if (hC.t E t E1 g1 _ ⟨fun z => ?_, fun z => ?_⟩)
      · subst z
        exact hY _ h.1.2 E1 fl (by simpa using q) Z hZ
      · subst z
        exact hN _ h.2 E1 fl (by simpa using q) Z hZ
    · cases h
  | .loop t it body, S, Q, tie, ok, st, h => by
    have hB := fun sts h => snd_Ss body S Q tie ok sts h
    simp only [chkS] at h
    split at h
    · simp only [Bool.and_eq_true] at h
      have hI := snd_I Γ Cs it S Q tie ok _ _ h.1.2
      intro E fl q Z hZ
      simp only [semS] at q
      split at q
      · rename_i ho
        exact snd_loop hI ho (sndT_of tie t _ h.1.1) (hB _ h.2) E fl q Z hZ
      · cases q
    · cases h
  | .whl n c body, S, Q, tie, ok, st, h => by
    have hB := fun sts h => snd_Ss body S Q tie ok sts h
    simp only [chkS] at h
    split at h
    · simp only [Bool.and_eq_true] at h
      intro E fl q Z hZ
      simp only [semS] at q
      exact snd_while (snd_E Γ Cs c S Q tie ok _ h.1) (hB _ h.2) E fl q Z hZ
    · cases h
  | .append i e, S, Q, tie, ok, st, h => by
    simp only [chkS] at h
    split at h
    · simp only [Bool.and_eq_true, decide_eq_true_eq] at h
      obtain ⟨⟨⟨rfl, h1⟩, h2⟩, h3⟩ := h
      obtain ⟨hN, hv, hd, hcd⟩ := name_of tie h1
      have hE := snd_E Γ Cs e S Q tie ok _ h3
      intro E fl q Z hZ
      simp only [semS] at q
      split at q
      · rename_i d0 he0
        obtain ⟨⟨d, E1⟩, g1, q⟩ := Rs.bind_ok q
        split at q
        · rename_i ds he
          split at q
          · rename_i hl
            cases q
            exact s_append hN hv ⟨d0, he0⟩ (hE.d g1 ⟨ds, he, hl, hZ⟩) (plain_star hE.pl []) (fun _ => rfl) (fun _ => rfl) (few_ok hE.pl _) h2 hd hcd
          · cases q
        · cases q
      · cases q
    · cases h
  | .reverse i, S, Q, tie, ok, st, h => by
    simp only [chkS] at h
    split at h
    · simp only [Bool.and_eq_true, decide_eq_true_eq] at h
      obtain ⟨⟨rfl, h1⟩, h2⟩ := h
      obtain ⟨hN, hv, hd, hcd⟩ := name_of tie h1
      intro E fl q Z hZ
      simp only [semS] at q
      split at q
      · rename_i ds he
        cases q
        exact s_reverse hN hv he hZ (fun _ => rfl) (fun _ => rfl) h2 hd hcd
      · cases q
    · cases h
  | .store i k e, S, Q, tie, ok, st, h => by
    simp only [chkS] at h
    split at h
    · simp only [Bool.and_eq_true, Bool.not_eq_true'] at h
      obtain ⟨⟨⟨h1, h2⟩, h3⟩, h4⟩ := h
      obtain ⟨hN, hv, hd, hcd⟩ := name_of tie h1
      have hK := snd_E Γ Cs k S Q tie ok _ h2
      have hE := snd_E Γ Cs e S Q tie ok _ h3
      intro E fl q Z hZ
      simp only [semS] at q
      split at q
      · rename_i ho
        obtain ⟨⟨d, E1⟩, g1, q⟩ := Rs.bind_ok q
        split at q
        · rename_i ho1
          obtain ⟨⟨d2, E2⟩, g2, q⟩ := Rs.bind_ok q
          split at q
          · rename_i ds kk he hk
            have hk : d2 = .int kk := hk
            subst hk
            obtain ⟨n, g3, q⟩ := Rs.bind_ok q
            cases q
            exact s_store hN hv (ownAt_of ho) (hE.d g1 ⟨ownAt_of ho1, hK.d g2 ⟨ds, kk, n, he, rfl, Rs.of_ok g3, hZ⟩⟩) (fun env => plain_sole hE.pl h4 _ env) (fun _ => swap_sub) (fun _ => rfl) (fun env v => asg_sub hK.pl env v) hd hcd
          · cases q
        · cases q
      · cases q
    · cases h
  | .store2 i j k e, S, Q, tie, ok, st, h => by
    simp only [chkS] at h
    split at h
    · simp only [Bool.and_eq_true, Bool.not_eq_true'] at h
      obtain ⟨⟨⟨⟨⟨h1, h1'⟩, h2⟩, h3⟩, h4⟩, h5⟩ := h
      obtain ⟨hN, hv, hd, hcd⟩ := name_of tie h1
      obtain ⟨hNy, hy, hA⟩ := set_of tie h1'
      have hK := snd_E Γ Cs k S Q tie ok _ h2
      have hE := snd_E Γ Cs e S Q tie ok _ h3
      intro E fl q Z hZ
      simp only [semS] at q
      split at q
      · rename_i ho
        obtain ⟨⟨d, E1⟩, g1, q⟩ := Rs.bind_ok q
        split at q
        · rename_i d1 d2 hd0
          have hd0 : d = .tuple [d1, d2] := hd0
          subst hd0
          split at q
          · rename_i ho1
            obtain ⟨⟨d3, E2⟩, g2, q⟩ := Rs.bind_ok q
            split at q
            · rename_i ds kk he hk
              have hk : d3 = .int kk := hk
              subst hk
              obtain ⟨n, g3, q⟩ := Rs.bind_ok q
              split at q
              · rename_i hno
                cases q
                exact s_storeTwo hN hv hNy hy hA (ownAt_of ho) (hE.d g1 ⟨d1, d2, rfl, ownAt_of ho1, hK.d g2 ⟨ds, kk, n, he, rfl, Rs.of_ok g3, notOwn_of hno, hZ⟩⟩) (fun env => plain_sole hE.pl h4 _ env) (fun _ => swap_sub2 h5) (fun _ => rfl) (fun _ => rfl) (fun _ => rfl) (fun _ => rfl) (fun env v => asg_sub hK.pl env v) hd hcd
              · cases q
            · cases q
          · cases q
        · cases q
      · cases q
    · cases h
  | .aug i op e, S, Q, tie, ok, st, h => by
    simp only [chkS] at h
    split at h
    · simp only [Bool.and_eq_true, decide_eq_true_eq] at h
      obtain ⟨⟨h1, rfl⟩, h3⟩ := h
      obtain ⟨hN, hx, hA⟩ := set_of tie h1
      have hE := snd_E Γ Cs e S Q tie ok _ h3
      intro E fl q Z hZ
      simp only [semS] at q
      split at q
      · rename_i d0 he
        obtain ⟨⟨d, E1⟩, g1, q⟩ := Rs.bind_ok q
        obtain ⟨z, g2, q⟩ := Rs.bind_ok q
        have q : (if i < E1.length && !G.contains i then Rs.ok (Fl.nx (E1.set i (.dat z))) else .bad) = .ok fl := q
        split at q
        · rename_i hc
          rw [Bool.and_eq_true, decide_eq_true_eq, Bool.not_eq_true'] at hc
          cases q
          exact s_aug hN hx hA (not_mem_of hc.2) he (hE.d g1 ⟨z, Rs.of_ok g2, hc.1, hZ⟩)
        · cases q
      · cases q
    · cases h
  | .brk, S, Q, tie, ok, st, h => by
    simp only [chkS] at h
    split at h
    · intro E fl q Z hZ
      cases q
      exact s_brk hZ
    · cases h
  | .cont, S, Q, tie, ok, st, h => by
    simp only [chkS] at h
    split at h
    · intro E fl q Z hZ
      cases q
      exact s_cnt hZ
    · cases h
  | .freeze _, S, Q, tie, ok, st, h => by
    simp only [chkS] at h
    cases h
  | .forget _, S, Q, tie, ok, st, h => by
    simp only [chkS] at h
    cases h
  | .dictJoin _ _ _ _ _, S, Q, tie, ok, st, h => by
    simp only [chkS] at h
    cases h
  | .dictJoin0 _ _ _ _ _, S, Q, tie, ok, st, h => by
    simp only [chkS] at h
    cases h
theorem snd_Ss : ∀ (ss : ISs) (S : Sx) (Q : Stt), Tie S Q → EnvOk S Q.Tb Γ Q.Cn Cs → ∀ sts, chkSs Q ss sts = true → SndB S G (semSs Γ Cs G ss) sts
  | .nil, S, Q, tie, ok, sts, h => by
    simp only [chkSs] at h
    cases sts with
    | nil =>
      intro E fl q Z hZ
      cases q
      exact ss_nil hZ
    | cons _ _ => cases h
  | .cons s ss, S, Q, tie, ok, sts, h => by
    have hSs := fun sts h => snd_Ss ss S Q tie ok sts h
    have hS := fun st h => snd_S s S Q tie ok st h
    have gen : ∀ st sts, chkS Q s st = true → chkSs Q ss sts = true → SndB S G (semSs Γ Cs G (.cons s ss)) (st :: sts) := fun st sts h1 h2 E fl q Z hZ => by
      simp only [semSs] at q
      obtain ⟨f, g1, q⟩ := Rs.bind_ok q
      cases f with
      | nx E1 => exact ss_cons (hS st h1 E _ g1 _ (hSs sts h2 E1 fl q Z hZ))
      | rt r E1 => cases q; exact ss_cons (hS st h1 E _ g1 _ hZ)
      | bk E1 => cases q; exact ss_cons (hS st h1 E _ g1 _ hZ)
      | ct E1 => cases q; exact ss_cons (hS st h1 E _ g1 _ hZ)
    cases s with
    | dictJoin i jt jv a b =>
      have hA := fun e h => snd_E Γ Cs a S Q tie ok e h
      have hB := fun e h => snd_E Γ Cs b S Q tie ok e h
      simp only [chkSs] at h
      split at h
      · rename_i x p1 nd p2 nz p3 a' b' p4 p5 p6 e0 k0 p7 at' apos x' p8 xv p9 p10 xv' p11 xt p12 k1 p13 p14 p15 p16 scope p17 jpos p18 
        simp only [Bool.and_eq_true, decide_eq_true_eq] at h
        obtain ⟨⟨⟨⟨⟨⟨⟨⟨⟨⟨⟨⟨⟨⟨⟨⟨⟨⟨⟨⟨⟨⟨c1, c2⟩, rfl⟩, rfl⟩, c5⟩, c6⟩, c7⟩, c8⟩, c9⟩, c10⟩, c11⟩, c12⟩, c13⟩, c14⟩, rfl⟩, rfl⟩, c17⟩, c18⟩, rfl⟩, rfl⟩, c21⟩, c22⟩, c23⟩ := h
        obtain ⟨hN, hx, hAs⟩ := set_of tie c1
        obtain ⟨_, _, d5, d6⟩ := name_of tie c2
        obtain ⟨hNt, hvt, d1, d2⟩ := name_of tie c5
        obtain ⟨_, hVv, d3, d4⟩ := name_of (tie.blk scope) c10
        obtain ⟨_, hVx, _, _⟩ := name_of (tie.blk scope) c11
        have sA := hA _ c22
        have sB := hB _ c23
        intro E fl q Z hZ
        simp only [semSs, semS, dictJoinM] at q
        obtain ⟨f, g1, q⟩ := Rs.bind_ok q
        obtain ⟨⟨ds, E1⟩, g2, g1⟩ := Rs.bind_ok g1
        split at g1
        · rename_i kx ky z e1 e2
          have e1 : ds = [.str kx, .str ky] := e1
          subst e1
          split at g1
          · rename_i hc
            simp only [Bool.and_eq_true, decide_eq_true_eq, Bool.not_eq_true'] at hc
            obtain ⟨⟨⟨⟨⟨⟨⟨b1, b2⟩, b3⟩, b4⟩, b5⟩, b6⟩, b7⟩, b8⟩ := hc
            cases g1
            cases q
            refine ss_dictJoin hN hx hAs (not_mem_of b8) hNt hvt (by rw [tie.N]; exact c6) (by rw [tie.N, tie.sc]; exact blkOk_by c7) (by rw [(tie.blk scope).sc]; exact loc_of c8) (by rw [(tie.blk scope).asg]; exact c9) hVv hVx c12 c13 c14 ok.room (gl_of tie c17) (ok.blt _ (by decide +kernel)) (gl_of tie c18) (ok.blt _ (by decide +kernel))
              ((SndA.cons sA (.cons sB .nil)).run g2 ⟨kx, ky, z, fun c => (turnC kx ky c).getD 0, rfl, b1, b2, b3, b4, b5, e2, b6, fun c hc => ?_, hZ⟩) (fun _ => rfl) (plain_star sA.pl _) (fun env => back_any (by rw [plain_star sB.pl]; rfl) _) (fun _ => rfl) c21 d1 d2 d3 d4 d5 d6
            have h7 := List.all_eq_true.mp b7 c hc
            cases ht : turnC kx ky c with
            | none => rw [ht] at h7; cases h7
            | some d =>
              show _ = some (V.str ⟨#[(turnC kx ky c).getD 0]⟩)
              rw [ht]
              unfold turnC at ht
              split at ht
              · rename_i d' hv
                cases ht
                exact hv
              · cases ht
          · cases g1
        · cases g1
      · cases h
    | dictJoin0 i jt jv a b =>
      have hA := fun e h => snd_E Γ Cs a S Q tie ok e h
      have hB := fun e h => snd_E Γ Cs b S Q tie ok e h
      simp only [chkSs] at h
      split at h
      · rename_i x p1 nd p2 nz p3 a' b' p4 p5 p6 e0 k0 p7 at' apos x' p8 xv p9 p10 xv' p11 xt p12 scope p17 jpos p18 
        simp only [Bool.and_eq_true, decide_eq_true_eq] at h
        obtain ⟨⟨⟨⟨⟨⟨⟨⟨⟨⟨⟨⟨⟨⟨⟨⟨⟨⟨⟨⟨⟨⟨c1, c2⟩, rfl⟩, rfl⟩, c5⟩, c6⟩, c7⟩, c8⟩, c9⟩, c10⟩, c11⟩, c12⟩, c13⟩, c14⟩, rfl⟩, rfl⟩, c17⟩, c18⟩, rfl⟩, rfl⟩, c21⟩, c22⟩, c23⟩ := h
        obtain ⟨hN, hx, hAs⟩ := set_of tie c1
        obtain ⟨_, _, d5, d6⟩ := name_of tie c2
        obtain ⟨hNt, hvt, d1, d2⟩ := name_of tie c5
        obtain ⟨_, hVv, d3, d4⟩ := name_of (tie.blk scope) c10
        obtain ⟨_, hVx, _, _⟩ := name_of (tie.blk scope) c11
        have sA := hA _ c22
        have sB := hB _ c23
        intro E fl q Z hZ
        simp only [semSs, semS, dictJoin0M] at q
        obtain ⟨f, g1, q⟩ := Rs.bind_ok q
        obtain ⟨⟨ds, E1⟩, g2, g1⟩ := Rs.bind_ok g1
        split at g1
        · rename_i kx ky z e1 e2
          have e1 : ds = [.str kx, .str ky] := e1
          subst e1
          split at g1
          · rename_i hc
            simp only [Bool.and_eq_true, decide_eq_true_eq, Bool.not_eq_true'] at hc
            obtain ⟨⟨⟨⟨⟨⟨⟨b1, b2⟩, b3⟩, b4⟩, b5⟩, b6⟩, b7⟩, b8⟩ := hc
            cases g1
            cases q
            refine ss_dictJoin0 hN hx hAs (not_mem_of b8) hNt hvt (by rw [tie.N]; exact c6) (by rw [tie.N, tie.sc]; exact blkOk_by c7) (by rw [(tie.blk scope).sc]; exact loc_of c8) (by rw [(tie.blk scope).asg]; exact c9) hVv hVx c12 c13 c14 ok.room (gl_of tie c17) (ok.blt _ (by decide +kernel)) (gl_of tie c18) (ok.blt _ (by decide +kernel))
              ((SndA.cons sA (.cons sB .nil)).run g2 ⟨kx, ky, z, fun c => (turnC kx ky c).getD 0, rfl, b1, b2, b3, b4, b5, e2, b6, fun c hc => ?_, hZ⟩) (fun _ => rfl) (plain_star sA.pl _) (fun env => back_any (by rw [plain_star sB.pl]; rfl) _) (fun _ => rfl) c21 d1 d2 d3 d4 d5 d6
            have h7 := List.all_eq_true.mp b7 c hc
            cases ht : turnC kx ky c with
            | none => rw [ht] at h7; cases h7
            | some d =>
              show _ = some (V.str ⟨#[(turnC kx ky c).getD 0]⟩)
              rw [ht]
              unfold turnC at ht
              split at ht
              · rename_i d' hv
                cases ht
                exact hv
              · cases ht
          · cases g1
        · cases g1
      · cases h
    | freeze i =>
      intro E fl q Z hZ
      simp only [chkSs] at h
      simp only [semSs, semS] at q
      obtain ⟨f, g1, q⟩ := Rs.bind_ok q
      split at g1
      · rename_i d he
        split at g1
        · cases g1
        · rename_i hg
          cases g1
          exact ss_freeze he (not_mem_of (by simpa using hg)) (hSs sts h _ fl q Z hZ)
      · cases g1
        exact hSs sts h _ fl q Z hZ
      · cases g1
    | forget i =>
      intro E fl q Z hZ
      simp only [chkSs] at h
      simp only [semSs, semS] at q
      obtain ⟨f, g1, q⟩ := Rs.bind_ok q
      split at g1
      · cases g1
      · rename_i hg
        cases g1
        exact ss_forget (not_mem_of (by simpa using hg)) (hSs sts h _ fl q Z hZ)
    | _ =>
      simp only [chkSs] at h
      split at h
      · rw [Bool.and_eq_true] at h
        exact gen _ _ h.1 h.2
      · cases h
end
end
end Wq
set_option maxHeartbeats 4000000
namespace Wq
open PySem L2
/-! ### defs -/
def Γof (l : List FnE) (i : Nat) : FnE := l.getD i .no
def csOf (l : List D) (i : Nat) : Option D := l[i]?
def fnP (l : List FnE) (cs : List D) (N : List Str) (n : Nat) (body : ISs) : List D → Rs Sl := fun ds =>
  if ds.length == n then (outF (semSs (Γof l) (csOf cs) [] body (startE N (ds.map Sl.dat)))).bind fun p => .ok p.1 else .bad
def fnX (l : List FnE) (cs : List D) (N : List Str) (n : Nat) (body : ISs) : D → List D → Rs (Sl × D) := fun b ds =>
  if ds.length + 1 == n then (outF (semSs (Γof l) (csOf cs) [0] body (startE N (Sl.own b :: ds.map Sl.dat)))).bind fun (p : Sl × En) => match p.2[0]? with
    | some (Sl.own b') => .ok (p.1, b')
    | _ => .bad else .bad
theorem outF_ok {f : Rs Fl} {r : Sl} {E : En} (h : outF f = .ok (r, E)) : (∃ E', f = .ok (.nx E') ∧ r = .dat .none ∧ E' = E) ∨ f = .ok (.rt r E) := by
  cases f with
  | ok fl =>
    cases fl with
    | nx E' => cases h; exact .inl ⟨_, rfl, rfl, rfl⟩
    | rt r' E' => cases h; exact .inr rfl
    | bk E' => cases h
    | ct E' => cases h
  | exc c p => cases h
  | bad => cases h
section
variable {P : Program} {w : World} {K : PySem.W.Frag} {mg : Str → Option Value} {base : Heap}
inductive CallsOk (P : Program) (w : World) (K : PySem.W.Frag) (mg : Str → Option Value) (base : Heap) (k0 : Nat) : List Str → List FnE → Prop
  | nil : CallsOk P w K mg base k0 [] []
  | pu {x : Str} {k : Nat} {ps : List Str} {g : List D → Rs Sl} {tb : List Str} {l : List FnE} (h : CallG P w K mg base x k ps (spP K (cP g))) (hk : k ≤ k0) (t : CallsOk P w K mg base k0 tb l) : CallsOk P w K mg base k0 (x :: tb) (.pu g :: l)
  | bx {x : Str} {k : Nat} {ps : List Str} {g : D → List D → Rs (Sl × D)} {tb : List Str} {l : List FnE} (h : CallG P w K mg base x k ps (spB K (cB g))) (hk : k ≤ k0) (t : CallsOk P w K mg base k0 tb l) : CallsOk P w K mg base k0 (x :: tb) (.bx g :: l)
theorem CallsOk.pus {k0 : Nat} {N : List Str} {sc : Scope} : ∀ {tb : List Str} {l : List FnE}, CallsOk P w K mg base k0 tb l → ∀ f x g, tb[f]? = some x → Γof l f = .pu g → ∃ ps k, k ≤ k0 ∧ CallOk (sxOf P w K mg base N sc k0) x k ps (spP K (cP g))
  | _, _, .nil, f, x, g, h, _ => by simp at h
  | _, _, .pu C hk t, 0, x, g, h, q => by
    simp at h
    subst h
    cases q
    exact ⟨_, _, hk, C.ok⟩
  | _, _, .bx C hk t, 0, x, g, h, q => by cases q
  | _, _, .pu C hk t, f + 1, x, g, h, q => CallsOk.pus t f x g (by simpa using h) (by simpa [Γof] using q)
  | _, _, .bx C hk t, f + 1, x, g, h, q => CallsOk.pus t f x g (by simpa using h) (by simpa [Γof] using q)
theorem CallsOk.bxs {k0 : Nat} {N : List Str} {sc : Scope} : ∀ {tb : List Str} {l : List FnE}, CallsOk P w K mg base k0 tb l → ∀ f x g, tb[f]? = some x → Γof l f = .bx g → ∃ ps k, k ≤ k0 ∧ CallOk (sxOf P w K mg base N sc k0) x k ps (spB K (cB g))
  | _, _, .nil, f, x, g, h, _ => by simp at h
  | _, _, .bx C hk t, 0, x, g, h, q => by
    simp at h
    subst h
    cases q
    exact ⟨_, _, hk, C.ok⟩
  | _, _, .pu C hk t, 0, x, g, h, q => by cases q
  | _, _, .pu C hk t, f + 1, x, g, h, q => CallsOk.bxs t f x g (by simpa using h) (by simpa [Γof] using q)
  | _, _, .bx C hk t, f + 1, x, g, h, q => CallsOk.bxs t f x g (by simpa using h) (by simpa [Γof] using q)
def CstOk (K : PySem.W.Frag) (mg : Str → Option Value) (x : Str) (d : D) : Prop := ∃ u v, mg x = some u ∧ RelV v u ∧ ∀ R, Dp K R v d
inductive CstsOk (K : PySem.W.Frag) (mg : Str → Option Value) : List Str → List D → Prop
  | nil : CstsOk K mg [] []
  | cons {x : Str} {d : D} {cn : List Str} {cs : List D} (h : CstOk K mg x d) (t : CstsOk K mg cn cs) : CstsOk K mg (x :: cn) (d :: cs)
theorem CstsOk.at : ∀ {cn : List Str} {cs : List D}, CstsOk K mg cn cs → ∀ n x d, cn[n]? = some x → csOf cs n = some d → CstOk K mg x d
  | _, _, .nil, n, x, d, h, _ => by simp at h
  | _, _, .cons h t, 0, x, d, e, q => by
    simp at e
    subst e
    cases q
    exact h
  | _, _, .cons h t, n + 1, x, d, e, q => CstsOk.at t n x d (by simpa using e) (by simpa [csOf] using q)
def BltOk (mg : Str → Option Value) : Prop := ∀ x ∈ bltNames, mg x = none
theorem envOk {k0 : Nat} {N : List Str} {sc : Scope} {tb cn : List Str} {l : List FnE} {cs : List D} (hb : BltOk mg) (hc : CallsOk P w K mg base k0 tb l) (hs : CstsOk K mg cn cs) (hr : 1 ≤ k0) : EnvOk (sxOf P w K mg base N sc k0) tb (Γof l) cn (csOf cs) :=
  ⟨hr, hb, hc.pus, hc.bxs, hs.at⟩
structure DefAt (K : PySem.W.Frag) (mg : Str → Option Value) (x : Str) (st : Stmt) (ps : List Str) : Prop where
  ex : ∃ (f : Addr) (fd : FuncData), Fun K x x st f fd ∧ mg x = some (.ref f) ∧ PySem.W.keepIn K (.ref f) = true ∧ Binds K fd ps []
theorem def_pu {x : Str} {st : Stmt} {ps N tb cn : List Str} {l : List FnE} {cs : List D} {body : ISs} {k0 : Nat} (D0 : DefAt K mg x st ps) (Sc : FnScope N ps (defScope st)) (hchk : chkSs ⟨N, defScope st, fun _ => true, tb, cn⟩ body (defBody st) = true) (hb : BltOk mg)
    (hs : CstsOk K mg cn cs) (hc : CallsOk P w K mg base k0 tb l) (hr : 1 ≤ k0) : CallG P w K mg base x (k0 + 1) ps (spP K (cP (fnP l cs N ps.length body))) := by
  obtain ⟨f, fd, F, m, kp, b⟩ := D0.ex
  refine ⟨f, fd, def_P F Sc ?_ ?_, m, kp, b⟩
  · rintro ds post ⟨r, h, _⟩
    unfold fnP at h
    split at h
    · rename_i hl; exact eq_of_beq hl
    · cases h
  · rintro ds post ⟨r, h, hp⟩
    unfold fnP at h
    split at h
    · obtain ⟨⟨r', E'⟩, h1, h2⟩ := Rs.bind_ok h
      cases h2
      have S := snd_Ss (Γof l) (csOf cs) [] body (sxOf P w K mg base N (defScope st) k0) ⟨N, defScope st, fun _ => true, tb, cn⟩ ⟨rfl, rfl, rfl⟩ (envOk hb hc hs hr) _ hchk
      rcases outF_ok h1 with ⟨E2, e1, rfl, _⟩ | e1
      · exact S _ _ e1 _ hp
      · exact S _ _ e1 _ hp
    · cases h
theorem def_bx {x : Str} {st : Stmt} {ps N tb cn : List Str} {l : List FnE} {cs : List D} {body : ISs} {k0 : Nat} (D0 : DefAt K mg x st ps) (Sc : FnScope N ps (defScope st)) (hchk : chkSs ⟨N, defScope st, fun _ => true, tb, cn⟩ body (defBody st) = true) (hb : BltOk mg)
    (hs : CstsOk K mg cn cs) (hc : CallsOk P w K mg base k0 tb l) (hr : 1 ≤ k0) : CallG P w K mg base x (k0 + 1) ps (spB K (cB (fnX l cs N ps.length body))) := by
  obtain ⟨f, fd, F, m, kp, b⟩ := D0.ex
  refine ⟨f, fd, def_B F Sc ?_ ?_, m, kp, b⟩
  · rintro b0 ds post ⟨r, b', h, _⟩
    unfold fnX at h
    split at h
    · rename_i hl; exact eq_of_beq hl
    · cases h
  · rintro b0 ds post ⟨r, b', h, hp⟩
    unfold fnX at h
    split at h
    · obtain ⟨⟨r', E'⟩, h1, h2⟩ := Rs.bind_ok h
      split at h2
      · rename_i b2 he
        have he : E'[0]? = some (.own b2) := he
        cases h2
        have S := snd_Ss (Γof l) (csOf cs) [0] body (sxOf P w K mg base N (defScope st) k0) ⟨N, defScope st, fun _ => true, tb, cn⟩ ⟨rfl, rfl, rfl⟩ (envOk hb hc hs hr) _ hchk
        rcases outF_ok h1 with ⟨E2, e1, e2, e3⟩ | e1
        · subst e3
          exact S _ _ e1 _ ⟨b', he, by rw [← e2]; exact hp⟩
        · exact S _ _ e1 _ ⟨b', he, hp⟩
      · cases h2
    · cases h
theorem CallG.up {x : Str} {j k : Nat} {ps : List Str} {sp : Sp} (h : CallG P w K mg base x j ps sp) (hjk : j ≤ k) : CallG P w K mg base x k ps sp := by
  obtain ⟨f, fd, F, m, kp, b⟩ := h
  exact ⟨f, fd, F.mono hjk, m, kp, b⟩
/-- a def that calls itself, as its first callee -/
def fnR (l : List FnE) (cs : List D) (N : List Str) (n : Nat) (body : ISs) : Nat → List D → Rs Sl
  | 0 => fun _ => .bad
  | m + 1 => fnP (.pu (fnR l cs N n body m) :: l) cs N n body
def fnRX (l : List FnE) (cs : List D) (N : List Str) (n : Nat) (body : ISs) : Nat → D → List D → Rs (Sl × D)
  | 0 => fun _ _ => .bad
  | m + 1 => fnX (.bx (fnRX l cs N n body m) :: l) cs N n body
theorem CallsOk.up {k0 k1 : Nat} (hk : k0 ≤ k1) : ∀ {tb : List Str} {l : List FnE}, CallsOk P w K mg base k0 tb l → CallsOk P w K mg base k1 tb l
  | _, _, .nil => .nil
  | _, _, .pu C h t => .pu C (Nat.le_trans h hk) (CallsOk.up hk t)
  | _, _, .bx C h t => .bx C (Nat.le_trans h hk) (CallsOk.up hk t)
theorem def_rec {x : Str} {st : Stmt} {ps N tb cn : List Str} {l : List FnE} {cs : List D} {body : ISs} {k0 : Nat} (D0 : DefAt K mg x st ps) (Sc : FnScope N ps (defScope st)) (hchk : chkSs ⟨N, defScope st, fun _ => true, x :: tb, cn⟩ body (defBody st) = true) (hb : BltOk mg)
    (hs : CstsOk K mg cn cs) (hc : CallsOk P w K mg base k0 tb l) (hr : 1 ≤ k0) : ∀ n, CallG P w K mg base x (k0 + n + 1) ps (spP K (cP (fnR l cs N ps.length body (n + 1))))
  | 0 => by
    obtain ⟨f, fd, F, m, kp, b⟩ := D0.ex
    refine def_pu D0 Sc hchk hb hs (.pu (k := 0) (ps := ps) ⟨f, fd, ?_, m, kp, b⟩ (Nat.zero_le _) hc) hr
    refine ⟨fun vs H Q E h => ?_, fun A o s H args us vs Q E _ _ _ _ _ h => ?_⟩
    · obtain ⟨R, g, args, post, _, _, ⟨ds, _, r, e, _⟩, _⟩ := h
      cases e
    · obtain ⟨R, g, args, post, _, _, ⟨ds, _, r, e, _⟩, _⟩ := h
      cases e
  | n + 1 => def_pu (k0 := k0 + n + 1) D0 Sc hchk hb hs (.pu (def_rec D0 Sc hchk hb hs hc hr n) (Nat.le_refl _) (hc.up (by omega))) (by omega)
theorem def_recX {x : Str} {st : Stmt} {ps N tb cn : List Str} {l : List FnE} {cs : List D} {body : ISs} {k0 : Nat} (D0 : DefAt K mg x st ps) (Sc : FnScope N ps (defScope st)) (hchk : chkSs ⟨N, defScope st, fun _ => true, x :: tb, cn⟩ body (defBody st) = true) (hb : BltOk mg)
    (hs : CstsOk K mg cn cs) (hc : CallsOk P w K mg base k0 tb l) (hr : 1 ≤ k0) : ∀ n, CallG P w K mg base x (k0 + n + 1) ps (spB K (cB (fnRX l cs N ps.length body (n + 1))))
  | 0 => by
    obtain ⟨f, fd, F, m, kp, b⟩ := D0.ex
    refine def_bx D0 Sc hchk hb hs (.bx (k := 0) (ps := ps) ⟨f, fd, ?_, m, kp, b⟩ (Nat.zero_le _) hc) hr
    refine ⟨fun vs H Q E h => ?_, fun A o s H args us vs Q E _ _ _ _ _ h => ?_⟩
    · obtain ⟨R, g, args, post, _, _, ⟨b0, ds, _, r, b', e, _⟩, _⟩ := h
      cases e
    · obtain ⟨R, g, args, post, _, _, ⟨b0, ds, _, r, b', e, _⟩, _⟩ := h
      cases e
  | n + 1 => def_bx (k0 := k0 + n + 1) D0 Sc hchk hb hs (.bx (def_recX D0 Sc hchk hb hs hc hr n) (Nat.le_refl _) (hc.up (by omega))) (by omega)
end
end Wq
set_option maxHeartbeats 4000000
namespace Wq
open PySem L2
/-! ### reckoning: what a tree means, step by step -/
section
variable {α β : Type} {Γ : Nat → FnE} {Cs : Nat → Option D} {G : List Nat} {E E' : En} {A B C : Mn} {i j : Nat} {d : D} {r : Sl} {v : RE} {ms : List Mn}
theorem ev_bind {a : α} {f : α → Rs β} : (Rs.ok a).bind f = f a := (rfl)
theorem ev_bad {f : α → Rs β} : (Rs.bad : Rs α).bind f = .bad := (rfl)
theorem ev_of {a : α} : Rs.of (some a) = .ok a := (rfl)
theorem ev_none : (Rs.of none : Rs α) = .bad := (rfl)
theorem ev_slot : semE Γ Cs (.slot i) = slotM i := (rfl)
theorem ev_cst : semE Γ Cs (.cst i) = .of fun E => (Rs.of (Cs i)).bind fun d => .ok (.dat d, E) := (rfl)
theorem ev_int {n : Int} : semE Γ Cs (.int n) = .ofD (.int n) := (rfl)
theorem ev_str {n : Str} : semE Γ Cs (.str n) = .ofD (.str n) := (rfl)
theorem ev_bl {n : Bool} : semE Γ Cs (.bl n) = .ofD (.bool n) := (rfl)
theorem ev_non : semE Γ Cs .non = .ofV fun E => .ok (.dat .none, E) := (rfl)
theorem ev_bin {op a b} : semE Γ Cs (.bin op a b) = .of (binF op (semE Γ Cs a) (semE Γ Cs b)) := (rfl)
theorem ev_neg {a} : semE Γ Cs (.neg a) = .ofV fun E => ((semE Γ Cs a).d E).bind fun p => match p.1 with
    | .int i => .ok (.dat (.int (-i)), p.2)
    | _ => .bad := (rfl)
theorem ev_cmp {op a b} : semE Γ Cs (.cmp op a b) = cmpF op (semE Γ Cs a) (semE Γ Cs b) := (rfl)
theorem ev_cmp2 {o1 o2 a b c} : semE Γ Cs (.cmp2 o1 o2 a b c) = cmp2F o1 o2 (semE Γ Cs a) (semE Γ Cs b) (semE Γ Cs c) := (rfl)
theorem ev_and {es} : semE Γ Cs (.bop .And es) = ⟨none, andM (semAs Γ Cs es), andM (semAs Γ Cs es), andT (semAs Γ Cs es)⟩ := (rfl)
theorem ev_or {es} : semE Γ Cs (.bop .Or es) = ⟨none, orM (semAs Γ Cs es), orM (semAs Γ Cs es), orT (semAs Γ Cs es)⟩ := (rfl)
theorem ev_not {a} : semE Γ Cs (.not a) = ⟨none, notV (semE Γ Cs a), notV (semE Γ Cs a), fun E => ((semE Γ Cs a).t E).bind fun p => .ok (!p.1, p.2)⟩ := (rfl)
theorem ev_ite {c a b} : semE Γ Cs (.ite c a b) = .ofV (iteF (semE Γ Cs c) (semE Γ Cs a) (semE Γ Cs b)) := (rfl)
theorem ev_tup {es} : semE Γ Cs (.tup es) = .ofV (tupF (semAs Γ Cs es)) := (rfl)
theorem ev_lst {es} : semE Γ Cs (.lst es) = .ofV (lstF (semAs Γ Cs es)) := (rfl)
theorem ev_ix {a b} : semE Γ Cs (.ix a b) = .of (ixF (semE Γ Cs a) (semE Γ Cs b)) := (rfl)
theorem ev_sl {a lo hi} : semE Γ Cs (.sl a lo hi) = .of (slF (semE Γ Cs a) (semAs Γ Cs lo) (semAs Γ Cs hi)) := (rfl)
theorem ev_rev {a} : semE Γ Cs (.rev a) = .of (revF (semE Γ Cs a)) := (rfl)
theorem ev_call {f es} : semE Γ Cs (.call f es) = .of (callM (Γ f) (semAs Γ Cs es)) := (rfl)
theorem ev_callB {f i es} : semE Γ Cs (.callB f i es) = .of (callBM (Γ f) i (semAs Γ Cs es)) := (rfl)
theorem ev_callO {f i es} : semE Γ Cs (.callO f i es) = .of (callOM (Γ f) i (semAs Γ Cs es)) := (rfl)
theorem ev_callT {f e} : semE Γ Cs (.callT f e) = .of (callTM (Γ f) (semE Γ Cs e)) := (rfl)
theorem ev_pop {i e} : semE Γ Cs (.pop i e) = .of (popM i (semE Γ Cs e)) := (rfl)
theorem ev_blt {b es} : semE Γ Cs (.blt b es) = .of (bltM b (semAs Γ Cs es)) := (rfl)
theorem ev_join {a b} : semE Γ Cs (.join a b) = .of (joinM (semE Γ Cs a) (semE Γ Cs b)) := (rfl)
theorem ev_comp {elt tg it ifs} : semE Γ Cs (.comp elt tg it ifs) = .of (compM (semE Γ Cs elt) tg (semI Γ Cs it) (semAs Γ Cs ifs)) := (rfl)
theorem ev_comp2 {elt tg it ifs tg1 it1 ifs1} : semE Γ Cs (.comp2 elt tg it ifs tg1 it1 ifs1) = .of (comp2M (semE Γ Cs elt) tg (semI Γ Cs it) (semAs Γ Cs ifs) tg1 (semI Γ Cs it1) (semAs Γ Cs ifs1)) := (rfl)
theorem ev_nil : semAs Γ Cs .nil = [] := (rfl)
theorem ev_cons {e es} : semAs Γ Cs (.cons e es) = semE Γ Cs e :: semAs Γ Cs es := (rfl)
theorem ev_rng {a} : semI Γ Cs (.rng a) = ⟨none, fun E => ((semE Γ Cs a).d E).bind fun p => (Rs.of (rngS p.1)).bind fun ds => .ok (ds, p.2)⟩ := (rfl)
theorem ev_rng2 {a b} : semI Γ Cs (.rng2 a b) = ⟨none, fun E => ((semE Γ Cs a).d E).bind fun p => ((semE Γ Cs b).d p.2).bind fun q => (Rs.of (rng2S p.1 q.1)).bind fun ds => .ok (ds, q.2)⟩ := (rfl)
theorem ev_val {a} : semI Γ Cs (.val a) = ⟨none, fun E => ((semE Γ Cs a).v E).bind fun p => (Rs.of (walkS p.1)).bind fun ds => .ok (ds, p.2)⟩ := (rfl)
theorem ev_enum {a} : semI Γ Cs (.enum a) = ⟨none, fun E => ((semE Γ Cs a).d E).bind fun p => (Rs.of (enumS p.1)).bind fun ds => .ok (ds, p.2)⟩ := (rfl)
theorem ev_zip {a b} : semI Γ Cs (.zip a b) = ⟨none, fun E => ((semE Γ Cs a).d E).bind fun p => ((semE Γ Cs b).d p.2).bind fun q => (Rs.of (zipS p.1 q.1)).bind fun ds => .ok (ds, q.2)⟩ := (rfl)
theorem ev_own : semI Γ Cs (.own i) = ⟨some i, fun _ => .bad⟩ := (rfl)
/-! meanings -/
theorem of_v : (Mn.of v).v E = v E := (rfl)
theorem of_k : (Mn.of v).k E = v E := (rfl)
theorem of_t : (Mn.of v).t E = truthM (v E) := (rfl)
theorem of_s : (Mn.of v).s = none := (rfl)
theorem ofV_v : (Mn.ofV v).v E = v E := (rfl)
theorem ofV_k : (Mn.ofV v).k E = v E := (rfl)
theorem ofV_s : (Mn.ofV v).s = none := (rfl)
theorem ofD_v : (Mn.ofD d).v E = .ok (.dat d, E) := (rfl)
theorem ofD_k : (Mn.ofD d).k E = .ok (.dat d, E) := (rfl)
theorem ofD_s : (Mn.ofD d).s = none := (rfl)
theorem ofD_d : (Mn.ofD d).d E = .ok (d, E) := (rfl)
theorem slot_v (h : E[i]? = some (.dat d)) : (slotM i).v E = .ok (.dat d, E) := by show slotV i E = _; unfold slotV; rw [h]
theorem slot_k (h : E[i]? = some (.dat d)) : (slotM i).k E = .ok (.dat d, E) := by show slotK i E = _; unfold slotK; rw [h]
theorem slot_ko {ds : List D} (h : E[i]? = some (.own (.list ds))) : (slotM i).k E = .ok (.own (.list ds), E) := by show slotK i E = _; unfold slotK; rw [h]
theorem slot_s : (slotM i).s = some i := (rfl)
theorem slot_t : (slotM i).t E = truthM ((slotM i).k E) := (rfl)
theorem slot_d (h : E[i]? = some (.dat d)) : (slotM i).d E = .ok (d, E) := by unfold Mn.d; rw [slot_v h]; rfl
theorem d_of (h : v E = .ok (r, E')) (hd : datS r = some d) : (Mn.of v).d E = .ok (d, E') := by
  show (v E).bind _ = _
  rw [h]
  show (Rs.of (datS r)).bind _ = _
  rw [hd]
  rfl
theorem of_d : (Mn.of v).d E = (v E).bind fun p => (Rs.of (datS p.1)).bind fun d => .ok (d, p.2) := (rfl)
theorem ofV_d : (Mn.ofV v).d E = (v E).bind fun p => (Rs.of (datS p.1)).bind fun d => .ok (d, p.2) := (rfl)
theorem datS_dat : datS (.dat d) = some d := (rfl)
theorem datS_own : datS (.own d) = some d := (rfl)
theorem tr_bool {b : Bool} : truthM (.ok (.dat (.bool b), E)) = .ok (b, E) := (rfl)
theorem tr_list {ds : List D} : truthM (.ok (.dat (.list ds), E)) = .ok (!ds.isEmpty, E) := (rfl)
theorem tr_own {ds : List D} : truthM (.ok (.own (.list ds), E)) = .ok (!ds.isEmpty, E) := (rfl)
theorem args_nil : argsM [] E = .ok ([], E) := (rfl)
theorem args_cons : argsM (A :: ms) E = (A.d E).bind fun p => (argsM ms p.2).bind fun q => .ok (p.1 :: q.1, q.2) := (rfl)
theorem pair_no (h : A.s = none) : pairM A B E = pairV A B E := by unfold pairM; rw [h]
theorem pair_dat (h : A.s = some i) (hE : ownAt E i = false) : pairM A B E = pairV A B E := by unfold pairM; rw [h]; simp only [hE]; rfl
theorem pairV_eq : pairV A B E = (A.v E).bind fun p => (B.k p.2).bind fun q => .ok ((p.1, q.1), q.2) := (rfl)
theorem bin_eq {op} : binF op A B E = (pairM A B E).bind fun p => (Rs.of (binS op p.1.1 p.1.2)).bind fun x => .ok (x, p.2) := (rfl)
theorem cmp_v_eq {op} : (cmpF op A B).v E = (cmpM op A B E).bind fun p => .ok (.dat (.bool p.1), p.2) := (rfl)
theorem cmp_k_eq {op} : (cmpF op A B).k E = (cmpM op A B E).bind fun p => .ok (.dat (.bool p.1), p.2) := (rfl)
theorem cmp_t_eq {op} : (cmpF op A B).t E = cmpM op A B E := (rfl)
theorem cmp_s_eq {op} : (cmpF op A B).s = none := (rfl)
theorem cmp_d_eq {op} : (cmpF op A B).d E = (cmpM op A B E).bind fun p => .ok (.bool p.1, p.2) := by
  show ((cmpM op A B E).bind fun p => Rs.ok (Sl.dat (.bool p.1), p.2)).bind _ = _
  cases cmpM op A B E <;> rfl
theorem cmpM_eq {op} : cmpM op A B E = (pairM A B E).bind fun p => (Rs.of (cmpS op p.1.1 p.1.2)).bind fun b => .ok (b, p.2) := (rfl)
theorem cmpS_eq {op} {x y : Sl} {a b : D} (h1 : datS x = some a) (h2 : datS y = some b) : cmpS op x y = cmpDD op a b := by unfold cmpS; rw [h1, h2]
theorem pair_slot (h : E[i]? = some (.dat d)) : pairM (slotM i) B E = (B.k E).bind fun q => .ok ((.dat d, q.1), q.2) := by
  rw [pair_dat slot_s (by unfold ownAt; rw [h]), pairV_eq, slot_v h]
  rfl
theorem pair_own {ds : List D} (h : E[i]? = some (.own (.list ds))) : pairM (slotM i) B E = (B.k E).bind fun q => match q.2[i]? with
      | some (.own (.list d)) => .ok ((.own (.list d), q.1), q.2)
      | _ => .bad := by
  unfold pairM
  rw [slot_s]
  have : ownAt E i = true := by unfold ownAt; rw [h]
  simp only [this]
  rfl
theorem pair_of {v : RE} : pairM (.of v) B E = (v E).bind fun p => (B.k p.2).bind fun q => .ok ((p.1, q.1), q.2) := (rfl)
theorem pair_ofV {v : RE} : pairM (.ofV v) B E = (v E).bind fun p => (B.k p.2).bind fun q => .ok ((p.1, q.1), q.2) := (rfl)
theorem pair_ofD : pairM (.ofD d) B E = (B.k E).bind fun q => .ok ((.dat d, q.1), q.2) := (rfl)
theorem pair_cmp {op} : pairM (cmpF op A C) B E = (cmpM op A C E).bind fun p => (B.k p.2).bind fun q => .ok ((.dat (.bool p.1), q.1), q.2) := by
  show ((cmpM op A C E).bind fun p => Rs.ok (Sl.dat (.bool p.1), p.2)).bind _ = _
  cases cmpM op A C E <;> rfl
theorem own_yes (h : E[i]? = some (.own d)) : ownAt E i = true := by unfold ownAt; rw [h]
theorem own_not (h : E[i]? = some (.dat d)) : ownAt E i = false := by unfold ownAt; rw [h]
theorem no_dat (h : E[i]? = some (.dat d)) : notOwnB E i = true := by unfold notOwnB; rw [h]
theorem no_no (h : E[i]? = some .no) : notOwnB E i = true := by unfold notOwnB; rw [h]
/-! operators by kinds -/
theorem bi_add {a b : Int} : binS .Add (.dat (.int a)) (.dat (.int b)) = some (.dat (.int (a + b))) := (rfl)
theorem bi_sub {a b : Int} : binS .Sub (.dat (.int a)) (.dat (.int b)) = some (.dat (.int (a - b))) := (rfl)
theorem bi_mul {a b : Int} (h : (-18446744073709551616 < a ∧ a < 18446744073709551616) ∨ (-18446744073709551616 < b ∧ b < 18446744073709551616)) : binS .Mult (.dat (.int a)) (.dat (.int b)) = some (.dat (.int (a * b))) := if_pos h
theorem bi_div {a b : Int} (h : 0 < b ∧ b < 1073741824) : binS .FloorDiv (.dat (.int a)) (.dat (.int b)) = some (.dat (.int (a / b))) := if_pos h
theorem bi_mod {a b : Int} (h : 0 < b) : binS .Mod (.dat (.int a)) (.dat (.int b)) = some (.dat (.int (a % b))) := if_pos h
theorem bi_pow {a b : Int} (h : 0 ≤ b ∧ b ≤ 1000000 ∧ a.natAbs < 18446744073709551616) : binS .Pow (.dat (.int a)) (.dat (.int b)) = some (.dat (.int (a ^ b.toNat))) := if_pos h
theorem bi_addS {a b : Str} (h : a.length + b.length ≤ 100000) : binS .Add (.dat (.str a)) (.dat (.str b)) = some (.dat (.str (a ++ b))) := if_pos h
theorem bi_addT {a b : List D} (h : a.length + b.length ≤ 100000) : binS .Add (.dat (.tuple a)) (.dat (.tuple b)) = some (.dat (.tuple (a ++ b))) := if_pos h
theorem bi_addL {a b : List D} (h : a.length + b.length ≤ 100000) : binS .Add (.own (.list a)) (.own (.list b)) = some (.own (.list (a ++ b))) := if_pos h
theorem cs_eq {x y : Sl} {a b : D} (h1 : datS x = some a) (h2 : datS y = some b) (hs : scalD a b = false) (h : SeqAt.shaped a = true) (h' : SeqAt.shaped b = true) : cmpS .Eq x y = some (PyData.eqv a b) := by rw [cmpS_eq h1 h2]; show eqS a b = _; unfold eqS; rw [h, h', hs]; rfl
theorem cs_ne {x y : Sl} {a b : D} (h1 : datS x = some a) (h2 : datS y = some b) (hs : scalD a b = false) (h : SeqAt.shaped a = true) (h' : SeqAt.shaped b = true) : cmpS .NotEq x y = some (!PyData.eqv a b) := by rw [cmpS_eq h1 h2]; show (eqS a b).map _ = _; unfold eqS; rw [h, h', hs]; rfl
theorem cs_eqi {a b : Int} : cmpS .Eq (.dat (.int a)) (.dat (.int b)) = some (decide (a = b)) := (rfl)
theorem cs_nei {a b : Int} : cmpS .NotEq (.dat (.int a)) (.dat (.int b)) = some (!decide (a = b)) := (rfl)
theorem cs_eqs {a b : Str} : cmpS .Eq (.dat (.str a)) (.dat (.str b)) = some (decide (a = b)) := (rfl)
theorem cs_nes {a b : Str} : cmpS .NotEq (.dat (.str a)) (.dat (.str b)) = some (!decide (a = b)) := (rfl)
theorem cs_lt {a b : Int} : cmpS .Lt (.dat (.int a)) (.dat (.int b)) = some (decide (a < b)) := (rfl)
theorem cs_le {a b : Int} : cmpS .LtE (.dat (.int a)) (.dat (.int b)) = some (decide (a ≤ b)) := (rfl)
theorem cs_gt {a b : Int} : cmpS .Gt (.dat (.int a)) (.dat (.int b)) = some (decide (b < a)) := (rfl)
theorem cs_ge {a b : Int} : cmpS .GtE (.dat (.int a)) (.dat (.int b)) = some (decide (b ≤ a)) := (rfl)
theorem cs_is {a : D} {x : Sl} (h : datS x = some a) : cmpS .Is x (.dat .none) = some (isNo a) := by
  rw [cmpS_eq h rfl]; cases a <;> rfl
theorem cs_isnt {a : D} {x : Sl} (h : datS x = some a) : cmpS .IsNot x (.dat .none) = some (!isNo a) := by
  rw [cmpS_eq h rfl]; cases a <;> rfl
theorem ix_eq : ixF A B E = (pairM A B E).bind fun p => (Rs.of ((datS p.1.2).bind (ixS p.1.1))).bind fun x => .ok (.dat x, p.2) := (rfl)
theorem tup_eq : tupF ms E = (argsM ms E).bind fun p => if p.1.length ≤ 1000 then .ok (.dat (.tuple p.1), p.2) else .bad := (rfl)
theorem lst_eq : lstF ms E = (argsM ms E).bind fun p => if p.1.length ≤ 1000 then .ok (.own (.list p.1), p.2) else .bad := (rfl)
theorem ite_eq : iteF C A B E = (C.t E).bind fun p => if p.1 then A.v p.2 else B.v p.2 := (rfl)
theorem blt1_eq {b} : bltM b [A] E = (A.k E).bind fun p => (Rs.of (blt1 b p.1)).bind fun x => .ok (x, p.2) := (rfl)
theorem blt2_eq {b} : bltM b [A, B] E = (A.d E).bind fun p => (B.d p.2).bind fun q => (Rs.of (blt2 b p.1 q.1)).bind fun x => .ok (.dat x, q.2) := (rfl)
theorem b1_len {x : Sl} {n : Nat} (h : lenS x = some n) : blt1 .len x = some (.dat (.int n)) := by simp [blt1, h]
theorem lnS_str {z : Str} (h : z.length ≤ 100000) : lenS (.dat (.str z)) = some z.length := if_pos h
theorem lnS_list {z : List D} : lenS (.dat (.list z)) = some z.length := (rfl)
theorem lnS_own {z : List D} : lenS (.own (.list z)) = some z.length := (rfl)
theorem lnS_tup {z : List D} : lenS (.dat (.tuple z)) = some z.length := (rfl)
theorem b1_abs {k : Int} : blt1 .abs (.dat (.int k)) = some (.dat (.int (if k < 0 then -k else k))) := (rfl)
theorem b1_intB {k : Bool} : blt1 .int (.dat (.bool k)) = some (.dat (.int (if k then 1 else 0))) := (rfl)
theorem b2_min {k j : Int} : blt2 .min (.int k) (.int j) = some (.int (if j < k then j else k)) := (rfl)
theorem b2_max {k j : Int} : blt2 .max (.int k) (.int j) = some (.int (if j > k then j else k)) := (rfl)
theorem b2_divmod {k j : Int} (h : 0 < j ∧ j < 1073741824) : blt2 .divmod (.int k) (.int j) = some (.tuple [.int (k / j), .int (k % j)]) := if_pos h
theorem callB_eq {f : D → List D → Rs (Sl × D)} {b : D} (h : E[i]? = some (.own b)) : callBM (.bx f) i ms E = (argsM ms E).bind fun p => match p.2[i]? with
      | some (.own b) => (f b p.1).bind fun r => .ok (r.1, p.2.set i (.own r.2))
      | _ => .bad := by
  show (if ownAt E i = true then _ else _) = _
  exact if_pos (own_yes h)
theorem call_eq {f : List D → Rs Sl} : callM (.pu f) ms E = (argsM ms E).bind fun p => (f p.1).bind fun r => .ok (r, p.2) := (rfl)
theorem γ0 {f : FnE} {l : List FnE} : Γof (f :: l) 0 = f := (rfl)
theorem γs {f : FnE} {l : List FnE} {n : Nat} : Γof (f :: l) (n + 1) = Γof l n := (rfl)
end
end Wq
set_option maxHeartbeats 4000000
namespace Wq
open PySem L2
section
variable {α β : Type} {E : En} {A B C : Mn} {i : Nat} {v : RE} {ms : List Mn} {f : D → List D → Rs (Sl × D)} {g : List D → Rs Sl}
/-- what goes on behind is not looked into before its time -/
class Kt (α β : Type) where
  f : α → Rs β
def bindK (x : Rs α) [k : Kt α β] : Rs β := x.bind k.f
theorem toK {x : Rs α} {k : α → Rs β} : x.bind k = @bindK α β x ⟨k⟩ := (rfl)
theorem kOk {a : α} {k : α → Rs β} : @bindK α β (.ok a) ⟨k⟩ = k a := (rfl)
theorem kBad {k : Kt α β} : @bindK α β .bad k = .bad := (rfl)
/-! statements -/
section
variable {Γ : Nat → FnE} {Cs : Nat → Option D} {G : List Nat} {s : IS} {ss : ISs} {e c : IE} {y n : ISs} {t : IT} {it : II} {j l : Nat} {a b k : IE} {op : Operator} {m : Nat}
theorem ss0 : semSs Γ Cs G .nil E = .ok (.nx E) := (rfl)
theorem ss1 : semSs Γ Cs G (.cons s ss) E = (semS Γ Cs G s E).bind fun f => (match f with
    | .nx E1 => semSs Γ Cs G ss E1
    | f => .ok f) := (rfl)
def isSlot : IE → Bool
  | .slot _ => true
  | _ => false
theorem s_ret1 : semS Γ Cs G (.ret (.slot i)) E = (match E[i]? with
    | some (.dat d) => .ok (.rt (.dat d) E)
    | some (.own d) => if G.contains i then .bad else .ok (.rt (.own d) (E.set i .no))
    | _ => .bad) := (rfl)
theorem sr_cst {xn} : semS Γ Cs G (.ret (.cst xn)) E = ((semE Γ Cs (.cst xn)).v E).bind fun p => .ok (.rt p.1 p.2) := (rfl)
theorem sr_int {xn} : semS Γ Cs G (.ret (.int xn)) E = ((semE Γ Cs (.int xn)).v E).bind fun p => .ok (.rt p.1 p.2) := (rfl)
theorem sr_str {xn} : semS Γ Cs G (.ret (.str xn)) E = ((semE Γ Cs (.str xn)).v E).bind fun p => .ok (.rt p.1 p.2) := (rfl)
theorem sr_bl {xn} : semS Γ Cs G (.ret (.bl xn)) E = ((semE Γ Cs (.bl xn)).v E).bind fun p => .ok (.rt p.1 p.2) := (rfl)
theorem sr_non : semS Γ Cs G (.ret (.non )) E = ((semE Γ Cs (.non )).v E).bind fun p => .ok (.rt p.1 p.2) := (rfl)
theorem sr_bin {xo xa xb} : semS Γ Cs G (.ret (.bin xo xa xb)) E = ((semE Γ Cs (.bin xo xa xb)).v E).bind fun p => .ok (.rt p.1 p.2) := (rfl)
theorem sr_neg {xa} : semS Γ Cs G (.ret (.neg xa)) E = ((semE Γ Cs (.neg xa)).v E).bind fun p => .ok (.rt p.1 p.2) := (rfl)
theorem sr_cmp {xo xa xb} : semS Γ Cs G (.ret (.cmp xo xa xb)) E = ((semE Γ Cs (.cmp xo xa xb)).v E).bind fun p => .ok (.rt p.1 p.2) := (rfl)
theorem sr_cmp2 {xo xp xa xb xc} : semS Γ Cs G (.ret (.cmp2 xo xp xa xb xc)) E = ((semE Γ Cs (.cmp2 xo xp xa xb xc)).v E).bind fun p => .ok (.rt p.1 p.2) := (rfl)
theorem sr_bop {xo xa} : semS Γ Cs G (.ret (.bop xo xa)) E = ((semE Γ Cs (.bop xo xa)).v E).bind fun p => .ok (.rt p.1 p.2) := (rfl)
theorem sr_not {xa} : semS Γ Cs G (.ret (.not xa)) E = ((semE Γ Cs (.not xa)).v E).bind fun p => .ok (.rt p.1 p.2) := (rfl)
theorem sr_ite {xa xb xc} : semS Γ Cs G (.ret (.ite xa xb xc)) E = ((semE Γ Cs (.ite xa xb xc)).v E).bind fun p => .ok (.rt p.1 p.2) := (rfl)
theorem sr_tup {xa} : semS Γ Cs G (.ret (.tup xa)) E = ((semE Γ Cs (.tup xa)).v E).bind fun p => .ok (.rt p.1 p.2) := (rfl)
theorem sr_lst {xa} : semS Γ Cs G (.ret (.lst xa)) E = ((semE Γ Cs (.lst xa)).v E).bind fun p => .ok (.rt p.1 p.2) := (rfl)
theorem sr_ix {xa xb} : semS Γ Cs G (.ret (.ix xa xb)) E = ((semE Γ Cs (.ix xa xb)).v E).bind fun p => .ok (.rt p.1 p.2) := (rfl)
theorem sr_sl {xa xb xc} : semS Γ Cs G (.ret (.sl xa xb xc)) E = ((semE Γ Cs (.sl xa xb xc)).v E).bind fun p => .ok (.rt p.1 p.2) := (rfl)
theorem sr_rev {xa} : semS Γ Cs G (.ret (.rev xa)) E = ((semE Γ Cs (.rev xa)).v E).bind fun p => .ok (.rt p.1 p.2) := (rfl)
theorem sr_call {xa xb} : semS Γ Cs G (.ret (.call xa xb)) E = ((semE Γ Cs (.call xa xb)).v E).bind fun p => .ok (.rt p.1 p.2) := (rfl)
theorem sr_callB {xa xb xc} : semS Γ Cs G (.ret (.callB xa xb xc)) E = ((semE Γ Cs (.callB xa xb xc)).v E).bind fun p => .ok (.rt p.1 p.2) := (rfl)
theorem sr_callT {xa xb} : semS Γ Cs G (.ret (.callT xa xb)) E = ((semE Γ Cs (.callT xa xb)).v E).bind fun p => .ok (.rt p.1 p.2) := (rfl)
theorem sr_pop {xa xb} : semS Γ Cs G (.ret (.pop xa xb)) E = ((semE Γ Cs (.pop xa xb)).v E).bind fun p => .ok (.rt p.1 p.2) := (rfl)
theorem sr_callO {xa xb xc} : semS Γ Cs G (.ret (.callO xa xb xc)) E = ((semE Γ Cs (.callO xa xb xc)).v E).bind fun p => .ok (.rt p.1 p.2) := (rfl)
theorem sr_blt {xa xb} : semS Γ Cs G (.ret (.blt xa xb)) E = ((semE Γ Cs (.blt xa xb)).v E).bind fun p => .ok (.rt p.1 p.2) := (rfl)
theorem sr_join {xa xb} : semS Γ Cs G (.ret (.join xa xb)) E = ((semE Γ Cs (.join xa xb)).v E).bind fun p => .ok (.rt p.1 p.2) := (rfl)
theorem sr_comp {xa xb xc xd} : semS Γ Cs G (.ret (.comp xa xb xc xd)) E = ((semE Γ Cs (.comp xa xb xc xd)).v E).bind fun p => .ok (.rt p.1 p.2) := (rfl)
theorem sr_comp2 {xa xb xc xd xe xf xg} : semS Γ Cs G (.ret (.comp2 xa xb xc xd xe xf xg)) E = ((semE Γ Cs (.comp2 xa xb xc xd xe xf xg)).v E).bind fun p => .ok (.rt p.1 p.2) := (rfl)
theorem s_retI1 : semS Γ Cs G (.retI c i e) E = ((semE Γ Cs c).t E).bind fun p => if p.1 then (match p.2[i]? with
      | some (.own d) => if G.contains i then .bad else .ok (.rt (.own d) (p.2.set i .no))
      | _ => .bad) else ((semE Γ Cs e).v p.2).bind fun q => .ok (.rt q.1 q.2) := (rfl)
theorem s_exp1 : semS Γ Cs G (.expr e) E = ((semE Γ Cs e).v E).bind fun p => .ok (.nx p.2) := (rfl)
theorem s_set1 : semS Γ Cs G (.set i e) E = ((semE Γ Cs e).v E).bind fun p => setSl G i p.1 p.2 := (rfl)
theorem s_unp1 : semS Γ Cs G (.unpack t e) E = ((semE Γ Cs e).d E).bind fun p => (Rs.of (setT t p.1 p.2)).bind fun E1 => .ok (.nx E1) := (rfl)
theorem s_par21 : semS Γ Cs G (.par2 i j a b) E = ((semE Γ Cs a).v E).bind fun p => (match p.1 with
    | .dat q => ((semE Γ Cs b).v p.2).bind fun r => if i < r.2.length && j < r.2.length && !(i == j) && !G.contains i && !G.contains j then .ok (.nx ((r.2.set i (.dat q)).set j r.1)) else .bad
    | .own q => ((semE Γ Cs b).d p.2).bind fun r => if i < r.2.length && j < r.2.length && !(i == j) && !G.contains i && !G.contains j then .ok (.nx ((r.2.set i (.own q)).set j (.dat r.1))) else .bad
    | _ => .bad) := (rfl)
theorem s_if1 : semS Γ Cs G (.ifs c y n) E = ((semE Γ Cs c).t E).bind fun p => if p.1 then semSs Γ Cs G y p.2 else semSs Γ Cs G n p.2 := (rfl)
theorem s_app1 : semS Γ Cs G (.append i e) E = (match E[i]? with
    | some (.own (.list _)) => ((semE Γ Cs e).d E).bind fun p => (match p.2[i]? with
      | some (.own (.list ds)) => if ds.length < 100000 then .ok (.nx (p.2.set i (.own (.list (ds ++ [p.1]))))) else .bad
      | _ => .bad)
    | _ => .bad) := (rfl)
theorem s_rev1 : semS Γ Cs G (.reverse i) E = (match E[i]? with
    | some (.own (.list ds)) => .ok (.nx (E.set i (.own (.list ds.reverse))))
    | _ => .bad) := (rfl)
theorem s_sto1 : semS Γ Cs G (.store i k e) E = if ownAt E i then ((semE Γ Cs e).d E).bind fun p => if ownAt p.2 i then ((semE Γ Cs k).d p.2).bind fun q => (match q.2[i]?, q.1 with
      | some (.own (.list ds)), .int k => (Rs.of (ixN ds.length k)).bind fun n => .ok (.nx (q.2.set i (.own (.list (ds.set n p.1)))))
      | _, _ => .bad) else .bad else .bad := (rfl)
theorem s_sto2 : semS Γ Cs G (.store2 i j k e) E = if ownAt E i then ((semE Γ Cs e).d E).bind fun p => (match p.1 with
    | .tuple [d1, d2] => if ownAt p.2 i then ((semE Γ Cs k).d p.2).bind fun q => (match q.2[i]?, q.1 with
      | some (.own (.list ds)), .int k => (Rs.of (ixN ds.length k)).bind fun n => if notOwnB (q.2.set i (.own (.list (ds.set n d1)))) j then .ok (.nx ((q.2.set i (.own (.list (ds.set n d1)))).set j (.dat d2))) else .bad
      | _, _ => .bad) else .bad
    | _ => .bad) else .bad := (rfl)
theorem s_frz1 : semS Γ Cs G (.freeze i) E = (match E[i]? with
    | some (.own d) => if G.contains i then .bad else .ok (.nx (E.set i (.dat d)))
    | some (.dat d) => .ok (.nx E)
    | _ => .bad) := (rfl)
theorem s_loop1 {m : MI} (h : semI Γ Cs it = ⟨none, m⟩) : semS Γ Cs G (.loop t it ss) E = (m E).bind fun p => loopF t (semSs Γ Cs G ss) p.1 p.2 := by
  simp only [semS, h]
theorem lp_rng {x : IE} : semS Γ Cs G (.loop t (.rng x) ss) E = ((semE Γ Cs x).d E).bind fun p => (Rs.of (rngS p.1)).bind fun ds => loopF t (semSs Γ Cs G ss) ds p.2 := by
  show (((semE Γ Cs x).d E).bind fun p => (Rs.of (rngS p.1)).bind fun ds => Rs.ok (ds, p.2)).bind _ = _
  cases (semE Γ Cs x).d E with
  | ok p =>
    show ((Rs.of (rngS p.1)).bind fun ds => Rs.ok (ds, p.2)).bind _ = (Rs.of (rngS p.1)).bind _
    cases rngS p.1 <;> rfl
  | exc c p => rfl
  | bad => rfl
theorem lp_val {x : IE} : semS Γ Cs G (.loop t (.val x) ss) E = ((semE Γ Cs x).v E).bind fun p => (Rs.of (walkS p.1)).bind fun ds => loopF t (semSs Γ Cs G ss) ds p.2 := by
  show (((semE Γ Cs x).v E).bind fun p => (Rs.of (walkS p.1)).bind fun ds => Rs.ok (ds, p.2)).bind _ = _
  cases (semE Γ Cs x).v E with
  | ok p =>
    show ((Rs.of (walkS p.1)).bind fun ds => Rs.ok (ds, p.2)).bind _ = (Rs.of (walkS p.1)).bind _
    cases walkS p.1 <;> rfl
  | exc c p => rfl
  | bad => rfl
theorem lp_enum {x : IE} : semS Γ Cs G (.loop t (.enum x) ss) E = ((semE Γ Cs x).d E).bind fun p => (Rs.of (enumS p.1)).bind fun ds => loopF t (semSs Γ Cs G ss) ds p.2 := by
  show (((semE Γ Cs x).d E).bind fun p => (Rs.of (enumS p.1)).bind fun ds => Rs.ok (ds, p.2)).bind _ = _
  cases (semE Γ Cs x).d E with
  | ok p =>
    show ((Rs.of (enumS p.1)).bind fun ds => Rs.ok (ds, p.2)).bind _ = (Rs.of (enumS p.1)).bind _
    cases enumS p.1 <;> rfl
  | exc c p => rfl
  | bad => rfl
theorem set_eq {r : Sl} : setSl G i r E = if i < E.length && !G.contains i then .ok (.nx (E.set i r)) else .bad := (rfl)
end
theorem sl_v : (slotM i).v E = match E[i]? with
  | some (.dat d) => .ok (.dat d, E)
  | _ => .bad := (rfl)
theorem sl_k : (slotM i).k E = match E[i]? with
  | some (.dat d) => .ok (.dat d, E)
  | some (.own (.list d)) => .ok (.own (.list d), E)
  | _ => .bad := (rfl)
theorem sl_d : (slotM i).d E = match E[i]? with
  | some (.dat d) => .ok (d, E)
  | _ => .bad := by
  show (slotV i E).bind _ = _
  unfold slotV
  cases E[i]? with
  | none => rfl
  | some s => cases s <;> rfl
theorem pr_slot : pairM (slotM i) B E = if ownAt E i then (B.k E).bind fun q => (match q.2[i]? with
      | some (.own (.list d)) => .ok ((.own (.list d), q.1), q.2)
      | _ => .bad)
    else ((slotM i).v E).bind fun p => (B.k p.2).bind fun q => .ok ((p.1, q.1), q.2) := (rfl)
theorem own_eq : ownAt E i = match E[i]? with
  | some (.own _) => true
  | _ => false := (rfl)
theorem noo_eq : notOwnB E i = match E[i]? with
  | some (.own _) => false
  | some _ => true
  | none => false := (rfl)
theorem cb_eq : callBM (.bx f) i ms E = if ownAt E i then (argsM ms E).bind fun p => (match p.2[i]? with
      | some (.own b) => (f b p.1).bind fun r => .ok (r.1, p.2.set i (.own r.2))
      | _ => .bad)
    else .bad := (rfl)
theorem co_eq : callOM (.pu g) i ms E = if ownAt E i then (argsM ms E).bind fun p => (match p.2[i]? with
      | some (.own (.list b)) => (g (.list b :: p.1)).bind fun r => (match r with
        | .dat d => if plainD d then .ok (.dat d, p.2) else .bad
        | _ => .bad)
      | _ => .bad)
    else .bad := (rfl)
theorem ct_eq : callTM (.bx f) A E = (A.v E).bind fun p => (match p.1 with
    | .own b => (f b []).bind fun r => .ok (r.1, p.2)
    | _ => .bad) := (rfl)
theorem pop_eq : popM i A E = (match E[i]? with
  | some (.own (.list _)) => (A.d E).bind fun p => (match p.1, p.2[i]? with
    | .int k, some (.own (.list ds)) => (Rs.of (popS ds k)).bind fun y => .ok (.dat y.1, p.2.set i (.own (.list y.2)))
    | _, _ => .bad)
  | _ => .bad) := (rfl)
theorem and_one : andM [A] E = (A.d E).bind fun p => .ok (.dat p.1, p.2) := (rfl)
theorem and_two {ms : List Mn} : andM (A :: B :: ms) E = (A.d E).bind fun p => (match p.1 with
    | .bool true => andM (B :: ms) p.2
    | .bool false => .ok (.dat (.bool false), p.2)
    | _ => .bad) := (rfl)
theorem or_one : orM [A] E = (A.d E).bind fun p => .ok (.dat p.1, p.2) := (rfl)
theorem or_two {ms : List Mn} : orM (A :: B :: ms) E = (A.d E).bind fun p => (match p.1 with
    | .bool false => orM (B :: ms) p.2
    | .bool true => .ok (.dat (.bool true), p.2)
    | _ => .bad) := (rfl)
theorem andt_one : andT [A] E = A.t E := (rfl)
theorem andt_two {ms : List Mn} : andT (A :: B :: ms) E = (A.t E).bind fun p => if p.1 then andT (B :: ms) p.2 else .ok (false, p.2) := (rfl)
theorem ort_one : orT [A] E = A.t E := (rfl)
theorem ort_two {ms : List Mn} : orT (A :: B :: ms) E = (A.t E).bind fun p => if p.1 then .ok (true, p.2) else orT (B :: ms) p.2 := (rfl)
theorem not_eq : notV A E = (A.d E).bind fun p => (match p.1 with
      | .bool b => .ok (.dat (.bool !b), p.2)
      | _ => .bad) := (rfl)
theorem sl_eq {lo hi : List Mn} : slF A lo hi E = (A.d E).bind fun p => (argsM lo p.2).bind fun l => (argsM hi l.2).bind fun u =>
      (Rs.of ((optI l.1).bind fun lo => (optI u.1).bind fun hi => slS p.1 lo hi)).bind fun x => .ok (x, u.2) := (rfl)
theorem rev_eq : revF A E = (A.d E).bind fun p => (match p.1 with
    | .str z => if z.length ≤ 100000 then .ok (.dat (.str (revS z)), p.2) else .bad
    | _ => .bad) := (rfl)
theorem join_eq : joinM A B E = (A.d E).bind fun p => (B.k p.2).bind fun q => (match p.1 with
  | .str z => (Rs.of ((itemsS q.1).bind strsO)).bind fun ys => if (ys.map (·.length)).sum + ys.length * z.length ≤ 16777216 then .ok (.dat (.str (Txt.join z ys)), q.2) else .bad
  | _ => .bad) := (rfl)
theorem comp_eq {elt : Mn} {tg : IT} {m : MI} {ifs : List Mn} : compM elt tg ⟨none, m⟩ ifs E = (m E).bind fun p => if tg.slots.all (notOwnB p.2) then (loopC (stepC tg ifs elt) tg.slots p.1 [] (wipeE p.2 tg.slots)).bind fun q => .ok (.own (.list q.1), q.2) else .bad := (rfl)
theorem cown_eq {elt : Mn} {tg : IT} {m : MI} {ifs : List Mn} : compM elt tg ⟨some i, m⟩ ifs E = (match E[i]? with
    | some (.own (.list ds)) => if !tg.slots.contains i && tg.slots.all (notOwnB (E.set i .no)) then
        (loopC (stepC tg ifs elt) tg.slots ds [] (wipeE (E.set i .no) tg.slots)).bind fun q => (match q.2[i]? with
          | some .no => .ok (.own (.list q.1), q.2.set i (.own (.list ds)))
          | _ => .bad)
      else .bad
    | _ => .bad) := (rfl)
theorem cut2 {ds : List D} : cutD ds none (some 2) = ds.take 2 := by
  unfold cutD
  have e1 : HT.sIx ds.length 0 none = 0 := rfl
  have e2 : HT.sIx ds.length ds.length (some 2) = min 2 ds.length := HT.sIx_nat _ _ 2
  rw [e1, e2, List.drop_zero, Nat.sub_zero]
  by_cases h : 2 ≤ ds.length
  · rw [Nat.min_eq_left h]
  · rw [Nat.min_eq_right (by omega), List.take_length, List.take_of_length_le (by omega)]
theorem comp2_eq {elt : Mn} {tg tg1 : IT} {m m1 : MI} {ifs ifs1 : List Mn} : comp2M elt tg ⟨none, m⟩ ifs tg1 ⟨none, m1⟩ ifs1 E = (m E).bind fun p => if (tg.slots ++ tg1.slots).all (notOwnB p.2) then (loop2 tg ifs m1 tg1 ifs1 elt (tg.slots ++ tg1.slots) p.1 [] (wipeE p.2 (tg.slots ++ tg1.slots))).bind fun q => .ok (.own (.list q.1), q.2) else .bad := (rfl)
theorem step_eq {elt : Mn} {tg : IT} {ifs : List Mn} {d : D} : stepC tg ifs elt d E = (Rs.of (setT tg d E)).bind fun E2 => (testsM ifs E2).bind fun p => if p.1 then (elt.d p.2).bind fun q => .ok (some q.1, q.2) else .ok (none, p.2) := (rfl)
theorem tests_no : testsM [] E = .ok (true, E) := (rfl)
theorem tests_one : testsM [A] E = A.t E := (rfl)
theorem out_nx : outF (.ok (.nx E)) = .ok (.dat .none, E) := (rfl)
theorem out_rt {r : Sl} : outF (.ok (.rt r E)) = .ok (r, E) := (rfl)
theorem atN {α : Type} {xs : List α} {k : Nat} {d : α} (h : xs[k]? = some d) : atI xs (k : Int) = some d := by
  have hk := (List.getElem?_eq_some_iff.mp h).1
  unfold atI ixN
  rw [if_pos (by omega), if_pos (by omega)]
  simpa using h
theorem at0 {α : Type} {a : α} {l : List α} : atI (a :: l) 0 = some a := atN (k := 0) rfl
theorem at1 {α : Type} {a b : α} {l : List α} : atI (a :: b :: l) 1 = some b := atN (k := 1) rfl
theorem at2 {α : Type} {a b c : α} {l : List α} : atI (a :: b :: c :: l) 2 = some c := atN (k := 2) rfl
theorem at3 {α : Type} {a b c d : α} {l : List α} : atI (a :: b :: c :: d :: l) 3 = some d := atN (k := 3) rfl
theorem at4 {α : Type} {a b c d e : α} {l : List α} : atI (a :: b :: c :: d :: e :: l) 4 = some e := atN (k := 4) rfl
theorem at5 {α : Type} {a b c d e f : α} {l : List α} : atI (a :: b :: c :: d :: e :: f :: l) 5 = some f := atN (k := 5) rfl
theorem at6 {α : Type} {a b c d e f g : α} {l : List α} : atI (a :: b :: c :: d :: e :: f :: g :: l) 6 = some g := atN (k := 6) rfl
theorem ix0 {n : Nat} : ixN (n + 1) 0 = some 0 := by unfold ixN; rw [if_pos (by omega), if_pos (by omega)]; rfl
theorem ix1 {n : Nat} : ixN (n + 1 + 1) 1 = some 1 := by unfold ixN; rw [if_pos (by omega), if_pos (by omega)]; rfl
theorem ix2 {n : Nat} : ixN (n + 1 + 1 + 1) 2 = some 2 := by unfold ixN; rw [if_pos (by omega), if_pos (by omega)]; rfl
theorem ixNat {n k : Nat} (h : k < n) : ixN n (k : Int) = some k := by unfold ixN; rw [if_pos (by omega), if_pos (by omega)]; simp
theorem b1_lenL {ds : List D} : blt1 .len (.dat (.list ds)) = some (.dat (.int (ds.length : Int))) := (rfl)
theorem b1_lenO {ds : List D} : blt1 .len (.own (.list ds)) = some (.dat (.int (ds.length : Int))) := (rfl)
theorem b1_lenT {ds : List D} : blt1 .len (.dat (.tuple ds)) = some (.dat (.int (ds.length : Int))) := (rfl)
theorem b1_lenS {z : Str} (h : z.length ≤ 100000) : blt1 .len (.dat (.str z)) = some (.dat (.int (z.length : Int))) := b1_len (lnS_str h)
theorem b1_tupO {ds : List D} : blt1 .tuple (.own (.list ds)) = some (.dat (.tuple ds)) := (rfl)
theorem b1_tupL {ds : List D} : blt1 .tuple (.dat (.list ds)) = some (.dat (.tuple ds)) := (rfl)
theorem b1_tupT {ds : List D} : blt1 .tuple (.dat (.tuple ds)) = some (.dat (.tuple ds)) := (rfl)
theorem b1_lisO {ds : List D} : blt1 .list (.own (.list ds)) = some (.own (.list ds)) := (rfl)
theorem b1_lisL {ds : List D} : blt1 .list (.dat (.list ds)) = some (.own (.list ds)) := (rfl)
theorem b1_lisT {ds : List D} : blt1 .list (.dat (.tuple ds)) = some (.own (.list ds)) := (rfl)
theorem boolsD_map : ∀ bs : List Bool, boolsD (bs.map PyData.bool) = some bs
  | [] => rfl
  | b :: bs => by rw [List.map_cons, boolsD, boolsD_map bs]; rfl
theorem intsO_map : ∀ bs : List Int, intsO (bs.map PyData.int) = some bs
  | [] => rfl
  | b :: bs => by rw [List.map_cons, intsO, intsO_map bs]; rfl
theorem strsO_map : ∀ bs : List Str, strsO (bs.map PyData.str) = some bs
  | [] => rfl
  | b :: bs => by rw [List.map_cons, strsO, strsO_map bs]; rfl
theorem keysO_map : ∀ bs : List Key, keysO (bs.map kD) = some bs
  | [] => rfl
  | b :: bs => by
    have : keyO (kD b) = some b := by cases b <;> rfl
    rw [List.map_cons, keysO, this, keysO_map bs]; rfl
theorem rowsO_map : ∀ bs : List (List Key), rowsO (bs.map tupK) = some bs
  | [] => rfl
  | b :: bs => by
    show rowsO (.tuple (b.map kD) :: bs.map tupK) = _
    rw [rowsO, keysO_map, rowsO_map bs]; rfl
theorem b1_allO {bs : List Bool} : blt1 .all (.own (.list (bs.map PyData.bool))) = some (.dat (.bool (bs.all id))) := by simp [blt1, boolsD_map]
theorem b1_anyO {bs : List Bool} : blt1 .any (.own (.list (bs.map PyData.bool))) = some (.dat (.bool (bs.any id))) := by simp [blt1, boolsD_map]
theorem b1_sumO {bs : List Int} : blt1 .sum (.own (.list (bs.map PyData.int))) = some (.dat (.int bs.sum)) := by simp [blt1, intsO_map]
theorem b1_sumL {bs : List Int} : blt1 .sum (.dat (.list (bs.map PyData.int))) = some (.dat (.int bs.sum)) := by simp [blt1, intsO_map]
theorem b1_sortO {kss : List (List Key)} (h : sigOk kss = true) : blt1 .sorted (.own (.list (kss.map tupK))) = some (.own (.list ((sortK kss).map tupK))) := by simp [blt1, sortS, rowsO_map, h]
theorem rng_nat {m : Nat} (h : m < 1000000) : rngS (.int (m : Int)) = some (intsD 0 m) := by
  simp only [rngS]
  rw [if_pos (by omega), Int.toNat_natCast]
theorem rng_int {m : Int} (h0 : 0 ≤ m) (h : m < 1000000) : rngS (.int m) = some (intsD 0 m.toNat) := by
  simp only [rngS]
  rw [if_pos (by omega)]
theorem join_ok {z : Str} {ys : List Str} (h : (ys.map (·.length)).sum + ys.length * z.length ≤ 16777216) : (if (ys.map (·.length)).sum + ys.length * z.length ≤ 16777216 then Rs.ok (Sl.dat (.str (Txt.join z ys)), E) else .bad) = .ok (.dat (.str (Txt.join z ys)), E) := if_pos h
theorem it_own {ds : List D} : itemsS (.own (.list ds)) = some ds := (rfl)
theorem it_lst {ds : List D} : itemsS (.dat (.list ds)) = some ds := (rfl)
theorem it_tpl {ds : List D} : itemsS (.dat (.tuple ds)) = some ds := (rfl)
theorem wk_own' {ds : List D} : walkS (.own (.list ds)) = some ds := (rfl)
theorem wk_lst {ds : List D} : walkS (.dat (.list ds)) = some ds := (rfl)
theorem wk_tpl {ds : List D} : walkS (.dat (.tuple ds)) = some ds := (rfl)
theorem wk_str {z : Str} : walkS (.dat (.str z)) = some (signs z) := (rfl)
theorem cs_notin {x y : Sl} {a : D} {ds : List D} (h1 : datS x = some a) (h2 : datS y = some (.list ds)) (h : SeqAt.shaped a = true) (h' : SeqAt.shaped (.list ds) = true) : cmpS .NotIn x y = some (!ds.any fun z => PyData.eqv z a) := by
  rw [cmpS_eq h1 h2]
  show (inS a (.list ds)).map _ = _
  simp only [inS, h, h']
  rfl
theorem cs_in {x y : Sl} {a : D} {ds : List D} (h1 : datS x = some a) (h2 : datS y = some (.list ds)) (h : SeqAt.shaped a = true) (h' : SeqAt.shaped (.list ds) = true) : cmpS .In x y = some (ds.any fun z => PyData.eqv z a) := by
  rw [cmpS_eq h1 h2]
  show inS a (.list ds) = _
  simp only [inS, h, h']
  rfl
theorem slS_str {z : Str} {l u : Option Int} (h : z.length ≤ 100000) : slS (.str z) l u = some (.dat (.str (cutS z l u))) := if_pos h
theorem slS_lst {ds : List D} {l u : Option Int} : slS (.list ds) l u = some (.own (.list (cutD ds l u))) := (rfl)
theorem slS_tup {ds : List D} {l u : Option Int} : slS (.tuple ds) l u = some (.dat (.tuple (cutD ds l u))) := (rfl)
theorem op_no : optI [] = some none := (rfl)
theorem op_so {k : Int} : optI [.int k] = some (some k) := (rfl)
theorem ixS_l {ds : List D} {k : Int} : ixS (.dat (.list ds)) (.int k) = atI ds k := (rfl)
theorem ixS_o {ds : List D} {k : Int} : ixS (.own (.list ds)) (.int k) = atI ds k := (rfl)
theorem ixS_t {ds : List D} {k : Int} : ixS (.dat (.tuple ds)) (.int k) = atI ds k := (rfl)
theorem ixS_s {z : Str} {k : Int} (h : z.length ≤ 100000) : ixS (.dat (.str z)) (.int k) = (atI z.cps.toList k).map fun c => .str ⟨#[c]⟩ := if_pos h
theorem dlt_t {a b : Int} (h : a < b) : decide (a < b) = true := decide_eq_true h
theorem dlt_f {a b : Int} (h : ¬ a < b) : decide (a < b) = false := decide_eq_false h
theorem dle_t {a b : Int} (h : a ≤ b) : decide (a ≤ b) = true := decide_eq_true h
theorem dle_f {a b : Int} (h : ¬ a ≤ b) : decide (a ≤ b) = false := decide_eq_false h
theorem deq_t {a b : Int} (h : a = b) : decide (a = b) = true := decide_eq_true h
theorem deq_f {a b : Int} (h : ¬ a = b) : decide (a = b) = false := decide_eq_false h
theorem nle_t {α : Type} {a b : Nat} {x y : α} (h : a ≤ b) : (if a ≤ b then x else y) = x := if_pos h
theorem nlt_t {α : Type} {a b : Nat} {x y : α} (h : a < b) : (if a < b then x else y) = x := if_pos h
theorem ilt_t {α : Type} {a b : Int} {x y : α} (h : a < b) : (if a < b then x else y) = x := if_pos h
theorem ilt_f {α : Type} {a b : Int} {x y : α} (h : ¬ a < b) : (if a < b then x else y) = y := if_neg h
theorem dnlt_t {a b : Nat} (h : a < b) : decide (a < b) = true := decide_eq_true h
theorem dnle_t {a b : Nat} (h : a ≤ b) : decide (a ≤ b) = true := decide_eq_true h
theorem bi_pow7 : binS .Pow (.dat (.int 10)) (.dat (.int 7)) = some (.dat (.int 10000000)) := by rw [bi_pow (by decide)]; rfl
theorem bi_pow18 : binS .Pow (.dat (.int 10)) (.dat (.int 18)) = some (.dat (.int 1000000000000000000)) := by rw [bi_pow (by decide)]; rfl
end
end Wq
set_option maxHeartbeats 4000000
namespace Wq
open PySem L2
/-! ### loops -/
theorem filterMap_if {α β : Type} {p : α → Bool} {f : α → β} : ∀ l : List α, (l.filterMap fun i => if p i then some (f i) else none) = (l.filter p).map f
  | [] => rfl
  | a :: l => by
    cases h : p a with
    | true => rw [List.filterMap_cons_some (b := f a) (by simp [h]), List.filter_cons_of_pos h, List.map_cons, filterMap_if l]
    | false => rw [List.filterMap_cons_none (by simp [h]), List.filter_cons_of_neg (by simp [h]), filterMap_if l]
theorem loopC_map {step : D → En → Rs (Option D × En)} {vs : List Nat} {g : D → Option D} {E0 : En} : ∀ {ds acc : List D}, (∀ d ∈ ds, ∃ E1, step d E0 = .ok (g d, E1) ∧ vs.all (notOwnB E1) = true ∧ wipeE E1 vs = E0) → acc.length + ds.length ≤ 1000000 → loopC step vs ds acc E0 = .ok (acc ++ ds.filterMap g, E0)
  | [], acc, _, _ => by rw [List.filterMap_nil, List.append_nil]; rfl
  | d :: ds, acc, h, hl => by
    obtain ⟨E1, h1, h2, h3⟩ := h d List.mem_cons_self
    unfold loopC
    rw [h1, ev_bind]
    have hl' : acc.length < 1000000 := by rw [List.length_cons] at hl; omega
    simp only [h2, hl', decide_true, Bool.and_self, if_true, h3]
    rw [loopC_map (fun d hd => h d (List.mem_cons_of_mem _ hd)) (by
      rw [List.length_append, List.length_cons] at *
      have : (g d).toList.length ≤ 1 := by cases g d <;> simp
      omega)]
    cases hg : g d with
    | none => rw [List.filterMap_cons_none hg]; simp
    | some y => rw [List.filterMap_cons_some hg]; simp
theorem loopC_of {α : Type} {f : α → D} {step : D → En → Rs (Option D × En)} {vs : List Nat} {g : α → Option D} {E0 : En} : ∀ {xs : List α} {acc : List D}, (∀ x ∈ xs, ∃ E1, step (f x) E0 = .ok (g x, E1) ∧ vs.all (notOwnB E1) = true ∧ wipeE E1 vs = E0) → acc.length + xs.length ≤ 1000000 → loopC step vs (xs.map f) acc E0 = .ok (acc ++ xs.filterMap g, E0)
  | [], acc, _, _ => by rw [List.filterMap_nil, List.append_nil]; rfl
  | d :: ds, acc, h, hl => by
    obtain ⟨E1, h1, h2, h3⟩ := h d List.mem_cons_self
    rw [List.map_cons]
    unfold loopC
    rw [h1, ev_bind]
    have hl' : acc.length < 1000000 := by rw [List.length_cons] at hl; omega
    simp only [h2, hl', decide_true, Bool.and_self, if_true, h3]
    rw [loopC_of (fun d hd => h d (List.mem_cons_of_mem _ hd)) (by
      rw [List.length_append, List.length_cons] at *
      have : (g d).toList.length ≤ 1 := by cases g d <;> simp
      omega)]
    cases hg : g d with
    | none => rw [List.filterMap_cons_none hg]; simp
    | some y => rw [List.filterMap_cons_some hg]; simp
theorem loop2_of {α : Type} {f : α → D} {tg tg1 : IT} {it1 : MI} {ifs1 : List Mn} {elt : Mn} {vs : List Nat} {g : α → List D} {E0 : En} {n : Nat} : ∀ {xs : List α} {acc : List D}, (∀ x ∈ xs, (g x).length ≤ n ∧ ∃ E2 E3 q, setT tg (f x) E0 = some E2 ∧ it1 E2 = .ok (q, E3) ∧ tg1.slots.all (notOwnB E3) = true ∧ ∀ acc : List D, acc.length + n ≤ 1000000 → ∃ Eu, loopC (stepC tg1 ifs1 elt) tg1.slots q acc (wipeE E3 tg1.slots) = .ok (acc ++ g x, Eu) ∧ vs.all (notOwnB Eu) = true ∧ wipeE Eu vs = E0) → acc.length + xs.length * n ≤ 1000000 →
    loop2 tg [] it1 tg1 ifs1 elt vs (xs.map f) acc E0 = .ok (acc ++ xs.flatMap g, E0)
  | [], acc, _, _ => by rw [List.flatMap_nil, List.append_nil]; rfl
  | x :: xs, acc, h, hl => by
    obtain ⟨hn, E2, E3, q, h1, h2, h3, h4⟩ := h x List.mem_cons_self
    rw [List.length_cons, Nat.add_mul, Nat.one_mul] at hl
    obtain ⟨Eu, h5, h6, h7⟩ := h4 acc (by omega)
    rw [List.map_cons]
    unfold loop2
    rw [h1, ev_of, ev_bind, tests_no, ev_bind]
    simp only [if_true]
    rw [h2, ev_bind]
    simp only [h3, if_true]
    rw [h5, ev_bind]
    simp only [h6, if_true, h7]
    rw [loop2_of (fun y hy => h y (List.mem_cons_of_mem _ hy)) (by rw [List.length_append]; omega), List.flatMap_cons, List.append_assoc]
/-- a loop whose state goes on: some word of what is made and of the state stays true -/
theorem loopC_inv {step : D → En → Rs (Option D × En)} {vs : List Nat} (I : Nat → List D → En → Prop) : ∀ {ds : List D} {t : Nat} {acc : List D} {E : En}, I t acc E →
    (∀ n d acc E, ds[n]? = some d → I (t + n) acc E → acc.length < 1000000 ∧ ∃ o E1, step d E = .ok (o, E1) ∧ vs.all (notOwnB E1) = true ∧ I (t + n + 1) (acc ++ o.toList) (wipeE E1 vs)) →
    ∃ acc' E', loopC step vs ds acc E = .ok (acc', E') ∧ I (t + ds.length) acc' E'
  | [], t, acc, E, h0, _ => ⟨acc, E, rfl, h0⟩
  | d :: ds, t, acc, E, h0, hs => by
    obtain ⟨hl, o, E1, h1, h2, h3⟩ := hs 0 d acc E rfl h0
    unfold loopC
    rw [h1, ev_bind]
    simp only [h2, hl, decide_true, Bool.and_self, if_true]
    obtain ⟨acc', E', q1, q2⟩ := loopC_inv I (ds := ds) (t := t + 1) h3 fun n d acc E hd hi => by
      have := hs (n + 1) d acc E (by simpa using hd) (by rw [show t + (n + 1) = t + 1 + n by omega]; exact hi)
      rw [show t + (n + 1) + 1 = t + 1 + n + 1 by omega] at this
      exact this
    exact ⟨acc', E', q1, by rw [List.length_cons, show t + (ds.length + 1) = t + 1 + ds.length by omega]; exact q2⟩
theorem loopF_inv {tg : IT} {body : En → Rs Fl} (I : Nat → En → Prop) : ∀ {ds : List D} {t : Nat} {E : En}, I t E →
    (∀ n d E, ds[n]? = some d → I (t + n) E → ∃ E2 E3, setT tg d E = some E2 ∧ body E2 = .ok (.nx E3) ∧ I (t + n + 1) E3) → ∃ E', loopF tg body ds E = .ok (.nx E') ∧ I (t + ds.length) E'
  | [], t, E, h0, _ => ⟨E, rfl, h0⟩
  | d :: ds, t, E, h0, hs => by
    obtain ⟨E2, E3, h1, h2, h3⟩ := hs 0 d E rfl h0
    unfold loopF
    rw [h1, ev_of, ev_bind, h2, ev_bind]
    obtain ⟨E', q1, q2⟩ := loopF_inv I (ds := ds) (t := t + 1) h3 fun n d E hd hi => by
      have := hs (n + 1) d E (by simpa using hd) (by rw [show t + (n + 1) = t + 1 + n by omega]; exact hi)
      rw [show t + (n + 1) + 1 = t + 1 + n + 1 by omega] at this
      exact this
    exact ⟨E', q1, by rw [List.length_cons, show t + (ds.length + 1) = t + 1 + ds.length by omega]; exact q2⟩
/-! ### statements, one behind the other -/
theorem seq_nx {Γ : Nat → FnE} {Cs : Nat → Option D} {G : List Nat} {s : IS} {ss : ISs} {E E1 : En} {r : Rs Fl} (h1 : semS Γ Cs G s E = .ok (.nx E1)) (h2 : semSs Γ Cs G ss E1 = r) : semSs Γ Cs G (.cons s ss) E = r := by
  simp only [semSs, h1, ev_bind, h2]
theorem seq_rt {Γ : Nat → FnE} {Cs : Nat → Option D} {G : List Nat} {s : IS} {ss : ISs} {E E1 : En} {x : Sl} (h1 : semS Γ Cs G s E = .ok (.rt x E1)) : semSs Γ Cs G (.cons s ss) E = .ok (.rt x E1) := by
  simp only [semSs, h1, ev_bind]
theorem fnX_ok {l : List FnE} {cs : List D} {N : List Str} {n : Nat} {body : ISs} {b b' : D} {ds : List D} {r : Sl} {E : En} (hn : (ds.length + 1 == n) = true) (h : semSs (Γof l) (csOf cs) [0] body (startE N (Sl.own b :: ds.map Sl.dat)) = .ok (.rt r E)) (h0 : E[0]? = some (.own b')) : fnX l cs N n body b ds = .ok (r, b') := by
  unfold fnX
  rw [if_pos hn, h]
  show (match E[0]? with
    | some (Sl.own b') => Rs.ok (r, b')
    | _ => .bad) = _
  rw [h0]
theorem fnP_ok {l : List FnE} {cs : List D} {N : List Str} {n : Nat} {body : ISs} {ds : List D} {r : Sl} {E : En} (hn : (ds.length == n) = true) (h : semSs (Γof l) (csOf cs) [] body (startE N (ds.map Sl.dat)) = .ok (.rt r E)) : fnP l cs N n body ds = .ok r := by
  unfold fnP
  rw [if_pos hn, h]
  rfl
/-! ### the box of draws -/
def Bx (n : Nat) (b : D) : Prop := ∃ (x y : Int) (z : Nat), b = .list [.int x, .int y, .int (z : Int)] ∧ 0 ≤ x ∧ 0 ≤ y ∧ y < 2147483647 ∧ z ≤ n
theorem Bx.up {n m : Nat} {b : D} (h : Bx n b) (hm : n ≤ m) : Bx m b := by
  obtain ⟨x, y, z, e, h1, h2, h3, h4⟩ := h
  exact ⟨x, y, z, e, h1, h2, h3, Nat.le_trans h4 hm⟩
end Wq
set_option maxHeartbeats 4000000
namespace Wq
open PySem L2
def n_stands : List Str := [(Str.ofString "shape"), (Str.ofString "row"), (Str.ofString "text"), (Str.ofString "place"), (Str.ofString "at")]
def b_stands : ISs :=
 (.cons (.ifs (.cmp .Eq (.slot 0) (.str (Str.ofString "line")))
 (.cons (.ret (.cmp .Eq (.sl (.slot 1) (.cons (.slot 3) .nil) (.cons (.bin .Add (.slot 3) (.blt .len (.cons (.slot 2) .nil))) .nil)) (.slot 2)))
 .nil)
 .nil)
 (.cons (.ret (.blt .all (.cons (.comp (.cmp .Eq (.ix (.slot 1) (.bin .Mod (.bin .Add (.slot 3) (.slot 4)) (.blt .len (.cons (.slot 1) .nil)))) (.ix (.slot 2) (.slot 4))) (.nm 4) (.rng (.blt .len (.cons (.slot 2) .nil))) .nil) .nil)))
 .nil))
def n_places_of : List Str := [(Str.ofString "game"), (Str.ofString "row"), (Str.ofString "text"), (Str.ofString "place")]
def b_places_of : ISs :=
 (.cons (.ret (.comp (.slot 3) (.nm 3) (.rng (.blt .len (.cons (.slot 1) .nil))) (.cons (.call 0 (.cons (.ix (.slot 0) (.int 1)) (.cons (.slot 1) (.cons (.slot 2) (.cons (.slot 3) .nil))))) .nil)))
 .nil)
def n_moves_by_rules : List Str := [(Str.ofString "game"), (Str.ofString "standing"), (Str.ofString "side"), (Str.ofString "row"), (Str.ofString "place"), (Str.ofString "old"), (Str.ofString "new")]
def b_moves_by_rules : ISs :=
 (.cons (.unpack (.tp (.cons (.nm 2) (.cons (.nm 3) .nil))) (.slot 1))
 (.cons (.ret (.blt .sorted (.cons (.comp2 (.tup (.cons (.slot 4) (.cons (.slot 5) (.cons (.slot 6) .nil)))) (.tp (.cons (.nm 5) (.cons (.nm 6) .nil))) (.val (.ix (.ix (.slot 0) (.int 4)) (.slot 2))) .nil (.nm 4) (.val (.call 0 (.cons (.slot 0) (.cons (.slot 3) (.cons (.slot 5) .nil))))) .nil) .nil)))
 .nil))
def n_ended : List Str := [(Str.ofString "game"), (Str.ofString "standing"), (Str.ofString "worths"), (Str.ofString "side"), (Str.ofString "row"), (Str.ofString "who"), (Str.ofString "pattern"), (Str.ofString "worth")]
def b_ended : ISs :=
 (.cons (.unpack (.tp (.cons (.nm 3) (.cons (.nm 4) .nil))) (.slot 1))
 (.cons (.set 2 (.comp (.slot 7) (.tp (.cons (.nm 5) (.cons (.nm 6) (.cons (.nm 7) .nil)))) (.val (.ix (.slot 0) (.int 5))) (.cons (.bop .And (.cons (.cmp .In (.slot 5) (.tup (.cons (.slot 3) (.cons (.int 2) .nil)))) (.cons (.call 0 (.cons (.slot 0) (.cons (.slot 4) (.cons (.slot 6) .nil)))) .nil))) .nil)))
 (.cons (.freeze 2)
 (.cons (.ifs (.cmp .Gt (.blt .len (.cons (.slot 2) .nil)) (.int 0))
 (.cons (.ret (.blt .max (.cons (.neg (.cst 0)) (.cons (.blt .min (.cons (.cst 0) (.cons (.blt .sum (.cons (.slot 2) .nil)) .nil))) .nil))))
 .nil)
 .nil)
 (.cons (.ret (.ite (.cmp .Eq (.call 1 (.cons (.slot 0) (.cons (.slot 1) .nil))) (.lst .nil)) (.ix (.ix (.slot 0) (.int 6)) (.slot 3)) .non))
 .nil)))))
def n_box : List Str := [(Str.ofString "_law_script"), (Str.ofString "_law_k"), (Str.ofString "_law_cell")]
def b_box : ISs :=
 (.cons (.set 2 (.ite (.cmp .Lt (.slot 1) (.blt .len (.cons (.slot 0) .nil))) (.ix (.slot 0) (.slot 1)) (.int 0)))
 (.cons (.freeze 2)
 (.cons (.ret (.lst (.cons (.bin .Mult (.blt .abs (.cons (.slot 2) .nil)) (.blt .int (.cons (.cmp .GtE (.blt .abs (.cons (.slot 2) .nil)) (.bin .Pow (.int 10) (.int 18))) .nil))) (.cons (.bin .Mod (.bin .Mult (.bin .Add (.bin .Add (.bin .Mod (.slot 2) (.int 2147483629)) (.bin .Mult (.int 15485863) (.slot 1))) (.int 43)) (.int 48271)) (.int 2147483647)) (.cons (.int 0) .nil)))))
 .nil)))
def n_take : List Str := [(Str.ofString "_law_box_here"), (Str.ofString "_law_room"), (Str.ofString "_law_step"), (Str.ofString "_law_once"), (Str.ofString "_law_twice"), (Str.ofString "_law_found")]
def b_take : ISs :=
 (.cons (.ifs (.cmp .Gt (.ix (.slot 0) (.int 0)) (.int 0))
 (.cons (.store2 0 5 (.int 0) (.blt .divmod (.cons (.ix (.slot 0) (.int 0)) (.cons (.slot 1) .nil))))
 (.cons (.ret (.slot 5))
 .nil))
 .nil)
 (.cons (.ifs (.cmp .Gt (.slot 1) (.bin .Pow (.int 10) (.int 7)))
 (.cons (.ret (.bin .Mod (.bin .Add (.callB 0 0 (.cons (.bin .Pow (.int 10) (.int 7)) .nil)) (.bin .Mult (.bin .Pow (.int 10) (.int 7)) (.callB 0 0 (.cons (.bin .Add (.bin .FloorDiv (.bin .Sub (.slot 1) (.int 1)) (.bin .Pow (.int 10) (.int 7))) (.int 1)) .nil)))) (.slot 1)))
 .nil)
 .nil)
 (.cons (.store 0 (.int 2) (.bin .Add (.ix (.slot 0) (.int 2)) (.int 1)))
 (.cons (.set 2 (.bin .Add (.int 69621) (.bin .Mult (.ix (.slot 0) (.int 2)) (.ix (.slot 0) (.int 2)))))
 (.cons (.freeze 2)
 (.cons (.set 3 (.bin .Mod (.bin .Mult (.bin .Add (.ix (.slot 0) (.int 1)) (.bin .Mult (.int 39373) (.ix (.slot 0) (.int 2)))) (.slot 2)) (.int 2147483587)))
 (.cons (.freeze 3)
 (.cons (.set 4 (.bin .Mod (.bin .Add (.bin .Mult (.slot 3) (.bin .Add (.bin .Mod (.slot 3) (.int 30011)) (.int 5))) (.ix (.slot 0) (.int 2))) (.int 2147483563)))
 (.cons (.freeze 4)
 (.cons (.ret (.bin .Mod (.bin .FloorDiv (.bin .Mod (.bin .Mult (.slot 4) (.bin .Add (.bin .Mod (.slot 4) (.int 1013)) (.int 3))) (.int 998244353)) (.int 16)) (.slot 1)))
 .nil))))))))))
def n_folded : List Str := [(Str.ofString "_law_script"), (Str.ofString "_law_room"), (Str.ofString "_law_cells"), (Str.ofString "_law_k"), (Str.ofString "_law_cell")]
def b_folded : ISs :=
 (.cons (.set 2 (.blt .list (.cons (.sl (.slot 0) .nil (.cons (.slot 1) .nil)) .nil)))
 (.cons (.loop (.tp (.cons (.nm 3) (.cons (.nm 4) .nil))) (.enum (.sl (.slot 0) (.cons (.slot 1) .nil) (.cons (.int 63) .nil)))
 (.cons (.store 2 (.bin .Mod (.slot 3) (.slot 1)) (.bin .Add (.ix (.slot 2) (.bin .Mod (.slot 3) (.slot 1))) (.bin .Mult (.slot 4) (.bin .Add (.slot 3) (.int 2)))))
 .nil))
 (.cons (.retI (.cmp .NotEq (.slot 2) (.lst .nil)) 2 (.lst (.cons (.int 0) .nil)))
 .nil)))
def n_same : List Str := [(Str.ofString "_law_found"), (Str.ofString "_law_due"), (Str.ofString "_law_one"), (Str.ofString "_law_other")]
def b_same : ISs :=
 (.cons (.ifs (.blt .isSeq (.cons (.slot 1) .nil))
 (.cons (.ifs (.bop .Or (.cons (.cmp .NotEq (.blt .isList (.cons (.slot 0) .nil)) (.blt .isList (.cons (.slot 1) .nil))) (.cons (.cmp .NotEq (.blt .isTuple (.cons (.slot 0) .nil)) (.blt .isTuple (.cons (.slot 1) .nil))) .nil)))
 (.cons (.ret (.bl false))
 .nil)
 .nil)
 (.cons (.ret (.bop .And (.cons (.cmp .Eq (.blt .len (.cons (.slot 0) .nil)) (.blt .len (.cons (.slot 1) .nil))) (.cons (.blt .all (.cons (.comp (.call 0 (.cons (.slot 2) (.cons (.slot 3) .nil))) (.tp (.cons (.nm 2) (.cons (.nm 3) .nil))) (.zip (.slot 0) (.slot 1)) .nil) .nil)) .nil))))
 .nil))
 .nil)
 (.cons (.ifs (.bop .Or (.cons (.cmp .Is (.slot 1) .non) (.cons (.blt .isStr (.cons (.slot 1) .nil)) .nil)))
 (.cons (.ret (.bop .And (.cons (.cmp .Eq (.slot 0) (.slot 1)) (.cons (.cmp .Eq (.blt .isStr (.cons (.slot 0) .nil)) (.blt .isStr (.cons (.slot 1) .nil))) .nil))))
 .nil)
 .nil)
 (.cons (.ret (.bop .And (.cons (.blt .isInt (.cons (.slot 0) .nil)) (.cons (.cmp .Eq (.blt .isBool (.cons (.slot 0) .nil)) (.blt .isBool (.cons (.slot 1) .nil))) (.cons (.cmp .Eq (.slot 0) (.slot 1)) .nil)))))
 .nil)))
def n_of : List Str := [(Str.ofString "_law_box_here"), (Str.ofString "_law_some")]
def b_of : ISs :=
 (.cons (.ret (.ix (.slot 1) (.callB 0 0 (.cons (.blt .len (.cons (.slot 1) .nil)) .nil))))
 .nil)
def n_text : List Str := [(Str.ofString "_law_box_here"), (Str.ofString "_law_beads"), (Str.ofString "_law_size"), (Str.ofString "_law_turn")]
def b_text : ISs :=
 (.cons (.ret (.join (.str (Str.ofString "")) (.comp (.callB 0 0 (.cons (.slot 1) .nil)) (.nm 3) (.rng (.slot 2)) .nil)))
 .nil)
def n_rules : List Str := [(Str.ofString "_law_box_here"), (Str.ofString "_law_beads"), (Str.ofString "_law_long"), (Str.ofString "_law_found"), (Str.ofString "_law_turn"), (Str.ofString "_law_old"), (Str.ofString "_law_new")]
def b_rules : ISs :=
 (.cons (.set 3 (.lst .nil))
 (.cons (.loop (.nm 4) (.rng (.callB 0 0 (.cons (.int 5) .nil)))
 (.cons (.set 5 (.callB 1 0 (.cons (.slot 1) (.cons (.bin .Add (.int 1) (.callB 0 0 (.cons (.blt .min (.cons (.int 3) (.cons (.slot 2) .nil))) .nil))) .nil))))
 (.cons (.freeze 5)
 (.cons (.set 6 (.ix (.lst (.cons (.rev (.slot 5)) (.cons (.callB 1 0 (.cons (.slot 1) (.cons (.blt .len (.cons (.slot 5) .nil)) .nil))) (.cons (.bin .Add (.sl (.slot 5) (.cons (.int 1) .nil) .nil) (.sl (.slot 5) .nil (.cons (.int 1) .nil))) .nil)))) (.callB 0 0 (.cons (.int 3) .nil))))
 (.cons (.ifs (.bop .And (.cons (.cmp .NotEq (.slot 5) (.slot 6)) (.cons (.cmp .NotIn (.tup (.cons (.slot 5) (.cons (.slot 6) .nil))) (.slot 3)) .nil)))
 (.cons (.append 3 (.tup (.cons (.slot 5) (.cons (.slot 6) .nil))))
 .nil)
 .nil)
 .nil)))))
 (.cons (.ret (.blt .tuple (.cons (.blt .sorted (.cons (.slot 3) .nil)) .nil)))
 .nil)))
def n_turned_text : List Str := [(Str.ofString "_law_text_here"), (Str.ofString "_law_beads"), (Str.ofString "_law_to"), (Str.ofString "_law_sign")]
def b_turned_text : ISs :=
 (.cons (.dictJoin 2 0 3 (.slot 1) (.bin .Add (.bin .Add (.sl (.slot 1) .nil (.cons (.neg (.int 2)) .nil)) (.ix (.slot 1) (.neg (.int 1)))) (.ix (.slot 1) (.neg (.int 2))))) .nil)
def n_ends : List Str := [(Str.ofString "_law_box_here"), (Str.ofString "_law_beads"), (Str.ofString "_law_long"), (Str.ofString "_law_found"), (Str.ofString "_law_turn"), (Str.ofString "_law_worth"), (Str.ofString "_law_pattern"), (Str.ofString "_law_one"), (Str.ofString "_law_row")]
def b_ends : ISs :=
 (.cons (.set 3 (.lst .nil))
 (.cons (.loop (.nm 4) (.rng (.bin .Add (.int 1) (.callB 0 0 (.cons (.int 4) .nil))))
 (.cons (.set 5 (.callB 1 0 (.cons (.lst (.cons (.int 9) (.cons (.neg (.int 9)) (.cons (.int 1) (.cons (.neg (.int 1)) (.cons (.int 3) (.cons (.neg (.int 4)) .nil))))))) .nil)))
 (.cons (.freeze 5)
 (.cons (.set 6 (.callB 2 0 (.cons (.slot 1) (.cons (.bin .Add (.int 1) (.callB 0 0 (.cons (.slot 2) .nil))) .nil))))
 (.cons (.freeze 6)
 (.cons (.set 7 (.tup (.cons (.callB 0 0 (.cons (.int 3) .nil)) (.cons (.slot 6) .nil))))
 (.cons (.ifs (.cmp .NotIn (.slot 7) (.comp (.sl (.slot 8) .nil (.cons (.int 2) .nil)) (.nm 8) (.own 3) .nil))
 (.cons (.append 3 (.bin .Add (.slot 7) (.tup (.cons (.slot 5) .nil))))
 .nil)
 .nil)
 .nil)))))))
 (.cons (.ret (.blt .tuple (.cons (.blt .sorted (.cons (.slot 3) .nil)) .nil)))
 .nil)))
def n_any_game : List Str := [(Str.ofString "_law_box_here"), (Str.ofString "_law_name"), (Str.ofString "_law_longest"), (Str.ofString "_law_others"), (Str.ofString "_law_stuck"), (Str.ofString "_law_beads"), (Str.ofString "_law_long"), (Str.ofString "_law_shape"), (Str.ofString "_law_rules_here"), (Str.ofString "_law_old"), (Str.ofString "_law_new")]
def b_any_game : ISs :=
 (.cons (.unpack (.tp (.cons (.nm 5) (.cons (.nm 6) .nil))) (.tup (.cons (.callB 0 0 (.cons (.lst (.cons (.str (Str.ofString ".xo")) (.cons (.str (Str.ofString ".xo")) (.cons (.str (Str.ofString ".x")) (.cons (.str (Str.ofString "x.o")) (.cons (.str (Str.ofString ".abz")) .nil)))))) .nil)) (.cons (.bin .Add (.int 2) (.callB 1 0 (.cons (.bin .Sub (.slot 2) (.int 1)) .nil))) .nil))))
 (.cons (.par2 7 8 (.callB 0 0 (.cons (.lst (.cons (.str (Str.ofString "line")) (.cons (.str (Str.ofString "ring")) .nil))) .nil)) (.callB 2 0 (.cons (.slot 5) (.cons (.slot 6) .nil))))
 (.cons (.freeze 8)
 (.cons (.set 3 (.callB 2 0 (.cons (.slot 5) (.cons (.slot 6) .nil))))
 (.cons (.freeze 3)
 (.cons (.ifs (.cmp .Eq (.callB 1 0 (.cons (.int 3) .nil)) (.int 0))
 (.cons (.set 3 (.blt .tuple (.cons (.blt .sorted (.cons (.comp (.tup (.cons (.call 3 (.cons (.slot 9) (.cons (.slot 5) .nil))) (.cons (.call 3 (.cons (.slot 10) (.cons (.slot 5) .nil))) .nil))) (.tp (.cons (.nm 9) (.cons (.nm 10) .nil))) (.val (.slot 8)) .nil) .nil)) .nil)))
 .nil)
 .nil)
 (.cons (.set 4 (.tup (.cons (.callB 0 0 (.cons (.lst (.cons (.int 0) (.cons (.int 9) (.cons (.neg (.int 9)) (.cons (.neg (.int 2)) .nil))))) .nil)) (.cons (.callB 0 0 (.cons (.lst (.cons (.int 0) (.cons (.neg (.int 9)) (.cons (.int 9) (.cons (.int 2) .nil))))) .nil)) .nil))))
 (.cons (.ret (.tup (.cons (.slot 1) (.cons (.slot 7) (.cons (.slot 5) (.cons (.slot 6) (.cons (.tup (.cons (.slot 8) (.cons (.slot 3) .nil))) (.cons (.callB 4 0 (.cons (.slot 5) (.cons (.slot 6) .nil))) (.cons (.slot 4) .nil)))))))))
 .nil))))))))
def n_beads_at : List Str := [(Str.ofString "_law_game"), (Str.ofString "_law_row"), (Str.ofString "_law_place"), (Str.ofString "_law_size")]
def b_beads_at : ISs :=
 (.cons (.ret (.ite (.cmp .Eq (.ix (.slot 0) (.int 1)) (.str (Str.ofString "ring"))) (.sl (.bin .Add (.slot 1) (.slot 1)) (.cons (.slot 2) .nil) (.cons (.bin .Add (.slot 2) (.slot 3)) .nil)) (.sl (.slot 1) (.cons (.slot 2) .nil) (.cons (.bin .Add (.slot 2) (.slot 3)) .nil))))
 .nil)
def n_spots : List Str := [(Str.ofString "_law_game"), (Str.ofString "_law_row"), (Str.ofString "_law_text_here"), (Str.ofString "_law_place")]
def b_spots : ISs :=
 (.cons (.ret (.comp (.slot 3) (.nm 3) (.rng (.ix (.slot 0) (.int 3))) (.cons (.cmp .Eq (.call 0 (.cons (.slot 0) (.cons (.slot 1) (.cons (.slot 3) (.cons (.blt .len (.cons (.slot 2) .nil)) .nil))))) (.slot 2)) .nil)))
 .nil)
def n_steps_of : List Str := [(Str.ofString "_law_game"), (Str.ofString "_law_standing"), (Str.ofString "_law_found"), (Str.ofString "_law_side"), (Str.ofString "_law_row"), (Str.ofString "_law_old"), (Str.ofString "_law_new"), (Str.ofString "_law_place")]
def b_steps_of : ISs :=
 (.cons (.unpack (.tp (.cons (.nm 3) (.cons (.nm 4) .nil))) (.slot 1))
 (.cons (.set 2 (.lst .nil))
 (.cons (.loop (.tp (.cons (.nm 5) (.cons (.nm 6) .nil))) (.val (.ix (.ix (.slot 0) (.int 4)) (.slot 3)))
 (.cons (.set 2 (.bin .Add (.slot 2) (.comp (.tup (.cons (.slot 7) (.cons (.slot 5) (.cons (.slot 6) .nil)))) (.nm 7) (.val (.call 0 (.cons (.slot 0) (.cons (.slot 4) (.cons (.slot 5) .nil))))) .nil)))
 .nil))
 (.cons (.ret (.blt .sorted (.cons (.slot 2) .nil)))
 .nil))))
def n_end : List Str := [(Str.ofString "_law_game"), (Str.ofString "_law_standing"), (Str.ofString "_law_some"), (Str.ofString "_law_side"), (Str.ofString "_law_row"), (Str.ofString "_law_who"), (Str.ofString "_law_text_here"), (Str.ofString "_law_worth")]
def b_end : ISs :=
 (.cons (.unpack (.tp (.cons (.nm 3) (.cons (.nm 4) .nil))) (.slot 1))
 (.cons (.set 2 (.comp (.slot 7) (.tp (.cons (.nm 5) (.cons (.nm 6) (.cons (.nm 7) .nil)))) (.val (.ix (.slot 0) (.int 5))) (.cons (.bop .And (.cons (.cmp .In (.slot 5) (.tup (.cons (.slot 3) (.cons (.int 2) .nil)))) (.cons (.cmp .NotEq (.call 0 (.cons (.slot 0) (.cons (.slot 4) (.cons (.slot 6) .nil)))) (.lst .nil)) .nil))) .nil)))
 (.cons (.freeze 2)
 (.cons (.ifs (.cmp .NotEq (.slot 2) (.lst .nil))
 (.cons (.ret (.blt .max (.cons (.neg (.int 9)) (.cons (.blt .min (.cons (.int 9) (.cons (.blt .sum (.cons (.slot 2) .nil)) .nil))) .nil))))
 .nil)
 .nil)
 (.cons (.ret (.ite (.cmp .Eq (.call 1 (.cons (.slot 0) (.cons (.slot 1) .nil))) (.lst .nil)) (.ix (.ix (.slot 0) (.int 6)) (.slot 3)) .non))
 .nil)))))
def n_lists : List Str := [(Str.ofString "_law_thing"), (Str.ofString "_law_one")]
def b_lists : ISs :=
 (.cons (.ret (.ite (.blt .isSeq (.cons (.slot 0) .nil)) (.comp (.call 0 (.cons (.slot 1) .nil)) (.nm 1) (.val (.slot 0)) .nil) (.slot 0)))
 .nil)
def n_rows_of : List Str := [(Str.ofString "_law_box_here"), (Str.ofString "_law_game"), (Str.ofString "_law_turn"), (Str.ofString "_law_beads"), (Str.ofString "_law_long"), (Str.ofString "_law_found"), (Str.ofString "_law_longer"), (Str.ofString "_law_row"), (Str.ofString "_law_bead")]
def b_rows_of : ISs :=
 (.cons (.unpack (.tp (.cons (.nm 3) (.cons (.nm 4) (.cons (.nm 5) .nil)))) (.tup (.cons (.ix (.slot 1) (.int 2)) (.cons (.ix (.slot 1) (.int 3)) (.cons (.lst (.cons (.str (Str.ofString "")) .nil)) .nil)))))
 (.cons (.ifs (.bop .Or (.cons (.cmp .Gt (.bin .Pow (.blt .len (.cons (.slot 3) .nil)) (.int 2)) (.int 9)) (.cons (.cmp .Gt (.slot 4) (.int 3)) .nil)))
 (.cons (.ret (.bin .Add (.comp (.callB 0 0 (.cons (.slot 3) (.cons (.slot 4) .nil))) (.nm 2) (.rng (.int 38)) .nil) (.lst (.cons (.bin .Mult (.ix (.slot 3) (.int 0)) (.slot 4)) (.cons (.bin .Mult (.ix (.slot 3) (.neg (.int 1))) (.slot 4)) .nil)))))
 .nil)
 .nil)
 (.cons (.loop (.nm 2) (.rng (.slot 4))
 (.cons (.set 6 (.lst .nil))
 (.cons (.loop (.nm 7) (.val (.slot 5))
 (.cons (.set 6 (.bin .Add (.slot 6) (.comp (.bin .Add (.slot 7) (.slot 8)) (.nm 8) (.val (.slot 3)) .nil)))
 .nil))
 (.cons (.freeze 6)
 (.cons (.set 5 (.slot 6))
 .nil)))))
 (.cons (.ret (.slot 5))
 .nil))))
def n_more_ends : List Str := [(Str.ofString "_law_box_here"), (Str.ofString "_law_game"), (Str.ofString "_law_beads"), (Str.ofString "_law_some"), (Str.ofString "_law_mine"), (Str.ofString "_law_one"), (Str.ofString "_law_row")]
def b_more_ends : ISs :=
 (.cons (.set 2 (.ix (.slot 1) (.int 2)))
 (.cons (.set 3 (.lst (.cons (.tup (.cons (.int 2) (.cons (.ix (.slot 2) (.int 0)) (.cons (.int 9) .nil)))) (.cons (.tup (.cons (.int 2) (.cons (.ix (.slot 2) (.neg (.int 1))) (.cons (.int 9) .nil)))) (.cons (.tup (.cons (.int 0) (.cons (.ix (.slot 2) (.int 1)) (.cons (.neg (.int 9)) .nil)))) (.cons (.tup (.cons (.int 1) (.cons (.ix (.slot 2) (.int 0)) (.cons (.neg (.int 9)) .nil)))) (.cons (.tup (.cons (.int 2) (.cons (.ix (.slot 2) (.int 1)) (.cons (.int 4) .nil)))) .nil)))))))
 (.cons (.append 3 (.tup (.cons (.int 0) (.cons (.ix (.slot 2) (.int 0)) (.cons (.int 1) .nil)))))
 (.cons (.set 4 (.sl (.blt .list (.cons (.ix (.slot 1) (.int 5)) .nil)) .nil (.cons (.int 2) .nil)))
 (.cons (.freeze 3)
 (.cons (.loop (.nm 5) (.val (.slot 3))
 (.cons (.ifs (.bop .And (.cons (.cmp .Eq (.callB 0 0 (.cons (.int 3) .nil)) (.int 0)) (.cons (.cmp .Lt (.blt .len (.cons (.slot 4) .nil)) (.int 6)) (.cons (.cmp .NotIn (.sl (.slot 5) .nil (.cons (.int 2) .nil)) (.comp (.sl (.slot 6) .nil (.cons (.int 2) .nil)) (.nm 6) (.own 4) .nil)) .nil))))
 (.cons (.append 4 (.slot 5))
 .nil)
 .nil)
 .nil))
 (.cons (.ret (.bin .Add (.bin .Add (.sl (.slot 1) .nil (.cons (.int 5) .nil)) (.tup (.cons (.blt .tuple (.cons (.blt .sorted (.cons (.slot 4) .nil)) .nil)) .nil))) (.sl (.slot 1) (.cons (.int 6) .nil) .nil)))
 .nil)))))))
def n_right : List Str := [(Str.ofString "_law_box_here"), (Str.ofString "_law_game"), (Str.ofString "_law_one"), (Str.ofString "_law_before"), (Str.ofString "_law_row"), (Str.ofString "_law_side"), (Str.ofString "_law_due"), (Str.ofString "_law_found")]
def b_right : ISs :=
 (.cons (.set 1 (.callB 0 0 (.cons (.str (Str.ofString "game")) (.cons (.int 6) .nil))))
 (.cons (.freeze 1)
 (.cons (.loop (.nm 2) (.val (.tup (.cons (.slot 1) (.cons (.callB 1 0 (.cons (.slot 1) .nil)) .nil))))
 (.cons (.set 3 (.blt .repr (.cons (.slot 2) .nil)))
 (.cons (.loop (.nm 4) (.val (.callB 2 0 (.cons (.slot 2) .nil)))
 (.cons (.loop (.nm 5) (.val (.tup (.cons (.int 0) (.cons (.int 1) .nil))))
 (.cons (.set 6 (.call 3 (.cons (.slot 2) (.cons (.tup (.cons (.slot 5) (.cons (.slot 4) .nil))) .nil))))
 (.cons (.freeze 6)
 (.cons (.set 7 (.lst (.cons (.call 4 (.cons (.slot 2) (.cons (.tup (.cons (.slot 5) (.cons (.slot 4) .nil))) .nil))) (.cons (.call 4 (.cons (.call 5 (.cons (.slot 2) .nil)) (.cons (.lst (.cons (.slot 5) (.cons (.slot 4) .nil))) .nil))) (.cons (.call 4 (.cons (.slot 2) (.cons (.tup (.cons (.slot 5) (.cons (.slot 4) .nil))) .nil))) .nil)))))
 (.cons (.freeze 7)
 (.cons (.ifs (.not (.call 6 (.cons (.slot 7) (.cons (.bin .Mult (.lst (.cons (.slot 6) .nil)) (.int 3)) .nil))))
 (.cons (.ret (.bl false))
 .nil)
 .nil)
 .nil))))))
 .nil))
 (.cons (.ifs (.cmp .NotEq (.blt .repr (.cons (.slot 2) .nil)) (.slot 3))
 (.cons (.ret (.bl false))
 .nil)
 .nil)
 .nil))))
 (.cons (.ret (.bl true))
 .nil))))
def n_law : List Str := [(Str.ofString "_law_script"), (Str.ofString "_law_cells"), (Str.ofString "_law_k"), (Str.ofString "_law_box_here"), (Str.ofString "_law_turn")]
def b_law : ISs :=
 (.cons (.set 1 (.call 0 (.cons (.slot 0) (.cons (.int 3) .nil))))
 (.cons (.freeze 1)
 (.cons (.loop (.nm 2) (.rng (.blt .len (.cons (.slot 1) .nil)))
 (.cons (.set 3 (.call 1 (.cons (.slot 1) (.cons (.slot 2) .nil))))
 (.cons (.freeze 3)
 (.cons (.ifs (.not (.blt .all (.cons (.comp (.callB 2 3 .nil) (.nm 4) (.rng (.int 4)) .nil) .nil)))
 (.cons (.ret (.bl false))
 .nil)
 .nil)
 .nil))))
 (.cons (.ret (.bl true))
 .nil))))
end Wq
set_option maxHeartbeats 4000000
namespace Wq
open PySem L2
local macro_rules | `(tactic| walk_at "e") => `(tactic| simp (disch := omega) only [↓ev_bind, ↓ev_bad, ↓toK, kOk, kBad, out_nx, out_rt, ss0, ss1, s_ret1, sr_cst, sr_int, sr_str, sr_bl, sr_non, sr_bin, sr_neg, sr_cmp, sr_cmp2, sr_bop, sr_not, sr_ite, sr_tup, sr_lst, sr_ix, sr_sl, sr_rev, sr_call, sr_callB, sr_callO, sr_blt, sr_join, sr_comp, sr_comp2, s_retI1, s_exp1, s_set1, s_unp1, s_par21, s_if1, s_app1, s_rev1, s_sto1, s_sto2, s_frz1, set_eq, ev_of, ev_none, ev_slot, ev_cst, ev_int, ev_str, ev_bl, ev_non, ev_bin, ev_neg, ev_cmp, ev_cmp2, ev_and, ev_or, ev_not, ev_ite, ev_tup, ev_lst, ev_ix, ev_sl, ev_rev, ev_call, ev_callB, ev_callO, ev_blt, ev_join, ev_comp, ev_comp2, ev_nil, ev_cons, ev_rng, ev_rng2, ev_val, ev_enum, ev_zip, ev_own,
  of_v, of_k, of_t, of_s, ofV_v, ofV_k, ofV_s, ofD_v, ofD_k, ofD_s, ofD_d, sl_v, sl_k, sl_d, slot_s, slot_t, of_d, ofV_d, datS_dat, datS_own, tr_bool, tr_list, tr_own, args_nil, args_cons, pr_slot, pair_of, pair_ofV, pair_ofD, pair_cmp, bin_eq, cmp_v_eq, cmp_k_eq, cmp_t_eq, cmp_s_eq, cmp_d_eq, cmpM_eq,
  own_eq, noo_eq, bi_add, bi_sub, bi_mul, bi_div, bi_mod, bi_addS, cs_eqi, cs_nei, cs_eqs, cs_nes, cs_lt, cs_le, cs_gt, cs_ge, cs_is, cs_isnt, ix_eq, tup_eq, lst_eq, ite_eq, blt1_eq, blt2_eq, b1_lenL, b1_lenO, b1_lenT, b1_lenS, b1_tupO, b1_tupL, b1_tupT, b1_lisO, b1_lisL, b1_lisT, b1_abs, b1_intB, b2_min, b2_max, b2_divmod, cb_eq, co_eq, call_eq, γ0, γs,
  and_one, and_two, or_one, or_two, andt_one, andt_two, ort_one, ort_two, not_eq, sl_eq, rev_eq, join_eq, comp_eq, step_eq, tests_no, tests_one,
  setT, setTs, IT.slots, ITs.slots, wipeE, rng_nat, List.all_cons, List.all_nil, List.cons_append, List.nil_append, List.append_nil, Option.toList_some, Option.toList_none,
  it_own, it_lst, it_tpl, wk_own', wk_lst, wk_tpl, wk_str, ixS, at0, at1, at2, at3, at4, at5, at6, ix0, ix1, ix2, bi_pow7, bi_pow18, dlt_t, dlt_f, dle_t, dle_f, deq_t, deq_f, nle_t, nlt_t, dnlt_t, dnle_t, Bool.not_true, Bool.not_false, Bool.and_true, Bool.true_and, Bool.and_self, Bool.and_false, List.contains_cons, List.contains_nil, beq_self_eq_true, Nat.reduceBEq, Nat.reduceEqDiff, Bool.or_false, Bool.or_self, Option.bind_some, Option.map_some, if_true, if_false, Bool.false_eq_true, ↓reduceIte,
  List.getElem?_cons_zero, List.getElem?_cons_succ, List.set_cons_zero, List.set_cons_succ, List.length_cons, List.length_nil])
def f_take := fnRX [] [] n_take 2 b_take
theorem take_big {Γ : Nat → FnE} {x y room : Int} {z : Nat} (hx0 : 0 < x) (h0 : 0 < room) (h1 : room ≤ 10000000) : semSs Γ (csOf []) [0] b_take [.own (.list [.int x, .int y, .int (z : Int)]), .dat (.int room), .no, .no, .no, .no] =
    .ok (.rt (.dat (.int (x % room))) [.own (.list [.int (x / room), .int y, .int (z : Int)]), .dat (.int room), .no, .no, .no, .dat (.int (x % room))]) := by
  unfold b_take
  walk_at "e"
theorem take_small {Γ : Nat → FnE} {x y room : Int} {z : Nat} (hx0 : ¬ 0 < x) (h0 : 0 < room) (h1 : room ≤ 10000000) (hy : 0 ≤ y) (hy2 : y < 2147483647) (hz : z < 2000000000) : ∃ (r : Int) (E : En), semSs Γ (csOf []) [0] b_take [.own (.list [.int x, .int y, .int (z : Int)]), .dat (.int room), .no, .no, .no, .no] =
    .ok (.rt (.dat (.int r)) (.own (.list [.int x, .int y, .int ((z + 1 : Nat) : Int)]) :: E)) ∧ 0 ≤ r ∧ r < room := by
  unfold b_take
  obtain ⟨w, hw⟩ : ∃ w : Int, w = (z : Int) + 1 := ⟨_, rfl⟩
  rw [show ((z + 1 : Nat) : Int) = w by omega]
  have hw0 : 0 < w ∧ w ≤ 2000000000 := by omega
  have key : ∀ (o : Int), 0 ≤ o → o < 2147483587 → ∃ t : Int, 0 ≤ t ∧ t < 2147483563 ∧ (o * (o % 30011 + 5) + w) % 2147483563 = t := fun o _ _ => ⟨_, Int.emod_nonneg _ (by decide), Int.emod_lt_of_pos _ (by decide), rfl⟩
  have key2 : ∀ (t : Int), 0 ≤ t → t < 2147483563 → ∃ q : Int, 0 ≤ q ∧ q < 62390273 ∧ t * (t % 1013 + 3) % 998244353 / 16 = q := fun t h1 h2 => ⟨_, Int.ediv_nonneg (Int.emod_nonneg _ (by decide)) (by decide), by
    have := Int.emod_lt_of_pos (t * (t % 1013 + 3)) (show (0 : Int) < 998244353 by decide)
    omega, rfl⟩
  obtain ⟨o, ho⟩ : ∃ o : Int, (y + 39373 * w) * (69621 + w * w) % 2147483587 = o := ⟨_, rfl⟩
  have ho1 : 0 ≤ o := by rw [← ho]; exact Int.emod_nonneg _ (by decide)
  have ho2 : o < 2147483587 := by rw [← ho]; exact Int.emod_lt_of_pos _ (by decide)
  obtain ⟨t, ht1, ht2, ht⟩ := key o ho1 ho2
  obtain ⟨q, hq1, hq2, hq⟩ := key2 t ht1 ht2
  refine ⟨q % room, [.dat (.int room), .dat (.int (69621 + w * w)), .dat (.int o), .dat (.int t), .no], ?_, Int.emod_nonneg _ (by omega), Int.emod_lt_of_pos _ h0⟩
  refine seq_nx (E1 := [.own (.list [.int x, .int y, .int (z : Int)]), .dat (.int room), .no, .no, .no, .no]) (by walk_at "e") ?_
  refine seq_nx (E1 := [.own (.list [.int x, .int y, .int (z : Int)]), .dat (.int room), .no, .no, .no, .no]) (by walk_at "e") ?_
  refine seq_nx (E1 := [.own (.list [.int x, .int y, .int w]), .dat (.int room), .no, .no, .no, .no]) (by rw [hw]; walk_at "e") ?_
  clear hw key key2
  refine seq_nx (E1 := [.own (.list [.int x, .int y, .int w]), .dat (.int room), .dat (.int (69621 + w * w)), .no, .no, .no]) (by walk_at "e") ?_
  refine seq_nx (E1 := [.own (.list [.int x, .int y, .int w]), .dat (.int room), .dat (.int (69621 + w * w)), .no, .no, .no]) (by walk_at "e") ?_
  refine seq_nx (E1 := [.own (.list [.int x, .int y, .int w]), .dat (.int room), .dat (.int (69621 + w * w)), .dat (.int o), .no, .no]) (by walk_at "e"; rw [ho]) ?_
  refine seq_nx (E1 := [.own (.list [.int x, .int y, .int w]), .dat (.int room), .dat (.int (69621 + w * w)), .dat (.int o), .no, .no]) (by walk_at "e") ?_
  clear ho
  refine seq_nx (E1 := [.own (.list [.int x, .int y, .int w]), .dat (.int room), .dat (.int (69621 + w * w)), .dat (.int o), .dat (.int t), .no]) (by walk_at "e"; rw [ht]) ?_
  refine seq_nx (E1 := [.own (.list [.int x, .int y, .int w]), .dat (.int room), .dat (.int (69621 + w * w)), .dat (.int o), .dat (.int t), .no]) (by walk_at "e") ?_
  clear ht
  exact seq_rt (by walk_at "e"; rw [hq])
theorem take_ok {n m : Nat} {b : D} {room : Int} (hb : Bx n b) (hn : n < 1000000000) (h0 : 0 < room) (h1 : room ≤ 10000000) : ∃ (r : Nat) (b' : D), f_take (m + 1) b [.int room] = .ok (.dat (.int (r : Int)), b') ∧ (r : Int) < room ∧ Bx (n + 1) b' := by
  obtain ⟨x, y, z, rfl, hx, hy, hy2, hz⟩ := hb
  by_cases hx0 : 0 < x
  · refine ⟨(x % room).toNat, .list [.int (x / room), .int y, .int (z : Int)], ?_, ?_, x / room, y, z, rfl, Int.ediv_nonneg hx (by omega), hy, hy2, by omega⟩
    · have hr : 0 ≤ x % room := Int.emod_nonneg _ (by omega)
      rw [Int.toNat_of_nonneg hr]
      have h := take_big (Γ := Γof [.bx (f_take m)]) (y := y) (z := z) hx0 h0 h1
      exact fnX_ok (E := _) (N := n_take) (n := 2) (ds := [.int room]) rfl h rfl
    · have hr : 0 ≤ x % room := Int.emod_nonneg _ (by omega)
      rw [Int.toNat_of_nonneg hr]
      exact Int.emod_lt_of_pos _ h0
  · obtain ⟨r, E, h2, h3, h4⟩ := take_small (Γ := Γof [.bx (f_take m)]) hx0 h0 h1 hy hy2 (show z < 2000000000 by omega)
    refine ⟨r.toNat, .list [.int x, .int y, .int ((z + 1 : Nat) : Int)], ?_, by omega, x, y, z + 1, rfl, hx, hy, hy2, by omega⟩
    rw [Int.toNat_of_nonneg h3]
    exact fnX_ok (E := _) (N := n_take) (n := 2) (ds := [.int room]) rfl h2 rfl
end Wq
set_option maxHeartbeats 4000000
namespace Wq
open PySem L2
local macro_rules | `(tactic| walk_at "e") => `(tactic| simp (disch := omega) only [↓ev_bind, ↓ev_bad, ↓toK, kOk, kBad, out_nx, out_rt, ss0, ss1, s_ret1, sr_cst, sr_int, sr_str, sr_bl, sr_non, sr_bin, sr_neg, sr_cmp, sr_cmp2, sr_bop, sr_not, sr_ite, sr_tup, sr_lst, sr_ix, sr_sl, sr_rev, sr_call, sr_callB, sr_callO, sr_blt, sr_join, sr_comp, sr_comp2, s_retI1, s_exp1, s_set1, s_unp1, s_par21, s_if1, s_app1, s_rev1, s_sto1, s_sto2, s_frz1, set_eq, ev_of, ev_none, ev_slot, ev_cst, ev_int, ev_str, ev_bl, ev_non, ev_bin, ev_neg, ev_cmp, ev_cmp2, ev_and, ev_or, ev_not, ev_ite, ev_tup, ev_lst, ev_ix, ev_sl, ev_rev, ev_call, ev_callB, ev_callO, ev_blt, ev_join, ev_comp, ev_comp2, ev_nil, ev_cons, ev_rng, ev_rng2, ev_val, ev_enum, ev_zip, ev_own,
  of_v, of_k, of_t, of_s, ofV_v, ofV_k, ofV_s, ofD_v, ofD_k, ofD_s, ofD_d, sl_v, sl_k, sl_d, slot_s, slot_t, of_d, ofV_d, datS_dat, datS_own, tr_bool, tr_list, tr_own, args_nil, args_cons, pr_slot, pair_of, pair_ofV, pair_ofD, pair_cmp, bin_eq, cmp_v_eq, cmp_k_eq, cmp_t_eq, cmp_s_eq, cmp_d_eq, cmpM_eq,
  own_eq, noo_eq, bi_add, bi_sub, bi_mul, bi_div, bi_mod, bi_addS, cs_eqi, cs_nei, cs_eqs, cs_nes, cs_lt, cs_le, cs_gt, cs_ge, cs_is, cs_isnt, ix_eq, tup_eq, lst_eq, ite_eq, blt1_eq, blt2_eq, b1_lenL, b1_lenO, b1_lenT, b1_lenS, b1_tupO, b1_tupL, b1_tupT, b1_lisO, b1_lisL, b1_lisT, b1_abs, b1_intB, b2_min, b2_max, b2_divmod, cb_eq, co_eq, call_eq, γ0, γs,
  and_one, and_two, or_one, or_two, andt_one, andt_two, ort_one, ort_two, not_eq, sl_eq, rev_eq, join_eq, comp_eq, step_eq, tests_no, tests_one,
  setT, setTs, IT.slots, ITs.slots, wipeE, rng_nat, List.all_cons, List.all_nil, List.cons_append, List.nil_append, List.append_nil, Option.toList_some, Option.toList_none,
  it_own, it_lst, it_tpl, wk_own', wk_lst, wk_tpl, wk_str, ixS, at0, at1, at2, at3, at4, at5, at6, ix0, ix1, ix2, bi_pow7, bi_pow18, dlt_t, dlt_f, dle_t, dle_f, deq_t, deq_f, nle_t, nlt_t, dnlt_t, dnle_t, Bool.not_true, Bool.not_false, Bool.and_true, Bool.true_and, Bool.and_self, Bool.and_false, List.contains_cons, List.contains_nil, beq_self_eq_true, Nat.reduceBEq, Nat.reduceEqDiff, Bool.or_false, Bool.or_self, Option.bind_some, Option.map_some, if_true, if_false, Bool.false_eq_true, ↓reduceIte,
  List.getElem?_cons_zero, List.getElem?_cons_succ, List.set_cons_zero, List.set_cons_succ, List.length_cons, List.length_nil])
def f_of := fnX [.bx (f_take 1)] [] n_of 2 b_of
theorem of_list {n : Nat} {b : D} {ds : List D} (hb : Bx n b) (hn : n < 1000000000) (h0 : ds ≠ []) (h1 : ds.length ≤ 1000000) : ∃ (d : D) (b' : D), f_of b [.list ds] = .ok (.dat d, b') ∧ d ∈ ds ∧ Bx (n + 1) b' := by
  have hl : 0 < ds.length := List.length_pos_iff.mpr h0
  obtain ⟨r, b', h2, h3, h4⟩ := take_ok (m := 0) (room := (ds.length : Int)) hb hn (by omega) (by omega)
  have hr : r < ds.length := by omega
  have hd : ds[r]? = some ds[r] := List.getElem?_eq_getElem hr
  refine ⟨ds[r], b', ?_, List.getElem_mem hr, h4⟩
  refine fnX_ok (E := [.own b', .dat (.list ds)]) (N := n_of) (n := 2) (ds := [.list ds]) rfl ?_ rfl
  show semSs _ _ _ b_of [.own b, .dat (.list ds)] = _
  unfold b_of
  walk_at "e"
  rw [h2]
  walk_at "e"
  rw [atN hd]
  walk_at "e"
theorem of_str {n : Nat} {b : D} {z : Str} (hb : Bx n b) (hn : n < 1000000000) (h0 : 0 < z.length) (h1 : z.length ≤ 100000) : ∃ (c : Nat) (b' : D), f_of b [.str z] = .ok (.dat (.str (one c)), b') ∧ c ∈ z.cps.toList ∧ Bx (n + 1) b' := by
  obtain ⟨r, b', h2, h3, h4⟩ := take_ok (m := 0) (room := (z.length : Int)) hb hn (by omega) (by omega)
  have hr : r < z.cps.toList.length := by rw [Array.length_toList]; show r < z.length; omega
  have hd : z.cps.toList[r]? = some z.cps.toList[r] := List.getElem?_eq_getElem hr
  refine ⟨z.cps.toList[r], b', ?_, List.getElem_mem hr, h4⟩
  refine fnX_ok (E := [.own b', .dat (.str z)]) (N := n_of) (n := 2) (ds := [.str z]) rfl ?_ rfl
  show semSs _ _ _ b_of [.own b, .dat (.str z)] = _
  unfold b_of
  walk_at "e"
  rw [h2]
  walk_at "e"
  rw [atN hd]
  walk_at "e"
  rfl
end Wq
set_option maxHeartbeats 4000000
namespace Wq
open PySem L2
/-! ### texts of beads -/
def Tx (beads : Str) (m : Nat) (z : Str) : Prop := z.length = m ∧ ∀ c ∈ z.cps.toList, c ∈ beads.cps.toList
theorem len_cps (z : Str) : z.cps.toList.length = z.length := Array.length_toList
theorem strs_one : ∀ cs : List Nat, strsO (cs.map fun c => (.str (one c) : D)) = some (cs.map one)
  | [] => rfl
  | c :: cs => by rw [List.map_cons, strsO, strs_one cs]; rfl
theorem sum_one : ∀ cs : List Nat, ((cs.map one).map (·.length)).sum = cs.length
  | [] => rfl
  | c :: cs => by
    rw [List.map_cons, List.map_cons, List.sum_cons, sum_one cs, List.length_cons]
    show 1 + cs.length = cs.length + 1
    omega
theorem empty_len : (Str.ofString "").length = 0 := rfl
end Wq
set_option maxHeartbeats 4000000
namespace Wq
open PySem L2
local macro_rules | `(tactic| walk_at "e") => `(tactic| simp (disch := omega) only [↓ev_bind, ↓ev_bad, ↓toK, kOk, kBad, out_nx, out_rt, ss0, ss1, s_ret1, sr_cst, sr_int, sr_str, sr_bl, sr_non, sr_bin, sr_neg, sr_cmp, sr_cmp2, sr_bop, sr_not, sr_ite, sr_tup, sr_lst, sr_ix, sr_sl, sr_rev, sr_call, sr_callB, sr_callO, sr_blt, sr_join, sr_comp, sr_comp2, s_retI1, s_exp1, s_set1, s_unp1, s_par21, s_if1, s_app1, s_rev1, s_sto1, s_sto2, s_frz1, set_eq, ev_of, ev_none, ev_slot, ev_cst, ev_int, ev_str, ev_bl, ev_non, ev_bin, ev_neg, ev_cmp, ev_cmp2, ev_and, ev_or, ev_not, ev_ite, ev_tup, ev_lst, ev_ix, ev_sl, ev_rev, ev_call, ev_callB, ev_callO, ev_blt, ev_join, ev_comp, ev_comp2, ev_nil, ev_cons, ev_rng, ev_rng2, ev_val, ev_enum, ev_zip, ev_own,
  of_v, of_k, of_t, of_s, ofV_v, ofV_k, ofV_s, ofD_v, ofD_k, ofD_s, ofD_d, sl_v, sl_k, sl_d, slot_s, slot_t, of_d, ofV_d, datS_dat, datS_own, tr_bool, tr_list, tr_own, args_nil, args_cons, pr_slot, pair_of, pair_ofV, pair_ofD, pair_cmp, bin_eq, cmp_v_eq, cmp_k_eq, cmp_t_eq, cmp_s_eq, cmp_d_eq, cmpM_eq,
  own_eq, noo_eq, bi_add, bi_sub, bi_mul, bi_div, bi_mod, bi_addS, cs_eqi, cs_nei, cs_eqs, cs_nes, cs_lt, cs_le, cs_gt, cs_ge, cs_is, cs_isnt, ix_eq, tup_eq, lst_eq, ite_eq, blt1_eq, blt2_eq, b1_lenL, b1_lenO, b1_lenT, b1_lenS, b1_tupO, b1_tupL, b1_tupT, b1_lisO, b1_lisL, b1_lisT, b1_abs, b1_intB, b2_min, b2_max, b2_divmod, cb_eq, co_eq, call_eq, γ0, γs,
  and_one, and_two, or_one, or_two, andt_one, andt_two, ort_one, ort_two, not_eq, sl_eq, rev_eq, join_eq, comp_eq, step_eq, tests_no, tests_one,
  setT, setTs, IT.slots, ITs.slots, wipeE, rng_nat, List.all_cons, List.all_nil, List.cons_append, List.nil_append, List.append_nil, Option.toList_some, Option.toList_none,
  it_own, it_lst, it_tpl, wk_own', wk_lst, wk_tpl, wk_str, ixS, at0, at1, at2, at3, at4, at5, at6, ix0, ix1, ix2, bi_pow7, bi_pow18, dlt_t, dlt_f, dle_t, dle_f, deq_t, deq_f, nle_t, nlt_t, dnlt_t, dnle_t, Bool.not_true, Bool.not_false, Bool.and_true, Bool.true_and, Bool.and_self, Bool.and_false, List.contains_cons, List.contains_nil, beq_self_eq_true, Nat.reduceBEq, Nat.reduceEqDiff, Bool.or_false, Bool.or_self, Option.bind_some, Option.map_some, if_true, if_false, Bool.false_eq_true, ↓reduceIte,
  List.getElem?_cons_zero, List.getElem?_cons_succ, List.set_cons_zero, List.set_cons_succ, List.length_cons, List.length_nil])
def f_text := fnX [.bx f_of] [] n_text 3 b_text
theorem text_ok {n m : Nat} {b : D} {beads : Str} (hb : Bx n b) (hn : n + m < 1000000000) (h0 : 0 < beads.length) (h1 : beads.length ≤ 100000) (hm : m ≤ 1000) : ∃ (z : Str) (b' : D), f_text b [.str beads, .int (m : Int)] = .ok (.dat (.str z), b') ∧ Tx beads m z ∧ Bx (n + m) b' := by
  obtain ⟨acc', E', h2, cs, b', rfl, h4, h5, rfl, h6⟩ := loopC_inv (step := stepC (.nm 3) [] (Mn.of (callBM (.bx f_of) 0 [slotM 1]))) (vs := [3]) (fun t acc E => ∃ (cs : List Nat) (b' : D), acc = cs.map (fun c => (.str (one c) : D)) ∧ cs.length = t ∧ (∀ c ∈ cs, c ∈ beads.cps.toList) ∧ E = [.own b', .dat (.str beads), .dat (.int (m : Int)), .no] ∧ Bx (n + t) b')
    (ds := intsD 0 m) (t := 0) (acc := []) (E := [.own b, .dat (.str beads), .dat (.int (m : Int)), .no]) ⟨[], b, rfl, rfl, (fun _ h => by cases h), rfl, hb⟩ (by
      rintro t d acc E hd ⟨cs, b1, rfl, g1, g2, rfl, g3⟩
      obtain ⟨ht, rfl⟩ := intsD_get hd
      obtain ⟨c, b2, g4, g5, g6⟩ := of_str g3 (by omega) h0 h1
      refine ⟨by rw [List.length_map]; omega, some (.str (one c)), [.own b2, .dat (.str beads), .dat (.int (m : Int)), .dat (.int (0 + (t : Int)))], ?_, rfl, cs ++ [c], b2, by simp, by simp; omega, ?_, rfl, g6⟩
      · walk_at "e"
        rw [g4]
        walk_at "e"
      · intro c' hc'
        rcases List.mem_append.mp hc' with h | h
        · exact g2 c' h
        · rw [List.mem_singleton.mp h]; exact g5)
  rw [intsD_len] at h4 h6
  have hl : cs.length = m := by omega
  refine ⟨⟨cs.toArray⟩, b', ?_, ⟨by show cs.toArray.size = m; simpa using hl, by simpa using h5⟩, by simpa using h6⟩
  refine fnX_ok (E := [.own b', .dat (.str beads), .dat (.int (m : Int)), .no]) (N := n_text) (n := 3) (ds := [.str beads, .int (m : Int)]) rfl ?_ rfl
  show semSs _ _ _ b_text [.own b, .dat (.str beads), .dat (.int (m : Int)), .no] = _
  unfold b_text
  walk_at "e"
  rw [h2]
  walk_at "e"
  rw [strs_one]
  walk_at "e"
  rw [if_pos (by rw [sum_one, empty_len, List.length_map]; omega), join_one]
  walk_at "e"
end Wq
set_option maxHeartbeats 4000000
namespace Wq
open PySem L2
abbrev nStands : List Str := ["shape", "row", "text", "place", "at"]
def standsM (line : Bool) (row text : Str) (place : Nat) : Bool :=
  if line then decide (cutS row (some (place : Int)) (some ((place : Int) + (text.length : Int))) = text)
  else (List.range text.length).all fun i => decide (row.cps.toList[(place + i) % row.length]? = text.cps.toList[i]?)
theorem one_eq {c d : Nat} : decide ((⟨#[c]⟩ : Str) = ⟨#[d]⟩) = decide (c = d) := by
  by_cases h : c = d
  · subst h; simp
  · have : ¬ (⟨#[c]⟩ : Str) = ⟨#[d]⟩ := fun e => h (by injection e with e; simpa using e)
    rw [decide_eq_false h, decide_eq_false this]
theorem at_lt {z : Str} {i : Nat} (h : i < z.length) : ∃ c, z.cps.toList[i]? = some c := by
  have h' : i < z.cps.toList.length := by rw [Array.length_toList]; exact h
  exact ⟨_, List.getElem?_eq_getElem h'⟩
def lineS : Str := Str.ofString "line"
inductive ItemsD : D → List D → Prop where
  | lst {ds} : ItemsD (.list ds) ds
  | tup {ds} : ItemsD (.tuple ds) ds
  | str {z : Str} (h : z.length ≤ 100000) : ItemsD (.str z) (z.cps.toList.map fun c => .str (one c))
theorem ItemsD.len {d : D} {ds : List D} (h : ItemsD d ds) : LenD d ds.length := by
  cases h with
  | lst => exact .lst
  | tup => exact .tup
  | str h =>
    rw [List.length_map, Array.length_toList]
    exact .str h
theorem ItemsD.item {d : D} {ds : List D} (h : ItemsD d ds) {r : Nat} (hr : r < ds.length) : ItemD d (r : Int) ds[r] := by
  cases h with
  | lst => exact .lst (atI_nat (List.getElem?_eq_getElem hr))
  | tup => exact .tup (atI_nat (List.getElem?_eq_getElem hr))
  | str h =>
    rw [List.getElem_map]
    refine .str h (atI_nat (List.getElem?_eq_getElem ?_))
    simpa using hr
theorem len_list (z : Str) : z.cps.toList.length = z.length := Array.length_toList
theorem cut_list (z : Str) (lo hi : Option Int) : (cutS z lo hi).cps.toList = (z.cps.toList.drop (HT.sIx z.length 0 lo)).take (HT.sIx z.length z.length hi - HT.sIx z.length 0 lo) := by
  unfold cutS
  simp
theorem cut_len (z : Str) (lo hi : Option Int) : (cutS z lo hi).length = min (HT.sIx z.length z.length hi - HT.sIx z.length 0 lo) (z.length - HT.sIx z.length 0 lo) := by
  rw [← len_list, cut_list, List.length_take, List.length_drop, len_list]
theorem cut_mem {z : Str} {lo hi : Option Int} {c : Nat} (h : c ∈ (cutS z lo hi).cps.toList) : c ∈ z.cps.toList := by
  rw [cut_list] at h
  exact List.mem_of_mem_drop (List.mem_of_mem_take h)
theorem app_list (a b : Str) : (a ++ b).cps.toList = a.cps.toList ++ b.cps.toList := by
  show (a.cps ++ b.cps).toList = _
  exact Array.toList_append
theorem app_len (a b : Str) : (a ++ b).length = a.length + b.length := by rw [← len_list, app_list, List.length_append, len_list, len_list]
theorem rev_list (z : Str) : (revS z).cps.toList = z.cps.toList.reverse := by unfold revS; simp
theorem Tx.rev {beads z : Str} {m : Nat} (h : Tx beads m z) : Tx beads m (revS z) := by
  refine ⟨by rw [← len_list, rev_list, List.length_reverse, len_list]; exact h.1, fun c hc => h.2 c ?_⟩
  rw [rev_list] at hc
  simpa using hc
theorem Tx.rot {beads z : Str} {m : Nat} (h : Tx beads m z) : Tx beads m (cutS z (some 1) none ++ cutS z none (some 1)) := by
  refine ⟨?_, fun c hc => ?_⟩
  · rw [app_len, cut_len, cut_len]
    have e1 : HT.sIx z.length 0 (some 1) = min 1 z.length := HT.sIx_nat _ _ 1
    have e2 : HT.sIx z.length z.length (some 1) = min 1 z.length := HT.sIx_nat _ _ 1
    rw [e1, e2]
    show min (z.length - _) _ + min (_ - 0) (z.length - 0) = m
    have := h.1
    omega
  · rw [app_list] at hc
    rcases List.mem_append.mp hc with hc | hc <;> exact h.2 c (cut_mem hc)
def Bd (beads : Str) : Prop := beads ∈ [Str.ofString ".xo", Str.ofString ".x", Str.ofString "x.o", Str.ofString ".abz"]
theorem Bd.all {p : Str → Bool} (hp : ([Str.ofString ".xo", Str.ofString ".x", Str.ofString "x.o", Str.ofString ".abz"].all p) = true) {beads : Str} (h : Bd beads) : p beads = true := List.all_eq_true.mp hp _ h
theorem Bd.len {beads : Str} (h : Bd beads) : 2 ≤ beads.length ∧ beads.length ≤ 4 := of_decide_eq_true (h.all (p := fun b => decide (2 ≤ b.length ∧ b.length ≤ 4)) (by decide))
theorem Bd.small {beads : Str} (h : Bd beads) : ∀ c ∈ beads.cps.toList, c < 128 := of_decide_eq_true (h.all (p := fun b => decide (∀ c ∈ b.cps.toList, c < 128)) (by decide))
theorem strOk_of {z : Str} (h : ∀ c ∈ z.cps.toList, c < 128) : PyData.strOk z = true := by
  unfold PyData.strOk
  rw [Array.all_eq_true]
  intro i hi
  have := h z.cps[i] (by simp)
  exact decide_eq_true (by omega)
structure BdG (beads : Str) : Prop where
  len : 2 ≤ beads.length ∧ beads.length ≤ 4
  sgn : ∀ c ∈ beads.cps.toList, c = 46 ∨ 97 ≤ c ∧ c ≤ 122
  nodup : beads.cps.toList.Nodup
theorem BdG.small {beads : Str} (h : BdG beads) : ∀ c ∈ beads.cps.toList, c < 128 := fun c hc => by
  have := h.sgn c hc
  omega
theorem Bd.g {beads : Str} (h : Bd beads) : BdG beads := ⟨h.len, of_decide_eq_true (h.all (p := fun b => decide (∀ c ∈ b.cps.toList, c = 46 ∨ 97 ≤ c ∧ c ≤ 122)) (by decide)), of_decide_eq_true (h.all (p := fun b => decide b.cps.toList.Nodup) (by decide))⟩
theorem Tx.ok {beads z : Str} {m : Nat} (hb : BdG beads) (h : Tx beads m z) : PyData.strOk z = true := strOk_of fun c hc => hb.small c (h.2 c hc)
theorem canAll : ∀ {ds : List D}, (∀ d ∈ ds, d.canLay0 = true) → PyData.canLayAll0 ds = true
  | [], _ => rfl
  | d :: r, h => by
    show (d.canLay0 && PyData.canLayAll0 r) = true
    rw [h d (List.mem_cons_self ..), canAll fun x hx => h x (List.mem_cons_of_mem _ hx)]
    rfl
theorem depAll {n : Nat} : ∀ {ds : List D}, (∀ d ∈ ds, d.depth ≤ n) → PyData.depthAll ds ≤ n
  | [], _ => Nat.zero_le _
  | d :: r, h => by
    show max d.depth (PyData.depthAll r) ≤ n
    have h1 := h d (List.mem_cons_self ..)
    have h2 := depAll (n := n) fun x hx => h x (List.mem_cons_of_mem _ hx)
    omega
def Sd (n : Nat) (d : D) : Prop := d.canLay0 = true ∧ d.depth ≤ n
theorem Sd.int {n : Nat} (i : Int) : Sd n (.int i) := ⟨rfl, Nat.zero_le _⟩
theorem Sd.str {n : Nat} {z : Str} (h : PyData.strOk z = true) : Sd n (.str z) := ⟨h, Nat.zero_le _⟩
theorem Sd.lst {n : Nat} {ds : List D} (h : ∀ d ∈ ds, Sd n d) : Sd (n + 1) (.list ds) := ⟨canAll fun d hd => (h d hd).1, Nat.succ_le_succ (depAll fun d hd => (h d hd).2)⟩
theorem Sd.tup {n : Nat} {ds : List D} (h : ∀ d ∈ ds, Sd n d) : Sd (n + 1) (.tuple ds) := ⟨canAll fun d hd => (h d hd).1, Nat.succ_le_succ (depAll fun d hd => (h d hd).2)⟩
theorem Sd.shaped {n : Nat} {d : D} (h : Sd n d) (hn : n ≤ 64) : SeqAt.shaped d = true := by
  unfold SeqAt.shaped
  rw [h.1, Bool.true_and]
  exact decide_eq_true (Nat.le_trans h.2 hn)
theorem Sd.key {n : Nat} {ks : List Key} (h : ∀ x, Sum.inr x ∈ ks → PyData.strOk x = true) : Sd (n + 1) (tupK ks) := Sd.tup fun d hd => by
  obtain ⟨k, hk, rfl⟩ := List.mem_map.mp hd
  cases k with
  | inl i => exact Sd.int i
  | inr x => exact Sd.str (h x hk)
theorem eqvAll_keys : ∀ (a b : List Key), a.map isInt = b.map isInt → PyData.eqvAll (a.map kD) (b.map kD) = decide (a = b)
  | [], [], _ => rfl
  | [], _ :: _, h => nomatch h
  | _ :: _, [], h => nomatch h
  | x :: xs, y :: ys, h => by
    rw [List.map_cons, List.map_cons] at h
    injection h with h1 h2
    show (PyData.eqv (kD x) (kD y) && PyData.eqvAll (xs.map kD) (ys.map kD)) = _
    rw [eqvAll_keys xs ys h2]
    have e : PyData.eqv (kD x) (kD y) = decide (x = y) := by
      cases x with
      | inl i =>
        cases y with
        | inl j => simp only [kD, PyData.eqv]; by_cases z : i = j <;> simp [z]
        | inr j => cases h1
      | inr i =>
        cases y with
        | inl j => cases h1
        | inr j => simp only [kD, PyData.eqv]; by_cases z : i = j <;> simp [z]
    rw [e]
    by_cases z1 : x = y <;> by_cases z2 : xs = ys <;> simp [z1, z2]
theorem eqv_tupK {a b : List Key} (h : a.map isInt = b.map isInt) : PyData.eqv (tupK a) (tupK b) = decide (a = b) := eqvAll_keys a b h
theorem any_tupK {kss : List (List Key)} {a : List Key} (h : ∀ ks ∈ kss, ks.map isInt = a.map isInt) : ((kss.map tupK).any fun z => PyData.eqv z (tupK a)) = true ↔ a ∈ kss := by
  rw [List.any_map, List.any_eq_true]
  constructor
  · rintro ⟨k, hk, e⟩
    have e' : PyData.eqv (tupK k) (tupK a) = true := e
    rw [eqv_tupK (h k hk)] at e'
    rw [← of_decide_eq_true e']
    exact hk
  · intro hk
    refine ⟨a, hk, ?_⟩
    show PyData.eqv (tupK a) (tupK a) = true
    rw [eqv_tupK rfl]
    exact decide_eq_true rfl
abbrev nRules : List Str := ["_law_box_here", "_law_beads", "_law_long", "_law_found", "_law_turn", "_law_old", "_law_new"]
def Nw (s : Sl) : Prop := ∀ d, s ≠ Sl.own d
theorem Nw.no : Nw .no := fun _ z => by cases z
theorem Nw.dat {d : D} : Nw (.dat d) := fun _ z => by cases z
def RuleK (beads : Str) (long : Nat) (ks : List Key) : Prop := ∃ (a b : Str) (m : Nat), ks = [.inr a, .inr b] ∧ 1 ≤ m ∧ m ≤ 3 ∧ m ≤ long ∧ Tx beads m a ∧ Tx beads m b ∧ a ≠ b
structure RulesK (beads : Str) (long : Nat) (kss : List (List Key)) : Prop where
  few : kss.length ≤ 6
  each : ∀ ks ∈ kss, RuleK beads long ks
  nodup : kss.Nodup
  up : kss.Pairwise (fun x y => lexK y x = false)
theorem RuleK.sig {beads : Str} {long : Nat} {ks : List Key} (h : RuleK beads long ks) : ks.map isInt = false :: [false] := by
  obtain ⟨a, b, m, rfl, _⟩ := h
  rfl
theorem RuleK.sd {beads : Str} {long n : Nat} {ks : List Key} (hb : BdG beads) (h : RuleK beads long ks) : Sd (n + 1) (tupK ks) := Sd.key fun x hx => by
  obtain ⟨a, b, m, rfl, _, _, _, h1, h2, _⟩ := h
  simp at hx
  rcases hx with rfl | rfl
  · exact h1.ok hb
  · exact h2.ok hb
abbrev nEnds : List Str := ["_law_box_here", "_law_beads", "_law_long", "_law_found", "_law_turn", "_law_worth", "_law_pattern", "_law_one", "_law_row"]
def Wr (v : Int) : Prop := -9 ≤ v ∧ v ≤ 9 ∧ v ≠ 0
def EndK (beads : Str) (long : Nat) (ks : List Key) : Prop := ∃ (side m : Nat) (pat : Str) (worth : Int), ks = [.inl (side : Int), .inr pat, .inl worth] ∧ side < 3 ∧ 1 ≤ m ∧ m ≤ long ∧ Tx beads m pat ∧ Wr worth
structure EndsK (beads : Str) (long : Nat) (kss : List (List Key)) : Prop where
  few : kss.length ≤ 6
  each : ∀ ks ∈ kss, EndK beads long ks
  nodup : (kss.map (List.take 2)).Nodup
  up : kss.Pairwise (fun x y => lexK y x = false)
theorem EndK.sig {beads : Str} {long : Nat} {ks : List Key} (h : EndK beads long ks) : ks.map isInt = true :: [false, true] := by
  obtain ⟨s, m, p, w, rfl, _⟩ := h
  rfl
theorem EndK.sd {beads : Str} {long n : Nat} {ks : List Key} (hb : BdG beads) (h : EndK beads long ks) : Sd (n + 1) (tupK ks) := Sd.key fun x hx => by
  obtain ⟨s, m, p, w, rfl, _, _, _, h1, _⟩ := h
  simp at hx
  subst hx
  exact h1.ok hb
theorem EndK.sd2 {beads : Str} {long n : Nat} {ks : List Key} (hb : BdG beads) (h : EndK beads long ks) : Sd (n + 1) (tupK (ks.take 2)) := Sd.key fun x hx => by
  obtain ⟨s, m, p, w, rfl, _, _, _, h1, _⟩ := h
  simp at hx
  subst hx
  exact h1.ok hb
abbrev nAt : List Str := ["_law_game", "_law_row", "_law_place", "_law_size"]
abbrev nSpots : List Str := ["_law_game", "_law_row", "_law_text_here", "_law_place"]
abbrev nPlaces : List Str := ["game", "row", "text", "place"]
theorem ItemsD.at {d : D} {ds : List D} (h : ItemsD d ds) {r : Nat} {x : D} (e : ds[r]? = some x) : ItemD d (r : Int) x := by
  obtain ⟨hr, rfl⟩ := List.getElem?_eq_some_iff.mp e
  exact h.item hr
def ringS : Str := Str.ofString "ring"
def atM (ring : Bool) (row : Str) (p s : Nat) : Str := cutS (if ring then row ++ row else row) (some (p : Int)) (some ((p : Int) + (s : Int)))
def spotsM (ring : Bool) (long : Nat) (row text : Str) : List Nat := (List.range long).filter fun p => decide (atM ring row p text.length = text)
def placesM (line : Bool) (row text : Str) : List Nat := (List.range row.length).filter fun p => standsM line row text p
def natD (i : Nat) : D := .int (i : Int)
abbrev nSame : List Str := ["_law_found", "_law_due", "_law_one", "_law_other"]
theorem zip_all : ∀ (xs ys : List Nat), xs.length = ys.length → (((xs.zip ys).map fun p => decide ((p.1 : Int) = (p.2 : Int))).all id) = decide (xs = ys)
  | [], [], _ => rfl
  | [], _ :: _, h => nomatch h
  | _ :: _, [], h => nomatch h
  | x :: r, y :: r', h => by
    have := zip_all r r' (by simpa using h)
    rw [List.zip_cons_cons, List.map_cons, List.all_cons, this]
    have e : id (decide ((x : Int) = (y : Int))) = decide (x = y) := by
      apply Bool.eq_iff_iff.mpr
      simp only [id, decide_eq_true_iff]
      omega
    show (id (decide ((x : Int) = (y : Int))) && _) = _
    rw [e]
    by_cases z1 : x = y <;> by_cases z2 : r = r' <;> simp [z1, z2]
theorem line_eq (row text : Str) (p : Nat) : standsM true row text p = decide (atM false row p text.length = text) := rfl
theorem atM_ring_list {row : Str} {p s : Nat} (hs : s ≤ row.length) (hp : p < row.length) : (atM true row p s).cps.toList = (List.range s).map fun i => (row.cps.toList[(p + i) % row.length]?).getD 0 := by
  have hl : (row ++ row).length = row.length + row.length := app_len _ _
  unfold atM
  rw [if_pos rfl, cut_list]
  have e1 : HT.sIx (row ++ row).length 0 (some (p : Int)) = p := by rw [HT.sIx_nat]; omega
  have e2 : HT.sIx (row ++ row).length (row ++ row).length (some ((p : Int) + (s : Int))) = p + s := by
    rw [← Int.natCast_add, HT.sIx_nat]; omega
  rw [e1, e2, app_list]
  apply List.ext_getElem?
  intro i
  by_cases hi : i < s
  · rw [List.getElem?_take, if_pos (by omega), List.getElem?_drop, List.getElem?_map, List.getElem?_range hi]
    have hrl : row.cps.toList.length = row.length := len_list row
    have hlt : (p + i) % row.length < row.cps.toList.length := by rw [hrl]; exact Nat.mod_lt _ (by omega)
    show _ = some ((row.cps.toList[(p + i) % row.length]?).getD 0)
    rw [List.getElem?_eq_getElem hlt]
    by_cases h2 : p + i < row.length
    · rw [List.getElem?_append_left (by omega), List.getElem?_eq_getElem (by omega)]
      simp only [Nat.mod_eq_of_lt h2, Option.getD_some]
    · have h3 : (p + i) % row.length = p + i - row.length := by
        rw [Nat.mod_eq_sub_mod (by omega), Nat.mod_eq_of_lt (by omega)]
      rw [List.getElem?_append_right (by omega), List.getElem?_eq_getElem (by omega)]
      simp only [h3, hrl, Option.getD_some]
  · rw [List.getElem?_take, if_neg (by omega), List.getElem?_map, List.getElem?_eq_none (by rw [List.length_range]; omega)]
    rfl
theorem ring_eq {row text : Str} {p : Nat} (ht : text.length ≤ row.length) (hp : p < row.length) : standsM false row text p = decide (atM true row p text.length = text) := by
  have hrl : row.cps.toList.length = row.length := len_list row
  have htl : text.cps.toList.length = text.length := len_list text
  unfold standsM
  rw [if_neg Bool.false_ne_true]
  apply Bool.eq_iff_iff.mpr
  rw [List.all_eq_true, decide_eq_true_iff]
  constructor
  · intro h
    apply str_ext
    rw [atM_ring_list ht hp]
    apply List.ext_getElem?
    intro i
    rw [List.getElem?_map]
    by_cases hi : i < text.length
    · rw [List.getElem?_range hi]
      have := of_decide_eq_true (h i (List.mem_range.mpr hi))
      show some ((row.cps.toList[(p + i) % row.length]?).getD 0) = _
      rw [this, List.getElem?_eq_getElem (by omega)]
      rfl
    · rw [List.getElem?_eq_none (by rw [List.length_range]; omega), List.getElem?_eq_none (by omega)]
      rfl
  · intro h i hi
    have hi' := List.mem_range.mp hi
    apply decide_eq_true
    have e := atM_ring_list ht hp
    rw [h] at e
    rw [e, List.getElem?_map, List.getElem?_range hi']
    have hlt : (p + i) % row.length < row.cps.toList.length := by rw [hrl]; exact Nat.mod_lt _ (by omega)
    show _ = some ((row.cps.toList[(p + i) % row.length]?).getD 0)
    rw [List.getElem?_eq_getElem hlt]
    rfl
theorem places_spots {sh row text : Str} (hs : sh = lineS ∨ sh = ringS) (ht : text.length ≤ row.length) : placesM (decide (sh = lineS)) row text = spotsM (decide (sh = ringS)) row.length row text := by
  unfold placesM spotsM
  apply List.filter_congr
  intro p hp
  have hp' := List.mem_range.mp hp
  have hne : ¬ lineS = ringS := by decide
  have hne' : ¬ ringS = lineS := by decide
  rcases hs with rfl | rfl
  · have e1 : decide (lineS = lineS) = true := decide_eq_true rfl
    have e2 : decide (lineS = ringS) = false := decide_eq_false hne
    simp only [e1, e2]
    exact line_eq _ _ _
  · have e1 : decide (ringS = ringS) = true := decide_eq_true rfl
    have e2 : decide (ringS = lineS) = false := decide_eq_false hne'
    simp only [e1, e2]
    exact ring_eq ht hp'
abbrev nLists : List Str := ["_law_thing", "_law_one"]
mutual
def listsM : D → D
  | .list ds => .list (listsAll ds)
  | .tuple ds => .list (listsAll ds)
  | .none => .none
  | .bool b => .bool b
  | .int i => .int i
  | .str z => .str z
  | .dict kvs => .dict kvs
def listsAll : List D → List D
  | [] => []
  | d :: r => listsM d :: listsAll r
end
theorem listsAll_map : ∀ ds : List D, listsAll ds = ds.map listsM
  | [] => rfl
  | d :: r => by rw [List.map_cons, ← listsAll_map r]; rfl
inductive Pl : Nat → D → Prop where
  | int {k} (i : Int) : Pl k (.int i)
  | str {k} (z : Str) : Pl k (.str z)
  | lst {k} {ds : List D} (hl : ds.length ≤ 1000) (h : ∀ d ∈ ds, Pl k d) : Pl (k + 1) (.list ds)
  | tup {k} {ds : List D} (hl : ds.length ≤ 1000) (h : ∀ d ∈ ds, Pl k d) : Pl (k + 1) (.tuple ds)
def listsSl : D → Sl
  | .list ds => .own (.list (ds.map listsM))
  | .tuple ds => .own (.list (ds.map listsM))
  | d => .dat d
theorem Pl.sl {k : Nat} {d : D} (h : Pl k d) : (listsSl d = .dat d ∧ listsM d = d) ∨ listsSl d = .own (listsM d) := by
  cases h with
  | int i => exact .inl ⟨rfl, rfl⟩
  | str z => exact .inl ⟨rfl, rfl⟩
  | lst hl h => right; show Sl.own _ = Sl.own (.list (listsAll _)); rw [listsAll_map]
  | tup hl h => right; show Sl.own _ = Sl.own (.list (listsAll _)); rw [listsAll_map]
def cLists (k : Nat) : List D → (Sl → Prop) → Prop := fun ds post => ∃ d : D, ds = [d] ∧ Pl k d ∧ post (listsSl d)
abbrev nTurn : List Str := ["_law_text_here", "_law_beads", "_law_to", "_law_sign"]
def backB (beads : Str) (k : Int) : Nat := (atI beads.cps.toList k).getD 0
def turnedB (beads : Str) : Str := cutS beads none (some (-2)) ++ one (backB beads (-1)) ++ one (backB beads (-2))
def swapB (beads : Str) (c : Nat) : Nat := match valV (mergeK [] (zipK beads (turnedB beads))) (.inr (one c)) with
  | some (.str z) => z.cps.toList.headD 0
  | _ => 0
def turnM (beads z : Str) : Str := ⟨(z.cps.toList.reverse.map (swapB beads)).toArray⟩
theorem Bd.back {beads : Str} (h : Bd beads) : atI beads.cps.toList (-1) = some (backB beads (-1)) ∧ atI beads.cps.toList (-2) = some (backB beads (-2)) :=
  of_decide_eq_true (h.all (p := fun b => decide (atI b.cps.toList (-1) = some (backB b (-1)) ∧ atI b.cps.toList (-2) = some (backB b (-2)))) (by decide))
theorem Bd.plain {beads : Str} (h : Bd beads) : beads.cps.all (· < 128) = true ∧ (turnedB beads).cps.all (· < 128) = true := by
  have := h.all (p := fun b => b.cps.all (· < 128) && (turnedB b).cps.all (· < 128)) (by decide +kernel)
  exact Bool.and_eq_true_iff.mp this
theorem Bd.swap {beads : Str} (h : Bd beads) : ∀ c ∈ beads.cps.toList, valV (mergeK [] (zipK beads (turnedB beads))) (.inr (one c)) = some (.str (one (swapB beads c))) ∧ swapB beads c ∈ beads.cps.toList := by
  have := h.all (p := fun b => decide (∀ c ∈ b.cps.toList, valV (mergeK [] (zipK b (turnedB b))) (.inr (one c)) = some (.str (one (swapB b c))) ∧ swapB b c ∈ b.cps.toList)) (by decide +kernel)
  exact of_decide_eq_true this
theorem Tx.turn {beads z : Str} {m : Nat} (hb : Bd beads) (h : Tx beads m z) : Tx beads m (turnM beads z) := by
  refine ⟨?_, fun c hc => ?_⟩
  · rw [← len_list]
    unfold turnM
    simp only [List.toList_toArray, List.length_map, List.length_reverse]
    rw [len_list]
    exact h.1
  · unfold turnM at hc
    simp only [List.toList_toArray] at hc
    obtain ⟨d, hd, rfl⟩ := List.mem_map.mp hc
    exact (hb.swap d (h.2 d (List.mem_reverse.mp hd))).2
abbrev nGame : List Str := ["_law_box_here", "_law_name", "_law_longest", "_law_beads", "_law_long", "_law_shape", "_law_rules_here", "_law_others", "_law_old", "_law_new", "_law_stuck"]
structure Gm where
  shape : Str
  beads : Str
  long : Nat
  r1 : List (List Key)
  r2 : List (List Key)
  ends : List (List Key)
  s1 : Int
  s2 : Int
def gameL (name : Str) (g : Gm) : List D := [.str name, .str g.shape, .str g.beads, .int (g.long : Int), .tuple [.tuple (g.r1.map tupK), .tuple (g.r2.map tupK)], .tuple (g.ends.map tupK), .tuple [.int g.s1, .int g.s2]]
structure GmOk (longest : Nat) (g : Gm) : Prop where
  shape : g.shape = lineS ∨ g.shape = ringS
  beads : BdG g.beads
  long2 : 2 ≤ g.long
  long : g.long ≤ longest
  r1 : RulesK g.beads g.long g.r1
  r2 : RulesK g.beads g.long g.r2
  ends : EndsK g.beads g.long g.ends
  s1 : -9 ≤ g.s1 ∧ g.s1 ≤ 9
  s2 : -9 ≤ g.s2 ∧ g.s2 ≤ 9
theorem Bd.inj {beads : Str} (h : Bd beads) : ∀ c ∈ beads.cps.toList, ∀ d ∈ beads.cps.toList, swapB beads c = swapB beads d → c = d := by
  have := h.all (p := fun b => decide (∀ c ∈ b.cps.toList, ∀ d ∈ b.cps.toList, swapB b c = swapB b d → c = d)) (by decide +kernel)
  exact of_decide_eq_true this
theorem map_inj_on {f : Nat → Nat} : ∀ {xs ys : List Nat}, (∀ c ∈ xs, ∀ d ∈ ys, f c = f d → c = d) → xs.map f = ys.map f → xs = ys
  | [], [], _, _ => rfl
  | [], _ :: _, _, h => nomatch h
  | _ :: _, [], _, h => nomatch h
  | x :: xs, y :: ys, hf, h => by
    rw [List.map_cons, List.map_cons] at h
    injection h with h1 h2
    rw [hf x (List.mem_cons_self ..) y (List.mem_cons_self ..) h1, map_inj_on (fun c hc d hd => hf c (List.mem_cons_of_mem _ hc) d (List.mem_cons_of_mem _ hd)) h2]
theorem turn_inj {beads a b : Str} {m k : Nat} (hb : Bd beads) (ha : Tx beads m a) (hb' : Tx beads k b) (h : turnM beads a = turnM beads b) : a = b := by
  unfold turnM at h
  injection h with h
  have h' := congrArg Array.toList h
  simp only [List.toList_toArray] at h'
  have e := map_inj_on (fun c hc d hd => hb.inj c (ha.2 c (List.mem_reverse.mp hc)) d (hb'.2 d (List.mem_reverse.mp hd))) h'
  apply str_ext
  rw [← List.reverse_reverse a.cps.toList, e, List.reverse_reverse]
def turnK (beads : Str) : List Key → List Key
  | [.inr a, .inr b] => [.inr (turnM beads a), .inr (turnM beads b)]
  | ks => ks
theorem RuleK.turn {beads : Str} {long : Nat} {ks : List Key} (hb : Bd beads) (h : RuleK beads long ks) : RuleK beads long (turnK beads ks) := by
  obtain ⟨a, b, m, rfl, h1, h2, h3, h4, h5, h6⟩ := h
  exact ⟨_, _, m, rfl, h1, h2, h3, h4.turn hb, h5.turn hb, fun e => h6 (turn_inj hb h4 h5 e)⟩
theorem turnK_inj {beads : Str} {long : Nat} (hb : Bd beads) {x y : List Key} (hx : RuleK beads long x) (hy : RuleK beads long y) (h : turnK beads x = turnK beads y) : x = y := by
  obtain ⟨a, b, m, rfl, _, _, _, h4, h5, _⟩ := hx
  obtain ⟨c, d, k, rfl, _, _, _, h6, h7, _⟩ := hy
  have h' : ([.inr (turnM beads a), .inr (turnM beads b)] : List Key) = [.inr (turnM beads c), .inr (turnM beads d)] := h
  injection h' with e1 e2
  injection e2 with e2 _
  rw [turn_inj hb h4 h6 (Sum.inr.inj e1), turn_inj hb h5 h7 (Sum.inr.inj e2)]
theorem nodup_map_on {α β : Type} {f : α → β} : ∀ {xs : List α}, xs.Nodup → (∀ x ∈ xs, ∀ y ∈ xs, f x = f y → x = y) → (xs.map f).Nodup
  | [], _, _ => List.nodup_nil
  | x :: xs, h, hf => by
    rw [List.nodup_cons] at h
    rw [List.map_cons, List.nodup_cons]
    refine ⟨fun hm => ?_, nodup_map_on h.2 fun a ha b hb => hf a (List.mem_cons_of_mem _ ha) b (List.mem_cons_of_mem _ hb)⟩
    obtain ⟨y, hy, e⟩ := List.mem_map.mp hm
    exact h.1 (hf y (List.mem_cons_of_mem _ hy) x (List.mem_cons_self ..) e ▸ hy)
structure Rp (k W : Nat) (d : D) : Prop where
  can : d.canLay0 = true
  dep : d.depth ≤ k
  ish : d.intsShort 13 = true
  sho : d.showable = true
  nod : d.hasDict = false
  wei : d.weight ≤ W
theorem Rp.mono {k W k' W' : Nat} {d : D} (h : Rp k W d) (hk : k ≤ k') (hW : W ≤ W') : Rp k' W' d := ⟨h.can, Nat.le_trans h.dep hk, h.ish, h.sho, h.nod, Nat.le_trans h.wei hW⟩
theorem Rp.str {k W : Nat} {z : Str} (h : PyData.strOk z = true) (hl : z.length ≤ W) : Rp k W (.str z) := ⟨h, Nat.zero_le _, rfl, rfl, rfl, hl⟩
theorem small_ints : ∀ n ∈ List.range 120, (PyData.int ((n : Int) - 10)).intsShort 13 = true ∧ (PyData.int ((n : Int) - 10)).showable = true ∧ (PyData.int ((n : Int) - 10)).weight ≤ 8 := by decide +kernel
theorem Rp.int {k W : Nat} {i : Int} (h1 : -10 ≤ i) (h2 : i < 110) (hW : 8 ≤ W) : Rp k W (.int i) := by
  obtain ⟨n, hn⟩ : ∃ n : Nat, i = (n : Int) - 10 := ⟨(i + 10).toNat, by omega⟩
  subst hn
  obtain ⟨a, b, c⟩ := small_ints n (List.mem_range.mpr (by omega))
  exact ⟨rfl, Nat.zero_le _, a, b, rfl, Nat.le_trans c hW⟩
theorem Rp.all {k W : Nat} : ∀ {ds : List D}, (∀ d ∈ ds, Rp k W d) → PyData.intsShortAll 13 ds = true ∧ PyData.showableAll ds = true ∧ PyData.hasDictAll ds = false ∧ PyData.weightAll ds ≤ ds.length * (W + 1)
  | [], _ => ⟨rfl, rfl, rfl, Nat.zero_le _⟩
  | d :: r, h => by
    obtain ⟨a1, a2, a3, a4⟩ := Rp.all fun x hx => h x (List.mem_cons_of_mem _ hx)
    have q := h d (List.mem_cons_self ..)
    refine ⟨?_, ?_, ?_, ?_⟩
    · show (d.intsShort 13 && PyData.intsShortAll 13 r) = true
      rw [q.ish, a1]; rfl
    · show (d.showable && PyData.showableAll r) = true
      rw [q.sho, a2]; rfl
    · show (d.hasDict || PyData.hasDictAll r) = false
      rw [q.nod, a3]; rfl
    · show d.weight + 1 + PyData.weightAll r ≤ (r.length + 1) * (W + 1)
      rw [Nat.succ_mul]
      have := q.wei
      omega
theorem Rp.lst {k W : Nat} {ds : List D} (h : ∀ d ∈ ds, Rp k W d) {W' : Nat} (hW : ds.length * (W + 1) ≤ W') : Rp (k + 1) W' (.list ds) := by
  obtain ⟨a1, a2, a3, a4⟩ := Rp.all h
  exact ⟨canAll fun d hd => (h d hd).can, Nat.succ_le_succ (depAll fun d hd => (h d hd).dep), a1, a2, a3, Nat.le_trans a4 hW⟩
theorem Rp.tup {k W : Nat} {ds : List D} (h : ∀ d ∈ ds, Rp k W d) {W' : Nat} (hW : ds.length * (W + 1) ≤ W') : Rp (k + 1) W' (.tuple ds) := by
  obtain ⟨a1, a2, a3, a4⟩ := Rp.all h
  exact ⟨canAll fun d hd => (h d hd).can, Nat.succ_le_succ (depAll fun d hd => (h d hd).dep), a1, a2, a3, Nat.le_trans a4 hW⟩
theorem Rp.fits {k W : Nat} {d : D} (h : Rp k W d) (hW : W ≤ 1048576) : d.shown.length ≤ sizeLine :=
  PyData.shown_fits (B := 13) (by decide) (Nat.le_refl _) (PyData.leavesShort_of_canLay0 13 d h.can h.ish) (Nat.le_trans h.wei hW)
def KeyOk : Key → Prop
  | .inl i => -10 ≤ i ∧ i < 110
  | .inr z => PyData.strOk z = true ∧ z.length ≤ 1000
theorem KeyOk.rp {k : Key} (h : KeyOk k) : Rp 0 1000 (kD k) := by
  cases k with
  | inl i => exact Rp.int h.1 h.2 (by decide)
  | inr z => exact Rp.str h.1 h.2
theorem keys_rp {ks : List Key} (h : ∀ k ∈ ks, KeyOk k) (hl : ks.length ≤ 3) : Rp 1 3003 (tupK ks) := Rp.tup (k := 0) (W := 1000) (fun d hd => by
  obtain ⟨k, hk, rfl⟩ := List.mem_map.mp hd
  exact (h k hk).rp) (by rw [List.length_map]; omega)
theorem rows_rp {kss : List (List Key)} (h : ∀ ks ∈ kss, (∀ k ∈ ks, KeyOk k) ∧ ks.length ≤ 3) (hl : kss.length ≤ 6) : Rp 2 18024 (.tuple (kss.map tupK)) := Rp.tup (k := 1) (W := 3003) (fun d hd => by
  obtain ⟨ks, hk, rfl⟩ := List.mem_map.mp hd
  exact keys_rp (h ks hk).1 (h ks hk).2) (by rw [List.length_map]; omega)
theorem RuleK.keys {beads : Str} {long : Nat} {ks : List Key} (hb : BdG beads) (h : RuleK beads long ks) : (∀ k ∈ ks, KeyOk k) ∧ ks.length ≤ 3 := by
  obtain ⟨a, b, m, rfl, h1, h2, h3, h4, h5, _⟩ := h
  refine ⟨fun k hk => ?_, Nat.le_of_ble_eq_true rfl⟩
  have hk' : k = .inr a ∨ k = .inr b := by simpa using hk
  rcases hk' with rfl | rfl
  · exact ⟨h4.ok hb, by rw [h4.1]; omega⟩
  · exact ⟨h5.ok hb, by rw [h5.1]; omega⟩
theorem EndK.keys {beads : Str} {long : Nat} {ks : List Key} (hb : BdG beads) (hl : long ≤ 100) (h : EndK beads long ks) : (∀ k ∈ ks, KeyOk k) ∧ ks.length ≤ 3 := by
  obtain ⟨s, m, p, v, rfl, h1, h2, h3, h4, h5⟩ := h
  refine ⟨fun k hk => ?_, Nat.le_of_ble_eq_true rfl⟩
  have hk' : k = .inl (s : Int) ∨ k = .inr p ∨ k = .inl v := by simpa using hk
  rcases hk' with rfl | rfl | rfl
  · exact ⟨by omega, by omega⟩
  · exact ⟨h4.ok hb, by rw [h4.1]; omega⟩
  · exact ⟨by have := h5.1; omega, by have := h5.2.1; omega⟩
theorem GmOk.rp {longest : Nat} {name : Str} {g : Gm} (h : GmOk longest g) (hl : longest ≤ 100) (hn : PyData.strOk name = true) (hnl : name.length ≤ 1000) : Rp 4 252357 (.tuple (gameL name g)) := by
  have hlo := h.long
  have hlo2 := h.long2
  have b2 := h.beads.len
  refine Rp.tup (k := 3) (W := 36050) (fun d hd => ?_) (by show 7 * _ ≤ _; decide)
  have hd' : d = .str name ∨ d = .str g.shape ∨ d = .str g.beads ∨ d = .int (g.long : Int) ∨ d = .tuple [.tuple (g.r1.map tupK), .tuple (g.r2.map tupK)] ∨ d = .tuple (g.ends.map tupK) ∨ d = .tuple [.int g.s1, .int g.s2] := by simpa [gameL] using hd
  rcases hd' with rfl | rfl | rfl | rfl | rfl | rfl | rfl
  · exact Rp.str hn (by omega)
  · rcases h.shape with e | e
    · rw [e]; exact Rp.str (strOk_of (by decide)) (by decide)
    · rw [e]; exact Rp.str (strOk_of (by decide)) (by decide)
  · exact Rp.str (strOk_of h.beads.small) (by omega)
  · exact Rp.int (by omega) (by omega) (by decide)
  · refine Rp.tup (k := 2) (W := 18024) (fun d hd => ?_) (by show 2 * _ ≤ _; decide)
    have hd' : d = .tuple (g.r1.map tupK) ∨ d = .tuple (g.r2.map tupK) := by simpa using hd
    rcases hd' with rfl | rfl
    · exact rows_rp (fun ks hk => (h.r1.each ks hk).keys h.beads) h.r1.few
    · exact rows_rp (fun ks hk => (h.r2.each ks hk).keys h.beads) h.r2.few
  · exact (rows_rp (fun ks hk => (h.ends.each ks hk).keys h.beads (by omega)) h.ends.few).mono (by decide) (by decide)
  · refine (Rp.tup (k := 0) (W := 8) (W' := 18) (fun d hd => ?_) (by show 2 * _ ≤ _; decide)).mono (by decide) (by decide)
    have hd' : d = .int g.s1 ∨ d = .int g.s2 := by simpa using hd
    have q1 := h.s1
    have q2 := h.s2
    rcases hd' with rfl | rfl
    · exact Rp.int (by omega) (by omega) (by decide)
    · exact Rp.int (by omega) (by omega) (by decide)
theorem Pl.keys {k : Nat} {ks : List Key} (hl : ks.length ≤ 1000) : Pl (k + 1) (tupK ks) := .tup (by rw [List.length_map]; exact hl) fun d hd => by
  obtain ⟨x, _, rfl⟩ := List.mem_map.mp hd
  cases x with
  | inl i => exact .int i
  | inr z => exact .str z
theorem Pl.rows {k : Nat} {kss : List (List Key)} (hl : kss.length ≤ 1000) (h : ∀ ks ∈ kss, ks.length ≤ 1000) : Pl (k + 2) (.tuple (kss.map tupK)) := .tup (by rw [List.length_map]; exact hl) fun d hd => by
  obtain ⟨ks, hk, rfl⟩ := List.mem_map.mp hd
  exact Pl.keys (h ks hk)
theorem GmOk.pl {longest : Nat} {name : Str} {g : Gm} (h : GmOk longest g) (hl : longest ≤ 100) : Pl 4 (.tuple (gameL name g)) := by
  refine .tup (by show 7 ≤ _; decide) fun d hd => ?_
  have hd' : d = .str name ∨ d = .str g.shape ∨ d = .str g.beads ∨ d = .int (g.long : Int) ∨ d = .tuple [.tuple (g.r1.map tupK), .tuple (g.r2.map tupK)] ∨ d = .tuple (g.ends.map tupK) ∨ d = .tuple [.int g.s1, .int g.s2] := by simpa [gameL] using hd
  have f1 := h.r1.few
  have f2 := h.r2.few
  have f3 := h.ends.few
  have hlo := h.long
  rcases hd' with rfl | rfl | rfl | rfl | rfl | rfl | rfl
  · exact .str _
  · exact .str _
  · exact .str _
  · exact .int _
  · refine .tup (by show 2 ≤ _; decide) fun d hd => ?_
    have hd' : d = .tuple (g.r1.map tupK) ∨ d = .tuple (g.r2.map tupK) := by simpa using hd
    rcases hd' with rfl | rfl
    · exact Pl.rows (by omega) fun ks hk => Nat.le_trans ((h.r1.each ks hk).keys h.beads).2 (by decide)
    · exact Pl.rows (by omega) fun ks hk => Nat.le_trans ((h.r2.each ks hk).keys h.beads).2 (by decide)
  · exact Pl.rows (by omega) fun ks hk => Nat.le_trans ((h.ends.each ks hk).keys h.beads (by omega)).2 (by decide)
  · refine .tup (by show 2 ≤ _; decide) fun d hd => ?_
    have hd' : d = .int g.s1 ∨ d = .int g.s2 := by simpa using hd
    rcases hd' with rfl | rfl <;> exact .int _
theorem rep_tx {beads : Str} {c m : Nat} (h : c ∈ beads.cps.toList) : Tx beads m (repS ⟨#[c]⟩ m) := by
  refine ⟨by rw [repS_len]; show m * 1 = m; omega, fun d hd => ?_⟩
  unfold repS at hd
  have hd' : d ∈ (List.replicate m [c]).flatten := by simpa using hd
  obtain ⟨l, hl, hdl⟩ := List.mem_flatten.mp hd'
  rw [(List.mem_replicate.mp hl).2] at hdl
  rw [List.mem_singleton.mp hdl]
  exact h
end Wq
set_option maxHeartbeats 4000000
namespace Wq
open PySem L2
local macro_rules | `(tactic| walk_at "e") => `(tactic| simp (disch := omega) only [↓ev_bind, ↓ev_bad, ↓toK, kOk, kBad, out_nx, out_rt, ss0, ss1, s_ret1, sr_cst, sr_int, sr_str, sr_bl, sr_non, sr_bin, sr_neg, sr_cmp, sr_cmp2, sr_bop, sr_not, sr_ite, sr_tup, sr_lst, sr_ix, sr_sl, sr_rev, sr_call, sr_callB, sr_callO, sr_blt, sr_join, sr_comp, sr_comp2, s_retI1, s_exp1, s_set1, s_unp1, s_par21, s_if1, s_app1, s_rev1, s_sto1, s_sto2, s_frz1, set_eq, ev_of, ev_none, ev_slot, ev_cst, ev_int, ev_str, ev_bl, ev_non, ev_bin, ev_neg, ev_cmp, ev_cmp2, ev_and, ev_or, ev_not, ev_ite, ev_tup, ev_lst, ev_ix, ev_sl, ev_rev, ev_call, ev_callB, ev_callO, ev_blt, ev_join, ev_comp, ev_comp2, ev_nil, ev_cons, ev_rng, ev_rng2, ev_val, ev_enum, ev_zip, ev_own,
  of_v, of_k, of_t, of_s, ofV_v, ofV_k, ofV_s, ofD_v, ofD_k, ofD_s, ofD_d, sl_v, sl_k, sl_d, slot_s, slot_t, of_d, ofV_d, datS_dat, datS_own, tr_bool, tr_list, tr_own, args_nil, args_cons, pr_slot, pair_of, pair_ofV, pair_ofD, pair_cmp, bin_eq, cmp_v_eq, cmp_k_eq, cmp_t_eq, cmp_s_eq, cmp_d_eq, cmpM_eq,
  own_eq, noo_eq, bi_add, bi_sub, bi_mul, bi_div, bi_mod, bi_addS, cs_eqi, cs_nei, cs_eqs, cs_nes, cs_lt, cs_le, cs_gt, cs_ge, cs_is, cs_isnt, ix_eq, tup_eq, lst_eq, ite_eq, blt1_eq, blt2_eq, b1_lenL, b1_lenO, b1_lenT, b1_lenS, b1_tupO, b1_tupL, b1_tupT, b1_lisO, b1_lisL, b1_lisT, b1_abs, b1_intB, b2_min, b2_max, b2_divmod, cb_eq, co_eq, call_eq, γ0, γs,
  and_one, and_two, or_one, or_two, andt_one, andt_two, ort_one, ort_two, not_eq, sl_eq, rev_eq, join_eq, comp_eq, step_eq, tests_no, tests_one,
  setT, setTs, IT.slots, ITs.slots, wipeE, rng_nat, List.all_cons, List.all_nil, List.cons_append, List.nil_append, List.append_nil, Option.toList_some, Option.toList_none,
  slS_str, slS_lst, slS_tup, op_no, op_so, it_own, it_lst, it_tpl, wk_own', wk_lst, wk_tpl, wk_str, ixS, at0, at1, at2, at3, at4, at5, at6, ix0, ix1, ix2, bi_pow7, bi_pow18, dlt_t, dlt_f, dle_t, dle_f, deq_t, deq_f, nle_t, nlt_t, dnlt_t, dnle_t, Bool.not_true, Bool.not_false, Bool.and_true, Bool.true_and, Bool.and_self, Bool.and_false, List.contains_cons, List.contains_nil, beq_self_eq_true, Nat.reduceBEq, Nat.reduceEqDiff, Bool.or_false, Bool.or_self, Option.bind_some, Option.map_some, if_true, if_false, Bool.false_eq_true, ↓reduceIte,
  List.getElem?_cons_zero, List.getElem?_cons_succ, List.set_cons_zero, List.set_cons_succ, List.length_cons, List.length_nil])

def f_rules := fnX [.bx (f_take 1), .bx f_text] [] n_rules 3 b_rules
def rulesLoop : ISs := (.cons (.set 5 (.callB 1 0 (.cons (.slot 1) (.cons (.bin .Add (.int 1) (.callB 0 0 (.cons (.blt .min (.cons (.int 3) (.cons (.slot 2) .nil))) .nil))) .nil))))
 (.cons (.freeze 5)
 (.cons (.set 6 (.ix (.lst (.cons (.rev (.slot 5)) (.cons (.callB 1 0 (.cons (.slot 1) (.cons (.blt .len (.cons (.slot 5) .nil)) .nil))) (.cons (.bin .Add (.sl (.slot 5) (.cons (.int 1) .nil) .nil) (.sl (.slot 5) .nil (.cons (.int 1) .nil))) .nil)))) (.callB 0 0 (.cons (.int 3) .nil))))
 (.cons (.ifs (.bop .And (.cons (.cmp .NotEq (.slot 5) (.slot 6)) (.cons (.cmp .NotIn (.tup (.cons (.slot 5) (.cons (.slot 6) .nil))) (.slot 3)) .nil)))
 (.cons (.append 3 (.tup (.cons (.slot 5) (.cons (.slot 6) .nil))))
 .nil)
 .nil)
 .nil))))
theorem rules_turn {n long : Nat} {b : D} {beads : Str} {kss : List (List Key)} {x4 : D} {s5 s6 : Sl} (hbd : Bd beads) (hl1 : 1 ≤ long) (hl2 : long ≤ 1000) (hb : Bx n b) (hn : n < 900000000) (hk : ∀ ks ∈ kss, RuleK beads long ks) (hk2 : kss.Nodup) (hk3 : kss.length ≤ 100) :
    ∃ (kss' : List (List Key)) (b' : D) (x5 x6 : D), semSs (Γof [.bx (f_take 1), .bx f_text]) (csOf []) [0] rulesLoop [.own b, .dat (.str beads), .dat (.int (long : Int)), .own (.list (kss.map tupK)), .dat x4, s5, s6] =
      .ok (.nx [.own b', .dat (.str beads), .dat (.int (long : Int)), .own (.list (kss'.map tupK)), .dat x4, .dat x5, .dat x6]) ∧ (∀ ks ∈ kss', RuleK beads long ks) ∧ kss'.Nodup ∧ kss'.length ≤ kss.length + 1 ∧ Bx (n + 8) b' := by
  obtain ⟨hb2, hb4⟩ := hbd.len
  obtain ⟨r, b1, h2, h3, h4⟩ := take_ok (m := 0) (room := if (long : Int) < 3 then (long : Int) else 3) hb (by omega) (by split <;> omega) (by split <;> omega)
  have hr : r < 3 ∧ r < long := by split at h3 <;> omega
  obtain ⟨old, b2, h5, h6, h7⟩ := text_ok (m := 1 + r) (beads := beads) h4 (by omega) (by omega) (by omega) (by omega)
  have e1 : ((1 + r : Nat) : Int) = 1 + (r : Int) := by omega
  rw [e1] at h5
  unfold rulesLoop
  have st1 : semS (Γof [.bx (f_take 1), .bx f_text]) (csOf []) [0] (.set 5 (.callB 1 0 (.cons (.slot 1) (.cons (.bin .Add (.int 1) (.callB 0 0 (.cons (.blt .min (.cons (.int 3) (.cons (.slot 2) .nil))) .nil))) .nil)))) [.own b, .dat (.str beads), .dat (.int (long : Int)), .own (.list (kss.map tupK)), .dat x4, s5, s6] = .ok (.nx [.own b2, .dat (.str beads), .dat (.int (long : Int)), .own (.list (kss.map tupK)), .dat x4, .dat (.str old), s6]) := by
    walk_at "e"
    rw [h2]
    walk_at "e"
    rw [h5]
    walk_at "e"
  obtain ⟨other, b3, h8, h9, h10⟩ := text_ok (m := 1 + r) (beads := beads) h7 (by omega) (by omega) (by omega) (by omega)
  obtain ⟨q, b4, h11, h12, h13⟩ := take_ok (m := 0) (room := 3) h10 (by omega) (by omega) (by omega)
  have holdl : old.length = 1 + r := h6.1
  obtain ⟨new, hnew, hat⟩ : ∃ new, Tx beads (1 + r) new ∧ atI [(.str (revS old) : D), .str other, .str (cutS old (some 1) none ++ cutS old none (some 1))] (q : Int) = some (.str new) := by
    have : q = 0 ∨ q = 1 ∨ q = 2 := by omega
    rcases this with rfl | rfl | rfl
    · exact ⟨_, h6.rev, rfl⟩
    · exact ⟨_, h9, rfl⟩
    · exact ⟨_, h6.rot, rfl⟩
  rw [e1] at h8
  have st3 : semS (Γof [.bx (f_take 1), .bx f_text]) (csOf []) [0] (.set 6 (.ix (.lst (.cons (.rev (.slot 5)) (.cons (.callB 1 0 (.cons (.slot 1) (.cons (.blt .len (.cons (.slot 5) .nil)) .nil))) (.cons (.bin .Add (.sl (.slot 5) (.cons (.int 1) .nil) .nil) (.sl (.slot 5) .nil (.cons (.int 1) .nil))) .nil)))) (.callB 0 0 (.cons (.int 3) .nil)))) [.own b2, .dat (.str beads), .dat (.int (long : Int)), .own (.list (kss.map tupK)), .dat x4, .dat (.str old), s6] = .ok (.nx [.own b4, .dat (.str beads), .dat (.int (long : Int)), .own (.list (kss.map tupK)), .dat x4, .dat (.str old), .dat (.str new)]) := by
    have hrot : (cutS old (some 1) none).length + (cutS old none (some 1)).length ≤ 100000 := by
      have := h6.rot.1
      rw [app_len] at this
      omega
    walk_at "e"
    rw [show ((old.length : Nat) : Int) = 1 + (r : Int) by omega, h8]
    walk_at "e"
    rw [h11]
    walk_at "e"
    rw [hat]
    walk_at "e"
  have hlen : new.length = old.length := by rw [hnew.1, holdl]
  have go : ∃ kss' : List (List Key), semS (Γof [.bx (f_take 1), .bx f_text]) (csOf []) [0] (.ifs (.bop .And (.cons (.cmp .NotEq (.slot 5) (.slot 6)) (.cons (.cmp .NotIn (.tup (.cons (.slot 5) (.cons (.slot 6) .nil))) (.slot 3)) .nil)))
      (.cons (.append 3 (.tup (.cons (.slot 5) (.cons (.slot 6) .nil)))) .nil) .nil) [.own b4, .dat (.str beads), .dat (.int (long : Int)), .own (.list (kss.map tupK)), .dat x4, .dat (.str old), .dat (.str new)] =
      .ok (.nx [.own b4, .dat (.str beads), .dat (.int (long : Int)), .own (.list (kss'.map tupK)), .dat x4, .dat (.str old), .dat (.str new)]) ∧ (∀ ks ∈ kss', RuleK beads long ks) ∧ kss'.Nodup ∧ kss'.length ≤ kss.length + 1 := by
    by_cases he : old = new
    · refine ⟨kss, ?_, hk, hk2, by omega⟩
      have hd : decide (old = new) = true := decide_eq_true he
      walk_at "e"
      rw [hd]
      walk_at "e"
    · have hd : decide (old = new) = false := decide_eq_false he
      have rk : RuleK beads long [.inr old, .inr new] := ⟨old, new, 1 + r, rfl, by omega, by omega, by omega, h6, hnew, he⟩
      have hs1 : SeqAt.shaped (.tuple [.str old, .str new]) = true := (RuleK.sd (n := 0) hbd.g rk).shaped (by decide)
      have hs2 : SeqAt.shaped (.list (kss.map tupK)) = true := (Sd.lst (n := 1) fun d hd => by
        obtain ⟨ks, hks, rfl⟩ := List.mem_map.mp hd
        exact RuleK.sd (n := 0) hbd.g (hk ks hks)).shaped (by decide)
      have hin := any_tupK (kss := kss) (a := [.inr old, .inr new]) fun ks hks => by rw [(hk ks hks).sig]; rfl
      by_cases hm : ([.inr old, .inr new] : List Key) ∈ kss
      · refine ⟨kss, ?_, hk, hk2, by omega⟩
        have ha : ((kss.map tupK).any fun z => PyData.eqv z (.tuple [.str old, .str new])) = true := hin.mpr hm
        walk_at "e"
        rw [hd]
        walk_at "e"
        rw [cs_notin rfl rfl hs1 hs2, ha]
        walk_at "e"
      · have ha : ((kss.map tupK).any fun z => PyData.eqv z (.tuple [.str old, .str new])) = false := by
          cases hq : ((kss.map tupK).any fun z => PyData.eqv z (.tuple [.str old, .str new])) with
          | false => rfl
          | true => exact absurd (hin.mp hq) hm
        refine ⟨kss ++ [[.inr old, .inr new]], ?_, ?_, ?_, by simp⟩
        · walk_at "e"
          rw [hd]
          walk_at "e"
          rw [cs_notin rfl rfl hs1 hs2, ha]
          have hl : (kss.map tupK).length < 100000 := by rw [List.length_map]; omega
          walk_at "e"
          rw [List.map_append]
          rfl
        · intro ks hks
          rcases List.mem_append.mp hks with h | h
          · exact hk ks h
          · rw [List.mem_singleton.mp h]; exact rk
        · refine List.nodup_append.mpr ⟨hk2, by simp, fun x hx y hy e => ?_⟩
          rw [List.mem_singleton.mp hy] at e
          subst e
          exact hm hx
  obtain ⟨kss', g1, g2, g3, g4⟩ := go
  refine ⟨kss', b4, .str old, .str new, ?_, g2, g3, g4, h13.up (by omega)⟩
  refine seq_nx st1 (seq_nx (E1 := [.own b2, .dat (.str beads), .dat (.int (long : Int)), .own (.list (kss.map tupK)), .dat x4, .dat (.str old), s6]) (by walk_at "e") (seq_nx st3 (seq_nx g1 ?_)))
  rfl
end Wq
set_option maxHeartbeats 4000000
namespace Wq
open PySem L2
local macro_rules | `(tactic| walk_at "e") => `(tactic| simp (disch := omega) only [↓ev_bind, ↓ev_bad, ↓toK, kOk, kBad, out_nx, out_rt, ss0, ss1, s_ret1, sr_cst, sr_int, sr_str, sr_bl, sr_non, sr_bin, sr_neg, sr_cmp, sr_cmp2, sr_bop, sr_not, sr_ite, sr_tup, sr_lst, sr_ix, sr_sl, sr_rev, sr_call, sr_callB, sr_callO, sr_blt, sr_join, sr_comp, sr_comp2, s_retI1, s_exp1, s_set1, s_unp1, s_par21, s_if1, s_app1, s_rev1, s_sto1, s_sto2, s_frz1, lp_rng, lp_val, lp_enum, set_eq, ev_of, ev_none, ev_slot, ev_cst, ev_int, ev_str, ev_bl, ev_non, ev_bin, ev_neg, ev_cmp, ev_cmp2, ev_and, ev_or, ev_not, ev_ite, ev_tup, ev_lst, ev_ix, ev_sl, ev_rev, ev_call, ev_callB, ev_callO, ev_blt, ev_join, ev_comp, ev_comp2, ev_nil, ev_cons, ev_rng, ev_rng2, ev_val, ev_enum, ev_zip, ev_own,
  of_v, of_k, of_t, of_s, ofV_v, ofV_k, ofV_s, ofD_v, ofD_k, ofD_s, ofD_d, sl_v, sl_k, sl_d, slot_s, slot_t, of_d, ofV_d, datS_dat, datS_own, tr_bool, tr_list, tr_own, args_nil, args_cons, pr_slot, pair_of, pair_ofV, pair_ofD, pair_cmp, bin_eq, cmp_v_eq, cmp_k_eq, cmp_t_eq, cmp_s_eq, cmp_d_eq, cmpM_eq,
  own_eq, noo_eq, bi_add, bi_sub, bi_mul, bi_div, bi_mod, bi_addS, cs_eqi, cs_nei, cs_eqs, cs_nes, cs_lt, cs_le, cs_gt, cs_ge, cs_is, cs_isnt, ix_eq, tup_eq, lst_eq, ite_eq, blt1_eq, blt2_eq, b1_lenL, b1_lenO, b1_lenT, b1_lenS, b1_tupO, b1_tupL, b1_tupT, b1_lisO, b1_lisL, b1_lisT, b1_abs, b1_intB, b2_min, b2_max, b2_divmod, cb_eq, co_eq, call_eq, γ0, γs,
  and_one, and_two, or_one, or_two, andt_one, andt_two, ort_one, ort_two, not_eq, sl_eq, rev_eq, join_eq, comp_eq, step_eq, tests_no, tests_one,
  setT, setTs, IT.slots, ITs.slots, wipeE, rng_nat, List.all_cons, List.all_nil, List.cons_append, List.nil_append, List.append_nil, Option.toList_some, Option.toList_none,
  slS_str, slS_lst, slS_tup, op_no, op_so, it_own, it_lst, it_tpl, wk_own', wk_lst, wk_tpl, wk_str, ixS, at0, at1, at2, at3, at4, at5, at6, ix0, ix1, ix2, bi_pow7, bi_pow18, dlt_t, dlt_f, dle_t, dle_f, deq_t, deq_f, nle_t, nlt_t, dnlt_t, dnle_t, Bool.not_true, Bool.not_false, Bool.and_true, Bool.true_and, Bool.and_self, Bool.and_false, List.contains_cons, List.contains_nil, beq_self_eq_true, Nat.reduceBEq, Nat.reduceEqDiff, Bool.or_false, Bool.or_self, Option.bind_some, Option.map_some, if_true, if_false, Bool.false_eq_true, ↓reduceIte,
  List.getElem?_cons_zero, List.getElem?_cons_succ, List.set_cons_zero, List.set_cons_succ, List.length_cons, List.length_nil])

theorem rules_ok {n long : Nat} {b : D} {beads : Str} (hbd : Bd beads) (hl1 : 1 ≤ long) (hl2 : long ≤ 1000) (hb : Bx n b) (hn : n < 800000000) : ∃ (kss : List (List Key)) (b' : D), f_rules b [.str beads, .int (long : Int)] = .ok (.dat (.tuple (kss.map tupK)), b') ∧ RulesK beads long kss ∧ Bx (n + 40) b' := by
  obtain ⟨r, b1, h2, h3, h4⟩ := take_ok (m := 0) (room := 5) hb (by omega) (by omega) (by omega)
  obtain ⟨E', g1, kss, b2, s4, s5, s6, rfl, g2, g3, g4, g5, g6⟩ := loopF_inv (tg := .nm 4) (body := semSs (Γof [.bx (f_take 1), .bx f_text]) (csOf []) [0] rulesLoop) (fun t E => ∃ (kss : List (List Key)) (b' : D) (s4 s5 s6 : Sl), E = [.own b', .dat (.str beads), .dat (.int (long : Int)), .own (.list (kss.map tupK)), s4, s5, s6] ∧ Nw s4 ∧ (∀ ks ∈ kss, RuleK beads long ks) ∧ kss.Nodup ∧ kss.length ≤ t ∧ Bx (n + 1 + 8 * t) b')
    (ds := intsD 0 r) (t := 0) (E := [.own b1, .dat (.str beads), .dat (.int (long : Int)), .own (.list []), .no, .no, .no]) ⟨[], b1, .no, .no, .no, rfl, Nw.no, (fun _ h => by cases h), .nil, Nat.le_refl _, h4⟩ (by
      rintro t d E hd ⟨kss, b2, s4, s5, s6, rfl, k1, k2, k3, k4, k5⟩
      obtain ⟨ht, rfl⟩ := intsD_get hd
      obtain ⟨kss', b3, x5, x6, q1, q2, q3, q4, q5⟩ := rules_turn (x4 := .int (0 + (t : Int))) (s5 := s5) (s6 := s6) hbd hl1 hl2 k5 (by omega) k2 k3 (by omega)
      refine ⟨_, _, ?_, q1, kss', b3, _, _, _, rfl, Nw.dat, q2, q3, by omega, q5.up (by omega)⟩
      cases s4 with
      | own d => exact absurd rfl (k1 d)
      | _ => rfl)
  rw [intsD_len] at g5 g6
  refine ⟨sortK kss, b2, ?_, ⟨?_, fun ks hks => g3 ks ((sortK_perm kss).mem_iff.mp hks), (sortK_perm kss).nodup_iff.mpr g4, sortK_pw kss⟩, g6.up (by omega)⟩
  · have hsig : sigOk kss = true := by
      cases kss with
      | nil => rfl
      | cons k r =>
        have e1 := (g3 k List.mem_cons_self).sig
        simp only [sigOk, Bool.and_eq_true, Bool.not_eq_true', List.all_eq_true, decide_eq_true_eq]
        refine ⟨?_, fun x hx => by rw [(g3 x (List.mem_cons_of_mem _ hx)).sig, e1]⟩
        cases k with
        | nil => cases e1
        | cons _ _ => rfl
    refine fnX_ok (E := [.own b2, .dat (.str beads), .dat (.int (long : Int)), .own (.list (kss.map tupK)), s4, s5, s6]) (N := n_rules) (n := 3) (ds := [.str beads, .int (long : Int)]) rfl ?_ rfl
    show semSs _ _ _ b_rules [.own b, .dat (.str beads), .dat (.int (long : Int)), .no, .no, .no, .no] = _
    unfold b_rules
    refine seq_nx (E1 := [.own b, .dat (.str beads), .dat (.int (long : Int)), .own (.list []), .no, .no, .no]) (by walk_at "e") ?_
    refine seq_nx (E1 := [.own b2, .dat (.str beads), .dat (.int (long : Int)), .own (.list (kss.map tupK)), s4, s5, s6]) ?_ ?_
    · rw [lp_rng]
      walk_at "e"
      rw [h2]
      walk_at "e"
      exact g1
    · walk_at "e"
      rw [b1_sortO hsig]
      walk_at "e"
  · rw [(sortK_perm kss).length_eq]
    omega
end Wq
set_option maxHeartbeats 4000000
namespace Wq
open PySem L2
local macro_rules | `(tactic| walk_at "e") => `(tactic| simp (disch := omega) only [↓ev_bind, ↓ev_bad, ↓toK, kOk, kBad, out_nx, out_rt, ss0, ss1, s_ret1, sr_cst, sr_int, sr_str, sr_bl, sr_non, sr_bin, sr_neg, sr_cmp, sr_cmp2, sr_bop, sr_not, sr_ite, sr_tup, sr_lst, sr_ix, sr_sl, sr_rev, sr_call, sr_callB, sr_callO, sr_blt, sr_join, sr_comp, sr_comp2, s_retI1, s_exp1, s_set1, s_unp1, s_par21, s_if1, s_app1, s_rev1, s_sto1, s_sto2, s_frz1, lp_rng, lp_val, lp_enum, set_eq, ev_of, ev_none, ev_slot, ev_cst, ev_int, ev_str, ev_bl, ev_non, ev_bin, ev_neg, ev_cmp, ev_cmp2, ev_and, ev_or, ev_not, ev_ite, ev_tup, ev_lst, ev_ix, ev_sl, ev_rev, ev_call, ev_callB, ev_callO, ev_blt, ev_join, ev_comp, ev_comp2, ev_nil, ev_cons, ev_rng, ev_rng2, ev_val, ev_enum, ev_zip, ev_own,
  of_v, of_k, of_t, of_s, ofV_v, ofV_k, ofV_s, ofD_v, ofD_k, ofD_s, ofD_d, sl_v, sl_k, sl_d, slot_s, slot_t, of_d, ofV_d, datS_dat, datS_own, tr_bool, tr_list, tr_own, args_nil, args_cons, pr_slot, pair_of, pair_ofV, pair_ofD, pair_cmp, bin_eq, cmp_v_eq, cmp_k_eq, cmp_t_eq, cmp_s_eq, cmp_d_eq, cmpM_eq,
  own_eq, noo_eq, bi_add, bi_sub, bi_mul, bi_div, bi_mod, bi_addS, cs_eqi, cs_nei, cs_eqs, cs_nes, cs_lt, cs_le, cs_gt, cs_ge, cs_is, cs_isnt, ix_eq, tup_eq, lst_eq, ite_eq, blt1_eq, blt2_eq, b1_lenL, b1_lenO, b1_lenT, b1_lenS, b1_tupO, b1_tupL, b1_tupT, b1_lisO, b1_lisL, b1_lisT, b1_abs, b1_intB, b2_min, b2_max, b2_divmod, cb_eq, co_eq, call_eq, γ0, γs,
  and_one, and_two, or_one, or_two, andt_one, andt_two, ort_one, ort_two, not_eq, sl_eq, rev_eq, join_eq, comp_eq, step_eq, tests_no, tests_one,
  setT, setTs, IT.slots, ITs.slots, wipeE, rng_nat, List.all_cons, List.all_nil, List.cons_append, List.nil_append, List.append_nil, Option.toList_some, Option.toList_none,
  slS_str, slS_lst, slS_tup, op_no, op_so, it_own, it_lst, it_tpl, wk_own', wk_lst, wk_tpl, wk_str, ixS, at0, at1, at2, at3, at4, at5, at6, ix0, ix1, ix2, bi_pow7, bi_pow18, dlt_t, dlt_f, dle_t, dle_f, deq_t, deq_f, nle_t, nlt_t, dnlt_t, dnle_t, Bool.not_true, Bool.not_false, Bool.and_true, Bool.true_and, Bool.and_self, Bool.and_false, List.contains_cons, List.contains_nil, beq_self_eq_true, Nat.reduceBEq, Nat.reduceEqDiff, Bool.or_false, Bool.or_self, Option.bind_some, Option.map_some, if_true, if_false, Bool.false_eq_true, ↓reduceIte,
  List.getElem?_cons_zero, List.getElem?_cons_succ, List.set_cons_zero, List.set_cons_succ, List.length_cons, List.length_nil])

def f_turned_text := fnP [] [] n_turned_text 2 b_turned_text
theorem dj_eq {Γ : Nat → FnE} {Cs : Nat → Option D} {G : List Nat} {i jt jv : Nat} {a b : IE} {E : En} : semS Γ Cs G (.dictJoin i jt jv a b) E = dictJoinM G i jt jv (semE Γ Cs a) (semE Γ Cs b) E := (rfl)
theorem turn_at {beads : Str} (hb : Bd beads) {c : Nat} (hc : c ∈ beads.cps.toList) : turnC beads (turnedB beads) c = some (swapB beads c) := by
  have := (hb.swap c hc).1
  unfold turnC
  rw [show (Sum.inr ⟨#[c]⟩ : Key) = .inr (one c) from rfl, this]
  rfl
theorem turned_ok {m : Nat} {z beads : Str} (hb : Bd beads) (hz : Tx beads m z) (hm : m ≤ 1000) : f_turned_text [.str z, .str beads] = .ok (.dat (.str (turnM beads z))) := by
  obtain ⟨hb2, hb4⟩ := hb.len
  obtain ⟨e1, e2⟩ := hb.back
  obtain ⟨q1, q2⟩ := hb.plain
  have hl : (cutS beads none (some (-2))).length + 1 + 1 ≤ 1000 := by
    rw [cut_len]
    omega
  have ha : argsM [semE (Γof []) (csOf []) (.slot 1), semE (Γof []) (csOf []) (.bin .Add (.bin .Add (.sl (.slot 1) .nil (.cons (.neg (.int 2)) .nil)) (.ix (.slot 1) (.neg (.int 1)))) (.ix (.slot 1) (.neg (.int 2))))] [.dat (.str z), .dat (.str beads), .no, .no] = .ok ([.str beads, .str (turnedB beads)], [.dat (.str z), .dat (.str beads), .no, .no]) := by
    walk_at "e"
    rw [e1]
    walk_at "e"
    have l1 : (cutS beads none (some (-2))).length + (⟨#[backB beads (-1)]⟩ : Str).length ≤ 100000 := by
      show _ + 1 ≤ _
      omega
    rw [bi_addS l1]
    walk_at "e"
    rw [e2]
    walk_at "e"
    have l2 : (cutS beads none (some (-2)) ++ (⟨#[backB beads (-1)]⟩ : Str)).length + (⟨#[backB beads (-2)]⟩ : Str).length ≤ 100000 := by
      rw [app_len]
      show _ + 1 + 1 ≤ _
      omega
    rw [bi_addS l2]
    walk_at "e"
    rfl
  have hall : z.cps.toList.all (fun c => (turnC beads (turnedB beads) c).isSome) = true := List.all_eq_true.mpr fun c hc => by rw [turn_at hb (hz.2 c hc)]; rfl
  have hzl : z.length ≤ 1000 := by rw [hz.1]; exact hm
  refine fnP_ok (E := [.dat (.str z), .dat (.str beads), .no, .no]) (N := n_turned_text) (n := 2) (ds := [.str z, .str beads]) rfl ?_
  show semSs (Γof []) (csOf []) [] b_turned_text [.dat (.str z), .dat (.str beads), .no, .no] = _
  unfold b_turned_text
  refine seq_rt ?_
  rw [dj_eq]
  unfold dictJoinM
  rw [ha, ev_bind]
  show (if asciiS beads && asciiS (turnedB beads) && decide (beads.length ≤ 1000) && decide (2 < 4) && decide (3 < 4) && decide (z.length ≤ 1000) && z.cps.toList.all (fun c => (turnC beads (turnedB beads) c).isSome) && true then _ else Rs.bad) = _
  rw [show asciiS beads = true from q1, show asciiS (turnedB beads) = true from q2, hall, decide_eq_true (show beads.length ≤ 1000 by omega), decide_eq_true hzl]
  have hmap : (z.cps.toList.reverse.map fun c => (turnC beads (turnedB beads) c).getD 0) = z.cps.toList.reverse.map (swapB beads) := List.map_congr_left fun c hc => by rw [turn_at hb (hz.2 c (List.mem_reverse.mp hc))]; rfl
  rw [hmap]
  rfl
end Wq
set_option maxHeartbeats 4000000
namespace Wq
open PySem L2
local macro_rules | `(tactic| walk_at "e") => `(tactic| simp (disch := first | omega | (simp only [List.length_cons, List.length_nil, List.length_map, List.length_append, List.length_reverse]; omega)) only [↓ev_bind, ↓ev_bad, ↓toK, kOk, kBad, out_nx, out_rt, ss0, ss1, s_ret1, sr_cst, sr_int, sr_str, sr_bl, sr_non, sr_bin, sr_neg, sr_cmp, sr_cmp2, sr_bop, sr_not, sr_ite, sr_tup, sr_lst, sr_ix, sr_sl, sr_rev, sr_call, sr_callB, sr_callO, sr_blt, sr_join, sr_comp, sr_comp2, s_retI1, s_exp1, s_set1, s_unp1, s_par21, s_if1, s_app1, s_rev1, s_sto1, s_sto2, s_frz1, lp_rng, lp_val, lp_enum, set_eq, ev_of, ev_none, ev_slot, ev_cst, ev_int, ev_str, ev_bl, ev_non, ev_bin, ev_neg, ev_cmp, ev_cmp2, ev_and, ev_or, ev_not, ev_ite, ev_tup, ev_lst, ev_ix, ev_sl, ev_rev, ev_call, ev_callB, ev_callO, ev_blt, ev_join, ev_comp, ev_comp2, ev_nil, ev_cons, ev_rng, ev_rng2, ev_val, ev_enum, ev_zip, ev_own,
  of_v, of_k, of_t, of_s, ofV_v, ofV_k, ofV_s, ofD_v, ofD_k, ofD_s, ofD_d, sl_v, sl_k, sl_d, slot_s, slot_t, of_d, ofV_d, datS_dat, datS_own, tr_bool, tr_list, tr_own, args_nil, args_cons, pr_slot, pair_of, pair_ofV, pair_ofD, pair_cmp, bin_eq, cmp_v_eq, cmp_k_eq, cmp_t_eq, cmp_s_eq, cmp_d_eq, cmpM_eq,
  own_eq, noo_eq, bi_add, bi_sub, bi_mul, bi_div, bi_mod, bi_addS, bi_addT, bi_addL, cs_eqi, cs_nei, cs_eqs, cs_nes, cs_lt, cs_le, cs_gt, cs_ge, cs_is, cs_isnt, ix_eq, tup_eq, lst_eq, ite_eq, blt1_eq, blt2_eq, b1_lenL, b1_lenO, b1_lenT, b1_lenS, b1_tupO, b1_tupL, b1_tupT, b1_lisO, b1_lisL, b1_lisT, b1_abs, b1_intB, b2_min, b2_max, b2_divmod, cb_eq, co_eq, call_eq, γ0, γs,
  and_one, and_two, or_one, or_two, andt_one, andt_two, ort_one, ort_two, not_eq, sl_eq, rev_eq, join_eq, comp_eq, cown_eq, cut2, step_eq, tests_no, tests_one,
  setT, setTs, IT.slots, ITs.slots, wipeE, rng_nat, List.all_cons, List.all_nil, List.cons_append, List.nil_append, List.append_nil, Option.toList_some, Option.toList_none,
  slS_str, slS_lst, slS_tup, op_no, op_so, it_own, it_lst, it_tpl, wk_own', wk_lst, wk_tpl, wk_str, ixS, at0, at1, at2, at3, at4, at5, at6, ix0, ix1, ix2, bi_pow7, bi_pow18, dlt_t, dlt_f, dle_t, dle_f, deq_t, deq_f, nle_t, nlt_t, dnlt_t, dnle_t, Bool.not_true, Bool.not_false, Bool.and_true, Bool.true_and, Bool.and_self, Bool.and_false, List.contains_cons, List.contains_nil, beq_self_eq_true, Nat.reduceBEq, Nat.reduceEqDiff, Bool.or_false, Bool.or_self, Option.bind_some, Option.map_some, if_true, if_false, Bool.false_eq_true, ↓reduceIte,
  List.getElem?_cons_zero, List.getElem?_cons_succ, List.set_cons_zero, List.set_cons_succ, List.length_cons, List.length_nil])
def f_ends := fnX [.bx (f_take 1), .bx f_of, .bx f_text] [] n_ends 3 b_ends
def endsLoop : ISs := (.cons (.set 5 (.callB 1 0 (.cons (.lst (.cons (.int 9) (.cons (.neg (.int 9)) (.cons (.int 1) (.cons (.neg (.int 1)) (.cons (.int 3) (.cons (.neg (.int 4)) .nil))))))) .nil)))
 (.cons (.freeze 5)
 (.cons (.set 6 (.callB 2 0 (.cons (.slot 1) (.cons (.bin .Add (.int 1) (.callB 0 0 (.cons (.slot 2) .nil))) .nil))))
 (.cons (.freeze 6)
 (.cons (.set 7 (.tup (.cons (.callB 0 0 (.cons (.int 3) .nil)) (.cons (.slot 6) .nil))))
 (.cons (.ifs (.cmp .NotIn (.slot 7) (.comp (.sl (.slot 8) .nil (.cons (.int 2) .nil)) (.nm 8) (.own 3) .nil))
 (.cons (.append 3 (.bin .Add (.slot 7) (.tup (.cons (.slot 5) .nil))))
 .nil)
 .nil)
 .nil))))))
theorem heads_ok {Γ : Nat → FnE} {Cs : Nat → Option D} {beads : Str} {long : Nat} {b x4 x5 x6 x7 : D} {kss : List (List Key)} (hk3 : kss.length ≤ 100) : loopC (stepC (.nm 8) [] (Mn.of (slF (slotM 8) [] [Mn.ofD (.int 2)]))) [8] (kss.map tupK) [] [.own b, .dat (.str beads), .dat (.int (long : Int)), .no, .dat x4, .dat x5, .dat x6, .dat x7, .no] =
    .ok ((kss.map (List.take 2)).map tupK, [.own b, .dat (.str beads), .dat (.int (long : Int)), .no, .dat x4, .dat x5, .dat x6, .dat x7, .no]) := by
  rw [loopC_map (g := fun d => match d with | .tuple ds => some (.tuple (ds.take 2)) | _ => none)]
  · rw [List.nil_append]
    congr 2
    clear hk3
    induction kss with
    | nil => rfl
    | cons k r ih =>
      rw [List.map_cons, List.map_cons, List.map_cons]
      show (.tuple ((k.map kD).take 2) :: _ : List D) = _
      rw [ih, ← List.map_take]
      rfl
  · intro d hd
    obtain ⟨ks, _, rfl⟩ := List.mem_map.mp hd
    refine ⟨[.own b, .dat (.str beads), .dat (.int (long : Int)), .no, .dat x4, .dat x5, .dat x6, .dat x7, .dat (tupK ks)], ?_, rfl, rfl⟩
    show stepC (.nm 8) [] _ (.tuple (ks.map kD)) _ = .ok (some (.tuple ((ks.map kD).take 2)), _)
    unfold tupK
    walk_at "e"
  · rw [List.length_map]
    simp
    omega
theorem ends_turn {n long : Nat} {b : D} {beads : Str} {kss : List (List Key)} {x4 : D} {s5 s6 s7 : Sl} (hbd : Bd beads) (hl1 : 1 ≤ long) (hl2 : long ≤ 100) (hb : Bx n b) (hn : n < 900000000) (hk : ∀ ks ∈ kss, EndK beads long ks) (hk2 : (kss.map (List.take 2)).Nodup) (hk3 : kss.length ≤ 100) :
    ∃ (kss' : List (List Key)) (b' : D) (x5 x6 x7 : D), semSs (Γof [.bx (f_take 1), .bx f_of, .bx f_text]) (csOf []) [0] endsLoop [.own b, .dat (.str beads), .dat (.int (long : Int)), .own (.list (kss.map tupK)), .dat x4, s5, s6, s7, .no] =
      .ok (.nx [.own b', .dat (.str beads), .dat (.int (long : Int)), .own (.list (kss'.map tupK)), .dat x4, .dat x5, .dat x6, .dat x7, .no]) ∧ (∀ ks ∈ kss', EndK beads long ks) ∧ (kss'.map (List.take 2)).Nodup ∧ kss'.length ≤ kss.length + 1 ∧ 1 ≤ kss'.length ∧ Bx (n + 110) b' := by
  obtain ⟨hb2, hb4⟩ := hbd.len
  obtain ⟨wd, b1, h2, h3, h4⟩ := of_list (ds := [.int 9, .int (-9), .int 1, .int (-1), .int 3, .int (-4)]) hb (by omega) (by simp) (by decide)
  obtain ⟨worth, hw, rfl⟩ : ∃ worth : Int, Wr worth ∧ wd = .int worth := by
    have : wd ∈ ([9, -9, 1, -1, 3, -4] : List Int).map PyData.int := h3
    obtain ⟨w, hw, rfl⟩ := List.mem_map.mp this
    exact ⟨w, (show ∀ w ∈ ([9, -9, 1, -1, 3, -4] : List Int), -9 ≤ w ∧ w ≤ 9 ∧ w ≠ 0 by decide) w hw, rfl⟩
  obtain ⟨r, b2, h5, h6, h7⟩ := take_ok (m := 0) (room := (long : Int)) h4 (by omega) (by omega) (by omega)
  obtain ⟨pat, b3, h8, h9, h10⟩ := text_ok (m := 1 + r) (beads := beads) h7 (by omega) (by omega) (by omega) (by omega)
  have e1 : ((1 + r : Nat) : Int) = 1 + (r : Int) := by omega
  rw [e1] at h8
  obtain ⟨side, b4, h11, h12, h13⟩ := take_ok (m := 0) (room := 3) h10 (by omega) (by omega) (by omega)
  have st1 : semS (Γof [.bx (f_take 1), .bx f_of, .bx f_text]) (csOf []) [0] (.set 5 (.callB 1 0 (.cons (.lst (.cons (.int 9) (.cons (.neg (.int 9)) (.cons (.int 1) (.cons (.neg (.int 1)) (.cons (.int 3) (.cons (.neg (.int 4)) .nil))))))) .nil))) [.own b, .dat (.str beads), .dat (.int (long : Int)), .own (.list (kss.map tupK)), .dat x4, s5, s6, s7, .no] = .ok (.nx [.own b1, .dat (.str beads), .dat (.int (long : Int)), .own (.list (kss.map tupK)), .dat x4, .dat (.int worth), s6, s7, .no]) := by
    walk_at "e"
    rw [h2]
    walk_at "e"
  have st3 : semS (Γof [.bx (f_take 1), .bx f_of, .bx f_text]) (csOf []) [0] (.set 6 (.callB 2 0 (.cons (.slot 1) (.cons (.bin .Add (.int 1) (.callB 0 0 (.cons (.slot 2) .nil))) .nil)))) [.own b1, .dat (.str beads), .dat (.int (long : Int)), .own (.list (kss.map tupK)), .dat x4, .dat (.int worth), s6, s7, .no] = .ok (.nx [.own b3, .dat (.str beads), .dat (.int (long : Int)), .own (.list (kss.map tupK)), .dat x4, .dat (.int worth), .dat (.str pat), s7, .no]) := by
    walk_at "e"
    rw [h5]
    walk_at "e"
    rw [h8]
    walk_at "e"
  have st5 : semS (Γof [.bx (f_take 1), .bx f_of, .bx f_text]) (csOf []) [0] (.set 7 (.tup (.cons (.callB 0 0 (.cons (.int 3) .nil)) (.cons (.slot 6) .nil)))) [.own b3, .dat (.str beads), .dat (.int (long : Int)), .own (.list (kss.map tupK)), .dat x4, .dat (.int worth), .dat (.str pat), s7, .no] = .ok (.nx [.own b4, .dat (.str beads), .dat (.int (long : Int)), .own (.list (kss.map tupK)), .dat x4, .dat (.int worth), .dat (.str pat), .dat (.tuple [.int (side : Int), .str pat]), .no]) := by
    walk_at "e"
    rw [h11]
    walk_at "e"
  have ek : EndK beads long [.inl (side : Int), .inr pat, .inl worth] := ⟨side, 1 + r, pat, worth, rfl, by omega, by omega, by omega, h9, hw⟩
  have hs1 : SeqAt.shaped (.tuple [.int (side : Int), .str pat]) = true := (EndK.sd2 (n := 0) hbd.g ek).shaped (by decide)
  have hs2 : SeqAt.shaped (.list ((kss.map (List.take 2)).map tupK)) = true := (Sd.lst (n := 1) fun d hd => by
    obtain ⟨ks, hks, rfl⟩ := List.mem_map.mp hd
    obtain ⟨k2, hk2', rfl⟩ := List.mem_map.mp hks
    exact EndK.sd2 (n := 0) hbd.g (hk k2 hk2')).shaped (by decide)
  have hin := any_tupK (kss := kss.map (List.take 2)) (a := [.inl (side : Int), .inr pat]) fun ks hks => by
    obtain ⟨k2, hk2', rfl⟩ := List.mem_map.mp hks
    obtain ⟨s, m, p, v, rfl, _⟩ := hk k2 hk2'
    rfl
  have go : ∃ kss' : List (List Key), semS (Γof [.bx (f_take 1), .bx f_of, .bx f_text]) (csOf []) [0] (.ifs (.cmp .NotIn (.slot 7) (.comp (.sl (.slot 8) .nil (.cons (.int 2) .nil)) (.nm 8) (.own 3) .nil)) (.cons (.append 3 (.bin .Add (.slot 7) (.tup (.cons (.slot 5) .nil)))) .nil) .nil)
      [.own b4, .dat (.str beads), .dat (.int (long : Int)), .own (.list (kss.map tupK)), .dat x4, .dat (.int worth), .dat (.str pat), .dat (.tuple [.int (side : Int), .str pat]), .no] =
      .ok (.nx [.own b4, .dat (.str beads), .dat (.int (long : Int)), .own (.list (kss'.map tupK)), .dat x4, .dat (.int worth), .dat (.str pat), .dat (.tuple [.int (side : Int), .str pat]), .no]) ∧ (∀ ks ∈ kss', EndK beads long ks) ∧ (kss'.map (List.take 2)).Nodup ∧ kss'.length ≤ kss.length + 1 ∧ 1 ≤ kss'.length := by
    by_cases hm : ([.inl (side : Int), .inr pat] : List Key) ∈ kss.map (List.take 2)
    · have ha : (((kss.map (List.take 2)).map tupK).any fun z => PyData.eqv z (.tuple [.int (side : Int), .str pat])) = true := hin.mpr hm
      refine ⟨kss, ?_, hk, hk2, by omega, ?_⟩
      · walk_at "e"
        rw [heads_ok (Γ := Γof []) (Cs := csOf []) hk3]
        walk_at "e"
        rw [cs_notin rfl rfl hs1 hs2, ha]
        walk_at "e"
      · obtain ⟨k, hk, _⟩ := List.mem_map.mp hm
        exact List.length_pos_of_mem hk
    · have ha : (((kss.map (List.take 2)).map tupK).any fun z => PyData.eqv z (.tuple [.int (side : Int), .str pat])) = false := by
        cases hq : (((kss.map (List.take 2)).map tupK).any fun z => PyData.eqv z (.tuple [.int (side : Int), .str pat])) with
        | false => rfl
        | true => exact absurd (hin.mp hq) hm
      refine ⟨kss ++ [[.inl (side : Int), .inr pat, .inl worth]], ?_, ?_, ?_, by simp, by simp⟩
      · walk_at "e"
        rw [heads_ok (Γ := Γof []) (Cs := csOf []) hk3]
        walk_at "e"
        rw [cs_notin rfl rfl hs1 hs2, ha]
        walk_at "e"
        rw [List.map_append]
        rfl
      · intro ks hks
        rcases List.mem_append.mp hks with h | h
        · exact hk ks h
        · rw [List.mem_singleton.mp h]; exact ek
      · rw [List.map_append]
        refine List.nodup_append.mpr ⟨hk2, by simp, fun x hx y hy e => ?_⟩
        have hy' : y = [.inl (side : Int), .inr pat] := by simpa using hy
        rw [hy'] at e
        subst e
        exact hm hx
  obtain ⟨kss', g1, g2, g3, g4, g5⟩ := go
  refine ⟨kss', b4, .int worth, .str pat, .tuple [.int (side : Int), .str pat], ?_, g2, g3, g4, g5, h13.up (by omega)⟩
  unfold endsLoop
  refine seq_nx st1 (seq_nx (E1 := [.own b1, .dat (.str beads), .dat (.int (long : Int)), .own (.list (kss.map tupK)), .dat x4, .dat (.int worth), s6, s7, .no]) (by walk_at "e") (seq_nx st3 (seq_nx (E1 := [.own b3, .dat (.str beads), .dat (.int (long : Int)), .own (.list (kss.map tupK)), .dat x4, .dat (.int worth), .dat (.str pat), s7, .no]) (by walk_at "e") (seq_nx st5 (seq_nx g1 ?_)))))
  rfl
end Wq
set_option maxHeartbeats 4000000
namespace Wq
open PySem L2
local macro_rules | `(tactic| walk_at "e") => `(tactic| simp (disch := first | omega | (simp only [List.length_cons, List.length_nil, List.length_map, List.length_append, List.length_reverse]; omega)) only [↓ev_bind, ↓ev_bad, ↓toK, kOk, kBad, out_nx, out_rt, ss0, ss1, s_ret1, sr_cst, sr_int, sr_str, sr_bl, sr_non, sr_bin, sr_neg, sr_cmp, sr_cmp2, sr_bop, sr_not, sr_ite, sr_tup, sr_lst, sr_ix, sr_sl, sr_rev, sr_call, sr_callB, sr_callO, sr_blt, sr_join, sr_comp, sr_comp2, s_retI1, s_exp1, s_set1, s_unp1, s_par21, s_if1, s_app1, s_rev1, s_sto1, s_sto2, s_frz1, lp_rng, lp_val, lp_enum, set_eq, ev_of, ev_none, ev_slot, ev_cst, ev_int, ev_str, ev_bl, ev_non, ev_bin, ev_neg, ev_cmp, ev_cmp2, ev_and, ev_or, ev_not, ev_ite, ev_tup, ev_lst, ev_ix, ev_sl, ev_rev, ev_call, ev_callB, ev_callO, ev_blt, ev_join, ev_comp, ev_comp2, ev_nil, ev_cons, ev_rng, ev_rng2, ev_val, ev_enum, ev_zip, ev_own,
  of_v, of_k, of_t, of_s, ofV_v, ofV_k, ofV_s, ofD_v, ofD_k, ofD_s, ofD_d, sl_v, sl_k, sl_d, slot_s, slot_t, of_d, ofV_d, datS_dat, datS_own, tr_bool, tr_list, tr_own, args_nil, args_cons, pr_slot, pair_of, pair_ofV, pair_ofD, pair_cmp, bin_eq, cmp_v_eq, cmp_k_eq, cmp_t_eq, cmp_s_eq, cmp_d_eq, cmpM_eq,
  own_eq, noo_eq, bi_add, bi_sub, bi_mul, bi_div, bi_mod, bi_addS, bi_addT, bi_addL, cs_eqi, cs_nei, cs_eqs, cs_nes, cs_lt, cs_le, cs_gt, cs_ge, cs_is, cs_isnt, ix_eq, tup_eq, lst_eq, ite_eq, blt1_eq, blt2_eq, b1_lenL, b1_lenO, b1_lenT, b1_lenS, b1_tupO, b1_tupL, b1_tupT, b1_lisO, b1_lisL, b1_lisT, b1_abs, b1_intB, b2_min, b2_max, b2_divmod, cb_eq, co_eq, call_eq, γ0, γs,
  and_one, and_two, or_one, or_two, andt_one, andt_two, ort_one, ort_two, not_eq, sl_eq, rev_eq, join_eq, comp_eq, cown_eq, cut2, step_eq, tests_no, tests_one,
  setT, setTs, IT.slots, ITs.slots, wipeE, rng_nat, List.all_cons, List.all_nil, List.cons_append, List.nil_append, List.append_nil, Option.toList_some, Option.toList_none,
  slS_str, slS_lst, slS_tup, op_no, op_so, it_own, it_lst, it_tpl, wk_own', wk_lst, wk_tpl, wk_str, ixS, at0, at1, at2, at3, at4, at5, at6, ix0, ix1, ix2, bi_pow7, bi_pow18, dlt_t, dlt_f, dle_t, dle_f, deq_t, deq_f, nle_t, nlt_t, dnlt_t, dnle_t, Bool.not_true, Bool.not_false, Bool.and_true, Bool.true_and, Bool.and_self, Bool.and_false, List.contains_cons, List.contains_nil, beq_self_eq_true, Nat.reduceBEq, Nat.reduceEqDiff, Bool.or_false, Bool.or_self, Option.bind_some, Option.map_some, if_true, if_false, Bool.false_eq_true, ↓reduceIte,
  List.getElem?_cons_zero, List.getElem?_cons_succ, List.set_cons_zero, List.set_cons_succ, List.length_cons, List.length_nil])

theorem ends_ok {n long : Nat} {b : D} {beads : Str} (hbd : Bd beads) (hl1 : 1 ≤ long) (hl2 : long ≤ 100) (hb : Bx n b) (hn : n < 800000000) : ∃ (kss : List (List Key)) (b' : D), f_ends b [.str beads, .int (long : Int)] = .ok (.dat (.tuple (kss.map tupK)), b') ∧ EndsK beads long kss ∧ Bx (n + 500) b' := by
  obtain ⟨r, b1, h2, h3, h4⟩ := take_ok (m := 0) (room := 4) hb (by omega) (by omega) (by omega)
  obtain ⟨E', g1, kss, b2, s4, s5, s6, s7, rfl, g2, g3, g4, g5, g7, g6⟩ := loopF_inv (tg := .nm 4) (body := semSs (Γof [.bx (f_take 1), .bx f_of, .bx f_text]) (csOf []) [0] endsLoop) (fun t E => ∃ (kss : List (List Key)) (b' : D) (s4 s5 s6 s7 : Sl), E = [.own b', .dat (.str beads), .dat (.int (long : Int)), .own (.list (kss.map tupK)), s4, s5, s6, s7, .no] ∧ Nw s4 ∧ (∀ ks ∈ kss, EndK beads long ks) ∧ (kss.map (List.take 2)).Nodup ∧ kss.length ≤ t ∧ (1 ≤ t → 1 ≤ kss.length) ∧ Bx (n + 1 + 110 * t) b')
    (ds := intsD 0 (1 + r)) (t := 0) (E := [.own b1, .dat (.str beads), .dat (.int (long : Int)), .own (.list []), .no, .no, .no, .no, .no]) ⟨[], b1, .no, .no, .no, .no, rfl, Nw.no, (fun _ h => by cases h), .nil, Nat.le_refl _, (fun h => by omega), h4⟩ (by
      rintro t d E hd ⟨kss, b2, s4, s5, s6, s7, rfl, k1, k2, k3, k4, k6, k5⟩
      obtain ⟨ht, rfl⟩ := intsD_get hd
      obtain ⟨kss', b3, x5, x6, x7, q1, q2, q3, q4, q6, q5⟩ := ends_turn (x4 := .int (0 + (t : Int))) (s5 := s5) (s6 := s6) (s7 := s7) hbd hl1 hl2 k5 (by omega) k2 k3 (by omega)
      refine ⟨_, _, ?_, q1, kss', b3, _, _, _, _, rfl, Nw.dat, q2, q3, by omega, fun _ => q6, q5.up (by omega)⟩
      cases s4 with
      | own d => exact absurd rfl (k1 d)
      | _ => rfl)
  rw [intsD_len] at g5 g6 g7
  refine ⟨sortK kss, b2, ?_, ⟨?_, fun ks hks => g3 ks ((sortK_perm kss).mem_iff.mp hks), ((sortK_perm kss).map _).nodup_iff.mpr g4, sortK_pw kss⟩, g6.up (by omega)⟩
  · have hsig : sigOk kss = true := by
      cases kss with
      | nil => rfl
      | cons k r =>
        have e1 := (g3 k List.mem_cons_self).sig
        simp only [sigOk, Bool.and_eq_true, Bool.not_eq_true', List.all_eq_true, decide_eq_true_eq]
        refine ⟨?_, fun x hx => by rw [(g3 x (List.mem_cons_of_mem _ hx)).sig, e1]⟩
        cases k with
        | nil => cases e1
        | cons _ _ => rfl
    refine fnX_ok (E := [.own b2, .dat (.str beads), .dat (.int (long : Int)), .own (.list (kss.map tupK)), s4, s5, s6, s7, .no]) (N := n_ends) (n := 3) (ds := [.str beads, .int (long : Int)]) rfl ?_ rfl
    show semSs _ _ _ b_ends [.own b, .dat (.str beads), .dat (.int (long : Int)), .no, .no, .no, .no, .no, .no] = _
    unfold b_ends
    refine seq_nx (E1 := [.own b, .dat (.str beads), .dat (.int (long : Int)), .own (.list []), .no, .no, .no, .no, .no]) (by walk_at "e") ?_
    refine seq_nx (E1 := [.own b2, .dat (.str beads), .dat (.int (long : Int)), .own (.list (kss.map tupK)), s4, s5, s6, s7, .no]) ?_ ?_
    · rw [lp_rng]
      walk_at "e"
      rw [h2]
      walk_at "e"
      rw [show (1 : Int) + (r : Int) = ((1 + r : Nat) : Int) by omega, rng_nat (by omega)]
      walk_at "e"
      exact g1
    · walk_at "e"
      rw [b1_sortO hsig]
      walk_at "e"
  · rw [(sortK_perm kss).length_eq]
    omega
end Wq
set_option maxHeartbeats 4000000
namespace Wq
open PySem L2
local macro_rules | `(tactic| walk_at "e") => `(tactic| simp (disch := first | omega | (simp only [List.length_cons, List.length_nil, List.length_map, List.length_append, List.length_reverse]; omega)) only [↓ev_bind, ↓ev_bad, ↓toK, kOk, kBad, out_nx, out_rt, ss0, ss1, s_ret1, sr_cst, sr_int, sr_str, sr_bl, sr_non, sr_bin, sr_neg, sr_cmp, sr_cmp2, sr_bop, sr_not, sr_ite, sr_tup, sr_lst, sr_ix, sr_sl, sr_rev, sr_call, sr_callB, sr_callO, sr_blt, sr_join, sr_comp, sr_comp2, s_retI1, s_exp1, s_set1, s_unp1, s_par21, s_if1, s_app1, s_rev1, s_sto1, s_sto2, s_frz1, lp_rng, lp_val, lp_enum, set_eq, ev_of, ev_none, ev_slot, ev_cst, ev_int, ev_str, ev_bl, ev_non, ev_bin, ev_neg, ev_cmp, ev_cmp2, ev_and, ev_or, ev_not, ev_ite, ev_tup, ev_lst, ev_ix, ev_sl, ev_rev, ev_call, ev_callB, ev_callO, ev_blt, ev_join, ev_comp, ev_comp2, ev_nil, ev_cons, ev_rng, ev_rng2, ev_val, ev_enum, ev_zip, ev_own,
  of_v, of_k, of_t, of_s, ofV_v, ofV_k, ofV_s, ofD_v, ofD_k, ofD_s, ofD_d, sl_v, sl_k, sl_d, slot_s, slot_t, of_d, ofV_d, datS_dat, datS_own, tr_bool, tr_list, tr_own, args_nil, args_cons, pr_slot, pair_of, pair_ofV, pair_ofD, pair_cmp, bin_eq, cmp_v_eq, cmp_k_eq, cmp_t_eq, cmp_s_eq, cmp_d_eq, cmpM_eq,
  own_eq, noo_eq, bi_add, bi_sub, bi_mul, bi_div, bi_mod, bi_addS, bi_addT, bi_addL, cs_eqi, cs_nei, cs_eqs, cs_nes, cs_lt, cs_le, cs_gt, cs_ge, cs_is, cs_isnt, ix_eq, tup_eq, lst_eq, ite_eq, blt1_eq, blt2_eq, b1_lenL, b1_lenO, b1_lenT, b1_lenS, b1_tupO, b1_tupL, b1_tupT, b1_lisO, b1_lisL, b1_lisT, b1_abs, b1_intB, b2_min, b2_max, b2_divmod, cb_eq, co_eq, call_eq, γ0, γs,
  and_one, and_two, or_one, or_two, andt_one, andt_two, ort_one, ort_two, not_eq, sl_eq, rev_eq, join_eq, comp_eq, cown_eq, cut2, step_eq, tests_no, tests_one,
  setT, setTs, IT.slots, ITs.slots, wipeE, rng_nat, List.all_cons, List.all_nil, List.cons_append, List.nil_append, List.append_nil, Option.toList_some, Option.toList_none,
  slS_str, slS_lst, slS_tup, op_no, op_so, it_own, it_lst, it_tpl, wk_own', wk_lst, wk_tpl, wk_str, ixS, at0, at1, at2, at3, at4, at5, at6, ix0, ix1, ix2, bi_pow7, bi_pow18, dlt_t, dlt_f, dle_t, dle_f, deq_t, deq_f, nle_t, nlt_t, dnlt_t, dnle_t, Bool.not_true, Bool.not_false, Bool.and_true, Bool.true_and, Bool.and_self, Bool.and_false, List.contains_cons, List.contains_nil, beq_self_eq_true, Nat.reduceBEq, Nat.reduceEqDiff, Bool.or_false, Bool.or_self, Option.bind_some, Option.map_some, if_true, if_false, Bool.false_eq_true, ↓reduceIte,
  List.getElem?_cons_zero, List.getElem?_cons_succ, List.set_cons_zero, List.set_cons_succ, List.length_cons, List.length_nil])

def g_any_game : List FnE := [.bx f_of, .bx (f_take 1), .bx f_rules, .pu f_turned_text, .bx f_ends]
def f_any_game := fnX g_any_game [] n_any_game 3 b_any_game
theorem game_turn {long : Nat} {beads : Str} {kss : List (List Key)} (hbd : Bd beads) (hl : long ≤ 100) (hk : RulesK beads long kss) {b : D} {d1 d2 d3 d6 d7 : D} {s4 : Sl} :
    loopC (stepC (.tp (.cons (.nm 9) (.cons (.nm 10) .nil))) [] (Mn.ofV (tupF [Mn.of (callM (.pu f_turned_text) [slotM 9, slotM 5]), Mn.of (callM (.pu f_turned_text) [slotM 10, slotM 5])]))) [9, 10] (kss.map tupK) [] [.own b, .dat d1, .dat d2, .dat d3, s4, .dat (.str beads), .dat d6, .dat d7, .dat (.tuple (kss.map tupK)), .no, .no] =
      .ok ((kss.map (turnK beads)).map tupK, [.own b, .dat d1, .dat d2, .dat d3, s4, .dat (.str beads), .dat d6, .dat d7, .dat (.tuple (kss.map tupK)), .no, .no]) := by
  rw [loopC_map (g := fun d => match d with | .tuple [.str x, .str y] => some (.tuple [.str (turnM beads x), .str (turnM beads y)]) | _ => none)]
  · rw [List.nil_append]
    congr 2
    have he := hk.each
    clear hl hk
    induction kss with
    | nil => rfl
    | cons k r ih =>
      obtain ⟨x, y, m, rfl, _⟩ := he k List.mem_cons_self
      rw [List.map_cons, List.map_cons, List.map_cons]
      show (.tuple [.str (turnM beads x), .str (turnM beads y)] :: _ : List D) = _
      rw [ih fun ks h => he ks (List.mem_cons_of_mem _ h)]
      rfl
  · intro d hd
    obtain ⟨ks, hks, rfl⟩ := List.mem_map.mp hd
    obtain ⟨x, y, m, rfl, hm1, hm2, hm3, hx, hy, _⟩ := hk.each ks hks
    refine ⟨[.own b, .dat d1, .dat d2, .dat d3, s4, .dat (.str beads), .dat d6, .dat d7, .dat (.tuple (kss.map tupK)), .dat (.str x), .dat (.str y)], ?_, rfl, rfl⟩
    show stepC _ _ _ (.tuple [.str x, .str y]) _ = .ok (some (.tuple [.str (turnM beads x), .str (turnM beads y)]), _)
    generalize hrow : (PyData.tuple (kss.map tupK)) = row
    walk_at "e"
    rw [turned_ok hbd hx (by omega)]
    walk_at "e"
    rw [turned_ok hbd hy (by omega)]
    walk_at "e"
  · have := hk.few
    simp
    omega
theorem game_ok {n longest : Nat} {b : D} {name : Str} (hl1 : 2 ≤ longest) (hl2 : longest ≤ 100) (hb : Bx n b) (hn : n < 700000000) : ∃ (g : Gm) (b' : D), f_any_game b [.str name, .int (longest : Int)] = .ok (.dat (.tuple (gameL name g)), b') ∧ GmOk longest g ∧ Bx (n + 1000) b' := by
  obtain ⟨bd, b1, h2, h3, h4⟩ := of_list (ds := [.str (Str.ofString ".xo"), .str (Str.ofString ".xo"), .str (Str.ofString ".x"), .str (Str.ofString "x.o"), .str (Str.ofString ".abz")]) hb (by omega) (by simp) (by decide)
  obtain ⟨beads, hbd, rfl⟩ : ∃ beads, Bd beads ∧ bd = .str beads := by
    have h3' : bd = .str (Str.ofString ".xo") ∨ bd = .str (Str.ofString ".x") ∨ bd = .str (Str.ofString "x.o") ∨ bd = .str (Str.ofString ".abz") := by
      simp only [List.mem_cons, List.not_mem_nil, or_false] at h3
      rcases h3 with h | h | h | h | h
      · exact .inl h
      · exact .inl h
      · exact .inr (.inl h)
      · exact .inr (.inr (.inl h))
      · exact .inr (.inr (.inr h))
    rcases h3' with h | h | h | h
    · exact ⟨_, by unfold Bd; simp, h⟩
    · exact ⟨_, by unfold Bd; simp, h⟩
    · exact ⟨_, by unfold Bd; simp, h⟩
    · exact ⟨_, by unfold Bd; simp, h⟩
  obtain ⟨r, b2, h5, h6, h7⟩ := take_ok (m := 0) (room := (longest : Int) - 1) h4 (by omega) (by omega) (by omega)
  obtain ⟨sd, b3, h8, h9, h10⟩ := of_list (ds := [.str (Str.ofString "line"), .str (Str.ofString "ring")]) h7 (by omega) (by simp) (by decide)
  obtain ⟨shape, hsh, rfl⟩ : ∃ shape, (shape = lineS ∨ shape = ringS) ∧ sd = .str shape := by
    simp only [List.mem_cons, List.not_mem_nil, or_false] at h9
    rcases h9 with h | h
    · exact ⟨_, .inl rfl, h⟩
    · exact ⟨_, .inr rfl, h⟩
  have hlo : ((2 + r : Nat) : Int) = 2 + (r : Int) := by omega
  obtain ⟨k1, b4, h11, h12, h13⟩ := rules_ok (long := 2 + r) hbd (by omega) (by omega) h10 (by omega)
  obtain ⟨k2, b5, h14, h15, h16⟩ := rules_ok (long := 2 + r) hbd (by omega) (by omega) h13 (by omega)
  obtain ⟨c, b6, h17, h18, h19⟩ := take_ok (m := 0) (room := 3) h16 (by omega) (by omega) (by omega)
  obtain ⟨w1, b7, h20, h21, h22⟩ := of_list (ds := [.int 0, .int 9, .int (-9), .int (-2)]) h19 (by omega) (by simp) (by decide)
  obtain ⟨w2, b8, h23, h24, h25⟩ := of_list (ds := [.int 0, .int (-9), .int 9, .int 2]) h22 (by omega) (by simp) (by decide)
  obtain ⟨ke, b9, h26, h27, h28⟩ := ends_ok (long := 2 + r) hbd (by omega) (by omega) h25 (by omega)
  rw [hlo] at h11 h14 h26
  obtain ⟨v1, hv1, rfl⟩ : ∃ v : Int, v ∈ ([0, 9, -9, -2] : List Int) ∧ w1 = .int v := by
    have : w1 ∈ ([0, 9, -9, -2] : List Int).map PyData.int := h21
    obtain ⟨v, hv, rfl⟩ := List.mem_map.mp this
    exact ⟨v, hv, rfl⟩
  obtain ⟨v2, hv2, rfl⟩ : ∃ v : Int, v ∈ ([0, -9, 9, 2] : List Int) ∧ w2 = .int v := by
    have : w2 ∈ ([0, -9, 9, 2] : List Int).map PyData.int := h24
    obtain ⟨v, hv, rfl⟩ := List.mem_map.mp this
    exact ⟨v, hv, rfl⟩
  have fl := h12.few
  obtain ⟨k3, hk3, st5⟩ : ∃ k3, RulesK beads (2 + r) k3 ∧ semS (Γof g_any_game) (csOf []) [0] (.ifs (.cmp .Eq (.callB 1 0 (.cons (.int 3) .nil)) (.int 0))
      (.cons (.set 3 (.blt .tuple (.cons (.blt .sorted (.cons (.comp (.tup (.cons (.call 3 (.cons (.slot 9) (.cons (.slot 5) .nil))) (.cons (.call 3 (.cons (.slot 10) (.cons (.slot 5) .nil))) .nil))) (.tp (.cons (.nm 9) (.cons (.nm 10) .nil))) (.val (.slot 8)) .nil) .nil)) .nil))) .nil) .nil)
      [.own b5, .dat (.str name), .dat (.int (longest : Int)), .dat (.tuple (k2.map tupK)), .no, .dat (.str beads), .dat (.int (2 + (r : Int))), .dat (.str shape), .dat (.tuple (k1.map tupK)), .no, .no] =
      .ok (.nx [.own b6, .dat (.str name), .dat (.int (longest : Int)), .dat (.tuple (k3.map tupK)), .no, .dat (.str beads), .dat (.int (2 + (r : Int))), .dat (.str shape), .dat (.tuple (k1.map tupK)), .no, .no]) := by
    unfold g_any_game
    by_cases hc : c = 0
    · have hke : ∀ ks ∈ k1.map (turnK beads), RuleK beads (2 + r) ks := fun ks hks => by
        obtain ⟨k0, hk0, rfl⟩ := List.mem_map.mp hks
        exact (h12.each k0 hk0).turn hbd
      have hsig : sigOk (k1.map (turnK beads)) = true := by
        cases hq : k1.map (turnK beads) with
        | nil => rfl
        | cons k r =>
          rw [hq] at hke
          have e1 := (hke k List.mem_cons_self).sig
          simp only [sigOk, Bool.and_eq_true, Bool.not_eq_true', List.all_eq_true, decide_eq_true_eq]
          refine ⟨?_, fun x hx => by rw [(hke x (List.mem_cons_of_mem _ hx)).sig, e1]⟩
          cases k with
          | nil => cases e1
          | cons _ _ => rfl
      refine ⟨sortK (k1.map (turnK beads)), ⟨?_, fun ks hks => hke ks ((sortK_perm _).mem_iff.mp hks), (sortK_perm _).nodup_iff.mpr (nodup_map_on h12.nodup fun x hx y hy e => turnK_inj hbd (h12.each x hx) (h12.each y hy) e), sortK_pw _⟩, ?_⟩
      · rw [(sortK_perm _).length_eq, List.length_map]
        exact fl
      · walk_at "e"
        rw [h17]
        walk_at "e"
        rw [game_turn hbd (by omega) h12]
        walk_at "e"
        rw [b1_sortO hsig]
        walk_at "e"
    · refine ⟨k2, h15, ?_⟩
      walk_at "e"
      rw [h17]
      walk_at "e"
  refine ⟨⟨shape, beads, 2 + r, k1, k3, ke, v1, v2⟩, b9, ?_, ⟨hsh, hbd.g, by show 2 ≤ 2 + r; omega, by show 2 + r ≤ longest; omega, h12, hk3, h27, (show ∀ v ∈ ([0, 9, -9, -2] : List Int), -9 ≤ v ∧ v ≤ 9 by decide) v1 hv1, (show ∀ v ∈ ([0, -9, 9, 2] : List Int), -9 ≤ v ∧ v ≤ 9 by decide) v2 hv2⟩, h28.up (by omega)⟩
  refine fnX_ok (E := [.own b9, .dat (.str name), .dat (.int (longest : Int)), .dat (.tuple (k3.map tupK)), .dat (.tuple [.int v1, .int v2]), .dat (.str beads), .dat (.int (2 + (r : Int))), .dat (.str shape), .dat (.tuple (k1.map tupK)), .no, .no]) (N := n_any_game) (n := 3) (ds := [.str name, .int (longest : Int)]) rfl ?_ rfl
  show semSs (Γof g_any_game) (csOf []) [0] b_any_game [.own b, .dat (.str name), .dat (.int (longest : Int)), .no, .no, .no, .no, .no, .no, .no, .no] = _
  unfold b_any_game
  refine seq_nx (E1 := [.own b2, .dat (.str name), .dat (.int (longest : Int)), .no, .no, .dat (.str beads), .dat (.int (2 + (r : Int))), .no, .no, .no, .no]) ?_ ?_
  · unfold g_any_game
    walk_at "e"
    rw [h2]
    walk_at "e"
    rw [h5]
    walk_at "e"
  refine seq_nx (E1 := [.own b4, .dat (.str name), .dat (.int (longest : Int)), .no, .no, .dat (.str beads), .dat (.int (2 + (r : Int))), .dat (.str shape), .dat (.tuple (k1.map tupK)), .no, .no]) ?_ ?_
  · unfold g_any_game
    walk_at "e"
    rw [h8]
    walk_at "e"
    rw [h11]
    walk_at "e"
  refine seq_nx (E1 := [.own b4, .dat (.str name), .dat (.int (longest : Int)), .no, .no, .dat (.str beads), .dat (.int (2 + (r : Int))), .dat (.str shape), .dat (.tuple (k1.map tupK)), .no, .no]) (by walk_at "e") ?_
  refine seq_nx (E1 := [.own b5, .dat (.str name), .dat (.int (longest : Int)), .dat (.tuple (k2.map tupK)), .no, .dat (.str beads), .dat (.int (2 + (r : Int))), .dat (.str shape), .dat (.tuple (k1.map tupK)), .no, .no]) ?_ ?_
  · unfold g_any_game
    walk_at "e"
    rw [h14]
    walk_at "e"
  refine seq_nx (E1 := [.own b5, .dat (.str name), .dat (.int (longest : Int)), .dat (.tuple (k2.map tupK)), .no, .dat (.str beads), .dat (.int (2 + (r : Int))), .dat (.str shape), .dat (.tuple (k1.map tupK)), .no, .no]) (by walk_at "e") ?_
  refine seq_nx st5 ?_
  refine seq_nx (E1 := [.own b8, .dat (.str name), .dat (.int (longest : Int)), .dat (.tuple (k3.map tupK)), .dat (.tuple [.int v1, .int v2]), .dat (.str beads), .dat (.int (2 + (r : Int))), .dat (.str shape), .dat (.tuple (k1.map tupK)), .no, .no]) ?_ ?_
  · unfold g_any_game
    walk_at "e"
    rw [h20]
    walk_at "e"
    rw [h23]
    walk_at "e"
  refine seq_rt ?_
  unfold g_any_game
  walk_at "e"
  rw [h26]
  walk_at "e"
  unfold gameL
  rw [← hlo]
end Wq
set_option maxHeartbeats 4000000
namespace Wq
open PySem L2
def rowQ (l : Bool) (ks : List Key) : D := sq l (ks.map kD)
def gameQ (l : Bool) (name : Str) (g : Gm) : List D := [.str name, .str g.shape, .str g.beads, .int (g.long : Int), sq l [sq l (g.r1.map (rowQ l)), sq l (g.r2.map (rowQ l))], sq l (g.ends.map (rowQ l)), sq l [.int g.s1, .int g.s2]]
theorem gameQ_f (name : Str) (g : Gm) : gameQ false name g = gameL name g := rfl
theorem rowQ_t (ks : List Key) : listsM (tupK ks) = rowQ true ks := by
  show PyData.list (listsAll (ks.map kD)) = PyData.list (ks.map kD)
  rw [listsAll_map, List.map_map]
  congr 1
  apply List.map_congr_left
  intro k _
  cases k <;> rfl
theorem rows_t (kss : List (List Key)) : listsM (.tuple (kss.map tupK)) = sq true (kss.map (rowQ true)) := by
  show PyData.list (listsAll (kss.map tupK)) = PyData.list (kss.map (rowQ true))
  rw [listsAll_map, List.map_map]
  congr 1
  apply List.map_congr_left
  intro ks _
  exact rowQ_t ks
theorem gameQ_t (name : Str) (g : Gm) : listsM (.tuple (gameL name g)) = sq true (gameQ true name g) := by
  show PyData.list (listsAll (gameL name g)) = PyData.list (gameQ true name g)
  congr 1
  rw [listsAll_map]
  show [PyData.str name, .str g.shape, .str g.beads, .int (g.long : Int), listsM (.tuple [.tuple (g.r1.map tupK), .tuple (g.r2.map tupK)]), listsM (.tuple (g.ends.map tupK)), listsM (.tuple [.int g.s1, .int g.s2])] = _
  have e : listsM (.tuple [.tuple (g.r1.map tupK), .tuple (g.r2.map tupK)]) = sq true [sq true (g.r1.map (rowQ true)), sq true (g.r2.map (rowQ true))] := by
    show PyData.list [listsM (.tuple (g.r1.map tupK)), listsM (.tuple (g.r2.map tupK))] = _
    rw [rows_t, rows_t]
    rfl
  rw [e, rows_t]
  rfl
theorem items_sq {l : Bool} {ds : List D} : ItemsD (sq l ds) ds := by
  cases l
  · exact .tup
  · exact .lst
def rulesOf (g : Gm) (side : Nat) : List (List Key) := if side = 0 then g.r1 else g.r2
theorem rulesOf_at {l : Bool} {g : Gm} {side : Nat} (h : side < 2) : [sq l (g.r1.map (rowQ l)), sq l (g.r2.map (rowQ l))][side]? = some (sq l ((rulesOf g side).map (rowQ l))) := by
  have : side = 0 ∨ side = 1 := by omega
  rcases this with rfl | rfl <;> rfl
def mv (p : Nat) (a b : Str) : List Key := [.inl (p : Int), .inr a, .inr b]
def ruleMoves (line : Bool) (row : Str) : List Key → List (List Key)
  | [.inr a, .inr b] => (placesM line row a).map fun p : Nat => mv p a b
  | _ => []
def movesM (g : Gm) (side : Nat) (row : Str) : List (List Key) := (rulesOf g side).flatMap (ruleMoves (decide (g.shape = lineS)) row)
theorem rulesOf_each {longest : Nat} {g : Gm} {side : Nat} (h : GmOk longest g) : (∀ ks ∈ rulesOf g side, RuleK g.beads g.long ks) ∧ (rulesOf g side).length ≤ 6 := by
  unfold rulesOf
  split
  · exact ⟨h.r1.each, h.r1.few⟩
  · exact ⟨h.r2.each, h.r2.few⟩
theorem places_few (line : Bool) (row a : Str) : (placesM line row a).length ≤ row.length := by
  have := List.length_filter_le (fun p => standsM line row a p) (List.range row.length)
  rw [List.length_range] at this
  exact this
theorem flat_few {f : List Key → List (List Key)} {n : Nat} : ∀ {kss : List (List Key)}, (∀ ks ∈ kss, (f ks).length ≤ n) → (kss.flatMap f).length ≤ kss.length * n
  | [], _ => Nat.zero_le _
  | k :: r, h => by
    rw [List.flatMap_cons, List.length_append, List.length_cons, Nat.succ_mul]
    have h1 := h k (List.mem_cons_self ..)
    have h2 := flat_few (kss := r) fun ks hk => h ks (List.mem_cons_of_mem _ hk)
    omega
def StAt (ds : List D) (l l2 : Bool) (longest : Nat) (name : Str) (g : Gm) (side : Nat) (row : Str) : Prop := ds = [sq l (gameQ l name g), sq l2 [.int (side : Int), .str row]] ∧ GmOk longest g ∧ longest ≤ 100 ∧ side < 2 ∧ Tx g.beads g.long row
def endOne (line : Bool) (side : Nat) (row : Str) : List Key → List Int
  | [.inl who, .inr pat, .inl worth] => if ((([(side : Int), 2] : List Int).any fun n => decide (n = who)) && !(placesM line row pat).isEmpty) = true then [worth] else []
  | _ => []
def worthsM (g : Gm) (side : Nat) (row : Str) : List Int := g.ends.flatMap (endOne (decide (g.shape = lineS)) side row)
def clampM (i : Int) : Int := if (if i < 9 then i else 9) > -9 then (if i < 9 then i else 9) else -9
def stuckM (g : Gm) (side : Nat) : Int := if side = 0 then g.s1 else g.s2
def endM (g : Gm) (side : Nat) (row : Str) : D := if 0 < (worthsM g side row).length then .int (clampM (worthsM g side row).sum) else if (movesM g side row).isEmpty then .int (stuckM g side) else .none
theorem stuck_at {l : Bool} {g : Gm} {side : Nat} (h : side < 2) : [PyData.int g.s1, PyData.int g.s2][side]? = some (.int (stuckM g side)) := by
  have : side = 0 ∨ side = 1 := by omega
  rcases this with rfl | rfl <;> rfl
theorem movesM_mem {longest : Nat} {g : Gm} {side : Nat} {row : Str} (hg : GmOk longest g) {ks : List Key} (h : ks ∈ movesM g side row) : ∃ (p : Nat) (a b : Str) (m : Nat), ks = mv p a b ∧ [.inr a, .inr b] ∈ rulesOf g side ∧ p ∈ placesM (decide (g.shape = lineS)) row a ∧ 1 ≤ m ∧ m ≤ 3 ∧ m ≤ g.long ∧ Tx g.beads m a ∧ Tx g.beads m b := by
  obtain ⟨k0, hk0, hin⟩ := List.mem_flatMap.mp h
  obtain ⟨a, b, m, rfl, h1, h3, hl, ha, hb, _⟩ := (rulesOf_each hg).1 k0 hk0
  obtain ⟨p, hp, rfl⟩ := List.mem_map.mp hin
  exact ⟨p, a, b, m, rfl, hk0, hp, h1, h3, hl, ha, hb⟩
theorem moves_sd {longest n : Nat} {g : Gm} {side : Nat} {row : Str} (hg : GmOk longest g) {ls : List (List Key)} (pl : ls.Perm (movesM g side row)) : Sd (n + 2) (.list (ls.map tupK)) := Sd.lst (n := n + 1) fun d hd => by
  obtain ⟨ks, hk, rfl⟩ := List.mem_map.mp hd
  obtain ⟨p, a, b, m, rfl, _, _, _, _, _, ha, hb⟩ := movesM_mem hg (pl.mem_iff.mp hk)
  refine Sd.key fun x hx => ?_
  have hx' : x = a ∨ x = b := by simpa [mv] using hx
  rcases hx' with rfl | rfl
  · exact ha.ok hg.beads
  · exact hb.ok hg.beads
theorem eqv_nil (ds : List D) : PyData.eqv (.list ds) (.list []) = ds.isEmpty := by cases ds <;> rfl
theorem perm_empty {α : Type} {a b : List α} (h : a.Perm b) : a.isEmpty = b.isEmpty := by
  cases a with
  | nil => rw [h.nil_eq]
  | cons x r =>
    cases b with
    | nil => exact absurd h.length_eq (by simp)
    | cons y r' => rfl
structure IsMv (g : Gm) (side : Nat) (row : Str) (ls : List (List Key)) : Prop where
  none : isNo (endM g side row) = true → ls.Perm (movesM g side row)
  ended : isNo (endM g side row) = false → ls = []
  up : ls.Pairwise fun x y => lexK y x = false
theorem IsMv.uniq {g : Gm} {side : Nat} {row : Str} {a b : List (List Key)} (ha : IsMv g side row a) (hb : IsMv g side row b) : a = b := by
  cases h : isNo (endM g side row) with
  | true => exact sorted_eq ((ha.none h).trans (hb.none h).symm) ha.up hb.up
  | false => rw [ha.ended h, hb.ended h]
end Wq
set_option maxHeartbeats 4000000
namespace Wq
open PySem L2
local macro_rules | `(tactic| walk_at "e") => `(tactic| simp (disch := first | omega | (simp only [List.length_cons, List.length_nil, List.length_map, List.length_append, List.length_reverse]; omega)) only [↓ev_bind, ↓ev_bad, ↓toK, kOk, kBad, out_nx, out_rt, ss0, ss1, s_ret1, sr_cst, sr_int, sr_str, sr_bl, sr_non, sr_bin, sr_neg, sr_cmp, sr_cmp2, sr_bop, sr_not, sr_ite, sr_tup, sr_lst, sr_ix, sr_sl, sr_rev, sr_call, sr_callB, sr_callO, sr_blt, sr_join, sr_comp, sr_comp2, s_retI1, s_exp1, s_set1, s_unp1, s_par21, s_if1, s_app1, s_rev1, s_sto1, s_sto2, s_frz1, lp_rng, lp_val, lp_enum, set_eq, ev_of, ev_none, ev_slot, ev_cst, ev_int, ev_str, ev_bl, ev_non, ev_bin, ev_neg, ev_cmp, ev_cmp2, ev_and, ev_or, ev_not, ev_ite, ev_tup, ev_lst, ev_ix, ev_sl, ev_rev, ev_call, ev_callB, ev_callO, ev_blt, ev_join, ev_comp, ev_comp2, ev_nil, ev_cons, ev_rng, ev_rng2, ev_val, ev_enum, ev_zip, ev_own,
  of_v, of_k, of_t, of_s, ofV_v, ofV_k, ofV_s, ofD_v, ofD_k, ofD_s, ofD_d, sl_v, sl_k, sl_d, slot_s, slot_t, of_d, ofV_d, datS_dat, datS_own, tr_bool, tr_list, tr_own, args_nil, args_cons, pr_slot, pair_of, pair_ofV, pair_ofD, pair_cmp, bin_eq, cmp_v_eq, cmp_k_eq, cmp_t_eq, cmp_s_eq, cmp_d_eq, cmpM_eq,
  own_eq, noo_eq, bi_add, bi_sub, bi_mul, bi_div, bi_mod, bi_addS, bi_addT, bi_addL, cs_eqi, cs_nei, cs_eqs, cs_nes, cs_lt, cs_le, cs_gt, cs_ge, cs_is, cs_isnt, ix_eq, tup_eq, lst_eq, ite_eq, blt1_eq, blt2_eq, b1_lenL, b1_lenO, b1_lenT, b1_lenS, b1_tupO, b1_tupL, b1_tupT, b1_lisO, b1_lisL, b1_lisT, b1_abs, b1_intB, b2_min, b2_max, b2_divmod, cb_eq, co_eq, call_eq, γ0, γs,
  and_one, and_two, or_one, or_two, andt_one, andt_two, ort_one, ort_two, not_eq, sl_eq, rev_eq, join_eq, comp_eq, cown_eq, cut2, step_eq, tests_no, tests_one,
  setT, setTs, IT.slots, ITs.slots, wipeE, rng_nat, List.all_cons, List.all_nil, List.cons_append, List.nil_append, List.append_nil, Option.toList_some, Option.toList_none,
  slS_str, slS_lst, slS_tup, op_no, op_so, it_own, it_lst, it_tpl, wk_own', wk_lst, wk_tpl, wk_str, ixS, at0, at1, at2, at3, at4, at5, at6, ix0, ix1, ix2, bi_pow7, bi_pow18, dlt_t, dlt_f, dle_t, dle_f, deq_t, deq_f, nle_t, nlt_t, dnlt_t, dnle_t, Bool.not_true, Bool.not_false, Bool.and_true, Bool.true_and, Bool.and_self, Bool.and_false, List.contains_cons, List.contains_nil, beq_self_eq_true, Nat.reduceBEq, Nat.reduceEqDiff, Bool.or_false, Bool.or_self, Option.bind_some, Option.map_some, if_true, if_false, Bool.false_eq_true, ↓reduceIte,
  List.getElem?_cons_zero, List.getElem?_cons_succ, List.set_cons_zero, List.set_cons_succ, List.length_cons, List.length_nil])

def f_stands := fnP [] [] n_stands 4 b_stands
def eqAt (row text : Str) (p i : Nat) : Bool := decide (row.cps.toList[(p + i) % row.length]? = text.cps.toList[i]?)
theorem stands_loop {sh row text : Str} {p : Nat} (hr : row.length ≤ 1000) (ht : text.length ≤ 1000) (hp : p < row.length) :
    loopC (stepC (.nm 4) [] (cmpF .Eq (Mn.of (ixF (slotM 1) (Mn.of (binF .Mod (Mn.of (binF .Add (slotM 3) (slotM 4))) (Mn.of (bltM .len [slotM 1])))))) (Mn.of (ixF (slotM 2) (slotM 4))))) [4] (intsD 0 text.length) [] [.dat (.str sh), .dat (.str row), .dat (.str text), .dat (.int (p : Int)), .no] =
      .ok (((List.range text.length).map (eqAt row text p)).map PyData.bool, [.dat (.str sh), .dat (.str row), .dat (.str text), .dat (.int (p : Int)), .no]) := by
  unfold intsD
  rw [loopC_of (g := fun i => some (PyData.bool (eqAt row text p i)))]
  · rw [List.nil_append, List.filterMap_eq_map', List.map_map]
    rfl
  · intro i hi
    have hi : i < text.length := List.mem_range.mp hi
    refine ⟨[.dat (.str sh), .dat (.str row), .dat (.str text), .dat (.int (p : Int)), .dat (.int (0 + (i : Int)))], ?_, rfl, rfl⟩
    have hm : (p + i) % row.length < row.length := Nat.mod_lt _ (by omega)
    obtain ⟨c1, e1⟩ := at_lt (z := row) (i := (p + i) % row.length) hm
    obtain ⟨c2, e2⟩ := at_lt (z := text) (i := i) hi
    have hx : ((p : Int) + (0 + (i : Int))) % (row.length : Int) = (((p + i) % row.length : Nat) : Int) := by
      rw [Int.natCast_emod]
      congr 1
      omega
    have hy : (0 + (i : Int)) = ((i : Nat) : Int) := by omega
    walk_at "e"
    rw [hx, atN e1]
    walk_at "e"
    rw [hy, atN e2]
    walk_at "e"
    unfold eqAt
    rw [e1, e2, one_eq]
    simp
  · simp
    omega
theorem stands_ok {sh row text : Str} {p : Nat} (hr : row.length ≤ 1000) (ht : text.length ≤ 1000) (hp : p < row.length) : f_stands [.str sh, .str row, .str text, .int (p : Int)] = .ok (.dat (.bool (standsM (decide (sh = lineS)) row text p))) := by
  refine fnP_ok (E := [.dat (.str sh), .dat (.str row), .dat (.str text), .dat (.int (p : Int)), .no]) (N := n_stands) (n := 4) (ds := [.str sh, .str row, .str text, .int (p : Int)]) rfl ?_
  show semSs (Γof []) (csOf []) [] b_stands [.dat (.str sh), .dat (.str row), .dat (.str text), .dat (.int (p : Int)), .no] = _
  unfold b_stands
  by_cases h : sh = lineS
  · have hd : decide (sh = Str.ofString "line") = true := decide_eq_true h
    refine seq_rt ?_
    walk_at "e"
    rw [hd]
    walk_at "e"
    rw [decide_eq_true h]
    rfl
  · have hd : decide (sh = Str.ofString "line") = false := decide_eq_false h
    refine seq_nx (E1 := [.dat (.str sh), .dat (.str row), .dat (.str text), .dat (.int (p : Int)), .no]) ?_ (seq_rt ?_)
    · walk_at "e"
      rw [hd]
      walk_at "e"
    · walk_at "e"
      rw [stands_loop hr ht hp]
      walk_at "e"
      rw [b1_allO]
      walk_at "e"
      rw [decide_eq_false h]
      unfold standsM
      rw [if_neg Bool.false_ne_true, List.all_map]
      rfl
end Wq
set_option maxHeartbeats 4000000
namespace Wq
open PySem L2
local macro_rules | `(tactic| walk_at "e") => `(tactic| simp (disch := first | omega | (simp only [List.length_cons, List.length_nil, List.length_map, List.length_append, List.length_reverse]; omega)) only [↓ev_bind, ↓ev_bad, ↓toK, kOk, kBad, out_nx, out_rt, ss0, ss1, s_ret1, sr_cst, sr_int, sr_str, sr_bl, sr_non, sr_bin, sr_neg, sr_cmp, sr_cmp2, sr_bop, sr_not, sr_ite, sr_tup, sr_lst, sr_ix, sr_sl, sr_rev, sr_call, sr_callB, sr_callO, sr_blt, sr_join, sr_comp, sr_comp2, s_retI1, s_exp1, s_set1, s_unp1, s_par21, s_if1, s_app1, s_rev1, s_sto1, s_sto2, s_frz1, lp_rng, lp_val, lp_enum, set_eq, ev_of, ev_none, ev_slot, ev_cst, ev_int, ev_str, ev_bl, ev_non, ev_bin, ev_neg, ev_cmp, ev_cmp2, ev_and, ev_or, ev_not, ev_ite, ev_tup, ev_lst, ev_ix, ev_sl, ev_rev, ev_call, ev_callB, ev_callO, ev_blt, ev_join, ev_comp, ev_comp2, ev_nil, ev_cons, ev_rng, ev_rng2, ev_val, ev_enum, ev_zip, ev_own,
  of_v, of_k, of_t, of_s, ofV_v, ofV_k, ofV_s, ofD_v, ofD_k, ofD_s, ofD_d, sl_v, sl_k, sl_d, slot_s, slot_t, of_d, ofV_d, datS_dat, datS_own, tr_bool, tr_list, tr_own, args_nil, args_cons, pr_slot, pair_of, pair_ofV, pair_ofD, pair_cmp, bin_eq, cmp_v_eq, cmp_k_eq, cmp_t_eq, cmp_s_eq, cmp_d_eq, cmpM_eq,
  own_eq, noo_eq, bi_add, bi_sub, bi_mul, bi_div, bi_mod, bi_addS, bi_addT, bi_addL, cs_eqi, cs_nei, cs_eqs, cs_nes, cs_lt, cs_le, cs_gt, cs_ge, cs_is, cs_isnt, ix_eq, tup_eq, lst_eq, ite_eq, blt1_eq, blt2_eq, b1_lenL, b1_lenO, b1_lenT, b1_lenS, b1_tupO, b1_tupL, b1_tupT, b1_lisO, b1_lisL, b1_lisT, b1_abs, b1_intB, b2_min, b2_max, b2_divmod, cb_eq, co_eq, call_eq, γ0, γs,
  and_one, and_two, or_one, or_two, andt_one, andt_two, ort_one, ort_two, not_eq, sl_eq, rev_eq, join_eq, comp_eq, cown_eq, cut2, step_eq, tests_no, tests_one,
  setT, setTs, IT.slots, ITs.slots, wipeE, rng_nat, List.all_cons, List.all_nil, List.cons_append, List.nil_append, List.append_nil, Option.toList_some, Option.toList_none,
  slS_str, slS_lst, slS_tup, op_no, op_so, it_own, it_lst, it_tpl, wk_own', wk_lst, wk_tpl, wk_str, ixS_l, ixS_o, ixS_t, ixS_s, at0, at1, at2, at3, at4, at5, at6, ix0, ix1, ix2, bi_pow7, bi_pow18, dlt_t, dlt_f, dle_t, dle_f, deq_t, deq_f, nle_t, nlt_t, dnlt_t, dnle_t, Bool.not_true, Bool.not_false, Bool.and_true, Bool.true_and, Bool.and_self, Bool.and_false, List.contains_cons, List.contains_nil, beq_self_eq_true, Nat.reduceBEq, Nat.reduceEqDiff, Bool.or_false, Bool.or_self, Option.bind_some, Option.map_some, if_true, if_false, Bool.false_eq_true, ↓reduceIte,
  List.getElem?_cons_zero, List.getElem?_cons_succ, List.set_cons_zero, List.set_cons_succ, List.length_cons, List.length_nil])
def f_places_of := fnP [.pu f_stands] [] n_places_of 3 b_places_of
theorem places_loop {game : D} {sh row text : Str} (hg : ixS (.dat game) (.int 1) = some (.str sh)) (hr : row.length ≤ 1000) (ht : text.length ≤ 1000) :
    loopC (stepC (.nm 3) [Mn.of (callM (.pu f_stands) [Mn.of (ixF (slotM 0) (Mn.ofD (.int 1))), slotM 1, slotM 2, slotM 3])] (slotM 3)) [3] (intsD 0 row.length) [] [.dat game, .dat (.str row), .dat (.str text), .no] =
      .ok ((placesM (decide (sh = lineS)) row text).map natD, [.dat game, .dat (.str row), .dat (.str text), .no]) := by
  unfold intsD
  rw [loopC_of (g := fun i => if standsM (decide (sh = lineS)) row text i then some (natD i) else none)]
  · rw [List.nil_append, filterMap_if]
    rfl
  · intro i hi
    have hi : i < row.length := List.mem_range.mp hi
    refine ⟨[.dat game, .dat (.str row), .dat (.str text), .dat (.int (0 + (i : Int)))], ?_, rfl, rfl⟩
    have hy : (0 + (i : Int)) = ((i : Nat) : Int) := by omega
    rw [hy]
    walk_at "e"
    rw [hg]
    walk_at "e"
    rw [stands_ok hr ht hi]
    walk_at "e"
    cases standsM (decide (sh = lineS)) row text i with
    | true => walk_at "e"; rfl
    | false => walk_at "e"
  · simp
    omega
theorem places_ok {game : D} {sh row text : Str} (hg : ixS (.dat game) (.int 1) = some (.str sh)) (hr : row.length ≤ 1000) (ht : text.length ≤ 1000) : f_places_of [game, .str row, .str text] = .ok (.own (.list ((placesM (decide (sh = lineS)) row text).map natD))) := by
  refine fnP_ok (E := [.dat game, .dat (.str row), .dat (.str text), .no]) (N := n_places_of) (n := 3) (ds := [game, .str row, .str text]) rfl ?_
  show semSs (Γof [.pu f_stands]) (csOf []) [] b_places_of [.dat game, .dat (.str row), .dat (.str text), .no] = _
  unfold b_places_of
  refine seq_rt ?_
  walk_at "e"
  rw [places_loop hg hr ht]
  walk_at "e"
end Wq
set_option maxHeartbeats 4000000
namespace Wq
open PySem L2
local macro_rules | `(tactic| walk_at "e") => `(tactic| simp (disch := first | omega | (simp only [List.length_cons, List.length_nil, List.length_map, List.length_append, List.length_reverse]; omega)) only [↓ev_bind, ↓ev_bad, ↓toK, kOk, kBad, out_nx, out_rt, ss0, ss1, s_ret1, sr_cst, sr_int, sr_str, sr_bl, sr_non, sr_bin, sr_neg, sr_cmp, sr_cmp2, sr_bop, sr_not, sr_ite, sr_tup, sr_lst, sr_ix, sr_sl, sr_rev, sr_call, sr_callB, sr_callO, sr_blt, sr_join, sr_comp, sr_comp2, s_retI1, s_exp1, s_set1, s_unp1, s_par21, s_if1, s_app1, s_rev1, s_sto1, s_sto2, s_frz1, lp_rng, lp_val, lp_enum, set_eq, ev_of, ev_none, ev_slot, ev_cst, ev_int, ev_str, ev_bl, ev_non, ev_bin, ev_neg, ev_cmp, ev_cmp2, ev_and, ev_or, ev_not, ev_ite, ev_tup, ev_lst, ev_ix, ev_sl, ev_rev, ev_call, ev_callB, ev_callO, ev_blt, ev_join, ev_comp, ev_comp2, ev_nil, ev_cons, ev_rng, ev_rng2, ev_val, ev_enum, ev_zip, ev_own,
  of_v, of_k, of_t, of_s, ofV_v, ofV_k, ofV_s, ofD_v, ofD_k, ofD_s, ofD_d, sl_v, sl_k, sl_d, slot_s, slot_t, of_d, ofV_d, datS_dat, datS_own, tr_bool, tr_list, tr_own, args_nil, args_cons, pr_slot, pair_of, pair_ofV, pair_ofD, pair_cmp, bin_eq, cmp_v_eq, cmp_k_eq, cmp_t_eq, cmp_s_eq, cmp_d_eq, cmpM_eq,
  own_eq, noo_eq, bi_add, bi_sub, bi_mul, bi_div, bi_mod, bi_addS, bi_addT, bi_addL, cs_eqi, cs_nei, cs_eqs, cs_nes, cs_lt, cs_le, cs_gt, cs_ge, cs_is, cs_isnt, ix_eq, tup_eq, lst_eq, ite_eq, blt1_eq, blt2_eq, b1_lenL, b1_lenO, b1_lenT, b1_lenS, b1_tupO, b1_tupL, b1_tupT, b1_lisO, b1_lisL, b1_lisT, b1_abs, b1_intB, b2_min, b2_max, b2_divmod, cb_eq, co_eq, call_eq, γ0, γs,
  and_one, and_two, or_one, or_two, andt_one, andt_two, ort_one, ort_two, not_eq, sl_eq, rev_eq, join_eq, comp_eq, comp2_eq, cown_eq, cut2, step_eq, tests_no, tests_one,
  setT, setTs, IT.slots, ITs.slots, wipeE, rng_nat, List.all_cons, List.all_nil, List.cons_append, List.nil_append, List.append_nil, Option.toList_some, Option.toList_none,
  slS_str, slS_lst, slS_tup, op_no, op_so, it_own, it_lst, it_tpl, wk_own', wk_lst, wk_tpl, wk_str, ixS_l, ixS_o, ixS_t, ixS_s, at0, at1, at2, at3, at4, at5, at6, ix0, ix1, ix2, bi_pow7, bi_pow18, dlt_t, dlt_f, dle_t, dle_f, deq_t, deq_f, nle_t, nlt_t, dnlt_t, dnle_t, Bool.not_true, Bool.not_false, Bool.and_true, Bool.true_and, Bool.and_self, Bool.and_false, List.contains_cons, List.contains_nil, beq_self_eq_true, Nat.reduceBEq, Nat.reduceEqDiff, Bool.or_false, Bool.or_self, Option.bind_some, Option.map_some, if_true, if_false, Bool.false_eq_true, ↓reduceIte,
  List.getElem?_cons_zero, List.getElem?_cons_succ, List.set_cons_zero, List.set_cons_succ, List.length_cons, List.length_nil])

local macro_rules | `(tactic| walk_at "f") => `(tactic| simp (disch := first | omega | (simp only [List.length_cons, List.length_nil, List.length_map, List.length_append, List.length_reverse]; omega)) only [↓ev_bind, ↓ev_bad, ↓toK, kOk, kBad, out_nx, out_rt, ss0, ss1, s_ret1, sr_cst, sr_int, sr_str, sr_bl, sr_non, sr_bin, sr_neg, sr_cmp, sr_cmp2, sr_bop, sr_not, sr_ite, sr_tup, sr_lst, sr_ix, sr_sl, sr_rev, sr_call, sr_callB, sr_callO, sr_blt, sr_join, sr_comp, sr_comp2, s_retI1, s_exp1, s_set1, s_unp1, s_par21, s_if1, s_app1, s_rev1, s_sto1, s_sto2, s_frz1, lp_rng, lp_val, lp_enum, set_eq, ev_of, ev_none, ev_slot, ev_cst, ev_int, ev_str, ev_bl, ev_non, ev_bin, ev_neg, ev_cmp, ev_cmp2, ev_and, ev_or, ev_not, ev_ite, ev_tup, ev_lst, ev_ix, ev_sl, ev_rev, ev_call, ev_callB, ev_callO, ev_blt, ev_join, ev_comp, ev_comp2, ev_nil, ev_cons, ev_rng, ev_rng2, ev_val, ev_enum, ev_zip, ev_own,
  of_v, of_k, of_t, of_s, ofV_v, ofV_k, ofV_s, ofD_v, ofD_k, ofD_s, ofD_d, sl_v, sl_k, sl_d, slot_s, slot_t, of_d, ofV_d, datS_dat, datS_own, tr_bool, tr_list, tr_own, args_nil, args_cons, pr_slot, pair_of, pair_ofV, pair_ofD, pair_cmp, bin_eq, cmp_v_eq, cmp_k_eq, cmp_t_eq, cmp_s_eq, cmp_d_eq, cmpM_eq,
  own_eq, noo_eq, bi_add, bi_sub, bi_mul, bi_div, bi_mod, bi_addS, bi_addT, bi_addL, cs_eqi, cs_nei, cs_eqs, cs_nes, cs_lt, cs_le, cs_gt, cs_ge, cs_is, cs_isnt, ix_eq, tup_eq, lst_eq, ite_eq, blt1_eq, blt2_eq, b1_lenL, b1_lenO, b1_lenT, b1_lenS, b1_tupO, b1_tupL, b1_tupT, b1_lisO, b1_lisL, b1_lisT, b1_abs, b1_intB, b2_min, b2_max, b2_divmod, cb_eq, co_eq, call_eq, γ0, γs,
  and_one, and_two, or_one, or_two, andt_one, andt_two, ort_one, ort_two, not_eq, sl_eq, rev_eq, join_eq, comp_eq, cown_eq, cut2, step_eq, tests_no, tests_one,
  IT.slots, ITs.slots, wipeE, rng_nat, List.all_cons, List.all_nil, List.cons_append, List.nil_append, List.append_nil, Option.toList_some, Option.toList_none,
  slS_str, slS_lst, slS_tup, op_no, op_so, it_own, it_lst, it_tpl, wk_own', wk_lst, wk_tpl, wk_str, ixS_l, ixS_o, ixS_t, ixS_s, at0, at1, at2, at3, at4, at5, at6, ix0, ix1, ix2, bi_pow7, bi_pow18, dlt_t, dlt_f, dle_t, dle_f, deq_t, deq_f, nle_t, nlt_t, dnlt_t, dnle_t, Bool.not_true, Bool.not_false, Bool.and_true, Bool.true_and, Bool.and_self, Bool.and_false, List.contains_cons, List.contains_nil, beq_self_eq_true, Nat.reduceBEq, Nat.reduceEqDiff, Bool.or_false, Bool.or_self, Option.bind_some, Option.map_some, if_true, if_false, Bool.false_eq_true, ↓reduceIte,
  List.getElem?_cons_zero, List.getElem?_cons_succ, List.set_cons_zero, List.set_cons_succ, List.length_cons, List.length_nil])
theorem comp2_of {elt : Mn} {tg tg1 : IT} {m m1 : MI} {ifs ifs1 : List Mn} {E E1 E2 E3 : En} {ds r : List D} (h : m E = .ok (ds, E1)) (hn : (tg.slots ++ tg1.slots).all (notOwnB E1) = true) (hw : wipeE E1 (tg.slots ++ tg1.slots) = E2) (hl : loop2 tg ifs m1 tg1 ifs1 elt (tg.slots ++ tg1.slots) ds [] E2 = .ok (r, E3)) : comp2M elt tg ⟨none, m⟩ ifs tg1 ⟨none, m1⟩ ifs1 E = .ok (.own (.list r), E3) := by
  rw [comp2_eq, h, ev_bind]
  simp only [hn, if_true]
  rw [hw, hl, ev_bind]
def f_moves_by_rules := fnP [.pu f_places_of] [] n_moves_by_rules 2 b_moves_by_rules
theorem walk_sq {l : Bool} {ds : List D} : walkS (.dat (sq l ds)) = some ds := by cases l <;> rfl
theorem ix_sq {l : Bool} {ds : List D} {k : Int} : ixS (.dat (sq l ds)) (.int k) = atI ds k := by cases l <;> rfl
theorem set_sq {l : Bool} {ts : ITs} {ds : List D} {E : En} : setT (.tp ts) (sq l ds) E = setTs ts ds E := by cases l <;> simp [sq, setT]
theorem mbr_loop {l : Bool} {name : Str} {g : Gm} {longest side : Nat} {row : Str} {st : D} (hg : GmOk longest g) (hlo : longest ≤ 100) (hr : row.length ≤ 100) :
    loop2 (.tp (.cons (.nm 5) (.cons (.nm 6) .nil))) [] (fun E => ((Mn.of (callM (.pu f_places_of) [slotM 0, slotM 3, slotM 5])).v E).bind fun p => (Rs.of (walkS p.1)).bind fun ds => .ok (ds, p.2)) (.nm 4) [] (Mn.ofV (tupF [slotM 4, slotM 5, slotM 6])) [5, 6, 4] ((rulesOf g side).map (rowQ l)) []
      [.dat (sq l (gameQ l name g)), .dat st, .dat (.int (side : Int)), .dat (.str row), .no, .no, .no] =
      .ok ((movesM g side row).map tupK, [.dat (sq l (gameQ l name g)), .dat st, .dat (.int (side : Int)), .dat (.str row), .no, .no, .no]) := by
  obtain ⟨he, hf⟩ := rulesOf_each (side := side) hg
  have hll := hg.long
  rw [loop2_of (n := 100) (g := fun ks => (ruleMoves (decide (g.shape = lineS)) row ks).map tupK)]
  · rw [List.nil_append]
    congr 2
    unfold movesM
    rw [List.map_flatMap]
  · intro ks hks
    obtain ⟨a, b, m, rfl, hm1, hm2, hm3, ha, hb, _⟩ := he ks hks
    have hal := ha.1
    have hfew := places_few (decide (g.shape = lineS)) row a
    have hgi : ixS (.dat (sq l (gameQ l name g))) (.int 1) = some (.str g.shape) := by rw [ix_sq]; rfl
    have hpl := places_ok (game := sq l (gameQ l name g)) (row := row) (text := a) hgi (by omega) (by omega)
    generalize hG : sq l (gameQ l name g) = G at hpl
    refine ⟨by show ((placesM _ row a).map _ |>.map tupK).length ≤ 100; rw [List.length_map, List.length_map]; omega, [.dat G, .dat st, .dat (.int (side : Int)), .dat (.str row), .no, .dat (.str a), .dat (.str b)], [.dat G, .dat st, .dat (.int (side : Int)), .dat (.str row), .no, .dat (.str a), .dat (.str b)], (placesM (decide (g.shape = lineS)) row a).map natD, ?_, ?_, rfl, ?_⟩
    · unfold rowQ
      rw [set_sq]
      rfl
    · walk_at "e"
      rw [hpl]
      walk_at "e"
    · intro acc hacc
      refine ⟨[.dat G, .dat st, .dat (.int (side : Int)), .dat (.str row), .no, .dat (.str a), .dat (.str b)], ?_, rfl, rfl⟩
      show loopC _ [4] _ _ [.dat G, .dat st, .dat (.int (side : Int)), .dat (.str row), .no, .dat (.str a), .dat (.str b)] = _
      rw [loopC_of (g := fun p => some (tupK (mv p a b)))]
      · rw [List.filterMap_eq_map']
        show _ = Rs.ok (acc ++ ((placesM (decide (g.shape = lineS)) row a).map fun p : Nat => mv p a b).map tupK, _)
        rw [List.map_map]
        rfl
      · intro p hp
        refine ⟨[.dat G, .dat st, .dat (.int (side : Int)), .dat (.str row), .dat (.int (p : Int)), .dat (.str a), .dat (.str b)], ?_, rfl, rfl⟩
        unfold natD
        walk_at "e"
        rfl
      · omega
  · simp
    omega
theorem mbr_ok {l l2 : Bool} {name : Str} {g : Gm} {longest side : Nat} {row : Str} (hg : GmOk longest g) (hlo : longest ≤ 100) (hr : row.length ≤ 100) (hs : side < 2) : f_moves_by_rules [sq l (gameQ l name g), sq l2 [.int (side : Int), .str row]] = .ok (.own (.list ((sortK (movesM g side row)).map tupK))) := by
  have hsig : sigOk (movesM g side row) = true := by
    have key : ∀ ks ∈ movesM g side row, ks.map isInt = [true, false, false] := fun ks hks => by
      obtain ⟨p, a, b, m, rfl, _⟩ := movesM_mem hg hks
      rfl
    cases hq : movesM g side row with
    | nil => rfl
    | cons k r =>
      rw [hq] at key
      have e1 := key k List.mem_cons_self
      simp only [sigOk, Bool.and_eq_true, Bool.not_eq_true', List.all_eq_true, decide_eq_true_eq]
      refine ⟨?_, fun x hx => by rw [key x (List.mem_cons_of_mem _ hx), e1]⟩
      cases k with
      | nil => cases e1
      | cons _ _ => rfl
  have h4 : ixS (.dat (sq l (gameQ l name g))) (.int 4) = some (sq l [sq l (g.r1.map (rowQ l)), sq l (g.r2.map (rowQ l))]) := by rw [ix_sq]; rfl
  have h5 : ixS (.dat (sq l [sq l (g.r1.map (rowQ l)), sq l (g.r2.map (rowQ l))])) (.int (side : Int)) = some (sq l ((rulesOf g side).map (rowQ l))) := by rw [ix_sq]; exact atN (rulesOf_at hs)
  refine fnP_ok (E := [.dat (sq l (gameQ l name g)), .dat (sq l2 [.int (side : Int), .str row]), .dat (.int (side : Int)), .dat (.str row), .no, .no, .no]) (N := n_moves_by_rules) (n := 2) (ds := [sq l (gameQ l name g), sq l2 [.int (side : Int), .str row]]) rfl ?_
  show semSs (Γof [.pu f_places_of]) (csOf []) [] b_moves_by_rules [.dat (sq l (gameQ l name g)), .dat (sq l2 [.int (side : Int), .str row]), .no, .no, .no, .no, .no] = _
  unfold b_moves_by_rules
  refine seq_nx (E1 := [.dat (sq l (gameQ l name g)), .dat (sq l2 [.int (side : Int), .str row]), .dat (.int (side : Int)), .dat (.str row), .no, .no, .no]) ?_ (seq_rt ?_)
  · rw [s_unp1]
    show ((slotM 1).d _).bind _ = _
    rw [sl_d]
    walk_at "f"
    rw [set_sq]
    rfl
  · have hc : comp2M (semE (Γof [.pu f_places_of]) (csOf []) (.tup (.cons (.slot 4) (.cons (.slot 5) (.cons (.slot 6) .nil))))) (.tp (.cons (.nm 5) (.cons (.nm 6) .nil))) (semI (Γof [.pu f_places_of]) (csOf []) (.val (.ix (.ix (.slot 0) (.int 4)) (.slot 2)))) (semAs (Γof [.pu f_places_of]) (csOf []) .nil) (.nm 4) (semI (Γof [.pu f_places_of]) (csOf []) (.val (.call 0 (.cons (.slot 0) (.cons (.slot 3) (.cons (.slot 5) .nil)))))) (semAs (Γof [.pu f_places_of]) (csOf []) .nil) [.dat (sq l (gameQ l name g)), .dat (sq l2 [.int (side : Int), .str row]), .dat (.int (side : Int)), .dat (.str row), .no, .no, .no] = .ok (.own (.list ((movesM g side row).map tupK)), [.dat (sq l (gameQ l name g)), .dat (sq l2 [.int (side : Int), .str row]), .dat (.int (side : Int)), .dat (.str row), .no, .no, .no]) := by
      refine comp2_of (ds := (rulesOf g side).map (rowQ l)) (E1 := [.dat (sq l (gameQ l name g)), .dat (sq l2 [.int (side : Int), .str row]), .dat (.int (side : Int)), .dat (.str row), .no, .no, .no]) (E2 := [.dat (sq l (gameQ l name g)), .dat (sq l2 [.int (side : Int), .str row]), .dat (.int (side : Int)), .dat (.str row), .no, .no, .no]) ?_ rfl rfl (mbr_loop (l := l) (name := name) (side := side) (st := sq l2 [.int (side : Int), .str row]) hg hlo hr)
      walk_at "f"
      rw [h4]
      walk_at "f"
      rw [h5]
      walk_at "f"
      rw [walk_sq]
      walk_at "f"
    rw [sr_blt, ev_blt, ev_cons, ev_nil]
    rw [of_v, blt1_eq, ev_comp2, of_k, hc]
    walk_at "e"
    rw [b1_sortO hsig]
    walk_at "e"
end Wq
set_option maxHeartbeats 4000000
namespace Wq
open PySem L2
theorem cst0 {d : D} {l : List D} : csOf (d :: l) 0 = some d := rfl
theorem cs_inT {a x y : Int} : cmpS .In (.dat (.int a)) (.dat (.tuple [.int x, .int y])) = some (([x, y] : List Int).any fun n => decide (n = a)) := rfl
local macro_rules | `(tactic| walk_at "e") => `(tactic| simp (disch := first | omega | (simp only [List.length_cons, List.length_nil, List.length_map, List.length_append, List.length_reverse]; omega)) only [↓ev_bind, ↓ev_bad, ↓toK, kOk, kBad, out_nx, out_rt, ss0, ss1, s_ret1, sr_cst, sr_int, sr_str, sr_bl, sr_non, sr_bin, sr_neg, sr_cmp, sr_cmp2, sr_bop, sr_not, sr_ite, sr_tup, sr_lst, sr_ix, sr_sl, sr_rev, sr_call, sr_callB, sr_callO, sr_blt, sr_join, sr_comp, sr_comp2, s_retI1, s_exp1, s_set1, s_unp1, s_par21, s_if1, s_app1, s_rev1, s_sto1, s_sto2, s_frz1, lp_rng, lp_val, lp_enum, set_eq, ev_of, ev_none, ev_slot, ev_cst, ev_int, ev_str, ev_bl, ev_non, ev_bin, ev_neg, ev_cmp, ev_cmp2, ev_and, ev_or, ev_not, ev_ite, ev_tup, ev_lst, ev_ix, ev_sl, ev_rev, ev_call, ev_callB, ev_callO, ev_blt, ev_join, ev_comp, ev_comp2, ev_nil, ev_cons, ev_rng, ev_rng2, ev_val, ev_enum, ev_zip, ev_own,
  of_v, of_k, of_t, of_s, ofV_v, ofV_k, ofV_s, ofD_v, ofD_k, ofD_s, ofD_d, sl_v, sl_k, sl_d, slot_s, slot_t, of_d, ofV_d, datS_dat, datS_own, tr_bool, tr_list, tr_own, args_nil, args_cons, pr_slot, pair_of, pair_ofV, pair_ofD, pair_cmp, bin_eq, cmp_v_eq, cmp_k_eq, cmp_t_eq, cmp_s_eq, cmp_d_eq, cmpM_eq,
  own_eq, noo_eq, bi_add, bi_sub, bi_mul, bi_div, bi_mod, bi_addS, bi_addT, bi_addL, cs_eqi, cs_nei, cs_eqs, cs_nes, cs_lt, cs_le, cs_gt, cs_ge, cs_is, cs_isnt, cs_inT, cst0, b1_sumL, ix_eq, tup_eq, lst_eq, ite_eq, blt1_eq, blt2_eq, b1_lenL, b1_lenO, b1_lenT, b1_lenS, b1_tupO, b1_tupL, b1_tupT, b1_lisO, b1_lisL, b1_lisT, b1_abs, b1_intB, b2_min, b2_max, b2_divmod, cb_eq, co_eq, call_eq, γ0, γs,
  and_one, and_two, or_one, or_two, andt_one, andt_two, ort_one, ort_two, not_eq, sl_eq, rev_eq, join_eq, comp_eq, comp2_eq, cown_eq, cut2, step_eq, tests_no, tests_one,
  setT, setTs, IT.slots, ITs.slots, wipeE, rng_nat, List.all_cons, List.all_nil, List.cons_append, List.nil_append, List.append_nil, Option.toList_some, Option.toList_none,
  slS_str, slS_lst, slS_tup, op_no, op_so, it_own, it_lst, it_tpl, wk_own', wk_lst, wk_tpl, wk_str, ixS_l, ixS_o, ixS_t, ixS_s, at0, at1, at2, at3, at4, at5, at6, ix0, ix1, ix2, bi_pow7, bi_pow18, dlt_t, dlt_f, dle_t, dle_f, deq_t, deq_f, nle_t, nlt_t, dnlt_t, dnle_t, Bool.not_true, Bool.not_false, Bool.and_true, Bool.true_and, Bool.and_self, Bool.and_false, List.contains_cons, List.contains_nil, beq_self_eq_true, Nat.reduceBEq, Nat.reduceEqDiff, Bool.or_false, Bool.or_self, Option.bind_some, Option.map_some, if_true, if_false, Bool.false_eq_true, ↓reduceIte,
  List.getElem?_cons_zero, List.getElem?_cons_succ, List.set_cons_zero, List.set_cons_succ, List.length_cons, List.length_nil])

local macro_rules | `(tactic| walk_at "f") => `(tactic| simp (disch := first | omega | (simp only [List.length_cons, List.length_nil, List.length_map, List.length_append, List.length_reverse]; omega)) only [↓ev_bind, ↓ev_bad, ↓toK, kOk, kBad, out_nx, out_rt, ss0, ss1, s_ret1, sr_cst, sr_int, sr_str, sr_bl, sr_non, sr_bin, sr_neg, sr_cmp, sr_cmp2, sr_bop, sr_not, sr_ite, sr_tup, sr_lst, sr_ix, sr_sl, sr_rev, sr_call, sr_callB, sr_callO, sr_blt, sr_join, sr_comp, sr_comp2, s_retI1, s_exp1, s_set1, s_unp1, s_par21, s_if1, s_app1, s_rev1, s_sto1, s_sto2, s_frz1, lp_rng, lp_val, lp_enum, set_eq, ev_of, ev_none, ev_slot, ev_cst, ev_int, ev_str, ev_bl, ev_non, ev_bin, ev_neg, ev_cmp, ev_cmp2, ev_and, ev_or, ev_not, ev_ite, ev_tup, ev_lst, ev_ix, ev_sl, ev_rev, ev_call, ev_callB, ev_callO, ev_blt, ev_join, ev_comp, ev_comp2, ev_nil, ev_cons, ev_rng, ev_rng2, ev_val, ev_enum, ev_zip, ev_own,
  of_v, of_k, of_t, of_s, ofV_v, ofV_k, ofV_s, ofD_v, ofD_k, ofD_s, ofD_d, sl_v, sl_k, sl_d, slot_s, slot_t, of_d, ofV_d, datS_dat, datS_own, tr_bool, tr_list, tr_own, args_nil, args_cons, pr_slot, pair_of, pair_ofV, pair_ofD, pair_cmp, bin_eq, cmp_v_eq, cmp_k_eq, cmp_t_eq, cmp_s_eq, cmp_d_eq, cmpM_eq,
  own_eq, noo_eq, bi_add, bi_sub, bi_mul, bi_div, bi_mod, bi_addS, bi_addT, bi_addL, cs_eqi, cs_nei, cs_eqs, cs_nes, cs_lt, cs_le, cs_gt, cs_ge, cs_is, cs_isnt, cs_inT, cst0, b1_sumL, ix_eq, tup_eq, lst_eq, ite_eq, blt1_eq, blt2_eq, b1_lenL, b1_lenO, b1_lenT, b1_lenS, b1_tupO, b1_tupL, b1_tupT, b1_lisO, b1_lisL, b1_lisT, b1_abs, b1_intB, b2_min, b2_max, b2_divmod, cb_eq, co_eq, call_eq, γ0, γs,
  and_one, and_two, or_one, or_two, andt_one, andt_two, ort_one, ort_two, not_eq, sl_eq, rev_eq, join_eq, comp_eq, cown_eq, cut2, step_eq, tests_no, tests_one,
  IT.slots, ITs.slots, wipeE, rng_nat, List.all_cons, List.all_nil, List.cons_append, List.nil_append, List.append_nil, Option.toList_some, Option.toList_none,
  slS_str, slS_lst, slS_tup, op_no, op_so, it_own, it_lst, it_tpl, wk_own', wk_lst, wk_tpl, wk_str, ixS_l, ixS_o, ixS_t, ixS_s, at0, at1, at2, at3, at4, at5, at6, ix0, ix1, ix2, bi_pow7, bi_pow18, dlt_t, dlt_f, dle_t, dle_f, deq_t, deq_f, nle_t, nlt_t, dnlt_t, dnle_t, Bool.not_true, Bool.not_false, Bool.and_true, Bool.true_and, Bool.and_self, Bool.and_false, List.contains_cons, List.contains_nil, beq_self_eq_true, Nat.reduceBEq, Nat.reduceEqDiff, Bool.or_false, Bool.or_self, Option.bind_some, Option.map_some, if_true, if_false, Bool.false_eq_true, ↓reduceIte,
  List.getElem?_cons_zero, List.getElem?_cons_succ, List.set_cons_zero, List.set_cons_succ, List.length_cons, List.length_nil])
theorem comp_of {elt : Mn} {tg : IT} {m : MI} {ifs : List Mn} {E E1 E2 E3 : En} {ds r : List D} (h : m E = .ok (ds, E1)) (hn : tg.slots.all (notOwnB E1) = true) (hw : wipeE E1 tg.slots = E2) (hl : loopC (stepC tg ifs elt) tg.slots ds [] E2 = .ok (r, E3)) : compM elt tg ⟨none, m⟩ ifs E = .ok (.own (.list r), E3) := by
  rw [comp_eq, h, ev_bind]
  simp only [hn, if_true]
  rw [hw, hl, ev_bind]
def f_ended := fnP [.pu f_places_of, .pu f_moves_by_rules] [.int 9] n_ended 2 b_ended
theorem ends_flat {f : List Key → List Int} : ∀ {kss : List (List Key)}, (∀ ks ∈ kss, f ks = [] ∨ ∃ w, f ks = [w]) → kss.filterMap (fun ks => (f ks).head?.map PyData.int) = (kss.flatMap f).map PyData.int
  | [], _ => rfl
  | k :: r, h => by
    rw [List.flatMap_cons, List.map_append, ← ends_flat (kss := r) fun ks hk => h ks (List.mem_cons_of_mem _ hk), List.filterMap_cons]
    rcases h k List.mem_cons_self with e | ⟨w, e⟩ <;> rw [e] <;> rfl
theorem endOne_one {line : Bool} {side : Nat} {row : Str} {ks : List Key} : endOne line side row ks = [] ∨ ∃ w, endOne line side row ks = [w] := by
  unfold endOne
  split
  · split
    · exact .inr ⟨_, rfl⟩
    · exact .inl rfl
  · exact .inl rfl
theorem map_empty {α β : Type} {f : α → β} {xs : List α} : (xs.map f).isEmpty = xs.isEmpty := by cases xs <;> rfl
theorem ended_loop {l : Bool} {name : Str} {g : Gm} {longest side : Nat} {row : Str} {st : D} (hg : GmOk longest g) (hlo : longest ≤ 100) (hr : row.length ≤ 100) :
    loopC (stepC (.tp (.cons (.nm 5) (.cons (.nm 6) (.cons (.nm 7) .nil)))) (semAs (Γof [.pu f_places_of, .pu f_moves_by_rules]) (csOf [.int 9]) (.cons (.bop .And (.cons (.cmp .In (.slot 5) (.tup (.cons (.slot 3) (.cons (.int 2) .nil)))) (.cons (.call 0 (.cons (.slot 0) (.cons (.slot 4) (.cons (.slot 6) .nil)))) .nil))) .nil)) (semE (Γof [.pu f_places_of, .pu f_moves_by_rules]) (csOf [.int 9]) (.slot 7))) [5, 6, 7] (g.ends.map (rowQ l)) []
      [.dat (sq l (gameQ l name g)), .dat st, .no, .dat (.int (side : Int)), .dat (.str row), .no, .no, .no] =
      .ok ((worthsM g side row).map PyData.int, [.dat (sq l (gameQ l name g)), .dat st, .no, .dat (.int (side : Int)), .dat (.str row), .no, .no, .no]) := by
  have hll := hg.long
  rw [loopC_of (g := fun ks => (endOne (decide (g.shape = lineS)) side row ks).head?.map PyData.int)]
  · rw [List.nil_append, ends_flat fun ks _ => endOne_one]
    rfl
  · intro ks hks
    obtain ⟨who, m, pat, worth, rfl, hw, hm1, hm2, hp, _⟩ := hg.ends.each ks hks
    have hpl := hp.1
    have hgi : ixS (.dat (sq l (gameQ l name g))) (.int 1) = some (.str g.shape) := by rw [ix_sq]; rfl
    have hpo := places_ok (game := sq l (gameQ l name g)) (row := row) (text := pat) hgi (by omega) (by omega)
    generalize hG : sq l (gameQ l name g) = G at hpo
    refine ⟨[.dat G, .dat st, .no, .dat (.int (side : Int)), .dat (.str row), .dat (.int (who : Int)), .dat (.str pat), .dat (.int worth)], ?_, rfl, rfl⟩
    have hset : setT (.tp (.cons (.nm 5) (.cons (.nm 6) (.cons (.nm 7) .nil)))) (rowQ l [.inl (who : Int), .inr pat, .inl worth]) [.dat G, .dat st, .no, .dat (.int (side : Int)), .dat (.str row), .no, .no, .no] = some [.dat G, .dat st, .no, .dat (.int (side : Int)), .dat (.str row), .dat (.int (who : Int)), .dat (.str pat), .dat (.int worth)] := by
      unfold rowQ
      rw [set_sq]
      rfl
    rw [step_eq, hset]
    walk_at "f"
    unfold endOne
    cases ha : ([(side : Int), 2] : List Int).any fun n => decide (n = (who : Int)) with
    | false => walk_at "f"; rw [ha]; rfl
    | true =>
      walk_at "f"
      rw [hpo]
      walk_at "f"
      rw [map_empty]
      cases (placesM (decide (g.shape = lineS)) row pat).isEmpty with
      | false => walk_at "f"; rw [ha]; rfl
      | true => walk_at "f"; rfl
  · have := hg.ends.few
    simp
    omega
theorem ended_ok {l l2 : Bool} {name : Str} {g : Gm} {longest side : Nat} {row : Str} (hg : GmOk longest g) (hlo : longest ≤ 100) (hr : row.length ≤ 100) (hs : side < 2) : f_ended [sq l (gameQ l name g), sq l2 [.int (side : Int), .str row]] = .ok (.dat (endM g side row)) := by
  have h5 : ixS (.dat (sq l (gameQ l name g))) (.int 5) = some (sq l (g.ends.map (rowQ l))) := by rw [ix_sq]; rfl
  have h6 : ixS (.dat (sq l (gameQ l name g))) (.int 6) = some (sq l [.int g.s1, .int g.s2]) := by rw [ix_sq]; rfl
  have h7 : ixS (.dat (sq l [.int g.s1, .int g.s2])) (.int (side : Int)) = some (.int (stuckM g side)) := by rw [ix_sq]; exact atN (stuck_at (l := l) hs)
  have hmb := mbr_ok (l := l) (l2 := l2) (name := name) hg hlo hr hs
  have hsd : SeqAt.shaped (.list ((sortK (movesM g side row)).map tupK)) = true := (moves_sd (n := 0) hg (sortK_perm _)).shaped (by decide)
  have hEq : cmpS .Eq (.own (.list ((sortK (movesM g side row)).map tupK))) (.own (.list [])) = some (movesM g side row).isEmpty := by
    rw [cs_eq (a := .list ((sortK (movesM g side row)).map tupK)) (b := .list []) rfl rfl rfl hsd rfl, eqv_nil, map_empty, perm_empty (sortK_perm _)]
  refine fnP_ok (E := [.dat (sq l (gameQ l name g)), .dat (sq l2 [.int (side : Int), .str row]), .dat (.list ((worthsM g side row).map PyData.int)), .dat (.int (side : Int)), .dat (.str row), .no, .no, .no]) (N := n_ended) (n := 2) (ds := [sq l (gameQ l name g), sq l2 [.int (side : Int), .str row]]) rfl ?_
  show semSs (Γof [.pu f_places_of, .pu f_moves_by_rules]) (csOf [.int 9]) [] b_ended [.dat (sq l (gameQ l name g)), .dat (sq l2 [.int (side : Int), .str row]), .no, .no, .no, .no, .no, .no] = _
  unfold b_ended
  refine seq_nx (E1 := [.dat (sq l (gameQ l name g)), .dat (sq l2 [.int (side : Int), .str row]), .no, .dat (.int (side : Int)), .dat (.str row), .no, .no, .no]) ?_ ?_
  · rw [s_unp1]
    show ((slotM 1).d _).bind _ = _
    rw [sl_d]
    walk_at "f"
    rw [set_sq]
    rfl
  refine seq_nx (E1 := [.dat (sq l (gameQ l name g)), .dat (sq l2 [.int (side : Int), .str row]), .own (.list ((worthsM g side row).map PyData.int)), .dat (.int (side : Int)), .dat (.str row), .no, .no, .no]) ?_ ?_
  · have hc : compM (semE (Γof [.pu f_places_of, .pu f_moves_by_rules]) (csOf [.int 9]) (.slot 7)) (.tp (.cons (.nm 5) (.cons (.nm 6) (.cons (.nm 7) .nil)))) (semI (Γof [.pu f_places_of, .pu f_moves_by_rules]) (csOf [.int 9]) (.val (.ix (.slot 0) (.int 5)))) (semAs (Γof [.pu f_places_of, .pu f_moves_by_rules]) (csOf [.int 9]) (.cons (.bop .And (.cons (.cmp .In (.slot 5) (.tup (.cons (.slot 3) (.cons (.int 2) .nil)))) (.cons (.call 0 (.cons (.slot 0) (.cons (.slot 4) (.cons (.slot 6) .nil)))) .nil))) .nil)) [.dat (sq l (gameQ l name g)), .dat (sq l2 [.int (side : Int), .str row]), .no, .dat (.int (side : Int)), .dat (.str row), .no, .no, .no] = .ok (.own (.list ((worthsM g side row).map PyData.int)), [.dat (sq l (gameQ l name g)), .dat (sq l2 [.int (side : Int), .str row]), .no, .dat (.int (side : Int)), .dat (.str row), .no, .no, .no]) := by
      refine comp_of (ds := g.ends.map (rowQ l)) (E1 := [.dat (sq l (gameQ l name g)), .dat (sq l2 [.int (side : Int), .str row]), .no, .dat (.int (side : Int)), .dat (.str row), .no, .no, .no]) (E2 := [.dat (sq l (gameQ l name g)), .dat (sq l2 [.int (side : Int), .str row]), .no, .dat (.int (side : Int)), .dat (.str row), .no, .no, .no]) ?_ rfl rfl (ended_loop (l := l) (name := name) (side := side) (st := sq l2 [.int (side : Int), .str row]) hg hlo hr)
      walk_at "f"
      rw [h5]
      walk_at "f"
      rw [walk_sq]
      walk_at "f"
    rw [s_set1, ev_comp, of_v, hc]
    walk_at "e"
  refine seq_nx (E1 := [.dat (sq l (gameQ l name g)), .dat (sq l2 [.int (side : Int), .str row]), .dat (.list ((worthsM g side row).map PyData.int)), .dat (.int (side : Int)), .dat (.str row), .no, .no, .no]) ?_ ?_
  · walk_at "e"
  generalize hG : sq l (gameQ l name g) = G at h5 h6 hmb
  unfold endM
  by_cases hw : 0 < (worthsM g side row).length
  · rw [if_pos hw]
    refine seq_rt ?_
    walk_at "e"
    rfl
  · rw [if_neg hw]
    refine seq_nx (E1 := [.dat G, .dat (sq l2 [.int (side : Int), .str row]), .dat (.list ((worthsM g side row).map PyData.int)), .dat (.int (side : Int)), .dat (.str row), .no, .no, .no]) ?_ (seq_rt ?_)
    · walk_at "e"
    · walk_at "e"
      rw [hmb]
      walk_at "e"
      rw [hEq]
      walk_at "e"
      cases (movesM g side row).isEmpty with
      | false => walk_at "e"
      | true =>
        walk_at "e"
        rw [h6]
        walk_at "e"
        rw [h7]
        walk_at "e"
end Wq
set_option maxHeartbeats 4000000
namespace Wq
open PySem L2
local macro_rules | `(tactic| walk_at "e") => `(tactic| simp (disch := first | omega | (simp only [List.length_cons, List.length_nil, List.length_map, List.length_append, List.length_reverse]; omega)) only [↓ev_bind, ↓ev_bad, ↓toK, kOk, kBad, out_nx, out_rt, ss0, ss1, s_ret1, sr_cst, sr_int, sr_str, sr_bl, sr_non, sr_bin, sr_neg, sr_cmp, sr_cmp2, sr_bop, sr_not, sr_ite, sr_tup, sr_lst, sr_ix, sr_sl, sr_rev, sr_call, sr_callB, sr_callO, sr_blt, sr_join, sr_comp, sr_comp2, s_retI1, s_exp1, s_set1, s_unp1, s_par21, s_if1, s_app1, s_rev1, s_sto1, s_sto2, s_frz1, lp_rng, lp_val, lp_enum, set_eq, ev_of, ev_none, ev_slot, ev_cst, ev_int, ev_str, ev_bl, ev_non, ev_bin, ev_neg, ev_cmp, ev_cmp2, ev_and, ev_or, ev_not, ev_ite, ev_tup, ev_lst, ev_ix, ev_sl, ev_rev, ev_call, ev_callB, ev_callO, ev_blt, ev_join, ev_comp, ev_comp2, ev_nil, ev_cons, ev_rng, ev_rng2, ev_val, ev_enum, ev_zip, ev_own,
  of_v, of_k, of_t, of_s, ofV_v, ofV_k, ofV_s, ofD_v, ofD_k, ofD_s, ofD_d, sl_v, sl_k, sl_d, slot_s, slot_t, of_d, ofV_d, datS_dat, datS_own, tr_bool, tr_list, tr_own, args_nil, args_cons, pr_slot, pair_of, pair_ofV, pair_ofD, pair_cmp, bin_eq, cmp_v_eq, cmp_k_eq, cmp_t_eq, cmp_s_eq, cmp_d_eq, cmpM_eq,
  own_eq, noo_eq, bi_add, bi_sub, bi_mul, bi_div, bi_mod, bi_addS, bi_addT, bi_addL, cs_eqi, cs_nei, cs_eqs, cs_nes, cs_lt, cs_le, cs_gt, cs_ge, cs_is, cs_isnt, cs_inT, cst0, b1_sumL, ix_eq, tup_eq, lst_eq, ite_eq, blt1_eq, blt2_eq, b1_lenL, b1_lenO, b1_lenT, b1_lenS, b1_tupO, b1_tupL, b1_tupT, b1_lisO, b1_lisL, b1_lisT, b1_abs, b1_intB, b2_min, b2_max, b2_divmod, cb_eq, co_eq, call_eq, γ0, γs,
  and_one, and_two, or_one, or_two, andt_one, andt_two, ort_one, ort_two, not_eq, sl_eq, rev_eq, join_eq, comp_eq, comp2_eq, cown_eq, cut2, step_eq, tests_no, tests_one,
  setT, setTs, IT.slots, ITs.slots, wipeE, rng_nat, List.all_cons, List.all_nil, List.cons_append, List.nil_append, List.append_nil, Option.toList_some, Option.toList_none,
  slS_str, slS_lst, slS_tup, op_no, op_so, it_own, it_lst, it_tpl, wk_own', wk_lst, wk_tpl, wk_str, ixS_l, ixS_o, ixS_t, ixS_s, at0, at1, at2, at3, at4, at5, at6, ix0, ix1, ix2, bi_pow7, bi_pow18, dlt_t, dlt_f, dle_t, dle_f, deq_t, deq_f, nle_t, nlt_t, dnlt_t, dnle_t, Bool.not_true, Bool.not_false, Bool.and_true, Bool.true_and, Bool.and_self, Bool.and_false, List.contains_cons, List.contains_nil, beq_self_eq_true, Nat.reduceBEq, Nat.reduceEqDiff, Bool.or_false, Bool.or_self, Option.bind_some, Option.map_some, if_true, if_false, Bool.false_eq_true, ↓reduceIte,
  List.getElem?_cons_zero, List.getElem?_cons_succ, List.set_cons_zero, List.set_cons_succ, List.length_cons, List.length_nil])

def f_beads_at := fnP [] [] n_beads_at 4 b_beads_at
theorem beads_ok {game : D} {sh row : Str} {p s : Nat} (hg : ixS (.dat game) (.int 1) = some (.str sh)) (hr : row.length ≤ 1000) : f_beads_at [game, .str row, .int (p : Int), .int (s : Int)] = .ok (.dat (.str (atM (decide (sh = ringS)) row p s))) := by
  refine fnP_ok (E := [.dat game, .dat (.str row), .dat (.int (p : Int)), .dat (.int (s : Int))]) (N := n_beads_at) (n := 4) (ds := [game, .str row, .int (p : Int), .int (s : Int)]) rfl ?_
  show semSs (Γof []) (csOf []) [] b_beads_at [.dat game, .dat (.str row), .dat (.int (p : Int)), .dat (.int (s : Int))] = _
  unfold b_beads_at
  have hrr : (row ++ row).length ≤ 100000 := by rw [app_len]; omega
  refine seq_rt ?_
  walk_at "e"
  rw [hg]
  walk_at "e"
  unfold atM
  by_cases h : sh = ringS
  · have hd : decide (sh = Str.ofString "ring") = true := decide_eq_true h
    rw [hd, decide_eq_true h]
    walk_at "e"
  · have hd : decide (sh = Str.ofString "ring") = false := decide_eq_false h
    rw [hd, decide_eq_false h]
    walk_at "e"
def f_spots := fnP [.pu f_beads_at] [] n_spots 3 b_spots
theorem spots_loop {game : D} {sh row text : Str} {n : Nat} (hg : ixS (.dat game) (.int 1) = some (.str sh)) (hn : n ≤ 1000) (hr : row.length ≤ 1000) (ht : text.length ≤ 1000) :
    loopC (stepC (.nm 3) (semAs (Γof [.pu f_beads_at]) (csOf []) (.cons (.cmp .Eq (.call 0 (.cons (.slot 0) (.cons (.slot 1) (.cons (.slot 3) (.cons (.blt .len (.cons (.slot 2) .nil)) .nil))))) (.slot 2)) .nil)) (semE (Γof [.pu f_beads_at]) (csOf []) (.slot 3))) [3] (intsD 0 n) [] [.dat game, .dat (.str row), .dat (.str text), .no] =
      .ok ((spotsM (decide (sh = ringS)) n row text).map natD, [.dat game, .dat (.str row), .dat (.str text), .no]) := by
  unfold intsD
  rw [loopC_of (g := fun i => if decide (atM (decide (sh = ringS)) row i text.length = text) then some (natD i) else none)]
  · rw [List.nil_append, filterMap_if]
    rfl
  · intro i hi
    refine ⟨[.dat game, .dat (.str row), .dat (.str text), .dat (.int (0 + (i : Int)))], ?_, rfl, rfl⟩
    have hy : (0 + (i : Int)) = ((i : Nat) : Int) := by omega
    rw [hy]
    walk_at "e"
    rw [beads_ok hg hr]
    walk_at "e"
    cases decide (atM (decide (sh = ringS)) row i text.length = text) with
    | true => walk_at "e"; rfl
    | false => walk_at "e"
  · simp
    omega
theorem spots_ok {game : D} {sh row text : Str} {n : Nat} (hg : ixS (.dat game) (.int 1) = some (.str sh)) (h3 : ixS (.dat game) (.int 3) = some (.int (n : Int))) (hn : n ≤ 1000) (hr : row.length ≤ 1000) (ht : text.length ≤ 1000) : f_spots [game, .str row, .str text] = .ok (.own (.list ((spotsM (decide (sh = ringS)) n row text).map natD))) := by
  refine fnP_ok (E := [.dat game, .dat (.str row), .dat (.str text), .no]) (N := n_spots) (n := 3) (ds := [game, .str row, .str text]) rfl ?_
  show semSs (Γof [.pu f_beads_at]) (csOf []) [] b_spots [.dat game, .dat (.str row), .dat (.str text), .no] = _
  unfold b_spots
  have hc : compM (semE (Γof [.pu f_beads_at]) (csOf []) (.slot 3)) (.nm 3) (semI (Γof [.pu f_beads_at]) (csOf []) (.rng (.ix (.slot 0) (.int 3)))) (semAs (Γof [.pu f_beads_at]) (csOf []) (.cons (.cmp .Eq (.call 0 (.cons (.slot 0) (.cons (.slot 1) (.cons (.slot 3) (.cons (.blt .len (.cons (.slot 2) .nil)) .nil))))) (.slot 2)) .nil)) [.dat game, .dat (.str row), .dat (.str text), .no] = .ok (.own (.list ((spotsM (decide (sh = ringS)) n row text).map natD)), [.dat game, .dat (.str row), .dat (.str text), .no]) := by
    refine comp_of (ds := intsD 0 n) (E1 := [.dat game, .dat (.str row), .dat (.str text), .no]) (E2 := [.dat game, .dat (.str row), .dat (.str text), .no]) ?_ rfl rfl (spots_loop hg hn hr ht)
    walk_at "e"
    rw [h3]
    walk_at "e"
  refine seq_rt ?_
  rw [sr_comp, ev_comp, of_v, hc]
  walk_at "e"
end Wq
set_option maxHeartbeats 4000000
namespace Wq
open PySem L2
local macro_rules | `(tactic| walk_at "e") => `(tactic| simp (disch := first | omega | (simp only [List.length_cons, List.length_nil, List.length_map, List.length_append, List.length_reverse]; omega)) only [↓ev_bind, ↓ev_bad, ↓toK, kOk, kBad, out_nx, out_rt, ss0, ss1, s_ret1, sr_cst, sr_int, sr_str, sr_bl, sr_non, sr_bin, sr_neg, sr_cmp, sr_cmp2, sr_bop, sr_not, sr_ite, sr_tup, sr_lst, sr_ix, sr_sl, sr_rev, sr_call, sr_callB, sr_callO, sr_blt, sr_join, sr_comp, sr_comp2, s_retI1, s_exp1, s_set1, s_unp1, s_par21, s_if1, s_app1, s_rev1, s_sto1, s_sto2, s_frz1, lp_rng, lp_val, lp_enum, set_eq, ev_of, ev_none, ev_slot, ev_cst, ev_int, ev_str, ev_bl, ev_non, ev_bin, ev_neg, ev_cmp, ev_cmp2, ev_and, ev_or, ev_not, ev_ite, ev_tup, ev_lst, ev_ix, ev_sl, ev_rev, ev_call, ev_callB, ev_callO, ev_blt, ev_join, ev_comp, ev_comp2, ev_nil, ev_cons, ev_rng, ev_rng2, ev_val, ev_enum, ev_zip, ev_own,
  of_v, of_k, of_t, of_s, ofV_v, ofV_k, ofV_s, ofD_v, ofD_k, ofD_s, ofD_d, sl_v, sl_k, sl_d, slot_s, slot_t, of_d, ofV_d, datS_dat, datS_own, tr_bool, tr_list, tr_own, args_nil, args_cons, pr_slot, pair_of, pair_ofV, pair_ofD, pair_cmp, bin_eq, cmp_v_eq, cmp_k_eq, cmp_t_eq, cmp_s_eq, cmp_d_eq, cmpM_eq,
  own_eq, noo_eq, bi_add, bi_sub, bi_mul, bi_div, bi_mod, bi_addS, bi_addT, bi_addL, cs_eqi, cs_nei, cs_eqs, cs_nes, cs_lt, cs_le, cs_gt, cs_ge, cs_is, cs_isnt, cs_inT, cst0, b1_sumL, ix_eq, tup_eq, lst_eq, ite_eq, blt1_eq, blt2_eq, b1_lenL, b1_lenO, b1_lenT, b1_lenS, b1_tupO, b1_tupL, b1_tupT, b1_lisO, b1_lisL, b1_lisT, b1_abs, b1_intB, b2_min, b2_max, b2_divmod, cb_eq, co_eq, call_eq, γ0, γs,
  and_one, and_two, or_one, or_two, andt_one, andt_two, ort_one, ort_two, not_eq, sl_eq, rev_eq, join_eq, comp_eq, comp2_eq, cown_eq, cut2, step_eq, tests_no, tests_one,
  setT, setTs, IT.slots, ITs.slots, wipeE, rng_nat, List.all_cons, List.all_nil, List.cons_append, List.nil_append, List.append_nil, Option.toList_some, Option.toList_none,
  slS_str, slS_lst, slS_tup, op_no, op_so, it_own, it_lst, it_tpl, wk_own', wk_lst, wk_tpl, wk_str, ixS_l, ixS_o, ixS_t, ixS_s, at0, at1, at2, at3, at4, at5, at6, ix0, ix1, ix2, bi_pow7, bi_pow18, dlt_t, dlt_f, dle_t, dle_f, deq_t, deq_f, nle_t, nlt_t, dnlt_t, dnle_t, Bool.not_true, Bool.not_false, Bool.and_true, Bool.true_and, Bool.and_self, Bool.and_false, List.contains_cons, List.contains_nil, beq_self_eq_true, Nat.reduceBEq, Nat.reduceEqDiff, Bool.or_false, Bool.or_self, Option.bind_some, Option.map_some, if_true, if_false, Bool.false_eq_true, ↓reduceIte,
  List.getElem?_cons_zero, List.getElem?_cons_succ, List.set_cons_zero, List.set_cons_succ, List.length_cons, List.length_nil])

local macro_rules | `(tactic| walk_at "f") => `(tactic| simp (disch := first | omega | (simp only [List.length_cons, List.length_nil, List.length_map, List.length_append, List.length_reverse]; omega)) only [↓ev_bind, ↓ev_bad, ↓toK, kOk, kBad, out_nx, out_rt, ss0, ss1, s_ret1, sr_cst, sr_int, sr_str, sr_bl, sr_non, sr_bin, sr_neg, sr_cmp, sr_cmp2, sr_bop, sr_not, sr_ite, sr_tup, sr_lst, sr_ix, sr_sl, sr_rev, sr_call, sr_callB, sr_callO, sr_blt, sr_join, sr_comp, sr_comp2, s_retI1, s_exp1, s_set1, s_unp1, s_par21, s_if1, s_app1, s_rev1, s_sto1, s_sto2, s_frz1, lp_rng, lp_val, lp_enum, set_eq, ev_of, ev_none, ev_slot, ev_cst, ev_int, ev_str, ev_bl, ev_non, ev_bin, ev_neg, ev_cmp, ev_cmp2, ev_and, ev_or, ev_not, ev_ite, ev_tup, ev_lst, ev_ix, ev_sl, ev_rev, ev_call, ev_callB, ev_callO, ev_blt, ev_join, ev_comp, ev_comp2, ev_nil, ev_cons, ev_rng, ev_rng2, ev_val, ev_enum, ev_zip, ev_own,
  of_v, of_k, of_t, of_s, ofV_v, ofV_k, ofV_s, ofD_v, ofD_k, ofD_s, ofD_d, sl_v, sl_k, sl_d, slot_s, slot_t, of_d, ofV_d, datS_dat, datS_own, tr_bool, tr_list, tr_own, args_nil, args_cons, pr_slot, pair_of, pair_ofV, pair_ofD, pair_cmp, bin_eq, cmp_v_eq, cmp_k_eq, cmp_t_eq, cmp_s_eq, cmp_d_eq, cmpM_eq,
  own_eq, noo_eq, bi_add, bi_sub, bi_mul, bi_div, bi_mod, bi_addS, bi_addT, bi_addL, cs_eqi, cs_nei, cs_eqs, cs_nes, cs_lt, cs_le, cs_gt, cs_ge, cs_is, cs_isnt, cs_inT, cst0, b1_sumL, ix_eq, tup_eq, lst_eq, ite_eq, blt1_eq, blt2_eq, b1_lenL, b1_lenO, b1_lenT, b1_lenS, b1_tupO, b1_tupL, b1_tupT, b1_lisO, b1_lisL, b1_lisT, b1_abs, b1_intB, b2_min, b2_max, b2_divmod, cb_eq, co_eq, call_eq, γ0, γs,
  and_one, and_two, or_one, or_two, andt_one, andt_two, ort_one, ort_two, not_eq, sl_eq, rev_eq, join_eq, comp_eq, cown_eq, cut2, step_eq, tests_no, tests_one,
  IT.slots, ITs.slots, wipeE, rng_nat, List.all_cons, List.all_nil, List.cons_append, List.nil_append, List.append_nil, Option.toList_some, Option.toList_none,
  slS_str, slS_lst, slS_tup, op_no, op_so, it_own, it_lst, it_tpl, wk_own', wk_lst, wk_tpl, wk_str, ixS_l, ixS_o, ixS_t, ixS_s, at0, at1, at2, at3, at4, at5, at6, ix0, ix1, ix2, bi_pow7, bi_pow18, dlt_t, dlt_f, dle_t, dle_f, deq_t, deq_f, nle_t, nlt_t, dnlt_t, dnle_t, Bool.not_true, Bool.not_false, Bool.and_true, Bool.true_and, Bool.and_self, Bool.and_false, List.contains_cons, List.contains_nil, beq_self_eq_true, Nat.reduceBEq, Nat.reduceEqDiff, Bool.or_false, Bool.or_self, Option.bind_some, Option.map_some, if_true, if_false, Bool.false_eq_true, ↓reduceIte,
  List.getElem?_cons_zero, List.getElem?_cons_succ, List.set_cons_zero, List.set_cons_succ, List.length_cons, List.length_nil])
theorem moves_sig {longest : Nat} {g : Gm} {side : Nat} {row : Str} (hg : GmOk longest g) : sigOk (movesM g side row) = true := by
  have key : ∀ ks ∈ movesM g side row, ks.map isInt = [true, false, false] := fun ks hks => by
    obtain ⟨p, a, b, m, rfl, _⟩ := movesM_mem hg hks
    rfl
  cases hq : movesM g side row with
  | nil => rfl
  | cons k r =>
    rw [hq] at key
    have e1 := key k List.mem_cons_self
    simp only [sigOk, Bool.and_eq_true, Bool.not_eq_true', List.all_eq_true, decide_eq_true_eq]
    refine ⟨?_, fun x hx => by rw [key x (List.mem_cons_of_mem _ hx), e1]⟩
    cases k with
    | nil => cases e1
    | cons _ _ => rfl
def f_steps_of := fnP [.pu f_spots] [] n_steps_of 2 b_steps_of
def Fr (s : Sl) : Prop := s = .no ∨ ∃ d, s = .dat d
theorem loopF_acc {α : Type} {f : α → D} {tg : IT} {body : En → Rs Fl} {g : α → List D} {n N : Nat} (S : List D → En → Prop) : ∀ {xs : List α} {acc : List D} {E : En}, S acc E →
    (∀ x ∈ xs, (g x).length ≤ n ∧ ∀ acc E, S acc E → acc.length + n ≤ N → ∃ E2 E3, setT tg (f x) E = some E2 ∧ body E2 = .ok (.nx E3) ∧ S (acc ++ g x) E3) → acc.length + xs.length * n ≤ N → ∃ E', loopF tg body (xs.map f) E = .ok (.nx E') ∧ S (acc ++ xs.flatMap g) E'
  | [], acc, E, h0, _, _ => ⟨E, rfl, by rw [List.flatMap_nil, List.append_nil]; exact h0⟩
  | x :: xs, acc, E, h0, hs, hl => by
    obtain ⟨hn, h⟩ := hs x List.mem_cons_self
    rw [List.length_cons, Nat.add_mul, Nat.one_mul] at hl
    obtain ⟨E2, E3, h1, h2, h3⟩ := h acc E h0 (by omega)
    obtain ⟨E', q1, q2⟩ := loopF_acc S (xs := xs) h3 (fun y hy => hs y (List.mem_cons_of_mem _ hy)) (by rw [List.length_append]; omega)
    refine ⟨E', ?_, ?_⟩
    · rw [List.map_cons]
      unfold loopF
      rw [h1, ev_of, ev_bind, h2, ev_bind]
      exact q1
    · rw [List.flatMap_cons, ← List.append_assoc]
      exact q2
theorem steps_comp {l : Bool} {name : Str} {g : Gm} {longest side m : Nat} {row a b : Str} {acc : List D} {st : D} (hg : GmOk longest g) (hlo : longest ≤ 100) (hr : row.length = g.long) (ha : a.length = m) (hm : m ≤ g.long) :
    compM (semE (Γof [.pu f_spots]) (csOf []) (.tup (.cons (.slot 7) (.cons (.slot 5) (.cons (.slot 6) .nil))))) (.nm 7) (semI (Γof [.pu f_spots]) (csOf []) (.val (.call 0 (.cons (.slot 0) (.cons (.slot 4) (.cons (.slot 5) .nil)))))) (semAs (Γof [.pu f_spots]) (csOf []) .nil) [.dat (sq l (gameQ l name g)), .dat st, .own (.list acc), .dat (.int (side : Int)), .dat (.str row), .dat (.str a), .dat (.str b), .no] = .ok (.own (.list ((ruleMoves (decide (g.shape = lineS)) row [.inr a, .inr b]).map tupK)), [.dat (sq l (gameQ l name g)), .dat st, .own (.list acc), .dat (.int (side : Int)), .dat (.str row), .dat (.str a), .dat (.str b), .no]) := by
  have hll := hg.long
  have hg1 : ixS (.dat (sq l (gameQ l name g))) (.int 1) = some (.str g.shape) := by rw [ix_sq]; rfl
  have hg3 : ixS (.dat (sq l (gameQ l name g))) (.int 3) = some (.int (g.long : Int)) := by rw [ix_sq]; rfl
  have hsp := spots_ok (game := sq l (gameQ l name g)) (row := row) (text := a) hg1 hg3 (by omega) (by omega) (by omega)
  rw [← hr, ← places_spots hg.shape (by omega)] at hsp
  have hfew := places_few (decide (g.shape = lineS)) row a
  generalize hG : sq l (gameQ l name g) = G at hsp
  refine comp_of (ds := (placesM (decide (g.shape = lineS)) row a).map natD) (E1 := [.dat G, .dat st, .own (.list acc), .dat (.int (side : Int)), .dat (.str row), .dat (.str a), .dat (.str b), .no]) (E2 := [.dat G, .dat st, .own (.list acc), .dat (.int (side : Int)), .dat (.str row), .dat (.str a), .dat (.str b), .no]) ?_ rfl rfl ?_
  · walk_at "e"
    rw [hsp]
    walk_at "e"
  · show loopC _ [7] _ _ [.dat G, .dat st, .own (.list acc), .dat (.int (side : Int)), .dat (.str row), .dat (.str a), .dat (.str b), .no] = _
    rw [loopC_of (g := fun p => some (tupK (mv p a b)))]
    · rw [List.filterMap_eq_map', List.nil_append]
      show _ = Rs.ok (((placesM (decide (g.shape = lineS)) row a).map fun p : Nat => mv p a b).map tupK, _)
      rw [List.map_map]
      rfl
    · intro p hp
      refine ⟨[.dat G, .dat st, .own (.list acc), .dat (.int (side : Int)), .dat (.str row), .dat (.str a), .dat (.str b), .dat (.int (p : Int))], ?_, rfl, rfl⟩
      unfold natD
      walk_at "e"
      rfl
    · rw [List.length_nil]
      omega
theorem steps_ok {l l2 : Bool} {name : Str} {g : Gm} {longest side : Nat} {row : Str} (hg : GmOk longest g) (hlo : longest ≤ 100) (hr : row.length = g.long) (hs : side < 2) : f_steps_of [sq l (gameQ l name g), sq l2 [.int (side : Int), .str row]] = .ok (.own (.list ((sortK (movesM g side row)).map tupK))) := by
  have hll := hg.long
  obtain ⟨he, hf⟩ := rulesOf_each (side := side) hg
  have hsig : sigOk (movesM g side row) = true := moves_sig hg
  have h4 : ixS (.dat (sq l (gameQ l name g))) (.int 4) = some (sq l [sq l (g.r1.map (rowQ l)), sq l (g.r2.map (rowQ l))]) := by rw [ix_sq]; rfl
  have h5 : ixS (.dat (sq l [sq l (g.r1.map (rowQ l)), sq l (g.r2.map (rowQ l))])) (.int (side : Int)) = some (sq l ((rulesOf g side).map (rowQ l))) := by rw [ix_sq]; exact atN (rulesOf_at hs)
  generalize hst : sq l2 [.int (side : Int), .str row] = st
  obtain ⟨E', q1, s5, s6, rfl, _, _⟩ := loopF_acc (f := rowQ l) (tg := .tp (.cons (.nm 5) (.cons (.nm 6) .nil))) (body := semSs (Γof [.pu f_spots]) (csOf []) [] (.cons (.set 2 (.bin .Add (.slot 2) (.comp (.tup (.cons (.slot 7) (.cons (.slot 5) (.cons (.slot 6) .nil)))) (.nm 7) (.val (.call 0 (.cons (.slot 0) (.cons (.slot 4) (.cons (.slot 5) .nil))))) .nil))) .nil)) (g := fun ks => (ruleMoves (decide (g.shape = lineS)) row ks).map tupK) (n := 100) (N := 10000)
    (fun acc E => ∃ s5 s6, E = [.dat (sq l (gameQ l name g)), .dat st, .own (.list acc), .dat (.int (side : Int)), .dat (.str row), s5, s6, .no] ∧ Fr s5 ∧ Fr s6)
    (xs := rulesOf g side) (acc := []) (E := [.dat (sq l (gameQ l name g)), .dat st, .own (.list []), .dat (.int (side : Int)), .dat (.str row), .no, .no, .no]) ⟨.no, .no, rfl, .inl rfl, .inl rfl⟩ (by
      intro ks hks
      obtain ⟨a, b, m, rfl, hm1, hm2, hm3, ha, hb, _⟩ := he ks hks
      have hal := ha.1
      have hfew := places_few (decide (g.shape = lineS)) row a
      have hlen : ((ruleMoves (decide (g.shape = lineS)) row [.inr a, .inr b]).map tupK).length ≤ 100 := by
        show ((placesM _ row a).map _ |>.map tupK).length ≤ 100; rw [List.length_map, List.length_map]; omega
      refine ⟨hlen, ?_⟩
      rintro acc E ⟨s5, s6, rfl, f5, f6⟩ hacc
      have hc := steps_comp (l := l) (name := name) (side := side) (b := b) (acc := acc) (st := st) hg hlo hr hal hm3
      refine ⟨[.dat (sq l (gameQ l name g)), .dat st, .own (.list acc), .dat (.int (side : Int)), .dat (.str row), .dat (.str a), .dat (.str b), .no], [.dat (sq l (gameQ l name g)), .dat st, .own (.list (acc ++ (ruleMoves (decide (g.shape = lineS)) row [.inr a, .inr b]).map tupK)), .dat (.int (side : Int)), .dat (.str row), .dat (.str a), .dat (.str b), .no], ?_, seq_nx ?_ rfl, .dat (.str a), .dat (.str b), rfl, .inr ⟨_, rfl⟩, .inr ⟨_, rfl⟩⟩
      · unfold rowQ
        rw [set_sq]
        rcases f5 with rfl | ⟨d5, rfl⟩ <;> rcases f6 with rfl | ⟨d6, rfl⟩ <;> rfl
      · generalize (ruleMoves (decide (g.shape = lineS)) row [.inr a, .inr b]).map tupK = ms at hc hlen ⊢
        generalize sq l (gameQ l name g) = G at hc ⊢
        rw [s_set1, ev_bin, ev_comp]
        generalize compM (semE (Γof [.pu f_spots]) (csOf []) (.tup (.cons (.slot 7) (.cons (.slot 5) (.cons (.slot 6) .nil))))) (.nm 7) (semI (Γof [.pu f_spots]) (csOf []) (.val (.call 0 (.cons (.slot 0) (.cons (.slot 4) (.cons (.slot 5) .nil)))))) (semAs (Γof [.pu f_spots]) (csOf []) .nil) = X at hc ⊢
        walk_at "f"
        rw [hc]
        walk_at "f") (by rw [List.length_nil]; omega)
  subst hst
  refine fnP_ok (E := [.dat (sq l (gameQ l name g)), .dat (sq l2 [.int (side : Int), .str row]), .own (.list ([] ++ (rulesOf g side).flatMap fun ks => (ruleMoves (decide (g.shape = lineS)) row ks).map tupK)), .dat (.int (side : Int)), .dat (.str row), s5, s6, .no]) (N := n_steps_of) (n := 2) (ds := [sq l (gameQ l name g), sq l2 [.int (side : Int), .str row]]) rfl ?_
  show semSs (Γof [.pu f_spots]) (csOf []) [] b_steps_of [.dat (sq l (gameQ l name g)), .dat (sq l2 [.int (side : Int), .str row]), .no, .no, .no, .no, .no, .no] = _
  unfold b_steps_of
  refine seq_nx (E1 := [.dat (sq l (gameQ l name g)), .dat (sq l2 [.int (side : Int), .str row]), .no, .dat (.int (side : Int)), .dat (.str row), .no, .no, .no]) ?_ ?_
  · rw [s_unp1]
    show ((slotM 1).d _).bind _ = _
    rw [sl_d]
    walk_at "f"
    rw [set_sq]
    rfl
  refine seq_nx (E1 := [.dat (sq l (gameQ l name g)), .dat (sq l2 [.int (side : Int), .str row]), .own (.list []), .dat (.int (side : Int)), .dat (.str row), .no, .no, .no]) ?_ ?_
  · walk_at "e"
  refine seq_nx (E1 := [.dat (sq l (gameQ l name g)), .dat (sq l2 [.int (side : Int), .str row]), .own (.list ([] ++ (rulesOf g side).flatMap fun ks => (ruleMoves (decide (g.shape = lineS)) row ks).map tupK)), .dat (.int (side : Int)), .dat (.str row), s5, s6, .no]) ?_ (seq_rt ?_)
  · rw [lp_val]
    generalize semSs (Γof [.pu f_spots]) (csOf []) [] (.cons (.set 2 (.bin .Add (.slot 2) (.comp (.tup (.cons (.slot 7) (.cons (.slot 5) (.cons (.slot 6) .nil)))) (.nm 7) (.val (.call 0 (.cons (.slot 0) (.cons (.slot 4) (.cons (.slot 5) .nil))))) .nil))) .nil) = B at q1 ⊢
    walk_at "f"
    rw [h4]
    walk_at "f"
    rw [h5]
    walk_at "f"
    rw [walk_sq]
    walk_at "f"
    exact q1
  · rw [List.nil_append, ← List.map_flatMap]
    show _ = Rs.ok (Fl.rt _ _)
    have : ((rulesOf g side).flatMap (ruleMoves (decide (g.shape = lineS)) row)) = movesM g side row := rfl
    rw [this]
    walk_at "f"
    rw [b1_sortO hsig]
    walk_at "f"
end Wq
set_option maxHeartbeats 4000000
namespace Wq
open PySem L2
local macro_rules | `(tactic| walk_at "e") => `(tactic| simp (disch := first | omega | (simp only [List.length_cons, List.length_nil, List.length_map, List.length_append, List.length_reverse]; omega)) only [↓ev_bind, ↓ev_bad, ↓toK, kOk, kBad, out_nx, out_rt, ss0, ss1, s_ret1, sr_cst, sr_int, sr_str, sr_bl, sr_non, sr_bin, sr_neg, sr_cmp, sr_cmp2, sr_bop, sr_not, sr_ite, sr_tup, sr_lst, sr_ix, sr_sl, sr_rev, sr_call, sr_callB, sr_callO, sr_blt, sr_join, sr_comp, sr_comp2, s_retI1, s_exp1, s_set1, s_unp1, s_par21, s_if1, s_app1, s_rev1, s_sto1, s_sto2, s_frz1, lp_rng, lp_val, lp_enum, set_eq, ev_of, ev_none, ev_slot, ev_cst, ev_int, ev_str, ev_bl, ev_non, ev_bin, ev_neg, ev_cmp, ev_cmp2, ev_and, ev_or, ev_not, ev_ite, ev_tup, ev_lst, ev_ix, ev_sl, ev_rev, ev_call, ev_callB, ev_callO, ev_blt, ev_join, ev_comp, ev_comp2, ev_nil, ev_cons, ev_rng, ev_rng2, ev_val, ev_enum, ev_zip, ev_own,
  of_v, of_k, of_t, of_s, ofV_v, ofV_k, ofV_s, ofD_v, ofD_k, ofD_s, ofD_d, sl_v, sl_k, sl_d, slot_s, slot_t, of_d, ofV_d, datS_dat, datS_own, tr_bool, tr_list, tr_own, args_nil, args_cons, pr_slot, pair_of, pair_ofV, pair_ofD, pair_cmp, bin_eq, cmp_v_eq, cmp_k_eq, cmp_t_eq, cmp_s_eq, cmp_d_eq, cmpM_eq,
  own_eq, noo_eq, bi_add, bi_sub, bi_mul, bi_div, bi_mod, bi_addS, bi_addT, bi_addL, cs_eqi, cs_nei, cs_eqs, cs_nes, cs_lt, cs_le, cs_gt, cs_ge, cs_is, cs_isnt, cs_inT, cst0, b1_sumL, ix_eq, tup_eq, lst_eq, ite_eq, blt1_eq, blt2_eq, b1_lenL, b1_lenO, b1_lenT, b1_lenS, b1_tupO, b1_tupL, b1_tupT, b1_lisO, b1_lisL, b1_lisT, b1_abs, b1_intB, b2_min, b2_max, b2_divmod, cb_eq, co_eq, call_eq, γ0, γs,
  and_one, and_two, or_one, or_two, andt_one, andt_two, ort_one, ort_two, not_eq, sl_eq, rev_eq, join_eq, comp_eq, comp2_eq, cown_eq, cut2, step_eq, tests_no, tests_one,
  setT, setTs, IT.slots, ITs.slots, wipeE, rng_nat, List.all_cons, List.all_nil, List.cons_append, List.nil_append, List.append_nil, Option.toList_some, Option.toList_none,
  slS_str, slS_lst, slS_tup, op_no, op_so, it_own, it_lst, it_tpl, wk_own', wk_lst, wk_tpl, wk_str, ixS_l, ixS_o, ixS_t, ixS_s, at0, at1, at2, at3, at4, at5, at6, ix0, ix1, ix2, bi_pow7, bi_pow18, dlt_t, dlt_f, dle_t, dle_f, deq_t, deq_f, nle_t, nlt_t, dnlt_t, dnle_t, Bool.not_true, Bool.not_false, Bool.and_true, Bool.true_and, Bool.and_self, Bool.and_false, List.contains_cons, List.contains_nil, beq_self_eq_true, Nat.reduceBEq, Nat.reduceEqDiff, Bool.or_false, Bool.or_self, Option.bind_some, Option.map_some, if_true, if_false, Bool.false_eq_true, ↓reduceIte,
  List.getElem?_cons_zero, List.getElem?_cons_succ, List.set_cons_zero, List.set_cons_succ, List.length_cons, List.length_nil])

local macro_rules | `(tactic| walk_at "f") => `(tactic| simp (disch := first | omega | (simp only [List.length_cons, List.length_nil, List.length_map, List.length_append, List.length_reverse]; omega)) only [↓ev_bind, ↓ev_bad, ↓toK, kOk, kBad, out_nx, out_rt, ss0, ss1, s_ret1, sr_cst, sr_int, sr_str, sr_bl, sr_non, sr_bin, sr_neg, sr_cmp, sr_cmp2, sr_bop, sr_not, sr_ite, sr_tup, sr_lst, sr_ix, sr_sl, sr_rev, sr_call, sr_callB, sr_callO, sr_blt, sr_join, sr_comp, sr_comp2, s_retI1, s_exp1, s_set1, s_unp1, s_par21, s_if1, s_app1, s_rev1, s_sto1, s_sto2, s_frz1, lp_rng, lp_val, lp_enum, set_eq, ev_of, ev_none, ev_slot, ev_cst, ev_int, ev_str, ev_bl, ev_non, ev_bin, ev_neg, ev_cmp, ev_cmp2, ev_and, ev_or, ev_not, ev_ite, ev_tup, ev_lst, ev_ix, ev_sl, ev_rev, ev_call, ev_callB, ev_callO, ev_blt, ev_join, ev_comp, ev_comp2, ev_nil, ev_cons, ev_rng, ev_rng2, ev_val, ev_enum, ev_zip, ev_own,
  of_v, of_k, of_t, of_s, ofV_v, ofV_k, ofV_s, ofD_v, ofD_k, ofD_s, ofD_d, sl_v, sl_k, sl_d, slot_s, slot_t, of_d, ofV_d, datS_dat, datS_own, tr_bool, tr_list, tr_own, args_nil, args_cons, pr_slot, pair_of, pair_ofV, pair_ofD, pair_cmp, bin_eq, cmp_v_eq, cmp_k_eq, cmp_t_eq, cmp_s_eq, cmp_d_eq, cmpM_eq,
  own_eq, noo_eq, bi_add, bi_sub, bi_mul, bi_div, bi_mod, bi_addS, bi_addT, bi_addL, cs_eqi, cs_nei, cs_eqs, cs_nes, cs_lt, cs_le, cs_gt, cs_ge, cs_is, cs_isnt, cs_inT, cst0, b1_sumL, ix_eq, tup_eq, lst_eq, ite_eq, blt1_eq, blt2_eq, b1_lenL, b1_lenO, b1_lenT, b1_lenS, b1_tupO, b1_tupL, b1_tupT, b1_lisO, b1_lisL, b1_lisT, b1_abs, b1_intB, b2_min, b2_max, b2_divmod, cb_eq, co_eq, call_eq, γ0, γs,
  and_one, and_two, or_one, or_two, andt_one, andt_two, ort_one, ort_two, not_eq, sl_eq, rev_eq, join_eq, comp_eq, cown_eq, cut2, step_eq, tests_no, tests_one,
  IT.slots, ITs.slots, wipeE, rng_nat, List.all_cons, List.all_nil, List.cons_append, List.nil_append, List.append_nil, Option.toList_some, Option.toList_none,
  slS_str, slS_lst, slS_tup, op_no, op_so, it_own, it_lst, it_tpl, wk_own', wk_lst, wk_tpl, wk_str, ixS_l, ixS_o, ixS_t, ixS_s, at0, at1, at2, at3, at4, at5, at6, ix0, ix1, ix2, bi_pow7, bi_pow18, dlt_t, dlt_f, dle_t, dle_f, deq_t, deq_f, nle_t, nlt_t, dnlt_t, dnle_t, Bool.not_true, Bool.not_false, Bool.and_true, Bool.true_and, Bool.and_self, Bool.and_false, List.contains_cons, List.contains_nil, beq_self_eq_true, Nat.reduceBEq, Nat.reduceEqDiff, Bool.or_false, Bool.or_self, Option.bind_some, Option.map_some, if_true, if_false, Bool.false_eq_true, ↓reduceIte,
  List.getElem?_cons_zero, List.getElem?_cons_succ, List.set_cons_zero, List.set_cons_succ, List.length_cons, List.length_nil])
theorem nats_shaped (xs : List Nat) : SeqAt.shaped (.list (xs.map natD)) = true := (Sd.lst (n := 0) fun d hd => by
  obtain ⟨i, _, rfl⟩ := List.mem_map.mp hd
  exact Sd.int _).shaped (by decide)
theorem ints_shaped (xs : List Int) : SeqAt.shaped (.list (xs.map PyData.int)) = true := (Sd.lst (n := 0) fun d hd => by
  obtain ⟨i, _, rfl⟩ := List.mem_map.mp hd
  exact Sd.int _).shaped (by decide)
def f_end := fnP [.pu f_spots, .pu f_steps_of] [] n_end 2 b_end
theorem end_loop {l : Bool} {name : Str} {g : Gm} {longest side : Nat} {row : Str} {st : D} (hg : GmOk longest g) (hlo : longest ≤ 100) (hr : row.length = g.long) :
    loopC (stepC (.tp (.cons (.nm 5) (.cons (.nm 6) (.cons (.nm 7) .nil)))) (semAs (Γof [.pu f_spots, .pu f_steps_of]) (csOf []) (.cons (.bop .And (.cons (.cmp .In (.slot 5) (.tup (.cons (.slot 3) (.cons (.int 2) .nil)))) (.cons (.cmp .NotEq (.call 0 (.cons (.slot 0) (.cons (.slot 4) (.cons (.slot 6) .nil)))) (.lst .nil)) .nil))) .nil)) (semE (Γof [.pu f_spots, .pu f_steps_of]) (csOf []) (.slot 7))) [5, 6, 7] (g.ends.map (rowQ l)) []
      [.dat (sq l (gameQ l name g)), .dat st, .no, .dat (.int (side : Int)), .dat (.str row), .no, .no, .no] =
      .ok ((worthsM g side row).map PyData.int, [.dat (sq l (gameQ l name g)), .dat st, .no, .dat (.int (side : Int)), .dat (.str row), .no, .no, .no]) := by
  have hll := hg.long
  rw [loopC_of (g := fun ks => (endOne (decide (g.shape = lineS)) side row ks).head?.map PyData.int)]
  · rw [List.nil_append, ends_flat fun ks _ => endOne_one]
    rfl
  · intro ks hks
    obtain ⟨who, m, pat, worth, rfl, hw, hm1, hm2, hp, _⟩ := hg.ends.each ks hks
    have hpl := hp.1
    have hgi : ixS (.dat (sq l (gameQ l name g))) (.int 1) = some (.str g.shape) := by rw [ix_sq]; rfl
    have hg3 : ixS (.dat (sq l (gameQ l name g))) (.int 3) = some (.int (g.long : Int)) := by rw [ix_sq]; rfl
    have hpo := spots_ok (game := sq l (gameQ l name g)) (row := row) (text := pat) hgi hg3 (by omega) (by omega) (by omega)
    rw [← hr, ← places_spots hg.shape (by omega)] at hpo
    have hne : cmpS .NotEq (.own (.list ((placesM (decide (g.shape = lineS)) row pat).map natD))) (.own (.list [])) = some (!(placesM (decide (g.shape = lineS)) row pat).isEmpty) := by
      rw [cs_ne (a := .list ((placesM (decide (g.shape = lineS)) row pat).map natD)) (b := .list []) rfl rfl rfl (nats_shaped _) rfl, eqv_nil, map_empty]
    generalize hG : sq l (gameQ l name g) = G at hpo
    refine ⟨[.dat G, .dat st, .no, .dat (.int (side : Int)), .dat (.str row), .dat (.int (who : Int)), .dat (.str pat), .dat (.int worth)], ?_, rfl, rfl⟩
    have hset : setT (.tp (.cons (.nm 5) (.cons (.nm 6) (.cons (.nm 7) .nil)))) (rowQ l [.inl (who : Int), .inr pat, .inl worth]) [.dat G, .dat st, .no, .dat (.int (side : Int)), .dat (.str row), .no, .no, .no] = some [.dat G, .dat st, .no, .dat (.int (side : Int)), .dat (.str row), .dat (.int (who : Int)), .dat (.str pat), .dat (.int worth)] := by
      unfold rowQ
      rw [set_sq]
      rfl
    rw [step_eq, hset]
    walk_at "f"
    unfold endOne
    cases ha : ([(side : Int), 2] : List Int).any fun n => decide (n = (who : Int)) with
    | false => walk_at "f"; rw [ha]; rfl
    | true =>
      walk_at "f"
      rw [hpo]
      walk_at "f"
      rw [hne]
      walk_at "f"
      cases (placesM (decide (g.shape = lineS)) row pat).isEmpty with
      | false => walk_at "f"; rw [ha]; rfl
      | true => walk_at "f"; rfl
  · have := hg.ends.few
    simp
    omega
theorem end_ok {l l2 : Bool} {name : Str} {g : Gm} {longest side : Nat} {row : Str} (hg : GmOk longest g) (hlo : longest ≤ 100) (hr : row.length = g.long) (hs : side < 2) : f_end [sq l (gameQ l name g), sq l2 [.int (side : Int), .str row]] = .ok (.dat (endM g side row)) := by
  have h5 : ixS (.dat (sq l (gameQ l name g))) (.int 5) = some (sq l (g.ends.map (rowQ l))) := by rw [ix_sq]; rfl
  have h6 : ixS (.dat (sq l (gameQ l name g))) (.int 6) = some (sq l [.int g.s1, .int g.s2]) := by rw [ix_sq]; rfl
  have h7 : ixS (.dat (sq l [.int g.s1, .int g.s2])) (.int (side : Int)) = some (.int (stuckM g side)) := by rw [ix_sq]; exact atN (stuck_at (l := l) hs)
  have hmb := steps_ok (l := l) (l2 := l2) (name := name) hg hlo hr hs
  have hsd : SeqAt.shaped (.list ((sortK (movesM g side row)).map tupK)) = true := (moves_sd (n := 0) hg (sortK_perm _)).shaped (by decide)
  have hEq : cmpS .Eq (.own (.list ((sortK (movesM g side row)).map tupK))) (.own (.list [])) = some (movesM g side row).isEmpty := by
    rw [cs_eq (a := .list ((sortK (movesM g side row)).map tupK)) (b := .list []) rfl rfl rfl hsd rfl, eqv_nil, map_empty, perm_empty (sortK_perm _)]
  refine fnP_ok (E := [.dat (sq l (gameQ l name g)), .dat (sq l2 [.int (side : Int), .str row]), .dat (.list ((worthsM g side row).map PyData.int)), .dat (.int (side : Int)), .dat (.str row), .no, .no, .no]) (N := n_end) (n := 2) (ds := [sq l (gameQ l name g), sq l2 [.int (side : Int), .str row]]) rfl ?_
  show semSs (Γof [.pu f_spots, .pu f_steps_of]) (csOf []) [] b_end [.dat (sq l (gameQ l name g)), .dat (sq l2 [.int (side : Int), .str row]), .no, .no, .no, .no, .no, .no] = _
  unfold b_end
  refine seq_nx (E1 := [.dat (sq l (gameQ l name g)), .dat (sq l2 [.int (side : Int), .str row]), .no, .dat (.int (side : Int)), .dat (.str row), .no, .no, .no]) ?_ ?_
  · rw [s_unp1]
    show ((slotM 1).d _).bind _ = _
    rw [sl_d]
    walk_at "f"
    rw [set_sq]
    rfl
  refine seq_nx (E1 := [.dat (sq l (gameQ l name g)), .dat (sq l2 [.int (side : Int), .str row]), .own (.list ((worthsM g side row).map PyData.int)), .dat (.int (side : Int)), .dat (.str row), .no, .no, .no]) ?_ ?_
  · have hc : compM (semE (Γof [.pu f_spots, .pu f_steps_of]) (csOf []) (.slot 7)) (.tp (.cons (.nm 5) (.cons (.nm 6) (.cons (.nm 7) .nil)))) (semI (Γof [.pu f_spots, .pu f_steps_of]) (csOf []) (.val (.ix (.slot 0) (.int 5)))) (semAs (Γof [.pu f_spots, .pu f_steps_of]) (csOf []) (.cons (.bop .And (.cons (.cmp .In (.slot 5) (.tup (.cons (.slot 3) (.cons (.int 2) .nil)))) (.cons (.cmp .NotEq (.call 0 (.cons (.slot 0) (.cons (.slot 4) (.cons (.slot 6) .nil)))) (.lst .nil)) .nil))) .nil)) [.dat (sq l (gameQ l name g)), .dat (sq l2 [.int (side : Int), .str row]), .no, .dat (.int (side : Int)), .dat (.str row), .no, .no, .no] = .ok (.own (.list ((worthsM g side row).map PyData.int)), [.dat (sq l (gameQ l name g)), .dat (sq l2 [.int (side : Int), .str row]), .no, .dat (.int (side : Int)), .dat (.str row), .no, .no, .no]) := by
      refine comp_of (ds := g.ends.map (rowQ l)) (E1 := [.dat (sq l (gameQ l name g)), .dat (sq l2 [.int (side : Int), .str row]), .no, .dat (.int (side : Int)), .dat (.str row), .no, .no, .no]) (E2 := [.dat (sq l (gameQ l name g)), .dat (sq l2 [.int (side : Int), .str row]), .no, .dat (.int (side : Int)), .dat (.str row), .no, .no, .no]) ?_ rfl rfl (end_loop (l := l) (name := name) (side := side) (st := sq l2 [.int (side : Int), .str row]) hg hlo hr)
      walk_at "f"
      rw [h5]
      walk_at "f"
      rw [walk_sq]
      walk_at "f"
    rw [s_set1, ev_comp, of_v, hc]
    walk_at "e"
  refine seq_nx (E1 := [.dat (sq l (gameQ l name g)), .dat (sq l2 [.int (side : Int), .str row]), .dat (.list ((worthsM g side row).map PyData.int)), .dat (.int (side : Int)), .dat (.str row), .no, .no, .no]) ?_ ?_
  · walk_at "e"
  generalize hG : sq l (gameQ l name g) = G at h5 h6 hmb
  unfold endM
  have hnw : cmpS .NotEq (.dat (.list ((worthsM g side row).map PyData.int))) (.own (.list [])) = some (!(worthsM g side row).isEmpty) := by
    rw [cs_ne (a := .list ((worthsM g side row).map PyData.int)) (b := .list []) rfl rfl rfl (ints_shaped _) rfl, eqv_nil, map_empty]
  by_cases hw : 0 < (worthsM g side row).length
  · rw [if_pos hw]
    have hb : (worthsM g side row).isEmpty = false := by
      cases h : worthsM g side row with
      | nil => rw [h] at hw; exact absurd hw (by decide)
      | cons _ _ => rfl
    refine seq_rt ?_
    walk_at "e"
    rw [hnw, hb]
    walk_at "e"
    rfl
  · rw [if_neg hw]
    refine seq_nx (E1 := [.dat G, .dat (sq l2 [.int (side : Int), .str row]), .dat (.list ((worthsM g side row).map PyData.int)), .dat (.int (side : Int)), .dat (.str row), .no, .no, .no]) ?_ (seq_rt ?_)
    · have hb : (worthsM g side row).isEmpty = true := by
        cases h : worthsM g side row with
        | nil => rfl
        | cons _ _ => rw [h] at hw; exact absurd (Nat.succ_pos _) hw
      walk_at "e"
      rw [hnw, hb]
      walk_at "e"
    · walk_at "e"
      rw [hmb]
      walk_at "e"
      rw [hEq]
      walk_at "e"
      cases (movesM g side row).isEmpty with
      | false => walk_at "e"
      | true =>
        walk_at "e"
        rw [h6]
        walk_at "e"
        rw [h7]
        walk_at "e"
end Wq
set_option maxHeartbeats 4000000
namespace Wq
open PySem L2
local macro_rules | `(tactic| walk_at "e") => `(tactic| simp (disch := first | omega | (simp only [List.length_cons, List.length_nil, List.length_map, List.length_append, List.length_reverse]; omega)) only [↓ev_bind, ↓ev_bad, ↓toK, kOk, kBad, out_nx, out_rt, ss0, ss1, s_ret1, sr_cst, sr_int, sr_str, sr_bl, sr_non, sr_bin, sr_neg, sr_cmp, sr_cmp2, sr_bop, sr_not, sr_ite, sr_tup, sr_lst, sr_ix, sr_sl, sr_rev, sr_call, sr_callB, sr_callO, sr_blt, sr_join, sr_comp, sr_comp2, s_retI1, s_exp1, s_set1, s_unp1, s_par21, s_if1, s_app1, s_rev1, s_sto1, s_sto2, s_frz1, lp_rng, lp_val, lp_enum, set_eq, ev_of, ev_none, ev_slot, ev_cst, ev_int, ev_str, ev_bl, ev_non, ev_bin, ev_neg, ev_cmp, ev_cmp2, ev_and, ev_or, ev_not, ev_ite, ev_tup, ev_lst, ev_ix, ev_sl, ev_rev, ev_call, ev_callB, ev_callO, ev_blt, ev_join, ev_comp, ev_comp2, ev_nil, ev_cons, ev_rng, ev_rng2, ev_val, ev_enum, ev_zip, ev_own,
  of_v, of_k, of_t, of_s, ofV_v, ofV_k, ofV_s, ofD_v, ofD_k, ofD_s, ofD_d, sl_v, sl_k, sl_d, slot_s, slot_t, of_d, ofV_d, datS_dat, datS_own, tr_bool, tr_list, tr_own, args_nil, args_cons, pr_slot, pair_of, pair_ofV, pair_ofD, pair_cmp, bin_eq, cmp_v_eq, cmp_k_eq, cmp_t_eq, cmp_s_eq, cmp_d_eq, cmpM_eq,
  own_eq, noo_eq, bi_add, bi_sub, bi_mul, bi_div, bi_mod, bi_addS, bi_addT, bi_addL, cs_eqi, cs_nei, cs_eqs, cs_nes, cs_lt, cs_le, cs_gt, cs_ge, cs_is, cs_isnt, cs_inT, cst0, b1_sumL, ix_eq, tup_eq, lst_eq, ite_eq, blt1_eq, blt2_eq, b1_lenL, b1_lenO, b1_lenT, b1_lenS, b1_tupO, b1_tupL, b1_tupT, b1_lisO, b1_lisL, b1_lisT, b1_abs, b1_intB, b2_min, b2_max, b2_divmod, cb_eq, co_eq, call_eq, γ0, γs,
  and_one, and_two, or_one, or_two, andt_one, andt_two, ort_one, ort_two, not_eq, sl_eq, rev_eq, join_eq, comp_eq, comp2_eq, cown_eq, cut2, step_eq, tests_no, tests_one,
  setT, setTs, IT.slots, ITs.slots, wipeE, rng_nat, List.all_cons, List.all_nil, List.cons_append, List.nil_append, List.append_nil, Option.toList_some, Option.toList_none,
  slS_str, slS_lst, slS_tup, op_no, op_so, it_own, it_lst, it_tpl, wk_own', wk_lst, wk_tpl, wk_str, ixS_l, ixS_o, ixS_t, ixS_s, at0, at1, at2, at3, at4, at5, at6, ix0, ix1, ix2, bi_pow7, bi_pow18, dlt_t, dlt_f, dle_t, dle_f, deq_t, deq_f, nle_t, nlt_t, dnlt_t, dnle_t, Bool.not_true, Bool.not_false, Bool.and_true, Bool.true_and, Bool.and_self, Bool.and_false, List.contains_cons, List.contains_nil, beq_self_eq_true, Nat.reduceBEq, Nat.reduceEqDiff, Bool.or_false, Bool.or_self, Option.bind_some, Option.map_some, if_true, if_false, Bool.false_eq_true, ↓reduceIte,
  List.getElem?_cons_zero, List.getElem?_cons_succ, List.set_cons_zero, List.set_cons_succ, List.length_cons, List.length_nil])

local macro_rules | `(tactic| walk_at "f") => `(tactic| simp (disch := first | omega | (simp only [List.length_cons, List.length_nil, List.length_map, List.length_append, List.length_reverse]; omega)) only [↓ev_bind, ↓ev_bad, ↓toK, kOk, kBad, out_nx, out_rt, ss0, ss1, s_ret1, sr_cst, sr_int, sr_str, sr_bl, sr_non, sr_bin, sr_neg, sr_cmp, sr_cmp2, sr_bop, sr_not, sr_ite, sr_tup, sr_lst, sr_ix, sr_sl, sr_rev, sr_call, sr_callB, sr_callO, sr_blt, sr_join, sr_comp, sr_comp2, s_retI1, s_exp1, s_set1, s_unp1, s_par21, s_if1, s_app1, s_rev1, s_sto1, s_sto2, s_frz1, lp_rng, lp_val, lp_enum, set_eq, ev_of, ev_none, ev_slot, ev_cst, ev_int, ev_str, ev_bl, ev_non, ev_bin, ev_neg, ev_cmp, ev_cmp2, ev_and, ev_or, ev_not, ev_ite, ev_tup, ev_lst, ev_ix, ev_sl, ev_rev, ev_call, ev_callB, ev_callO, ev_blt, ev_join, ev_comp, ev_comp2, ev_nil, ev_cons, ev_rng, ev_rng2, ev_val, ev_enum, ev_zip, ev_own,
  of_v, of_k, of_t, of_s, ofV_v, ofV_k, ofV_s, ofD_v, ofD_k, ofD_s, ofD_d, sl_v, sl_k, sl_d, slot_s, slot_t, of_d, ofV_d, datS_dat, datS_own, tr_bool, tr_list, tr_own, args_nil, args_cons, pr_slot, pair_of, pair_ofV, pair_ofD, pair_cmp, bin_eq, cmp_v_eq, cmp_k_eq, cmp_t_eq, cmp_s_eq, cmp_d_eq, cmpM_eq,
  own_eq, noo_eq, bi_add, bi_sub, bi_mul, bi_div, bi_mod, bi_addS, bi_addT, bi_addL, cs_eqi, cs_nei, cs_eqs, cs_nes, cs_lt, cs_le, cs_gt, cs_ge, cs_is, cs_isnt, cs_inT, cst0, b1_sumL, ix_eq, tup_eq, lst_eq, ite_eq, blt1_eq, blt2_eq, b1_lenL, b1_lenO, b1_lenT, b1_lenS, b1_tupO, b1_tupL, b1_tupT, b1_lisO, b1_lisL, b1_lisT, b1_abs, b1_intB, b2_min, b2_max, b2_divmod, cb_eq, co_eq, call_eq, γ0, γs,
  and_one, and_two, or_one, or_two, andt_one, andt_two, ort_one, ort_two, not_eq, sl_eq, rev_eq, join_eq, comp_eq, cown_eq, cut2, step_eq, tests_no, tests_one,
  IT.slots, ITs.slots, wipeE, rng_nat, List.all_cons, List.all_nil, List.cons_append, List.nil_append, List.append_nil, Option.toList_some, Option.toList_none,
  slS_str, slS_lst, slS_tup, op_no, op_so, it_own, it_lst, it_tpl, wk_own', wk_lst, wk_tpl, wk_str, ixS_l, ixS_o, ixS_t, ixS_s, at0, at1, at2, at3, at4, at5, at6, ix0, ix1, ix2, bi_pow7, bi_pow18, dlt_t, dlt_f, dle_t, dle_f, deq_t, deq_f, nle_t, nlt_t, dnlt_t, dnle_t, Bool.not_true, Bool.not_false, Bool.and_true, Bool.true_and, Bool.and_self, Bool.and_false, List.contains_cons, List.contains_nil, beq_self_eq_true, Nat.reduceBEq, Nat.reduceEqDiff, Bool.or_false, Bool.or_self, Option.bind_some, Option.map_some, if_true, if_false, Bool.false_eq_true, ↓reduceIte,
  List.getElem?_cons_zero, List.getElem?_cons_succ, List.set_cons_zero, List.set_cons_succ, List.length_cons, List.length_nil])
def f_lists : Nat → List D → Rs Sl := fnR [] [] n_lists 1 b_lists
theorem b1_seqI {i : Int} : blt1 .isSeq (.dat (.int i)) = some (.dat (.bool false)) := (rfl)
theorem b1_seqS {i : Str} : blt1 .isSeq (.dat (.str i)) = some (.dat (.bool false)) := (rfl)
theorem b1_seqL {i : List D} : blt1 .isSeq (.dat (.list i)) = some (.dat (.bool true)) := (rfl)
theorem b1_seqT {i : List D} : blt1 .isSeq (.dat (.tuple i)) = some (.dat (.bool true)) := (rfl)
theorem lists_comp {k : Nat} {d : D} {ds : List D} (hw : walkS (.dat d) = some ds) (hl : ds.length ≤ 1000) (hk : ∀ x ∈ ds, Pl k x) (h : ∀ x ∈ ds, f_lists (k + 1) [x] = .ok (listsSl x)) :
    compM (semE (Γof [.pu (f_lists (k + 1))]) (csOf []) (.call 0 (.cons (.slot 1) .nil))) (.nm 1) (semI (Γof [.pu (f_lists (k + 1))]) (csOf []) (.val (.slot 0))) (semAs (Γof [.pu (f_lists (k + 1))]) (csOf []) .nil) [.dat d, .no] = .ok (.own (.list (ds.map listsM)), [.dat d, .no]) := by
  refine comp_of (ds := ds) (E1 := [.dat d, .no]) (E2 := [.dat d, .no]) ?_ rfl rfl ?_
  · walk_at "e"
    rw [hw]
    walk_at "e"
  · show loopC _ [1] _ _ [.dat d, .no] = _
    rw [loopC_map (g := fun x => some (listsM x))]
    · rw [List.filterMap_eq_map', List.nil_append]
    · intro x hx
      refine ⟨[.dat d, .dat x], ?_, rfl, rfl⟩
      walk_at "e"
      rw [h x hx]
      rcases (hk x hx).sl with ⟨e1, e2⟩ | e1
      · rw [e1, e2]
        walk_at "e"
      · rw [e1]
        walk_at "e"
    · rw [List.length_nil]
      omega
theorem lists_ok : ∀ {k : Nat} {d : D}, Pl k d → f_lists (k + 1) [d] = .ok (listsSl d) := by
  intro k d h
  induction h with
  | @int k i =>
    show fnP [.pu (f_lists k)] [] n_lists 1 b_lists [.int i] = _
    refine fnP_ok (E := [.dat (.int i), .no]) (N := n_lists) (n := 1) (ds := [.int i]) rfl ?_
    show semSs _ (csOf []) [] b_lists [.dat (.int i), .no] = _
    refine seq_rt ?_
    rw [sr_ite, ev_ite, ev_comp]
    generalize compM _ _ _ _ = X
    walk_at "f"
    rw [b1_seqI]
    walk_at "f"
    rfl
  | @str k i =>
    show fnP [.pu (f_lists k)] [] n_lists 1 b_lists [.str i] = _
    refine fnP_ok (E := [.dat (.str i), .no]) (N := n_lists) (n := 1) (ds := [.str i]) rfl ?_
    show semSs _ (csOf []) [] b_lists [.dat (.str i), .no] = _
    refine seq_rt ?_
    rw [sr_ite, ev_ite, ev_comp]
    generalize compM _ _ _ _ = X
    walk_at "f"
    rw [b1_seqS]
    walk_at "f"
    rfl
  | @lst k ds hl hd ih =>
    have hc := lists_comp (k := k) (d := .list ds) rfl hl hd ih
    refine fnP_ok (E := [.dat (.list ds), .no]) (N := n_lists) (n := 1) (ds := [.list ds]) rfl ?_
    show semSs (Γof [.pu (f_lists (k + 1))]) (csOf []) [] b_lists [.dat (.list ds), .no] = _
    refine seq_rt ?_
    rw [sr_ite, ev_ite, ev_comp]
    generalize compM (semE (Γof [.pu (f_lists (k + 1))]) (csOf []) (.call 0 (.cons (.slot 1) .nil))) (.nm 1) (semI (Γof [.pu (f_lists (k + 1))]) (csOf []) (.val (.slot 0))) (semAs (Γof [.pu (f_lists (k + 1))]) (csOf []) .nil) = X at hc ⊢
    walk_at "f"
    rw [b1_seqL]
    walk_at "f"
    rw [hc]
    walk_at "f"
    rfl
  | @tup k ds hl hd ih =>
    have hc := lists_comp (k := k) (d := .tuple ds) rfl hl hd ih
    refine fnP_ok (E := [.dat (.tuple ds), .no]) (N := n_lists) (n := 1) (ds := [.tuple ds]) rfl ?_
    show semSs (Γof [.pu (f_lists (k + 1))]) (csOf []) [] b_lists [.dat (.tuple ds), .no] = _
    refine seq_rt ?_
    rw [sr_ite, ev_ite, ev_comp]
    generalize compM (semE (Γof [.pu (f_lists (k + 1))]) (csOf []) (.call 0 (.cons (.slot 1) .nil))) (.nm 1) (semI (Γof [.pu (f_lists (k + 1))]) (csOf []) (.val (.slot 0))) (semAs (Γof [.pu (f_lists (k + 1))]) (csOf []) .nil) = X at hc ⊢
    walk_at "f"
    rw [b1_seqT]
    walk_at "f"
    rw [hc]
    walk_at "f"
    rfl
end Wq
set_option maxHeartbeats 4000000
namespace Wq
open PySem L2
def n_tupled : List Str := [(Str.ofString "thing"), (Str.ofString "part")]
def b_tupled : ISs :=
 (.cons (.ifs (.blt .isSeq (.cons (.slot 0) .nil))
 (.cons (.ret (.blt .tuple (.cons (.comp (.call 0 (.cons (.slot 1) .nil)) (.nm 1) (.val (.slot 0)) .nil) .nil)))
 .nil)
 .nil)
 (.cons (.ret (.slot 0))
 .nil))
def n_is_number : List Str := [(Str.ofString "thing")]
def b_is_number : ISs :=
 (.cons (.ret (.bop .And (.cons (.blt .isInt (.cons (.slot 0) .nil)) (.cons (.not (.blt .isBool (.cons (.slot 0) .nil))) .nil))))
 .nil)
def n_moves : List Str := [(Str.ofString "game"), (Str.ofString "standing")]
def b_moves : ISs :=
 (.cons (.ret (.ite (.cmp .Is (.call 0 (.cons (.slot 0) (.cons (.slot 1) .nil))) .non) (.call 1 (.cons (.slot 0) (.cons (.slot 1) .nil))) (.lst .nil)))
 .nil)
def n_behind_move : List Str := [(Str.ofString "standing"), (Str.ofString "move"), (Str.ofString "beads"), (Str.ofString "side"), (Str.ofString "row"), (Str.ofString "place"), (Str.ofString "old"), (Str.ofString "new"), (Str.ofString "at"), (Str.ofString "bead")]
def b_behind_move : ISs :=
 (.cons (.unpack (.tp (.cons (.nm 3) (.cons (.nm 4) .nil))) (.slot 0))
 (.cons (.unpack (.tp (.cons (.nm 5) (.cons (.nm 6) (.cons (.nm 7) .nil)))) (.slot 1))
 (.cons (.set 2 (.blt .list (.cons (.slot 4) .nil)))
 (.cons (.loop (.tp (.cons (.nm 8) (.cons (.nm 9) .nil))) (.enum (.slot 7))
 (.cons (.store 2 (.bin .Mod (.bin .Add (.slot 5) (.slot 8)) (.blt .len (.cons (.slot 4) .nil))) (.slot 9))
 .nil))
 (.cons (.freeze 2)
 (.cons (.ret (.tup (.cons (.bin .Sub (.int 1) (.slot 3)) (.cons (.join (.str (Str.ofString "")) (.slot 2)) .nil))))
 .nil))))))
def n_any_standing : List Str := [(Str.ofString "_law_box_here"), (Str.ofString "_law_game")]
def b_any_standing : ISs :=
 (.cons (.ret (.tup (.cons (.callB 0 0 (.cons (.int 2) .nil)) (.cons (.callB 1 0 (.cons (.ix (.slot 1) (.int 2)) (.cons (.ix (.slot 1) (.int 3)) .nil))) .nil))))
 .nil)
def n_steps : List Str := [(Str.ofString "_law_game"), (Str.ofString "_law_standing")]
def b_steps : ISs :=
 (.cons (.ret (.ite (.cmp .IsNot (.call 0 (.cons (.slot 0) (.cons (.slot 1) .nil))) .non) (.lst .nil) (.call 1 (.cons (.slot 0) (.cons (.slot 1) .nil)))))
 .nil)
def n_behind : List Str := [(Str.ofString "_law_game"), (Str.ofString "_law_standing"), (Str.ofString "_law_step"), (Str.ofString "_law_beads"), (Str.ofString "_law_side"), (Str.ofString "_law_row"), (Str.ofString "_law_place"), (Str.ofString "_law_old"), (Str.ofString "_law_new"), (Str.ofString "_law_at"), (Str.ofString "_law_sign")]
def b_behind : ISs :=
 (.cons (.unpack (.tp (.cons (.nm 4) (.cons (.nm 5) .nil))) (.slot 1))
 (.cons (.unpack (.tp (.cons (.nm 6) (.cons (.nm 7) (.cons (.nm 8) .nil)))) (.slot 2))
 (.cons (.set 3 (.blt .list (.cons (.slot 5) .nil)))
 (.cons (.loop (.tp (.cons (.nm 9) (.cons (.nm 10) .nil))) (.enum (.slot 8))
 (.cons (.store 3 (.bin .Mod (.bin .Add (.slot 6) (.slot 9)) (.ix (.slot 0) (.int 3))) (.slot 10))
 .nil))
 (.cons (.freeze 3)
 (.cons (.ret (.tup (.cons (.bin .Sub (.int 1) (.slot 4)) (.cons (.join (.str (Str.ofString "")) (.slot 3)) .nil))))
 .nil))))))
def n_strange : List Str := [(Str.ofString "_law_box_here"), (Str.ofString "_law_game"), (Str.ofString "_law_standing"), (Str.ofString "_law_steps_here"), (Str.ofString "_law_some"), (Str.ofString "_law_side"), (Str.ofString "_law_place"), (Str.ofString "_law_old"), (Str.ofString "_law_new"), (Str.ofString "_law_one"), (Str.ofString "_law_other"), (Str.ofString "_law_at"), (Str.ofString "_law_step")]
def b_strange : ISs :=
 (.cons (.unpack (.tp (.cons (.nm 6) (.cons (.nm 7) (.cons (.nm 8) .nil)))) (.ite (.cmp .NotEq (.slot 3) (.lst .nil)) (.callB 0 0 (.cons (.slot 3) .nil)) (.tup (.cons (.int 1) (.cons (.ix (.ix (.slot 1) (.int 2)) (.int 0)) (.cons (.ix (.ix (.slot 1) (.int 2)) (.int 1)) .nil))))))
 (.cons (.set 4 (.lst (.cons (.tup (.cons (.slot 6) (.cons (.slot 7) (.cons (.slot 8) .nil)))) (.cons (.tup (.cons (.bin .Add (.slot 6) (.int 1)) (.cons (.slot 7) (.cons (.slot 8) .nil)))) (.cons (.tup (.cons (.bin .Sub (.slot 6) (.int 1)) (.cons (.slot 7) (.cons (.slot 8) .nil)))) (.cons (.tup (.cons (.slot 6) (.cons (.slot 8) (.cons (.slot 7) .nil)))) (.cons (.tup (.cons (.slot 6) (.cons (.slot 7) .nil))) .nil)))))))
 (.cons (.set 4 (.bin .Add (.slot 4) (.lst (.cons (.tup (.cons (.cmp .Eq (.slot 6) (.int 1)) (.cons (.slot 7) (.cons (.slot 8) .nil)))) (.cons (.tup (.cons (.slot 6) (.cons (.slot 7) (.cons (.slot 8) (.cons (.int 0) .nil))))) (.cons (.tup .nil) (.cons (.tup (.cons (.ix (.slot 1) (.int 3)) (.cons (.slot 7) (.cons (.slot 8) .nil)))) (.cons (.tup (.cons (.slot 6) (.cons (.slot 7) (.cons (.slot 7) .nil)))) .nil))))))))
 (.cons (.loop (.nm 5) (.val (.tup (.cons (.int 0) (.cons (.int 1) .nil))))
 (.cons (.loop (.tp (.cons (.nm 9) (.cons (.nm 10) .nil))) (.val (.ix (.ix (.slot 1) (.int 4)) (.slot 5)))
 (.cons (.set 4 (.bin .Add (.slot 4) (.sl (.comp (.tup (.cons (.slot 11) (.cons (.slot 9) (.cons (.slot 10) .nil)))) (.nm 11) (.rng (.ix (.slot 1) (.int 3))) .nil) (.cons (.neg (.int 2)) .nil) .nil)))
 .nil))
 .nil))
 (.cons (.ret (.comp (.slot 9) (.nm 9) (.own 4) (.cons (.not (.blt .any (.cons (.comp (.call 1 (.cons (.slot 9) (.cons (.slot 12) .nil))) (.nm 12) (.val (.slot 3)) .nil) .nil))) .nil)))
 .nil)))))
def n_right_k09 : List Str := [(Str.ofString "_law_box_here"), (Str.ofString "_law_game"), (Str.ofString "_law_turn"), (Str.ofString "_law_standing"), (Str.ofString "_law_found"), (Str.ofString "_law_step"), (Str.ofString "_law_due"), (Str.ofString "_law_before"), (Str.ofString "_law_told_here")]
def b_right_k09 : ISs :=
 (.cons (.set 1 (.callB 0 0 (.cons (.str (Str.ofString "game")) (.cons (.int 7) .nil))))
 (.cons (.freeze 1)
 (.cons (.loop (.nm 2) (.rng (.int 10))
 (.cons (.set 3 (.callB 1 0 (.cons (.slot 1) .nil)))
 (.cons (.freeze 3)
 (.cons (.par2 6 7 (.call 2 (.cons (.slot 1) (.cons (.slot 3) .nil))) (.blt .repr (.cons (.lst (.cons (.slot 1) (.cons (.slot 3) .nil))) .nil)))
 (.cons (.set 4 (.call 3 (.cons (.slot 1) (.cons (.slot 3) .nil))))
 (.cons (.ifs (.bop .Or (.cons (.not (.callO 4 4 (.cons (.slot 6) .nil))) (.cons (.not (.call 4 (.cons (.call 3 (.cons (.call 5 (.cons (.slot 1) .nil)) (.cons (.blt .list (.cons (.slot 3) .nil)) .nil))) (.cons (.slot 6) .nil)))) .nil)))
 (.cons (.ret (.bl false))
 .nil)
 .nil)
 (.cons (.append 4 (.str (Str.ofString "more")))
 (.cons (.reverse 4)
 (.cons (.loop (.nm 5) (.val (.bin .Add (.sl (.slot 6) .nil (.cons (.int 6) .nil)) (.sl (.sl (.slot 6) (.cons (.int 6) .nil) .nil) (.cons (.neg (.int 6)) .nil) .nil)))
 (.cons (.set 8 (.lst (.cons (.call 6 (.cons (.slot 1) (.cons (.slot 3) (.cons (.slot 5) .nil)))) (.cons (.call 6 (.cons (.call 5 (.cons (.slot 1) .nil)) (.cons (.blt .list (.cons (.slot 3) .nil)) (.cons (.blt .list (.cons (.slot 5) .nil)) .nil)))) .nil))))
 (.cons (.freeze 8)
 (.cons (.ifs (.not (.call 4 (.cons (.slot 8) (.cons (.bin .Mult (.lst (.cons (.call 7 (.cons (.slot 1) (.cons (.slot 3) (.cons (.slot 5) .nil)))) .nil)) (.int 2)) .nil))))
 (.cons (.ret (.bl false))
 .nil)
 .nil)
 .nil))))
 (.cons (.loop (.nm 5) (.val (.callB 8 0 (.cons (.slot 1) (.cons (.slot 3) (.cons (.slot 6) .nil)))))
 (.cons (.ifs (.not (.call 4 (.cons (.call 6 (.cons (.slot 1) (.cons (.slot 3) (.cons (.slot 5) .nil)))) (.cons (.lst (.cons (.slot 5) .nil)) .nil))))
 (.cons (.ret (.bl false))
 .nil)
 .nil)
 .nil))
 (.cons (.ifs (.cmp .NotEq (.blt .repr (.cons (.lst (.cons (.slot 1) (.cons (.slot 3) .nil))) .nil)) (.slot 7))
 (.cons (.ret (.bl false))
 .nil)
 .nil)
 .nil)))))))))))
 (.cons (.ret (.bl true))
 .nil))))
end Wq
set_option maxHeartbeats 4000000
namespace Wq
open PySem L2
local macro_rules | `(tactic| walk_at "e") => `(tactic| simp (disch := first | omega | (simp only [List.length_cons, List.length_nil, List.length_map, List.length_append, List.length_reverse]; omega)) only [↓ev_bind, ↓ev_bad, ↓toK, kOk, kBad, out_nx, out_rt, ss0, ss1, s_ret1, sr_cst, sr_int, sr_str, sr_bl, sr_non, sr_bin, sr_neg, sr_cmp, sr_cmp2, sr_bop, sr_not, sr_ite, sr_tup, sr_lst, sr_ix, sr_sl, sr_rev, sr_call, sr_callB, sr_callO, sr_blt, sr_join, sr_comp, sr_comp2, s_retI1, s_exp1, s_set1, s_unp1, s_par21, s_if1, s_app1, s_rev1, s_sto1, s_sto2, s_frz1, lp_rng, lp_val, lp_enum, set_eq, ev_of, ev_none, ev_slot, ev_cst, ev_int, ev_str, ev_bl, ev_non, ev_bin, ev_neg, ev_cmp, ev_cmp2, ev_and, ev_or, ev_not, ev_ite, ev_tup, ev_lst, ev_ix, ev_sl, ev_rev, ev_call, ev_callB, ev_callO, ev_blt, ev_join, ev_comp, ev_comp2, ev_nil, ev_cons, ev_rng, ev_rng2, ev_val, ev_enum, ev_zip, ev_own,
  of_v, of_k, of_t, of_s, ofV_v, ofV_k, ofV_s, ofD_v, ofD_k, ofD_s, ofD_d, sl_v, sl_k, sl_d, slot_s, slot_t, of_d, ofV_d, datS_dat, datS_own, tr_bool, tr_list, tr_own, args_nil, args_cons, pr_slot, pair_of, pair_ofV, pair_ofD, pair_cmp, bin_eq, cmp_v_eq, cmp_k_eq, cmp_t_eq, cmp_s_eq, cmp_d_eq, cmpM_eq,
  own_eq, noo_eq, bi_add, bi_sub, bi_mul, bi_div, bi_mod, bi_addS, bi_addT, bi_addL, cs_eqi, cs_nei, cs_eqs, cs_nes, cs_lt, cs_le, cs_gt, cs_ge, cs_is, cs_isnt, cs_inT, cst0, b1_sumL, ix_eq, tup_eq, lst_eq, ite_eq, blt1_eq, blt2_eq, b1_lenL, b1_lenO, b1_lenT, b1_lenS, b1_tupO, b1_tupL, b1_tupT, b1_lisO, b1_lisL, b1_lisT, b1_abs, b1_intB, b2_min, b2_max, b2_divmod, cb_eq, co_eq, call_eq, γ0, γs,
  and_one, and_two, or_one, or_two, andt_one, andt_two, ort_one, ort_two, not_eq, sl_eq, rev_eq, join_eq, comp_eq, comp2_eq, cown_eq, cut2, step_eq, tests_no, tests_one,
  setT, setTs, IT.slots, ITs.slots, wipeE, rng_nat, List.all_cons, List.all_nil, List.cons_append, List.nil_append, List.append_nil, Option.toList_some, Option.toList_none,
  slS_str, slS_lst, slS_tup, op_no, op_so, it_own, it_lst, it_tpl, wk_own', wk_lst, wk_tpl, wk_str, ixS_l, ixS_o, ixS_t, ixS_s, at0, at1, at2, at3, at4, at5, at6, ix0, ix1, ix2, bi_pow7, bi_pow18, dlt_t, dlt_f, dle_t, dle_f, deq_t, deq_f, nle_t, nlt_t, dnlt_t, dnle_t, Bool.not_true, Bool.not_false, Bool.and_true, Bool.true_and, Bool.and_self, Bool.and_false, List.contains_cons, List.contains_nil, beq_self_eq_true, Nat.reduceBEq, Nat.reduceEqDiff, Bool.or_false, Bool.or_self, Option.bind_some, Option.map_some, if_true, if_false, Bool.false_eq_true, ↓reduceIte,
  List.getElem?_cons_zero, List.getElem?_cons_succ, List.set_cons_zero, List.set_cons_succ, List.length_cons, List.length_nil])

def movesL (g : Gm) (side : Nat) (row : Str) : List (List Key) := if isNo (endM g side row) then sortK (movesM g side row) else []
def f_moves := fnP [.pu f_ended, .pu f_moves_by_rules] [] n_moves 2 b_moves
theorem moves_ok {l l2 : Bool} {name : Str} {g : Gm} {longest side : Nat} {row : Str} (hg : GmOk longest g) (hlo : longest ≤ 100) (hr : row.length ≤ 100) (hs : side < 2) : f_moves [sq l (gameQ l name g), sq l2 [.int (side : Int), .str row]] = .ok (.own (.list ((movesL g side row).map tupK))) := by
  have h1 := ended_ok (l := l) (l2 := l2) (name := name) hg hlo hr hs
  have h2 := mbr_ok (l := l) (l2 := l2) (name := name) hg hlo hr hs
  generalize sq l (gameQ l name g) = G at h1 h2 ⊢
  generalize sq l2 [.int (side : Int), .str row] = st at h1 h2 ⊢
  refine fnP_ok (E := [.dat G, .dat st]) (N := n_moves) (n := 2) (ds := [G, st]) rfl ?_
  show semSs (Γof [.pu f_ended, .pu f_moves_by_rules]) (csOf []) [] b_moves [.dat G, .dat st] = _
  unfold b_moves
  refine seq_rt ?_
  walk_at "e"
  rw [h1]
  walk_at "e"
  rw [cs_is (a := endM g side row) rfl]
  unfold movesL
  cases isNo (endM g side row) with
  | true =>
    walk_at "e"
    rw [h2]
    walk_at "e"
  | false =>
    walk_at "e"
    rfl
def f_steps := fnP [.pu f_end, .pu f_steps_of] [] n_steps 2 b_steps
theorem steps2_ok {l l2 : Bool} {name : Str} {g : Gm} {longest side : Nat} {row : Str} (hg : GmOk longest g) (hlo : longest ≤ 100) (hr : row.length = g.long) (hs : side < 2) : f_steps [sq l (gameQ l name g), sq l2 [.int (side : Int), .str row]] = .ok (.own (.list ((movesL g side row).map tupK))) := by
  have h1 := end_ok (l := l) (l2 := l2) (name := name) hg hlo hr hs
  have h2 := steps_ok (l := l) (l2 := l2) (name := name) hg hlo hr hs
  generalize sq l (gameQ l name g) = G at h1 h2 ⊢
  generalize sq l2 [.int (side : Int), .str row] = st at h1 h2 ⊢
  refine fnP_ok (E := [.dat G, .dat st]) (N := n_steps) (n := 2) (ds := [G, st]) rfl ?_
  show semSs (Γof [.pu f_end, .pu f_steps_of]) (csOf []) [] b_steps [.dat G, .dat st] = _
  unfold b_steps
  refine seq_rt ?_
  walk_at "e"
  rw [h1]
  walk_at "e"
  rw [cs_isnt (a := endM g side row) rfl]
  unfold movesL
  cases isNo (endM g side row) with
  | true =>
    walk_at "e"
    rw [h2]
    walk_at "e"
  | false =>
    walk_at "e"
    rfl
def f_any_standing := fnX [.bx (f_take 1), .bx f_text] [] n_any_standing 2 b_any_standing
theorem standing_ok {n longest : Nat} {b : D} {name : Str} {g : Gm} (hg : GmOk longest g) (hlo : longest ≤ 100) (hb : Bx n b) (hn : n < 700000000) : ∃ (side : Nat) (row : Str) (b' : D), f_any_standing b [sq false (gameQ false name g)] = .ok (.dat (.tuple [.int (side : Int), .str row]), b') ∧ side < 2 ∧ Tx g.beads g.long row ∧ Bx (n + 101) b' := by
  have hll := hg.long
  have hbl := hg.beads.len
  obtain ⟨r, b1, h1, h2, h3⟩ := take_ok (m := 0) (room := 2) hb (by omega) (by decide) (by decide)
  obtain ⟨z, b2, h4, h5, h6⟩ := text_ok (m := g.long) (beads := g.beads) h3 (by omega) (by omega) (by omega) (by omega)
  refine ⟨r, z, b2, ?_, by omega, h5, h6.up (by omega)⟩
  have g2 : ixS (.dat (sq false (gameQ false name g))) (.int 2) = some (.str g.beads) := by rw [ix_sq]; rfl
  have g3 : ixS (.dat (sq false (gameQ false name g))) (.int 3) = some (.int (g.long : Int)) := by rw [ix_sq]; rfl
  generalize sq false (gameQ false name g) = G at g2 g3 ⊢
  refine fnX_ok (E := [.own b2, .dat G]) (N := n_any_standing) (n := 2) (ds := [G]) rfl ?_ rfl
  show semSs (Γof [.bx (f_take 1), .bx f_text]) (csOf []) [0] b_any_standing [.own b, .dat G] = _
  unfold b_any_standing
  refine seq_rt ?_
  walk_at "e"
  rw [h1]
  walk_at "e"
  rw [g2]
  walk_at "e"
  rw [g3]
  walk_at "e"
  rw [h4]
  walk_at "e"
end Wq
set_option maxHeartbeats 4000000
namespace Wq
open PySem L2
local macro_rules | `(tactic| walk_at "e") => `(tactic| simp (disch := first | omega | (simp only [List.length_cons, List.length_nil, List.length_map, List.length_append, List.length_reverse]; omega)) only [↓ev_bind, ↓ev_bad, ↓toK, kOk, kBad, out_nx, out_rt, ss0, ss1, s_ret1, sr_cst, sr_int, sr_str, sr_bl, sr_non, sr_bin, sr_neg, sr_cmp, sr_cmp2, sr_bop, sr_not, sr_ite, sr_tup, sr_lst, sr_ix, sr_sl, sr_rev, sr_call, sr_callB, sr_callO, sr_blt, sr_join, sr_comp, sr_comp2, s_retI1, s_exp1, s_set1, s_unp1, s_par21, s_if1, s_app1, s_rev1, s_sto1, s_sto2, s_frz1, lp_rng, lp_val, lp_enum, set_eq, ev_of, ev_none, ev_slot, ev_cst, ev_int, ev_str, ev_bl, ev_non, ev_bin, ev_neg, ev_cmp, ev_cmp2, ev_and, ev_or, ev_not, ev_ite, ev_tup, ev_lst, ev_ix, ev_sl, ev_rev, ev_call, ev_callB, ev_callO, ev_blt, ev_join, ev_comp, ev_comp2, ev_nil, ev_cons, ev_rng, ev_rng2, ev_val, ev_enum, ev_zip, ev_own,
  of_v, of_k, of_t, of_s, ofV_v, ofV_k, ofV_s, ofD_v, ofD_k, ofD_s, ofD_d, sl_v, sl_k, sl_d, slot_s, slot_t, of_d, ofV_d, datS_dat, datS_own, tr_bool, tr_list, tr_own, args_nil, args_cons, pr_slot, pair_of, pair_ofV, pair_ofD, pair_cmp, bin_eq, cmp_v_eq, cmp_k_eq, cmp_t_eq, cmp_s_eq, cmp_d_eq, cmpM_eq,
  own_eq, noo_eq, bi_add, bi_sub, bi_mul, bi_div, bi_mod, bi_addS, bi_addT, bi_addL, cs_eqi, cs_nei, cs_eqs, cs_nes, cs_lt, cs_le, cs_gt, cs_ge, cs_is, cs_isnt, cs_inT, cst0, b1_sumL, ix_eq, tup_eq, lst_eq, ite_eq, blt1_eq, blt2_eq, b1_lenL, b1_lenO, b1_lenT, b1_lenS, b1_tupO, b1_tupL, b1_tupT, b1_lisO, b1_lisL, b1_lisT, b1_abs, b1_intB, b2_min, b2_max, b2_divmod, cb_eq, co_eq, call_eq, γ0, γs,
  and_one, and_two, or_one, or_two, andt_one, andt_two, ort_one, ort_two, not_eq, sl_eq, rev_eq, join_eq, comp_eq, comp2_eq, cown_eq, cut2, step_eq, tests_no, tests_one,
  setT, setTs, IT.slots, ITs.slots, wipeE, rng_nat, List.all_cons, List.all_nil, List.cons_append, List.nil_append, List.append_nil, Option.toList_some, Option.toList_none,
  slS_str, slS_lst, slS_tup, op_no, op_so, it_own, it_lst, it_tpl, wk_own', wk_lst, wk_tpl, wk_str, ixS_l, ixS_o, ixS_t, ixS_s, at0, at1, at2, at3, at4, at5, at6, ix0, ix1, ix2, bi_pow7, bi_pow18, dlt_t, dlt_f, dle_t, dle_f, deq_t, deq_f, nle_t, nlt_t, dnlt_t, dnle_t, Bool.not_true, Bool.not_false, Bool.and_true, Bool.true_and, Bool.and_self, Bool.and_false, List.contains_cons, List.contains_nil, beq_self_eq_true, Nat.reduceBEq, Nat.reduceEqDiff, Bool.or_false, Bool.or_self, Option.bind_some, Option.map_some, if_true, if_false, Bool.false_eq_true, ↓reduceIte,
  List.getElem?_cons_zero, List.getElem?_cons_succ, List.set_cons_zero, List.set_cons_succ, List.length_cons, List.length_nil])

local macro_rules | `(tactic| walk_at "f") => `(tactic| simp (disch := first | omega | (simp only [List.length_cons, List.length_nil, List.length_map, List.length_append, List.length_reverse]; omega)) only [↓ev_bind, ↓ev_bad, ↓toK, kOk, kBad, out_nx, out_rt, ss0, ss1, s_ret1, sr_cst, sr_int, sr_str, sr_bl, sr_non, sr_bin, sr_neg, sr_cmp, sr_cmp2, sr_bop, sr_not, sr_ite, sr_tup, sr_lst, sr_ix, sr_sl, sr_rev, sr_call, sr_callB, sr_callO, sr_blt, sr_join, sr_comp, sr_comp2, s_retI1, s_exp1, s_set1, s_unp1, s_par21, s_if1, s_app1, s_rev1, s_sto1, s_sto2, s_frz1, lp_rng, lp_val, lp_enum, set_eq, ev_of, ev_none, ev_slot, ev_cst, ev_int, ev_str, ev_bl, ev_non, ev_bin, ev_neg, ev_cmp, ev_cmp2, ev_and, ev_or, ev_not, ev_ite, ev_tup, ev_lst, ev_ix, ev_sl, ev_rev, ev_call, ev_callB, ev_callO, ev_blt, ev_join, ev_comp, ev_comp2, ev_nil, ev_cons, ev_rng, ev_rng2, ev_val, ev_enum, ev_zip, ev_own,
  of_v, of_k, of_t, of_s, ofV_v, ofV_k, ofV_s, ofD_v, ofD_k, ofD_s, ofD_d, sl_v, sl_k, sl_d, slot_s, slot_t, of_d, ofV_d, datS_dat, datS_own, tr_bool, tr_list, tr_own, args_nil, args_cons, pr_slot, pair_of, pair_ofV, pair_ofD, pair_cmp, bin_eq, cmp_v_eq, cmp_k_eq, cmp_t_eq, cmp_s_eq, cmp_d_eq, cmpM_eq,
  own_eq, noo_eq, bi_add, bi_sub, bi_mul, bi_div, bi_mod, bi_addS, bi_addT, bi_addL, cs_eqi, cs_nei, cs_eqs, cs_nes, cs_lt, cs_le, cs_gt, cs_ge, cs_is, cs_isnt, cs_inT, cst0, b1_sumL, ix_eq, tup_eq, lst_eq, ite_eq, blt1_eq, blt2_eq, b1_lenL, b1_lenO, b1_lenT, b1_lenS, b1_tupO, b1_tupL, b1_tupT, b1_lisO, b1_lisL, b1_lisT, b1_abs, b1_intB, b2_min, b2_max, b2_divmod, cb_eq, co_eq, call_eq, γ0, γs,
  and_one, and_two, or_one, or_two, andt_one, andt_two, ort_one, ort_two, not_eq, sl_eq, rev_eq, join_eq, comp_eq, cown_eq, cut2, step_eq, tests_no, tests_one,
  IT.slots, ITs.slots, wipeE, rng_nat, List.all_cons, List.all_nil, List.cons_append, List.nil_append, List.append_nil, Option.toList_some, Option.toList_none,
  slS_str, slS_lst, slS_tup, op_no, op_so, it_own, it_lst, it_tpl, wk_own', wk_lst, wk_tpl, wk_str, ixS_l, ixS_o, ixS_t, ixS_s, at0, at1, at2, at3, at4, at5, at6, ix0, ix1, ix2, bi_pow7, bi_pow18, dlt_t, dlt_f, dle_t, dle_f, deq_t, deq_f, nle_t, nlt_t, dnlt_t, dnle_t, Bool.not_true, Bool.not_false, Bool.and_true, Bool.true_and, Bool.and_self, Bool.and_false, List.contains_cons, List.contains_nil, beq_self_eq_true, Nat.reduceBEq, Nat.reduceEqDiff, Bool.or_false, Bool.or_self, Option.bind_some, Option.map_some, if_true, if_false, Bool.false_eq_true, ↓reduceIte,
  List.getElem?_cons_zero, List.getElem?_cons_succ, List.set_cons_zero, List.set_cons_succ, List.length_cons, List.length_nil])
mutual
def tupM : D → D
  | .list ds => .tuple (tupAll ds)
  | .tuple ds => .tuple (tupAll ds)
  | .none => .none
  | .bool b => .bool b
  | .int i => .int i
  | .str z => .str z
  | .dict kvs => .dict kvs
def tupAll : List D → List D
  | [] => []
  | d :: r => tupM d :: tupAll r
end
theorem tupAll_map : ∀ ds : List D, tupAll ds = ds.map tupM
  | [] => rfl
  | d :: r => by rw [List.map_cons, ← tupAll_map r]; rfl
def f_tupled : Nat → List D → Rs Sl := fnR [] [] n_tupled 1 b_tupled
theorem tupled_comp {k : Nat} {d : D} {ds : List D} (hw : walkS (.dat d) = some ds) (hl : ds.length ≤ 1000) (h : ∀ x ∈ ds, f_tupled (k + 1) [x] = .ok (.dat (tupM x))) :
    compM (semE (Γof [.pu (f_tupled (k + 1))]) (csOf []) (.call 0 (.cons (.slot 1) .nil))) (.nm 1) (semI (Γof [.pu (f_tupled (k + 1))]) (csOf []) (.val (.slot 0))) (semAs (Γof [.pu (f_tupled (k + 1))]) (csOf []) .nil) [.dat d, .no] = .ok (.own (.list (ds.map tupM)), [.dat d, .no]) := by
  refine comp_of (ds := ds) (E1 := [.dat d, .no]) (E2 := [.dat d, .no]) ?_ rfl rfl ?_
  · walk_at "e"
    rw [hw]
    walk_at "e"
  · show loopC _ [1] _ _ [.dat d, .no] = _
    rw [loopC_map (g := fun x => some (tupM x))]
    · rw [List.filterMap_eq_map', List.nil_append]
    · intro x hx
      refine ⟨[.dat d, .dat x], ?_, rfl, rfl⟩
      walk_at "e"
      rw [h x hx]
      walk_at "e"
    · rw [List.length_nil]
      omega
theorem tupled_flat {k : Nat} {d : D} (hq : blt1 .isSeq (.dat d) = some (.dat (.bool false))) (ht : tupM d = d) : f_tupled (k + 1) [d] = .ok (.dat (tupM d)) := by
  show fnP [.pu (f_tupled k)] [] n_tupled 1 b_tupled [d] = _
  refine fnP_ok (E := [.dat d, .no]) (N := n_tupled) (n := 1) (ds := [d]) rfl ?_
  show semSs _ (csOf []) [] b_tupled [.dat d, .no] = _
  unfold b_tupled
  refine seq_nx (E1 := [.dat d, .no]) ?_ (seq_rt ?_)
  · rw [s_if1]
    generalize ISs.cons _ _ = B
    walk_at "f"
    rw [hq]
    walk_at "f"
  · rw [ht]
    walk_at "f"
theorem tupled_deep {k : Nat} {d : D} {ds : List D} (hq : blt1 .isSeq (.dat d) = some (.dat (.bool true))) (hw : walkS (.dat d) = some ds) (ht : tupM d = .tuple (ds.map tupM)) (hl : ds.length ≤ 1000) (h : ∀ x ∈ ds, f_tupled (k + 1) [x] = .ok (.dat (tupM x))) : f_tupled (k + 1 + 1) [d] = .ok (.dat (tupM d)) := by
  have hc := tupled_comp hw hl h
  refine fnP_ok (E := [.dat d, .no]) (N := n_tupled) (n := 1) (ds := [d]) rfl ?_
  show semSs (Γof [.pu (f_tupled (k + 1))]) (csOf []) [] b_tupled [.dat d, .no] = _
  unfold b_tupled
  refine seq_rt ?_
  have hy : semSs (Γof [.pu (f_tupled (k + 1))]) (csOf []) [] (.cons (.ret (.blt .tuple (.cons (.comp (.call 0 (.cons (.slot 1) .nil)) (.nm 1) (.val (.slot 0)) .nil) .nil))) .nil) [.dat d, .no] = .ok (.rt (.dat (tupM d)) [.dat d, .no]) := by
    refine seq_rt ?_
    rw [sr_blt, ev_blt, ev_cons, ev_nil, of_v, blt1_eq, ev_comp, of_k, hc, ht]
    walk_at "f"
  rw [s_if1]
  generalize ISs.cons _ _ = B at hy ⊢
  walk_at "f"
  rw [hq]
  walk_at "f"
  exact hy
theorem tupled_ok : ∀ {k : Nat} {d : D}, Pl k d → f_tupled (k + 1) [d] = .ok (.dat (tupM d)) := by
  intro k d h
  induction h with
  | int i => exact tupled_flat rfl rfl
  | str i => exact tupled_flat rfl rfl
  | @lst k ds hl hd ih => exact tupled_deep rfl rfl (by show PyData.tuple (tupAll ds) = _; rw [tupAll_map]) hl ih
  | @tup k ds hl hd ih => exact tupled_deep rfl rfl (by show PyData.tuple (tupAll ds) = _; rw [tupAll_map]) hl ih
end Wq
set_option maxHeartbeats 4000000
namespace Wq
open PySem L2
/-! ### reckoning by simp, the meaning of a tree looked into only where it is asked of a state -/
section
variable {Γ : Nat → FnE} {Cs : Nat → Option D} {G : List Nat} {E : En} {B : Mn} {i : Nat}
theorem nv_slot : (semE Γ Cs (.slot i)).v E = (match E[i]? with
  | some (.dat d) => .ok (.dat d, E)
  | _ => .bad) := (rfl)
theorem nk_slot : (semE Γ Cs (.slot i)).k E = (match E[i]? with
  | some (.dat d) => .ok (.dat d, E)
  | some (.own (.list d)) => .ok (.own (.list d), E)
  | _ => .bad) := (rfl)
theorem nd_slot : (semE Γ Cs (.slot i)).d E = (match E[i]? with
  | some (.dat d) => .ok (d, E)
  | _ => .bad) := sl_d
theorem nt_slot : (semE Γ Cs (.slot i)).t E = truthM ((semE Γ Cs (.slot i)).k E) := (rfl)
theorem np_slot : pairM (semE Γ Cs (.slot i)) B E = if ownAt E i then (B.k E).bind fun q => (match q.2[i]? with
      | some (.own (.list d)) => .ok ((.own (.list d), q.1), q.2)
      | _ => .bad)
    else ((semE Γ Cs (.slot i)).v E).bind fun p => (B.k p.2).bind fun q => .ok ((p.1, q.1), q.2) := (rfl)
theorem nv_cst {n} : (semE Γ Cs (.cst n)).v E = (Rs.of (Cs n)).bind fun d => .ok (.dat d, E) := (rfl)
theorem nk_cst {n} : (semE Γ Cs (.cst n)).k E = (semE Γ Cs (.cst n)).v E := (rfl)
theorem nd_cst {n} : (semE Γ Cs (.cst n)).d E = ((semE Γ Cs (.cst n)).v E).bind fun p => (Rs.of (datS p.1)).bind fun d => .ok (d, p.2) := (rfl)
theorem np_cst {n} : pairM (semE Γ Cs (.cst n)) B E = ((semE Γ Cs (.cst n)).v E).bind fun p => (B.k p.2).bind fun q => .ok ((p.1, q.1), q.2) := (rfl)
theorem nt_cst {n} : (semE Γ Cs (.cst n)).t E = truthM ((semE Γ Cs (.cst n)).v E) := (rfl)
theorem nv_int {n : Int} : (semE Γ Cs (.int n)).v E = .ok (.dat (.int n), E) := (rfl)
theorem nk_int {n : Int} : (semE Γ Cs (.int n)).k E = (semE Γ Cs (.int n)).v E := (rfl)
theorem nd_int {n : Int} : (semE Γ Cs (.int n)).d E = ((semE Γ Cs (.int n)).v E).bind fun p => (Rs.of (datS p.1)).bind fun d => .ok (d, p.2) := (rfl)
theorem np_int {n : Int} : pairM (semE Γ Cs (.int n)) B E = ((semE Γ Cs (.int n)).v E).bind fun p => (B.k p.2).bind fun q => .ok ((p.1, q.1), q.2) := (rfl)
theorem nt_int {n : Int} : (semE Γ Cs (.int n)).t E = truthM ((semE Γ Cs (.int n)).v E) := (rfl)
theorem nv_str {n : Str} : (semE Γ Cs (.str n)).v E = .ok (.dat (.str n), E) := (rfl)
theorem nk_str {n : Str} : (semE Γ Cs (.str n)).k E = (semE Γ Cs (.str n)).v E := (rfl)
theorem nd_str {n : Str} : (semE Γ Cs (.str n)).d E = ((semE Γ Cs (.str n)).v E).bind fun p => (Rs.of (datS p.1)).bind fun d => .ok (d, p.2) := (rfl)
theorem np_str {n : Str} : pairM (semE Γ Cs (.str n)) B E = ((semE Γ Cs (.str n)).v E).bind fun p => (B.k p.2).bind fun q => .ok ((p.1, q.1), q.2) := (rfl)
theorem nt_str {n : Str} : (semE Γ Cs (.str n)).t E = truthM ((semE Γ Cs (.str n)).v E) := (rfl)
theorem nv_bl {n : Bool} : (semE Γ Cs (.bl n)).v E = .ok (.dat (.bool n), E) := (rfl)
theorem nk_bl {n : Bool} : (semE Γ Cs (.bl n)).k E = (semE Γ Cs (.bl n)).v E := (rfl)
theorem nd_bl {n : Bool} : (semE Γ Cs (.bl n)).d E = ((semE Γ Cs (.bl n)).v E).bind fun p => (Rs.of (datS p.1)).bind fun d => .ok (d, p.2) := (rfl)
theorem np_bl {n : Bool} : pairM (semE Γ Cs (.bl n)) B E = ((semE Γ Cs (.bl n)).v E).bind fun p => (B.k p.2).bind fun q => .ok ((p.1, q.1), q.2) := (rfl)
theorem nt_bl {n : Bool} : (semE Γ Cs (.bl n)).t E = truthM ((semE Γ Cs (.bl n)).v E) := (rfl)
theorem nv_non  : (semE Γ Cs .non).v E = .ok (.dat .none, E) := (rfl)
theorem nk_non  : (semE Γ Cs .non).k E = (semE Γ Cs .non).v E := (rfl)
theorem nd_non  : (semE Γ Cs .non).d E = ((semE Γ Cs .non).v E).bind fun p => (Rs.of (datS p.1)).bind fun d => .ok (d, p.2) := (rfl)
theorem np_non  : pairM (semE Γ Cs .non) B E = ((semE Γ Cs .non).v E).bind fun p => (B.k p.2).bind fun q => .ok ((p.1, q.1), q.2) := (rfl)
theorem nv_bin {op a b} : (semE Γ Cs (.bin op a b)).v E = binF op (semE Γ Cs a) (semE Γ Cs b) E := (rfl)
theorem nk_bin {op a b} : (semE Γ Cs (.bin op a b)).k E = (semE Γ Cs (.bin op a b)).v E := (rfl)
theorem nd_bin {op a b} : (semE Γ Cs (.bin op a b)).d E = ((semE Γ Cs (.bin op a b)).v E).bind fun p => (Rs.of (datS p.1)).bind fun d => .ok (d, p.2) := (rfl)
theorem np_bin {op a b} : pairM (semE Γ Cs (.bin op a b)) B E = ((semE Γ Cs (.bin op a b)).v E).bind fun p => (B.k p.2).bind fun q => .ok ((p.1, q.1), q.2) := (rfl)
theorem nt_bin {op a b} : (semE Γ Cs (.bin op a b)).t E = truthM ((semE Γ Cs (.bin op a b)).v E) := (rfl)
theorem nv_neg {a} : (semE Γ Cs (.neg a)).v E = ((semE Γ Cs a).d E).bind fun p => (match p.1 with
    | .int i => .ok (.dat (.int (-i)), p.2)
    | _ => .bad) := (rfl)
theorem nk_neg {a} : (semE Γ Cs (.neg a)).k E = (semE Γ Cs (.neg a)).v E := (rfl)
theorem nd_neg {a} : (semE Γ Cs (.neg a)).d E = ((semE Γ Cs (.neg a)).v E).bind fun p => (Rs.of (datS p.1)).bind fun d => .ok (d, p.2) := (rfl)
theorem np_neg {a} : pairM (semE Γ Cs (.neg a)) B E = ((semE Γ Cs (.neg a)).v E).bind fun p => (B.k p.2).bind fun q => .ok ((p.1, q.1), q.2) := (rfl)
theorem nv_cmp {op a b} : (semE Γ Cs (.cmp op a b)).v E = (cmpM op (semE Γ Cs a) (semE Γ Cs b) E).bind fun p => .ok (.dat (.bool p.1), p.2) := (rfl)
theorem nk_cmp {op a b} : (semE Γ Cs (.cmp op a b)).k E = (semE Γ Cs (.cmp op a b)).v E := (rfl)
theorem nd_cmp {op a b} : (semE Γ Cs (.cmp op a b)).d E = ((semE Γ Cs (.cmp op a b)).v E).bind fun p => (Rs.of (datS p.1)).bind fun d => .ok (d, p.2) := (rfl)
theorem np_cmp {op a b} : pairM (semE Γ Cs (.cmp op a b)) B E = ((semE Γ Cs (.cmp op a b)).v E).bind fun p => (B.k p.2).bind fun q => .ok ((p.1, q.1), q.2) := (rfl)
theorem nt_cmp {op a b} : (semE Γ Cs (.cmp op a b)).t E = cmpM op (semE Γ Cs a) (semE Γ Cs b) E := (rfl)
theorem nv_cmp2 {o1 o2 a b c} : (semE Γ Cs (.cmp2 o1 o2 a b c)).v E = (cmp2F o1 o2 (semE Γ Cs a) (semE Γ Cs b) (semE Γ Cs c)).v E := (rfl)
theorem nk_cmp2 {o1 o2 a b c} : (semE Γ Cs (.cmp2 o1 o2 a b c)).k E = (semE Γ Cs (.cmp2 o1 o2 a b c)).v E := (rfl)
theorem nd_cmp2 {o1 o2 a b c} : (semE Γ Cs (.cmp2 o1 o2 a b c)).d E = ((semE Γ Cs (.cmp2 o1 o2 a b c)).v E).bind fun p => (Rs.of (datS p.1)).bind fun d => .ok (d, p.2) := (rfl)
theorem np_cmp2 {o1 o2 a b c} : pairM (semE Γ Cs (.cmp2 o1 o2 a b c)) B E = ((semE Γ Cs (.cmp2 o1 o2 a b c)).v E).bind fun p => (B.k p.2).bind fun q => .ok ((p.1, q.1), q.2) := (rfl)
theorem nt_cmp2 {o1 o2 a b c} : (semE Γ Cs (.cmp2 o1 o2 a b c)).t E = cmp2M o1 o2 (semE Γ Cs a) (semE Γ Cs b) (semE Γ Cs c) E := (rfl)
theorem nv_and {es} : (semE Γ Cs (.bop .And es)).v E = andM (semAs Γ Cs es) E := (rfl)
theorem nk_and {es} : (semE Γ Cs (.bop .And es)).k E = (semE Γ Cs (.bop .And es)).v E := (rfl)
theorem nd_and {es} : (semE Γ Cs (.bop .And es)).d E = ((semE Γ Cs (.bop .And es)).v E).bind fun p => (Rs.of (datS p.1)).bind fun d => .ok (d, p.2) := (rfl)
theorem np_and {es} : pairM (semE Γ Cs (.bop .And es)) B E = ((semE Γ Cs (.bop .And es)).v E).bind fun p => (B.k p.2).bind fun q => .ok ((p.1, q.1), q.2) := (rfl)
theorem nt_and {es} : (semE Γ Cs (.bop .And es)).t E = andT (semAs Γ Cs es) E := (rfl)
theorem nv_or {es} : (semE Γ Cs (.bop .Or es)).v E = orM (semAs Γ Cs es) E := (rfl)
theorem nk_or {es} : (semE Γ Cs (.bop .Or es)).k E = (semE Γ Cs (.bop .Or es)).v E := (rfl)
theorem nd_or {es} : (semE Γ Cs (.bop .Or es)).d E = ((semE Γ Cs (.bop .Or es)).v E).bind fun p => (Rs.of (datS p.1)).bind fun d => .ok (d, p.2) := (rfl)
theorem np_or {es} : pairM (semE Γ Cs (.bop .Or es)) B E = ((semE Γ Cs (.bop .Or es)).v E).bind fun p => (B.k p.2).bind fun q => .ok ((p.1, q.1), q.2) := (rfl)
theorem nt_or {es} : (semE Γ Cs (.bop .Or es)).t E = orT (semAs Γ Cs es) E := (rfl)
theorem nv_not {a} : (semE Γ Cs (.not a)).v E = notV (semE Γ Cs a) E := (rfl)
theorem nk_not {a} : (semE Γ Cs (.not a)).k E = (semE Γ Cs (.not a)).v E := (rfl)
theorem nd_not {a} : (semE Γ Cs (.not a)).d E = ((semE Γ Cs (.not a)).v E).bind fun p => (Rs.of (datS p.1)).bind fun d => .ok (d, p.2) := (rfl)
theorem np_not {a} : pairM (semE Γ Cs (.not a)) B E = ((semE Γ Cs (.not a)).v E).bind fun p => (B.k p.2).bind fun q => .ok ((p.1, q.1), q.2) := (rfl)
theorem nt_not {a} : (semE Γ Cs (.not a)).t E = ((semE Γ Cs a).t E).bind fun p => .ok (!p.1, p.2) := (rfl)
theorem nv_ite {c a b} : (semE Γ Cs (.ite c a b)).v E = iteF (semE Γ Cs c) (semE Γ Cs a) (semE Γ Cs b) E := (rfl)
theorem nk_ite {c a b} : (semE Γ Cs (.ite c a b)).k E = (semE Γ Cs (.ite c a b)).v E := (rfl)
theorem nd_ite {c a b} : (semE Γ Cs (.ite c a b)).d E = ((semE Γ Cs (.ite c a b)).v E).bind fun p => (Rs.of (datS p.1)).bind fun d => .ok (d, p.2) := (rfl)
theorem np_ite {c a b} : pairM (semE Γ Cs (.ite c a b)) B E = ((semE Γ Cs (.ite c a b)).v E).bind fun p => (B.k p.2).bind fun q => .ok ((p.1, q.1), q.2) := (rfl)
theorem nv_tup {es} : (semE Γ Cs (.tup es)).v E = tupF (semAs Γ Cs es) E := (rfl)
theorem nk_tup {es} : (semE Γ Cs (.tup es)).k E = (semE Γ Cs (.tup es)).v E := (rfl)
theorem nd_tup {es} : (semE Γ Cs (.tup es)).d E = ((semE Γ Cs (.tup es)).v E).bind fun p => (Rs.of (datS p.1)).bind fun d => .ok (d, p.2) := (rfl)
theorem np_tup {es} : pairM (semE Γ Cs (.tup es)) B E = ((semE Γ Cs (.tup es)).v E).bind fun p => (B.k p.2).bind fun q => .ok ((p.1, q.1), q.2) := (rfl)
theorem nv_lst {es} : (semE Γ Cs (.lst es)).v E = lstF (semAs Γ Cs es) E := (rfl)
theorem nk_lst {es} : (semE Γ Cs (.lst es)).k E = (semE Γ Cs (.lst es)).v E := (rfl)
theorem nd_lst {es} : (semE Γ Cs (.lst es)).d E = ((semE Γ Cs (.lst es)).v E).bind fun p => (Rs.of (datS p.1)).bind fun d => .ok (d, p.2) := (rfl)
theorem np_lst {es} : pairM (semE Γ Cs (.lst es)) B E = ((semE Γ Cs (.lst es)).v E).bind fun p => (B.k p.2).bind fun q => .ok ((p.1, q.1), q.2) := (rfl)
theorem nv_ix {a b} : (semE Γ Cs (.ix a b)).v E = ixF (semE Γ Cs a) (semE Γ Cs b) E := (rfl)
theorem nk_ix {a b} : (semE Γ Cs (.ix a b)).k E = (semE Γ Cs (.ix a b)).v E := (rfl)
theorem nd_ix {a b} : (semE Γ Cs (.ix a b)).d E = ((semE Γ Cs (.ix a b)).v E).bind fun p => (Rs.of (datS p.1)).bind fun d => .ok (d, p.2) := (rfl)
theorem np_ix {a b} : pairM (semE Γ Cs (.ix a b)) B E = ((semE Γ Cs (.ix a b)).v E).bind fun p => (B.k p.2).bind fun q => .ok ((p.1, q.1), q.2) := (rfl)
theorem nt_ix {a b} : (semE Γ Cs (.ix a b)).t E = truthM ((semE Γ Cs (.ix a b)).v E) := (rfl)
theorem nv_sl {a lo hi} : (semE Γ Cs (.sl a lo hi)).v E = slF (semE Γ Cs a) (semAs Γ Cs lo) (semAs Γ Cs hi) E := (rfl)
theorem nk_sl {a lo hi} : (semE Γ Cs (.sl a lo hi)).k E = (semE Γ Cs (.sl a lo hi)).v E := (rfl)
theorem nd_sl {a lo hi} : (semE Γ Cs (.sl a lo hi)).d E = ((semE Γ Cs (.sl a lo hi)).v E).bind fun p => (Rs.of (datS p.1)).bind fun d => .ok (d, p.2) := (rfl)
theorem np_sl {a lo hi} : pairM (semE Γ Cs (.sl a lo hi)) B E = ((semE Γ Cs (.sl a lo hi)).v E).bind fun p => (B.k p.2).bind fun q => .ok ((p.1, q.1), q.2) := (rfl)
theorem nt_sl {a lo hi} : (semE Γ Cs (.sl a lo hi)).t E = truthM ((semE Γ Cs (.sl a lo hi)).v E) := (rfl)
theorem nv_rev {a} : (semE Γ Cs (.rev a)).v E = revF (semE Γ Cs a) E := (rfl)
theorem nk_rev {a} : (semE Γ Cs (.rev a)).k E = (semE Γ Cs (.rev a)).v E := (rfl)
theorem nd_rev {a} : (semE Γ Cs (.rev a)).d E = ((semE Γ Cs (.rev a)).v E).bind fun p => (Rs.of (datS p.1)).bind fun d => .ok (d, p.2) := (rfl)
theorem np_rev {a} : pairM (semE Γ Cs (.rev a)) B E = ((semE Γ Cs (.rev a)).v E).bind fun p => (B.k p.2).bind fun q => .ok ((p.1, q.1), q.2) := (rfl)
theorem nt_rev {a} : (semE Γ Cs (.rev a)).t E = truthM ((semE Γ Cs (.rev a)).v E) := (rfl)
theorem nv_call {f es} : (semE Γ Cs (.call f es)).v E = callM (Γ f) (semAs Γ Cs es) E := (rfl)
theorem nk_call {f es} : (semE Γ Cs (.call f es)).k E = (semE Γ Cs (.call f es)).v E := (rfl)
theorem nd_call {f es} : (semE Γ Cs (.call f es)).d E = ((semE Γ Cs (.call f es)).v E).bind fun p => (Rs.of (datS p.1)).bind fun d => .ok (d, p.2) := (rfl)
theorem np_call {f es} : pairM (semE Γ Cs (.call f es)) B E = ((semE Γ Cs (.call f es)).v E).bind fun p => (B.k p.2).bind fun q => .ok ((p.1, q.1), q.2) := (rfl)
theorem nt_call {f es} : (semE Γ Cs (.call f es)).t E = truthM ((semE Γ Cs (.call f es)).v E) := (rfl)
theorem nv_callB {f j es} : (semE Γ Cs (.callB f j es)).v E = callBM (Γ f) j (semAs Γ Cs es) E := (rfl)
theorem nk_callB {f j es} : (semE Γ Cs (.callB f j es)).k E = (semE Γ Cs (.callB f j es)).v E := (rfl)
theorem nd_callB {f j es} : (semE Γ Cs (.callB f j es)).d E = ((semE Γ Cs (.callB f j es)).v E).bind fun p => (Rs.of (datS p.1)).bind fun d => .ok (d, p.2) := (rfl)
theorem np_callB {f j es} : pairM (semE Γ Cs (.callB f j es)) B E = ((semE Γ Cs (.callB f j es)).v E).bind fun p => (B.k p.2).bind fun q => .ok ((p.1, q.1), q.2) := (rfl)
theorem nt_callB {f j es} : (semE Γ Cs (.callB f j es)).t E = truthM ((semE Γ Cs (.callB f j es)).v E) := (rfl)
theorem nv_callO {f j es} : (semE Γ Cs (.callO f j es)).v E = callOM (Γ f) j (semAs Γ Cs es) E := (rfl)
theorem nk_callO {f j es} : (semE Γ Cs (.callO f j es)).k E = (semE Γ Cs (.callO f j es)).v E := (rfl)
theorem nd_callO {f j es} : (semE Γ Cs (.callO f j es)).d E = ((semE Γ Cs (.callO f j es)).v E).bind fun p => (Rs.of (datS p.1)).bind fun d => .ok (d, p.2) := (rfl)
theorem np_callO {f j es} : pairM (semE Γ Cs (.callO f j es)) B E = ((semE Γ Cs (.callO f j es)).v E).bind fun p => (B.k p.2).bind fun q => .ok ((p.1, q.1), q.2) := (rfl)
theorem nt_callO {f j es} : (semE Γ Cs (.callO f j es)).t E = truthM ((semE Γ Cs (.callO f j es)).v E) := (rfl)
theorem nv_callT {f a} : (semE Γ Cs (.callT f a)).v E = callTM (Γ f) (semE Γ Cs a) E := (rfl)
theorem nk_callT {f a} : (semE Γ Cs (.callT f a)).k E = (semE Γ Cs (.callT f a)).v E := (rfl)
theorem nd_callT {f a} : (semE Γ Cs (.callT f a)).d E = ((semE Γ Cs (.callT f a)).v E).bind fun p => (Rs.of (datS p.1)).bind fun d => .ok (d, p.2) := (rfl)
theorem np_callT {f a} : pairM (semE Γ Cs (.callT f a)) B E = ((semE Γ Cs (.callT f a)).v E).bind fun p => (B.k p.2).bind fun q => .ok ((p.1, q.1), q.2) := (rfl)
theorem nt_callT {f a} : (semE Γ Cs (.callT f a)).t E = truthM ((semE Γ Cs (.callT f a)).v E) := (rfl)
theorem nv_pop {j a} : (semE Γ Cs (.pop j a)).v E = popM j (semE Γ Cs a) E := (rfl)
theorem nk_pop {j a} : (semE Γ Cs (.pop j a)).k E = (semE Γ Cs (.pop j a)).v E := (rfl)
theorem nd_pop {j a} : (semE Γ Cs (.pop j a)).d E = ((semE Γ Cs (.pop j a)).v E).bind fun p => (Rs.of (datS p.1)).bind fun d => .ok (d, p.2) := (rfl)
theorem np_pop {j a} : pairM (semE Γ Cs (.pop j a)) B E = ((semE Γ Cs (.pop j a)).v E).bind fun p => (B.k p.2).bind fun q => .ok ((p.1, q.1), q.2) := (rfl)
theorem nt_pop {j a} : (semE Γ Cs (.pop j a)).t E = truthM ((semE Γ Cs (.pop j a)).v E) := (rfl)
theorem nv_blt {b es} : (semE Γ Cs (.blt b es)).v E = bltM b (semAs Γ Cs es) E := (rfl)
theorem nk_blt {b es} : (semE Γ Cs (.blt b es)).k E = (semE Γ Cs (.blt b es)).v E := (rfl)
theorem nd_blt {b es} : (semE Γ Cs (.blt b es)).d E = ((semE Γ Cs (.blt b es)).v E).bind fun p => (Rs.of (datS p.1)).bind fun d => .ok (d, p.2) := (rfl)
theorem np_blt {b es} : pairM (semE Γ Cs (.blt b es)) B E = ((semE Γ Cs (.blt b es)).v E).bind fun p => (B.k p.2).bind fun q => .ok ((p.1, q.1), q.2) := (rfl)
theorem nt_blt {b es} : (semE Γ Cs (.blt b es)).t E = truthM ((semE Γ Cs (.blt b es)).v E) := (rfl)
theorem nv_join {a b} : (semE Γ Cs (.join a b)).v E = joinM (semE Γ Cs a) (semE Γ Cs b) E := (rfl)
theorem nk_join {a b} : (semE Γ Cs (.join a b)).k E = (semE Γ Cs (.join a b)).v E := (rfl)
theorem nd_join {a b} : (semE Γ Cs (.join a b)).d E = ((semE Γ Cs (.join a b)).v E).bind fun p => (Rs.of (datS p.1)).bind fun d => .ok (d, p.2) := (rfl)
theorem np_join {a b} : pairM (semE Γ Cs (.join a b)) B E = ((semE Γ Cs (.join a b)).v E).bind fun p => (B.k p.2).bind fun q => .ok ((p.1, q.1), q.2) := (rfl)
theorem nt_join {a b} : (semE Γ Cs (.join a b)).t E = truthM ((semE Γ Cs (.join a b)).v E) := (rfl)
theorem nk_comp {elt tg it ifs} : (semE Γ Cs (.comp elt tg it ifs)).k E = (semE Γ Cs (.comp elt tg it ifs)).v E := (rfl)
theorem nd_comp {elt tg it ifs} : (semE Γ Cs (.comp elt tg it ifs)).d E = ((semE Γ Cs (.comp elt tg it ifs)).v E).bind fun p => (Rs.of (datS p.1)).bind fun d => .ok (d, p.2) := (rfl)
theorem np_comp {elt tg it ifs} : pairM (semE Γ Cs (.comp elt tg it ifs)) B E = ((semE Γ Cs (.comp elt tg it ifs)).v E).bind fun p => (B.k p.2).bind fun q => .ok ((p.1, q.1), q.2) := (rfl)
theorem nt_comp {elt tg it ifs} : (semE Γ Cs (.comp elt tg it ifs)).t E = truthM ((semE Γ Cs (.comp elt tg it ifs)).v E) := (rfl)
theorem nk_comp2 {elt tg it ifs tg1 it1 ifs1} : (semE Γ Cs (.comp2 elt tg it ifs tg1 it1 ifs1)).k E = (semE Γ Cs (.comp2 elt tg it ifs tg1 it1 ifs1)).v E := (rfl)
theorem nd_comp2 {elt tg it ifs tg1 it1 ifs1} : (semE Γ Cs (.comp2 elt tg it ifs tg1 it1 ifs1)).d E = ((semE Γ Cs (.comp2 elt tg it ifs tg1 it1 ifs1)).v E).bind fun p => (Rs.of (datS p.1)).bind fun d => .ok (d, p.2) := (rfl)
theorem np_comp2 {elt tg it ifs tg1 it1 ifs1} : pairM (semE Γ Cs (.comp2 elt tg it ifs tg1 it1 ifs1)) B E = ((semE Γ Cs (.comp2 elt tg it ifs tg1 it1 ifs1)).v E).bind fun p => (B.k p.2).bind fun q => .ok ((p.1, q.1), q.2) := (rfl)
theorem nt_comp2 {elt tg it ifs tg1 it1 ifs1} : (semE Γ Cs (.comp2 elt tg it ifs tg1 it1 ifs1)).t E = truthM ((semE Γ Cs (.comp2 elt tg it ifs tg1 it1 ifs1)).v E) := (rfl)
theorem na_nil : argsM (semAs Γ Cs .nil) E = .ok ([], E) := (rfl)
theorem na_cons {e es} : argsM (semAs Γ Cs (.cons e es)) E = ((semE Γ Cs e).d E).bind fun p => (argsM (semAs Γ Cs es) p.2).bind fun q => .ok (p.1 :: q.1, q.2) := (rfl)
theorem nb_one {b e} : bltM b (semAs Γ Cs (.cons e .nil)) E = ((semE Γ Cs e).k E).bind fun p => (Rs.of (blt1 b p.1)).bind fun x => .ok (x, p.2) := (rfl)
theorem nb_two {b e e'} : bltM b (semAs Γ Cs (.cons e (.cons e' .nil))) E = ((semE Γ Cs e).d E).bind fun p => ((semE Γ Cs e').d p.2).bind fun q => (Rs.of (blt2 b p.1 q.1)).bind fun x => .ok (.dat x, q.2) := (rfl)
theorem nand_one {e} : andM (semAs Γ Cs (.cons e .nil)) E = ((semE Γ Cs e).d E).bind fun p => .ok (.dat p.1, p.2) := (rfl)
theorem nand_two {e e' es} : andM (semAs Γ Cs (.cons e (.cons e' es))) E = ((semE Γ Cs e).d E).bind fun p => (match p.1 with
    | .bool true => andM (semAs Γ Cs (.cons e' es)) p.2
    | .bool false => .ok (.dat (.bool false), p.2)
    | _ => .bad) := (rfl)
theorem nor_one {e} : orM (semAs Γ Cs (.cons e .nil)) E = ((semE Γ Cs e).d E).bind fun p => .ok (.dat p.1, p.2) := (rfl)
theorem nor_two {e e' es} : orM (semAs Γ Cs (.cons e (.cons e' es))) E = ((semE Γ Cs e).d E).bind fun p => (match p.1 with
    | .bool false => orM (semAs Γ Cs (.cons e' es)) p.2
    | .bool true => .ok (.dat (.bool true), p.2)
    | _ => .bad) := (rfl)
theorem nandt_one {e} : andT (semAs Γ Cs (.cons e .nil)) E = (semE Γ Cs e).t E := (rfl)
theorem nandt_two {e e' es} : andT (semAs Γ Cs (.cons e (.cons e' es))) E = ((semE Γ Cs e).t E).bind fun p => if p.1 then andT (semAs Γ Cs (.cons e' es)) p.2 else .ok (false, p.2) := (rfl)
theorem nort_one {e} : orT (semAs Γ Cs (.cons e .nil)) E = (semE Γ Cs e).t E := (rfl)
theorem nort_two {e e' es} : orT (semAs Γ Cs (.cons e (.cons e' es))) E = ((semE Γ Cs e).t E).bind fun p => if p.1 then .ok (true, p.2) else orT (semAs Γ Cs (.cons e' es)) p.2 := (rfl)
theorem ntest_no : testsM (semAs Γ Cs .nil) E = .ok (true, E) := (rfl)
theorem ntest_one {e} : testsM (semAs Γ Cs (.cons e .nil)) E = (semE Γ Cs e).t E := (rfl)
theorem ni_rng {a} : (semI Γ Cs (.rng a)).v E = ((semE Γ Cs a).d E).bind fun p => (Rs.of (rngS p.1)).bind fun ds => .ok (ds, p.2) := (rfl)
theorem ni_rng2 {a b} : (semI Γ Cs (.rng2 a b)).v E = ((semE Γ Cs a).d E).bind fun p => ((semE Γ Cs b).d p.2).bind fun q => (Rs.of (rng2S p.1 q.1)).bind fun ds => .ok (ds, q.2) := (rfl)
theorem ni_val {a} : (semI Γ Cs (.val a)).v E = ((semE Γ Cs a).v E).bind fun p => (Rs.of (walkS p.1)).bind fun ds => .ok (ds, p.2) := (rfl)
theorem ni_enum {a} : (semI Γ Cs (.enum a)).v E = ((semE Γ Cs a).d E).bind fun p => (Rs.of (enumS p.1)).bind fun ds => .ok (ds, p.2) := (rfl)
theorem ni_zip {a b} : (semI Γ Cs (.zip a b)).v E = ((semE Γ Cs a).d E).bind fun p => ((semE Γ Cs b).d p.2).bind fun q => (Rs.of (zipS p.1 q.1)).bind fun ds => .ok (ds, q.2) := (rfl)
theorem ncs0 {d : D} {l : List D} : csOf (d :: l) 0 = some d := (rfl)
theorem ncss {d : D} {l : List D} {n : Nat} : csOf (d :: l) (n + 1) = csOf l n := by simp [csOf]
theorem nis_d {a : D} : cmpS .Is (.dat a) (.dat .none) = some (isNo a) := cs_is rfl
theorem nis_o {a : List D} : cmpS .Is (.own (.list a)) (.dat .none) = some false := (rfl)
theorem nisnt_d {a : D} : cmpS .IsNot (.dat a) (.dat .none) = some (!isNo a) := cs_isnt rfl
theorem nisnt_o {a : List D} : cmpS .IsNot (.own (.list a)) (.dat .none) = some true := (rfl)
theorem en_lst {ds : List D} : enumS (.list ds) = some (enumD ds) := (rfl)
theorem en_str {z : Str} : enumS (.str z) = some (enumD (signs z)) := (rfl)
theorem zp_lst {xs ys : List D} : zipS (.list xs) (.list ys) = some (zipD xs ys) := (rfl)
theorem zp_tup {xs ys : List D} : zipS (.tuple xs) (.tuple ys) = some (zipD xs ys) := (rfl)
theorem no_none : isNo .none = true := (rfl)
theorem no_int {k : Int} : isNo (.int k) = false := (rfl)
theorem no_str {k : Str} : isNo (.str k) = false := (rfl)
theorem no_bool {k : Bool} : isNo (.bool k) = false := (rfl)
theorem no_list {k : List D} : isNo (.list k) = false := (rfl)
theorem no_tup {k : List D} : isNo (.tuple k) = false := (rfl)
end
theorem fnX_go {l : List FnE} {cs : List D} {N : List Str} {n : Nat} {body : ISs} {b : D} {ds : List D} {x : Rs (Sl × D)} {E : En} (hn : (ds.length + 1 == n) = true) (hE : startE N (Sl.own b :: ds.map Sl.dat) = E) (h : ((outF (semSs (Γof l) (csOf cs) [0] body E)).bind fun (p : Sl × En) => match p.2[0]? with
    | some (Sl.own b') => .ok (p.1, b')
    | _ => .bad) = x) : fnX l cs N n body b ds = x := by
  unfold fnX
  rw [if_pos hn, hE]
  exact h
theorem fnP_go {l : List FnE} {cs : List D} {N : List Str} {n : Nat} {body : ISs} {ds : List D} {x : Rs Sl} {E : En} (hn : (ds.length == n) = true) (hE : startE N (ds.map Sl.dat) = E) (h : ((outF (semSs (Γof l) (csOf cs) [] body E)).bind fun (p : Sl × En) => .ok p.1) = x) : fnP l cs N n body ds = x := by
  unfold fnP
  rw [if_pos hn, hE]
  exact h
/-- a comprehension, by its named tree -/
theorem comp_tree {Γ : Nat → FnE} {Cs : Nat → Option D} {elt : IE} {tg : IT} {it : II} {ifs : IA} {E E1 E2 E3 : En} {ds r : List D} (ho : (semI Γ Cs it).own = none) (h : (semI Γ Cs it).v E = .ok (ds, E1)) (hn : tg.slots.all (notOwnB E1) = true) (hw : wipeE E1 tg.slots = E2)
    (hl : loopC (stepC tg (semAs Γ Cs ifs) (semE Γ Cs elt)) tg.slots ds [] E2 = .ok (r, E3)) : (semE Γ Cs (.comp elt tg it ifs)).v E = .ok (.own (.list r), E3) := by
  show compM _ _ _ _ _ = _
  unfold compM
  rw [ho]
  simp only [h, ev_bind, hn, if_true]
  rw [hw, hl, ev_bind]
end Wq
set_option maxHeartbeats 4000000
namespace Wq
open PySem L2
local macro_rules | `(tactic| walk_at "d") => `(tactic| first | omega | (simp only [List.length_cons, List.length_nil, List.length_map, List.length_append, List.length_reverse]; omega))
local macro_rules | `(tactic| walk_at "n") => `(tactic| simp (disch := walk_at "d") only [↓ev_bind, ↓ev_bad, ↓toK, ev_of, ev_none, of_v, of_k, of_t, of_s, ofV_v, ofV_k, ofV_s, ofD_v, ofD_k, ofD_s, ofD_d, slot_s, slot_t, of_d, ofV_d, datS_dat, datS_own, tr_bool, tr_list, tr_own, args_nil, args_cons, bin_eq, cmp_v_eq, cmp_k_eq, cmp_t_eq, cmp_s_eq, cmp_d_eq, cmpM_eq, pair_of, pair_ofV, pair_ofD, pair_cmp, bi_add, bi_sub, bi_mul, bi_div, bi_mod, bi_addS, bi_addT, bi_addL, cs_eqi, cs_nei, cs_eqs, cs_nes, cs_lt, cs_le, cs_gt, cs_ge, cs_is, cs_isnt, ix_eq, tup_eq, lst_eq, ite_eq, blt1_eq, blt2_eq, b1_abs, b1_intB, b2_min, b2_max, b2_divmod, call_eq, γ0, γs, kOk, kBad, ss0, ss1, s_ret1, sr_cst, sr_int, sr_str, sr_bl, sr_non, sr_bin, sr_neg, sr_cmp, sr_cmp2, sr_bop, sr_not, sr_ite, sr_tup, sr_lst, sr_ix, sr_sl, sr_rev, sr_call, sr_callB, sr_callT, sr_pop, sr_callO, sr_blt, sr_join, sr_comp, sr_comp2, s_retI1, s_exp1, s_set1, s_unp1, s_par21, s_if1, s_app1, s_rev1, s_sto1, s_sto2, s_frz1, lp_rng, lp_val, lp_enum, set_eq, sl_v, sl_k, sl_d, pr_slot, own_eq, noo_eq, cb_eq, co_eq, ct_eq, pop_eq, and_one, and_two, or_one, or_two, andt_one, andt_two, ort_one, ort_two, not_eq, sl_eq, rev_eq, join_eq, cut2, step_eq, tests_no, tests_one, out_nx, out_rt, at0, at1, at2, at3, at4, at5, at6, ix0, ix1, ix2, b1_lenL, b1_lenO, b1_lenT, b1_lenS, b1_tupO, b1_tupL, b1_tupT, b1_lisO, b1_lisL, b1_lisT, b1_sumL, rng_nat, it_own, it_lst, it_tpl, wk_own', wk_lst, wk_tpl, wk_str, slS_str, slS_lst, slS_tup, op_no, op_so, ixS_l, ixS_o, ixS_t, ixS_s, dlt_t, dlt_f, dle_t, dle_f, deq_t, deq_f, nle_t, nlt_t, dnlt_t, dnle_t, bi_pow7, bi_pow18, nv_slot, nk_slot, nd_slot, nt_slot, np_slot, nv_cst, nk_cst, nd_cst, np_cst, nt_cst, nv_int, nk_int, nd_int, np_int, nt_int, nv_str, nk_str, nd_str, np_str, nt_str, nv_bl, nk_bl, nd_bl, np_bl, nt_bl, nv_non, nk_non, nd_non, np_non, nv_bin, nk_bin, nd_bin, np_bin, nt_bin, nv_neg, nk_neg, nd_neg, np_neg, nv_cmp, nk_cmp, nd_cmp, np_cmp, nt_cmp, nv_cmp2, nk_cmp2, nd_cmp2, np_cmp2, nt_cmp2, nv_and, nk_and, nd_and, np_and, nt_and, nv_or, nk_or, nd_or, np_or, nt_or, nv_not, nk_not, nd_not, np_not, nt_not, nv_ite, nk_ite, nd_ite, np_ite, nv_tup, nk_tup, nd_tup, np_tup, nv_lst, nk_lst, nd_lst, np_lst, nv_ix, nk_ix, nd_ix, np_ix, nt_ix, nv_sl, nk_sl, nd_sl, np_sl, nt_sl, nv_rev, nk_rev, nd_rev, np_rev, nt_rev, nv_call, nk_call, nd_call, np_call, nt_call, nv_callB, nk_callB, nd_callB, np_callB, nt_callB, nv_callO, nk_callO, nd_callO, np_callO, nt_callO, nv_callT, nk_callT, nd_callT, np_callT, nt_callT, nv_pop, nk_pop, nd_pop, np_pop, nt_pop, nv_blt, nk_blt, nd_blt, np_blt, nt_blt, nv_join, nk_join, nd_join, np_join, nt_join, nk_comp, nd_comp, np_comp, nt_comp, nk_comp2, nd_comp2, np_comp2, nt_comp2, na_nil, na_cons, nb_one, nb_two, nand_one, nand_two, nor_one, nor_two, nandt_one, nandt_two, nort_one, nort_two, ntest_no, ntest_one, ni_rng, ni_rng2, ni_val, ni_enum, ni_zip, ncs0, ncss, nis_d, nis_o, nisnt_d, nisnt_o, no_none, no_int, no_str, no_bool, no_list, no_tup, en_lst, en_str, zp_lst, zp_tup, decide_true, decide_false, id_eq, setT, setTs, IT.slots, ITs.slots, wipeE, List.all_cons, List.all_nil, List.cons_append, List.nil_append, List.append_nil, Option.toList_some, Option.toList_none, Bool.not_true, Bool.not_false, Bool.and_true, Bool.true_and, Bool.and_self, Bool.and_false, List.contains_cons, List.contains_nil, beq_self_eq_true, Nat.reduceBEq, Nat.reduceEqDiff, Nat.reduceLT, Nat.reduceLeDiff, Bool.or_false, Bool.or_self, Option.bind_some, Option.map_some, if_true, if_false, Bool.false_eq_true, ↓reduceIte, List.getElem?_cons_zero, List.getElem?_cons_succ, List.set_cons_zero, List.set_cons_succ, List.length_cons, List.length_nil])
local macro_rules | `(tactic| walk_at "m") => `(tactic| simp (disch := walk_at "d") only [↓ev_bind, ↓ev_bad, ↓toK, ev_of, ev_none, of_v, of_k, of_t, of_s, ofV_v, ofV_k, ofV_s, ofD_v, ofD_k, ofD_s, ofD_d, slot_s, slot_t, of_d, ofV_d, datS_dat, datS_own, tr_bool, tr_list, tr_own, args_nil, args_cons, bin_eq, cmp_v_eq, cmp_k_eq, cmp_t_eq, cmp_s_eq, cmp_d_eq, cmpM_eq, pair_of, pair_ofV, pair_ofD, pair_cmp, bi_add, bi_sub, bi_mul, bi_div, bi_mod, bi_addS, bi_addT, bi_addL, cs_eqi, cs_nei, cs_eqs, cs_nes, cs_lt, cs_le, cs_gt, cs_ge, cs_is, cs_isnt, ix_eq, tup_eq, lst_eq, ite_eq, blt1_eq, blt2_eq, b1_abs, b1_intB, b2_min, b2_max, b2_divmod, call_eq, γ0, γs, kOk, kBad, ss0, ss1, s_ret1, sr_cst, sr_int, sr_str, sr_bl, sr_non, sr_bin, sr_neg, sr_cmp, sr_cmp2, sr_bop, sr_not, sr_ite, sr_tup, sr_lst, sr_ix, sr_sl, sr_rev, sr_call, sr_callB, sr_callT, sr_pop, sr_callO, sr_blt, sr_join, sr_comp, sr_comp2, s_retI1, s_exp1, s_set1, s_unp1, s_par21, s_if1, s_app1, s_rev1, s_sto1, s_sto2, s_frz1, lp_rng, lp_val, lp_enum, set_eq, sl_v, sl_k, sl_d, pr_slot, own_eq, noo_eq, cb_eq, co_eq, ct_eq, pop_eq, and_one, and_two, or_one, or_two, andt_one, andt_two, ort_one, ort_two, not_eq, sl_eq, rev_eq, join_eq, cut2, step_eq, tests_no, tests_one, out_nx, out_rt, at0, at1, at2, at3, at4, at5, at6, ix0, ix1, ix2, b1_lenL, b1_lenO, b1_lenT, b1_lenS, b1_tupO, b1_tupL, b1_tupT, b1_lisO, b1_lisL, b1_lisT, b1_sumL, rng_nat, it_own, it_lst, it_tpl, wk_own', wk_lst, wk_tpl, wk_str, slS_str, slS_lst, slS_tup, op_no, op_so, ixS_l, ixS_o, ixS_t, ixS_s, dlt_t, dlt_f, dle_t, dle_f, deq_t, deq_f, nle_t, nlt_t, dnlt_t, dnle_t, bi_pow7, bi_pow18, nv_slot, nk_slot, nd_slot, nt_slot, np_slot, nv_cst, nk_cst, nd_cst, np_cst, nt_cst, nv_int, nk_int, nd_int, np_int, nt_int, nv_str, nk_str, nd_str, np_str, nt_str, nv_bl, nk_bl, nd_bl, np_bl, nt_bl, nv_non, nk_non, nd_non, np_non, nv_bin, nk_bin, nd_bin, np_bin, nt_bin, nv_neg, nk_neg, nd_neg, np_neg, nv_cmp, nk_cmp, nd_cmp, np_cmp, nt_cmp, nv_cmp2, nk_cmp2, nd_cmp2, np_cmp2, nt_cmp2, nv_and, nk_and, nd_and, np_and, nt_and, nv_or, nk_or, nd_or, np_or, nt_or, nv_not, nk_not, nd_not, np_not, nt_not, nv_ite, nk_ite, nd_ite, np_ite, nv_tup, nk_tup, nd_tup, np_tup, nv_lst, nk_lst, nd_lst, np_lst, nv_ix, nk_ix, nd_ix, np_ix, nt_ix, nv_sl, nk_sl, nd_sl, np_sl, nt_sl, nv_rev, nk_rev, nd_rev, np_rev, nt_rev, nv_call, nk_call, nd_call, np_call, nt_call, nv_callB, nk_callB, nd_callB, np_callB, nt_callB, nv_callO, nk_callO, nd_callO, np_callO, nt_callO, nv_callT, nk_callT, nd_callT, np_callT, nt_callT, nv_pop, nk_pop, nd_pop, np_pop, nt_pop, nv_blt, nk_blt, nd_blt, np_blt, nt_blt, nv_join, nk_join, nd_join, np_join, nt_join, nk_comp, nd_comp, np_comp, nt_comp, nk_comp2, nd_comp2, np_comp2, nt_comp2, na_nil, na_cons, nb_one, nb_two, nand_one, nand_two, nor_one, nor_two, nandt_one, nandt_two, nort_one, nort_two, ntest_no, ntest_one, ni_rng, ni_rng2, ni_val, ni_enum, ni_zip, ncs0, ncss, nis_d, nis_o, nisnt_d, nisnt_o, no_none, no_int, no_str, no_bool, no_list, no_tup, en_lst, en_str, zp_lst, zp_tup, decide_true, decide_false, id_eq, setT, setTs, IT.slots, ITs.slots, wipeE, List.all_cons, List.all_nil, List.cons_append, List.nil_append, List.append_nil, Option.toList_some, Option.toList_none, Bool.not_true, Bool.not_false, Bool.and_true, Bool.true_and, Bool.and_self, Bool.and_false, List.contains_cons, List.contains_nil, beq_self_eq_true, Nat.reduceBEq, Nat.reduceEqDiff, Nat.reduceLT, Nat.reduceLeDiff, Bool.or_false, Bool.or_self, Option.bind_some, Option.map_some, if_true, if_false, Bool.false_eq_true, ↓reduceIte, List.getElem?_cons_zero, List.getElem?_cons_succ, List.set_cons_zero, List.set_cons_succ, List.length_cons, List.length_nil, *])
/-! ### _law_same of a thing and itself -/
inductive Pq : Nat → D → Prop
  | non {k : Nat} : Pq k .none
  | bool {k : Nat} (b : Bool) : Pq k (.bool b)
  | int {k : Nat} (i : Int) : Pq k (.int i)
  | str {k : Nat} (z : Str) : Pq k (.str z)
  | lst {k : Nat} {ds : List D} (hl : ds.length ≤ 100000) (hd : ∀ d ∈ ds, Pq k d) : Pq (k + 1) (.list ds)
  | tup {k : Nat} {ds : List D} (hl : ds.length ≤ 100000) (hd : ∀ d ∈ ds, Pq k d) : Pq (k + 1) (.tuple ds)
def f_same : Nat → List D → Rs Sl := fnR [] [] n_same 2 b_same
theorem zip_self : ∀ ds : List D, zipD ds ds = ds.map fun d => (.tuple [d, d] : D)
  | [] => rfl
  | d :: r => by
    have := zip_self r
    unfold zipD at this ⊢
    rw [List.zip_cons_cons, List.map_cons, this, List.map_cons]
theorem cs_eqb {a b : Bool} : cmpS .Eq (.dat (.bool a)) (.dat (.bool b)) = some (decide (a = b)) := (rfl)
theorem cs_neb {a b : Bool} : cmpS .NotEq (.dat (.bool a)) (.dat (.bool b)) = some (!decide (a = b)) := (rfl)
theorem all_true {α : Type} : ∀ ds : List α, (ds.map fun _ => true).all id = true
  | [] => rfl
  | _ :: r => by rw [List.map_cons, List.all_cons, all_true r]; rfl
def c_same : IE := (.comp (.call 0 (.cons (.slot 2) (.cons (.slot 3) .nil))) (.tp (.cons (.nm 2) (.cons (.nm 3) .nil))) (.zip (.slot 0) (.slot 1)) .nil)
theorem same_comp {k : Nat} {d : D} {ds : List D} (hz : zipS d d = some (zipD ds ds)) (hl : ds.length ≤ 100000) (h : ∀ x ∈ ds, f_same (k + 1) [x, x] = .ok (.dat (.bool true))) :
    (semE (Γof [.pu (f_same (k + 1))]) (csOf []) c_same).v [.dat d, .dat d, .no, .no] = .ok (.own (.list ((ds.map fun _ => true).map PyData.bool)), [.dat d, .dat d, .no, .no]) := by
  refine comp_tree (ds := zipD ds ds) (E1 := [.dat d, .dat d, .no, .no]) (E2 := [.dat d, .dat d, .no, .no]) rfl ?_ rfl rfl ?_
  · (walk_at "m")
  · rw [zip_self]
    show loopC _ [2, 3] _ _ [.dat d, .dat d, .no, .no] = _
    rw [loopC_of (g := fun x => some (.bool true))]
    · rw [List.filterMap_eq_map', List.nil_append, List.map_map]
      rfl
    · intro x hx
      refine ⟨[.dat d, .dat d, .dat x, .dat x], ?_, rfl, rfl⟩
      (have wk0 := h x hx; walk_at "m")
    · rw [List.length_nil]
      omega
theorem same_deep {k : Nat} {d : D} {ds : List D} (hq : blt1 .isSeq (.dat d) = some (.dat (.bool true))) (hi : ∃ b, blt1 .isList (.dat d) = some (.dat (.bool b))) (ht : ∃ b, blt1 .isTuple (.dat d) = some (.dat (.bool b))) (hn : blt1 .len (.dat d) = some (.dat (.int (ds.length : Int)))) (hz : zipS d d = some (zipD ds ds)) (hl : ds.length ≤ 100000) (h : ∀ x ∈ ds, f_same (k + 1) [x, x] = .ok (.dat (.bool true))) : f_same (k + 1 + 1) [d, d] = .ok (.dat (.bool true)) := by
  have hc := same_comp (k := k) hz hl h
  unfold c_same at hc
  obtain ⟨bi, hi⟩ := hi
  obtain ⟨bt, ht⟩ := ht
  show fnP [.pu (f_same (k + 1))] [] n_same 2 b_same [d, d] = _
  refine fnP_go (E := [.dat d, .dat d, .no, .no]) rfl rfl ?_
  (unfold b_same; have wk1 := @cs_neb; have wk2 := @b1_allO; have wk3 := @all_true; walk_at "m")
theorem same_flat {k : Nat} {d : D} (hq : blt1 .isSeq (.dat d) = some (.dat (.bool false))) (hc : cmpS .Eq (.dat d) (.dat d) = some true) (h : isNo d = true ∨ isI "str" d = true ∨ blt1 .isInt (.dat d) = some (.dat (.bool true))) : f_same (k + 1) [d, d] = .ok (.dat (.bool true)) := by
  have hb : blt1 .isBool (.dat d) = some (.dat (.bool (isI "bool" d))) := rfl
  have hi : blt1 .isStr (.dat d) = some (.dat (.bool (isI "str" d))) := rfl
  show fnP [.pu (f_same k)] [] n_same 2 b_same [d, d] = _
  refine fnP_go (N := n_same) (ds := [d, d]) (E := [.dat d, .dat d, .no, .no]) rfl rfl ?_
  cases h1 : isNo d with
  | true => (unfold b_same; have wk1 := @cs_eqb; walk_at "m")
  | false =>
    cases h2 : isI "str" d with
    | true => (unfold b_same; have wk1 := @cs_eqb; walk_at "m")
    | false =>
      have h3 : blt1 .isInt (.dat d) = some (.dat (.bool true)) := by
        rcases h with h | h | h
        · rw [h1] at h; cases h
        · rw [h2] at h; cases h
        · exact h
      (unfold b_same; have wk1 := @cs_eqb; walk_at "m")
theorem same_ok : ∀ {k : Nat} {d : D}, Pq k d → f_same (k + 1) [d, d] = .ok (.dat (.bool true)) := by
  intro k d h
  induction h with
  | non => exact same_flat rfl rfl (.inl rfl)
  | bool b => exact same_flat rfl (by rw [cs_eqb, decide_eq_true rfl]) (.inr (.inr rfl))
  | int i => exact same_flat rfl (by rw [cs_eqi, decide_eq_true rfl]) (.inr (.inr rfl))
  | str z => exact same_flat rfl (by rw [cs_eqs, decide_eq_true rfl]) (.inr (.inl rfl))
  | lst hl hd ih => exact same_deep rfl ⟨_, rfl⟩ ⟨_, rfl⟩ rfl rfl hl ih
  | tup hl hd ih => exact same_deep rfl ⟨_, rfl⟩ ⟨_, rfl⟩ rfl rfl hl ih
end Wq
set_option maxHeartbeats 4000000
namespace Wq
open PySem L2
local macro_rules | `(tactic| walk_at "e") => `(tactic| simp (disch := first | omega | (simp only [List.length_cons, List.length_nil, List.length_map, List.length_append, List.length_reverse]; omega)) only [↓ev_bind, ↓ev_bad, ↓toK, kOk, kBad, out_nx, out_rt, ss0, ss1, s_ret1, sr_cst, sr_int, sr_str, sr_bl, sr_non, sr_bin, sr_neg, sr_cmp, sr_cmp2, sr_bop, sr_not, sr_ite, sr_tup, sr_lst, sr_ix, sr_sl, sr_rev, sr_call, sr_callB, sr_callO, sr_blt, sr_join, sr_comp, sr_comp2, s_retI1, s_exp1, s_set1, s_unp1, s_par21, s_if1, s_app1, s_rev1, s_sto1, s_sto2, s_frz1, lp_rng, lp_val, lp_enum, set_eq, ev_of, ev_none, ev_slot, ev_cst, ev_int, ev_str, ev_bl, ev_non, ev_bin, ev_neg, ev_cmp, ev_cmp2, ev_and, ev_or, ev_not, ev_ite, ev_tup, ev_lst, ev_ix, ev_sl, ev_rev, ev_call, ev_callB, ev_callO, ev_blt, ev_join, ev_comp, ev_comp2, ev_nil, ev_cons, ev_rng, ev_rng2, ev_val, ev_enum, ev_zip, ev_own,
  of_v, of_k, of_t, of_s, ofV_v, ofV_k, ofV_s, ofD_v, ofD_k, ofD_s, ofD_d, sl_v, sl_k, sl_d, slot_s, slot_t, of_d, ofV_d, datS_dat, datS_own, tr_bool, tr_list, tr_own, args_nil, args_cons, pr_slot, pair_of, pair_ofV, pair_ofD, pair_cmp, bin_eq, cmp_v_eq, cmp_k_eq, cmp_t_eq, cmp_s_eq, cmp_d_eq, cmpM_eq,
  own_eq, noo_eq, bi_add, bi_sub, bi_mul, bi_div, bi_mod, bi_addS, bi_addT, bi_addL, cs_eqi, cs_nei, cs_eqs, cs_nes, cs_lt, cs_le, cs_gt, cs_ge, cs_is, cs_isnt, cs_inT, cst0, b1_sumL, ix_eq, tup_eq, lst_eq, ite_eq, blt1_eq, blt2_eq, b1_lenL, b1_lenO, b1_lenT, b1_lenS, b1_tupO, b1_tupL, b1_tupT, b1_lisO, b1_lisL, b1_lisT, b1_abs, b1_intB, b2_min, b2_max, b2_divmod, cb_eq, co_eq, call_eq, γ0, γs,
  and_one, and_two, or_one, or_two, andt_one, andt_two, ort_one, ort_two, not_eq, sl_eq, rev_eq, join_eq, comp_eq, comp2_eq, cown_eq, cut2, step_eq, tests_no, tests_one,
  setT, setTs, IT.slots, ITs.slots, wipeE, rng_nat, List.all_cons, List.all_nil, List.cons_append, List.nil_append, List.append_nil, Option.toList_some, Option.toList_none,
  slS_str, slS_lst, slS_tup, op_no, op_so, it_own, it_lst, it_tpl, wk_own', wk_lst, wk_tpl, wk_str, ixS_l, ixS_o, ixS_t, ixS_s, at0, at1, at2, at3, at4, at5, at6, ix0, ix1, ix2, bi_pow7, bi_pow18, dlt_t, dlt_f, dle_t, dle_f, deq_t, deq_f, nle_t, nlt_t, dnlt_t, dnle_t, Bool.not_true, Bool.not_false, Bool.and_true, Bool.true_and, Bool.and_self, Bool.and_false, List.contains_cons, List.contains_nil, beq_self_eq_true, Nat.reduceBEq, Nat.reduceEqDiff, Bool.or_false, Bool.or_self, Option.bind_some, Option.map_some, if_true, if_false, Bool.false_eq_true, ↓reduceIte,
  List.getElem?_cons_zero, List.getElem?_cons_succ, List.set_cons_zero, List.set_cons_succ, List.length_cons, List.length_nil])
local macro_rules | `(tactic| walk_at "f") => `(tactic| simp (disch := first | omega | (simp only [List.length_cons, List.length_nil, List.length_map, List.length_append, List.length_reverse]; omega)) only [↓ev_bind, ↓ev_bad, ↓toK, kOk, kBad, out_nx, out_rt, ss0, ss1, s_ret1, sr_cst, sr_int, sr_str, sr_bl, sr_non, sr_bin, sr_neg, sr_cmp, sr_cmp2, sr_bop, sr_not, sr_ite, sr_tup, sr_lst, sr_ix, sr_sl, sr_rev, sr_call, sr_callB, sr_callO, sr_blt, sr_join, sr_comp, sr_comp2, s_retI1, s_exp1, s_set1, s_unp1, s_par21, s_if1, s_app1, s_rev1, s_sto1, s_sto2, s_frz1, lp_rng, lp_val, lp_enum, set_eq, ev_of, ev_none, ev_slot, ev_cst, ev_int, ev_str, ev_bl, ev_non, ev_bin, ev_neg, ev_cmp, ev_cmp2, ev_and, ev_or, ev_not, ev_ite, ev_tup, ev_lst, ev_ix, ev_sl, ev_rev, ev_call, ev_callB, ev_callO, ev_blt, ev_join, ev_comp, ev_comp2, ev_nil, ev_cons, ev_rng, ev_rng2, ev_val, ev_enum, ev_zip, ev_own,
  of_v, of_k, of_t, of_s, ofV_v, ofV_k, ofV_s, ofD_v, ofD_k, ofD_s, ofD_d, sl_v, sl_k, sl_d, slot_s, slot_t, of_d, ofV_d, datS_dat, datS_own, tr_bool, tr_list, tr_own, args_nil, args_cons, pr_slot, pair_of, pair_ofV, pair_ofD, pair_cmp, bin_eq, cmp_v_eq, cmp_k_eq, cmp_t_eq, cmp_s_eq, cmp_d_eq, cmpM_eq,
  own_eq, noo_eq, bi_add, bi_sub, bi_mul, bi_div, bi_mod, bi_addS, bi_addT, bi_addL, cs_eqi, cs_nei, cs_eqs, cs_nes, cs_lt, cs_le, cs_gt, cs_ge, cs_is, cs_isnt, cs_inT, cst0, b1_sumL, ix_eq, tup_eq, lst_eq, ite_eq, blt1_eq, blt2_eq, b1_lenL, b1_lenO, b1_lenT, b1_lenS, b1_tupO, b1_tupL, b1_tupT, b1_lisO, b1_lisL, b1_lisT, b1_abs, b1_intB, b2_min, b2_max, b2_divmod, cb_eq, co_eq, call_eq, γ0, γs,
  and_one, and_two, or_one, or_two, andt_one, andt_two, ort_one, ort_two, not_eq, sl_eq, rev_eq, join_eq, comp_eq, cown_eq, cut2, step_eq, tests_no, tests_one,
  IT.slots, ITs.slots, wipeE, rng_nat, List.all_cons, List.all_nil, List.cons_append, List.nil_append, List.append_nil, Option.toList_some, Option.toList_none,
  slS_str, slS_lst, slS_tup, op_no, op_so, it_own, it_lst, it_tpl, wk_own', wk_lst, wk_tpl, wk_str, ixS_l, ixS_o, ixS_t, ixS_s, at0, at1, at2, at3, at4, at5, at6, ix0, ix1, ix2, bi_pow7, bi_pow18, dlt_t, dlt_f, dle_t, dle_f, deq_t, deq_f, nle_t, nlt_t, dnlt_t, dnle_t, Bool.not_true, Bool.not_false, Bool.and_true, Bool.true_and, Bool.and_self, Bool.and_false, List.contains_cons, List.contains_nil, beq_self_eq_true, Nat.reduceBEq, Nat.reduceEqDiff, Bool.or_false, Bool.or_self, Option.bind_some, Option.map_some, if_true, if_false, Bool.false_eq_true, ↓reduceIte,
  List.getElem?_cons_zero, List.getElem?_cons_succ, List.set_cons_zero, List.set_cons_succ, List.length_cons, List.length_nil])
local macro_rules | `(tactic| walk_at "d") => `(tactic| first | omega | (simp only [List.length_cons, List.length_nil, List.length_map, List.length_append, List.length_reverse]; omega))
local macro_rules | `(tactic| walk_at "n") => `(tactic| simp (disch := walk_at "d") only [↓ev_bind, ↓ev_bad, ↓toK, ev_of, ev_none, of_v, of_k, of_t, of_s, ofV_v, ofV_k, ofV_s, ofD_v, ofD_k, ofD_s, ofD_d, slot_s, slot_t, of_d, ofV_d, datS_dat, datS_own, tr_bool, tr_list, tr_own, args_nil, args_cons, bin_eq, cmp_v_eq, cmp_k_eq, cmp_t_eq, cmp_s_eq, cmp_d_eq, cmpM_eq, pair_of, pair_ofV, pair_ofD, pair_cmp, bi_add, bi_sub, bi_mul, bi_div, bi_mod, bi_addS, bi_addT, bi_addL, cs_eqi, cs_nei, cs_eqs, cs_nes, cs_lt, cs_le, cs_gt, cs_ge, cs_is, cs_isnt, ix_eq, tup_eq, lst_eq, ite_eq, blt1_eq, blt2_eq, b1_abs, b1_intB, b2_min, b2_max, b2_divmod, call_eq, γ0, γs, kOk, kBad, ss0, ss1, s_ret1, sr_cst, sr_int, sr_str, sr_bl, sr_non, sr_bin, sr_neg, sr_cmp, sr_cmp2, sr_bop, sr_not, sr_ite, sr_tup, sr_lst, sr_ix, sr_sl, sr_rev, sr_call, sr_callB, sr_callT, sr_pop, sr_callO, sr_blt, sr_join, sr_comp, sr_comp2, s_retI1, s_exp1, s_set1, s_unp1, s_par21, s_if1, s_app1, s_rev1, s_sto1, s_sto2, s_frz1, lp_rng, lp_val, lp_enum, set_eq, sl_v, sl_k, sl_d, pr_slot, own_eq, noo_eq, cb_eq, co_eq, ct_eq, pop_eq, and_one, and_two, or_one, or_two, andt_one, andt_two, ort_one, ort_two, not_eq, sl_eq, rev_eq, join_eq, cut2, step_eq, tests_no, tests_one, out_nx, out_rt, at0, at1, at2, at3, at4, at5, at6, ix0, ix1, ix2, b1_lenL, b1_lenO, b1_lenT, b1_lenS, b1_tupO, b1_tupL, b1_tupT, b1_lisO, b1_lisL, b1_lisT, b1_sumL, rng_nat, it_own, it_lst, it_tpl, wk_own', wk_lst, wk_tpl, wk_str, slS_str, slS_lst, slS_tup, op_no, op_so, ixS_l, ixS_o, ixS_t, ixS_s, dlt_t, dlt_f, dle_t, dle_f, deq_t, deq_f, nle_t, nlt_t, dnlt_t, dnle_t, bi_pow7, bi_pow18, nv_slot, nk_slot, nd_slot, nt_slot, np_slot, nv_cst, nk_cst, nd_cst, np_cst, nt_cst, nv_int, nk_int, nd_int, np_int, nt_int, nv_str, nk_str, nd_str, np_str, nt_str, nv_bl, nk_bl, nd_bl, np_bl, nt_bl, nv_non, nk_non, nd_non, np_non, nv_bin, nk_bin, nd_bin, np_bin, nt_bin, nv_neg, nk_neg, nd_neg, np_neg, nv_cmp, nk_cmp, nd_cmp, np_cmp, nt_cmp, nv_cmp2, nk_cmp2, nd_cmp2, np_cmp2, nt_cmp2, nv_and, nk_and, nd_and, np_and, nt_and, nv_or, nk_or, nd_or, np_or, nt_or, nv_not, nk_not, nd_not, np_not, nt_not, nv_ite, nk_ite, nd_ite, np_ite, nv_tup, nk_tup, nd_tup, np_tup, nv_lst, nk_lst, nd_lst, np_lst, nv_ix, nk_ix, nd_ix, np_ix, nt_ix, nv_sl, nk_sl, nd_sl, np_sl, nt_sl, nv_rev, nk_rev, nd_rev, np_rev, nt_rev, nv_call, nk_call, nd_call, np_call, nt_call, nv_callB, nk_callB, nd_callB, np_callB, nt_callB, nv_callO, nk_callO, nd_callO, np_callO, nt_callO, nv_callT, nk_callT, nd_callT, np_callT, nt_callT, nv_pop, nk_pop, nd_pop, np_pop, nt_pop, nv_blt, nk_blt, nd_blt, np_blt, nt_blt, nv_join, nk_join, nd_join, np_join, nt_join, nk_comp, nd_comp, np_comp, nt_comp, nk_comp2, nd_comp2, np_comp2, nt_comp2, na_nil, na_cons, nb_one, nb_two, nand_one, nand_two, nor_one, nor_two, nandt_one, nandt_two, nort_one, nort_two, ntest_no, ntest_one, ni_rng, ni_rng2, ni_val, ni_enum, ni_zip, ncs0, ncss, nis_d, nis_o, nisnt_d, nisnt_o, no_none, no_int, no_str, no_bool, no_list, no_tup, en_lst, en_str, zp_lst, zp_tup, decide_true, decide_false, id_eq, setT, setTs, IT.slots, ITs.slots, wipeE, List.all_cons, List.all_nil, List.cons_append, List.nil_append, List.append_nil, Option.toList_some, Option.toList_none, Bool.not_true, Bool.not_false, Bool.and_true, Bool.true_and, Bool.and_self, Bool.and_false, List.contains_cons, List.contains_nil, beq_self_eq_true, Nat.reduceBEq, Nat.reduceEqDiff, Nat.reduceLT, Nat.reduceLeDiff, Bool.or_false, Bool.or_self, Option.bind_some, Option.map_some, if_true, if_false, Bool.false_eq_true, ↓reduceIte, List.getElem?_cons_zero, List.getElem?_cons_succ, List.set_cons_zero, List.set_cons_succ, List.length_cons, List.length_nil])
local macro_rules | `(tactic| walk_at "m") => `(tactic| simp (disch := walk_at "d") only [↓ev_bind, ↓ev_bad, ↓toK, ev_of, ev_none, of_v, of_k, of_t, of_s, ofV_v, ofV_k, ofV_s, ofD_v, ofD_k, ofD_s, ofD_d, slot_s, slot_t, of_d, ofV_d, datS_dat, datS_own, tr_bool, tr_list, tr_own, args_nil, args_cons, bin_eq, cmp_v_eq, cmp_k_eq, cmp_t_eq, cmp_s_eq, cmp_d_eq, cmpM_eq, pair_of, pair_ofV, pair_ofD, pair_cmp, bi_add, bi_sub, bi_mul, bi_div, bi_mod, bi_addS, bi_addT, bi_addL, cs_eqi, cs_nei, cs_eqs, cs_nes, cs_lt, cs_le, cs_gt, cs_ge, cs_is, cs_isnt, ix_eq, tup_eq, lst_eq, ite_eq, blt1_eq, blt2_eq, b1_abs, b1_intB, b2_min, b2_max, b2_divmod, call_eq, γ0, γs, kOk, kBad, ss0, ss1, s_ret1, sr_cst, sr_int, sr_str, sr_bl, sr_non, sr_bin, sr_neg, sr_cmp, sr_cmp2, sr_bop, sr_not, sr_ite, sr_tup, sr_lst, sr_ix, sr_sl, sr_rev, sr_call, sr_callB, sr_callT, sr_pop, sr_callO, sr_blt, sr_join, sr_comp, sr_comp2, s_retI1, s_exp1, s_set1, s_unp1, s_par21, s_if1, s_app1, s_rev1, s_sto1, s_sto2, s_frz1, lp_rng, lp_val, lp_enum, set_eq, sl_v, sl_k, sl_d, pr_slot, own_eq, noo_eq, cb_eq, co_eq, ct_eq, pop_eq, and_one, and_two, or_one, or_two, andt_one, andt_two, ort_one, ort_two, not_eq, sl_eq, rev_eq, join_eq, cut2, step_eq, tests_no, tests_one, out_nx, out_rt, at0, at1, at2, at3, at4, at5, at6, ix0, ix1, ix2, b1_lenL, b1_lenO, b1_lenT, b1_lenS, b1_tupO, b1_tupL, b1_tupT, b1_lisO, b1_lisL, b1_lisT, b1_sumL, rng_nat, it_own, it_lst, it_tpl, wk_own', wk_lst, wk_tpl, wk_str, slS_str, slS_lst, slS_tup, op_no, op_so, ixS_l, ixS_o, ixS_t, ixS_s, dlt_t, dlt_f, dle_t, dle_f, deq_t, deq_f, nle_t, nlt_t, dnlt_t, dnle_t, bi_pow7, bi_pow18, nv_slot, nk_slot, nd_slot, nt_slot, np_slot, nv_cst, nk_cst, nd_cst, np_cst, nt_cst, nv_int, nk_int, nd_int, np_int, nt_int, nv_str, nk_str, nd_str, np_str, nt_str, nv_bl, nk_bl, nd_bl, np_bl, nt_bl, nv_non, nk_non, nd_non, np_non, nv_bin, nk_bin, nd_bin, np_bin, nt_bin, nv_neg, nk_neg, nd_neg, np_neg, nv_cmp, nk_cmp, nd_cmp, np_cmp, nt_cmp, nv_cmp2, nk_cmp2, nd_cmp2, np_cmp2, nt_cmp2, nv_and, nk_and, nd_and, np_and, nt_and, nv_or, nk_or, nd_or, np_or, nt_or, nv_not, nk_not, nd_not, np_not, nt_not, nv_ite, nk_ite, nd_ite, np_ite, nv_tup, nk_tup, nd_tup, np_tup, nv_lst, nk_lst, nd_lst, np_lst, nv_ix, nk_ix, nd_ix, np_ix, nt_ix, nv_sl, nk_sl, nd_sl, np_sl, nt_sl, nv_rev, nk_rev, nd_rev, np_rev, nt_rev, nv_call, nk_call, nd_call, np_call, nt_call, nv_callB, nk_callB, nd_callB, np_callB, nt_callB, nv_callO, nk_callO, nd_callO, np_callO, nt_callO, nv_callT, nk_callT, nd_callT, np_callT, nt_callT, nv_pop, nk_pop, nd_pop, np_pop, nt_pop, nv_blt, nk_blt, nd_blt, np_blt, nt_blt, nv_join, nk_join, nd_join, np_join, nt_join, nk_comp, nd_comp, np_comp, nt_comp, nk_comp2, nd_comp2, np_comp2, nt_comp2, na_nil, na_cons, nb_one, nb_two, nand_one, nand_two, nor_one, nor_two, nandt_one, nandt_two, nort_one, nort_two, ntest_no, ntest_one, ni_rng, ni_rng2, ni_val, ni_enum, ni_zip, ncs0, ncss, nis_d, nis_o, nisnt_d, nisnt_o, no_none, no_int, no_str, no_bool, no_list, no_tup, en_lst, en_str, zp_lst, zp_tup, decide_true, decide_false, id_eq, setT, setTs, IT.slots, ITs.slots, wipeE, List.all_cons, List.all_nil, List.cons_append, List.nil_append, List.append_nil, Option.toList_some, Option.toList_none, Bool.not_true, Bool.not_false, Bool.and_true, Bool.true_and, Bool.and_self, Bool.and_false, List.contains_cons, List.contains_nil, beq_self_eq_true, Nat.reduceBEq, Nat.reduceEqDiff, Nat.reduceLT, Nat.reduceLeDiff, Bool.or_false, Bool.or_self, Option.bind_some, Option.map_some, if_true, if_false, Bool.false_eq_true, ↓reduceIte, List.getElem?_cons_zero, List.getElem?_cons_succ, List.set_cons_zero, List.set_cons_succ, List.length_cons, List.length_nil, *])
def f_rows_of := fnX [.bx f_text] [] n_rows_of 2 b_rows_of
theorem Tx.nil {beads : Str} : Tx beads 0 (Str.ofString "") := ⟨rfl, fun c h => by cases h⟩
theorem Tx.snoc {beads z : Str} {m c : Nat} (h : Tx beads m z) (hc : c ∈ beads.cps.toList) : Tx beads (m + 1) (z ++ one c) := by
  have e : (z ++ one c).cps.toList = z.cps.toList ++ [c] := by
    show (z.cps ++ #[c]).toList = _
    simp
  refine ⟨?_, fun x hx => ?_⟩
  · rw [app_len, h.1]; rfl
  · rw [e] at hx
    rcases List.mem_append.mp hx with q | q
    · exact h.2 x q
    · rw [List.mem_singleton.mp q]; exact hc
theorem Tx.rep {beads : Str} {m c : Nat} (hc : c ∈ beads.cps.toList) : Tx beads m (repS (one c) m) := by
  have key : ∀ m, (repS (one c) m).cps.toList = List.replicate m c := fun m => by
    simp [repS, one]
  refine ⟨?_, fun x hx => ?_⟩
  · rw [← len_cps, key, List.length_replicate]
  · rw [key] at hx
    rw [(List.mem_replicate.mp hx).2]; exact hc
/-- rows drawn -/
theorem rows_comp {n longest : Nat} {b G x5 : D} {beads : Str} {long : Nat} (hl : long ≤ 100) (hbl : 0 < beads.length ∧ beads.length ≤ 4) (hb : Bx n b) (hn : n < 700000000) :
    ∃ (rows : List Str) (b' : D), (semE (Γof [.bx f_text]) (csOf []) (.comp (.callB 0 0 (.cons (.slot 3) (.cons (.slot 4) .nil))) (.nm 2) (.rng (.int 38)) .nil)).v [.own b, .dat G, .no, .dat (.str beads), .dat (.int (long : Int)), .dat x5, .no, .no, .no] =
      .ok (.own (.list (rows.map PyData.str)), [.own b', .dat G, .no, .dat (.str beads), .dat (.int (long : Int)), .dat x5, .no, .no, .no]) ∧ rows.length = 38 ∧ (∀ z ∈ rows, Tx beads long z) ∧ Bx (n + 3800) b' := by
  obtain ⟨acc', E', h2, cs, b', rfl, h4, h5, rfl, h6⟩ := loopC_inv (step := stepC (.nm 2) (semAs (Γof [.bx f_text]) (csOf []) .nil) (semE (Γof [.bx f_text]) (csOf []) (.callB 0 0 (.cons (.slot 3) (.cons (.slot 4) .nil))))) (vs := [2]) (fun t acc E => ∃ (cs : List Str) (b' : D), acc = cs.map PyData.str ∧ cs.length = t ∧ (∀ c ∈ cs, Tx beads long c) ∧ E = [.own b', .dat G, .no, .dat (.str beads), .dat (.int (long : Int)), .dat x5, .no, .no, .no] ∧ Bx (n + 100 * t) b')
    (ds := intsD 0 38) (t := 0) (acc := []) (E := [.own b, .dat G, .no, .dat (.str beads), .dat (.int (long : Int)), .dat x5, .no, .no, .no]) ⟨[], b, rfl, rfl, (fun _ h => by cases h), rfl, hb⟩ (by
      rintro t d acc E hd ⟨cs, b1, rfl, g1, g2, rfl, g3⟩
      obtain ⟨ht, rfl⟩ := intsD_get hd
      obtain ⟨z, b2, g4, g5, g6⟩ := text_ok (m := long) (beads := beads) g3 (by omega) (by omega) (by omega) (by omega)
      refine ⟨by rw [List.length_map]; omega, some (.str z), [.own b2, .dat G, .dat (.int (0 + (t : Int))), .dat (.str beads), .dat (.int (long : Int)), .dat x5, .no, .no, .no], ?_, rfl, cs ++ [z], b2, by simp, by simp; omega, ?_, rfl, g6.up (by omega)⟩
      · walk_at "e"
        rw [g4]
        walk_at "e"
      · intro c' hc'
        rcases List.mem_append.mp hc' with h | h
        · exact g2 c' h
        · rw [List.mem_singleton.mp h]; exact g5)
  rw [intsD_len] at h4 h6
  refine ⟨cs, b', ?_, by omega, h5, h6.up (by omega)⟩
  exact comp_tree (ds := intsD 0 38) (E1 := [.own b, .dat G, .no, .dat (.str beads), .dat (.int (long : Int)), .dat x5, .no, .no, .no]) (E2 := [.own b, .dat G, .no, .dat (.str beads), .dat (.int (long : Int)), .dat x5, .no, .no, .no]) rfl (by rw [ni_rng, nd_int, nv_int]; rfl) rfl rfl h2
def rowsInner : ISs := (.cons (.set 6 (.bin .Add (.slot 6) (.comp (.bin .Add (.slot 7) (.slot 8)) (.nm 8) (.val (.slot 3)) .nil))) .nil)
def rowsOuter : ISs := (.cons (.set 6 (.lst .nil)) (.cons (.loop (.nm 7) (.val (.slot 5)) rowsInner) (.cons (.freeze 6) (.cons (.set 5 (.slot 6)) .nil))))
theorem rows_longer {b G x2 x5 : D} {beads row : Str} {m : Nat} {long : Int} {acc : List D} (hbl : beads.length ≤ 4) (hr : Tx beads m row) (hm : m ≤ 100) (hacc : acc.length ≤ 1000) :
    semSs (Γof [.bx f_text]) (csOf []) [0] rowsInner [.own b, .dat G, .dat x2, .dat (.str beads), .dat (.int long), .dat x5, .own (.list acc), .dat (.str row), .no] =
      .ok (.nx [.own b, .dat G, .dat x2, .dat (.str beads), .dat (.int long), .dat x5, .own (.list (acc ++ (beads.cps.toList.map fun c => row ++ one c).map PyData.str)), .dat (.str row), .no]) := by
  have hc : compM (semE (Γof [.bx f_text]) (csOf []) (.bin .Add (.slot 7) (.slot 8))) (.nm 8) (semI (Γof [.bx f_text]) (csOf []) (.val (.slot 3))) (semAs (Γof [.bx f_text]) (csOf []) .nil) [.own b, .dat G, .dat x2, .dat (.str beads), .dat (.int long), .dat x5, .own (.list acc), .dat (.str row), .no] = .ok (.own (.list ((beads.cps.toList.map fun c => row ++ one c).map PyData.str)), [.own b, .dat G, .dat x2, .dat (.str beads), .dat (.int long), .dat x5, .own (.list acc), .dat (.str row), .no]) := by
    refine comp_of (ds := signs beads) (E1 := [.own b, .dat G, .dat x2, .dat (.str beads), .dat (.int long), .dat x5, .own (.list acc), .dat (.str row), .no]) (E2 := [.own b, .dat G, .dat x2, .dat (.str beads), .dat (.int long), .dat x5, .own (.list acc), .dat (.str row), .no]) (by walk_at "e") rfl rfl ?_
    show loopC _ [8] (beads.cps.toList.map fun c => (.str (one c) : D)) [] _ = _
    rw [loopC_of (g := fun c => some (.str (row ++ one c)))]
    · rw [List.filterMap_eq_map', List.nil_append, List.map_map]
      rfl
    · intro c hcm
      have hl1 : (one c).length = 1 := rfl
      have hr1 := hr.1
      refine ⟨[.own b, .dat G, .dat x2, .dat (.str beads), .dat (.int long), .dat x5, .own (.list acc), .dat (.str row), .dat (.str (one c))], ?_, rfl, rfl⟩
      walk_at "e"
    · rw [List.length_nil, len_cps]; omega
  have hlen : ((beads.cps.toList.map fun c => row ++ one c).map PyData.str).length ≤ 4 := by rw [List.length_map, List.length_map, len_cps]; omega
  generalize (beads.cps.toList.map fun c => row ++ one c).map PyData.str = ms at hc hlen ⊢
  refine seq_nx ?_ rfl
  rw [s_set1, ev_bin, ev_comp]
  generalize compM (semE (Γof [.bx f_text]) (csOf []) (.bin .Add (.slot 7) (.slot 8))) (.nm 8) (semI (Γof [.bx f_text]) (csOf []) (.val (.slot 3))) (semAs (Γof [.bx f_text]) (csOf []) .nil) = X at hc ⊢
  walk_at "f"
  rw [hc]
  walk_at "f"
theorem rows_turn {b G x2 : D} {beads : Str} {m : Nat} {long : Int} {rows : List Str} {s6 s7 : Sl} (hbl : beads.length ≤ 4) (hr : ∀ r ∈ rows, Tx beads m r) (hm : m ≤ 100) (hl : rows.length ≤ 200) (h7 : Fr s7) (h6 : Fr s6) :
    ∃ s6' s7', Fr s6' ∧ Fr s7' ∧ semSs (Γof [.bx f_text]) (csOf []) [0] rowsOuter [.own b, .dat G, .dat x2, .dat (.str beads), .dat (.int long), .dat (.list (rows.map PyData.str)), s6, s7, .no] =
      .ok (.nx [.own b, .dat G, .dat x2, .dat (.str beads), .dat (.int long), .dat (.list ((rows.flatMap fun r => beads.cps.toList.map fun c => r ++ one c).map PyData.str)), s6', s7', .no]) := by
  obtain ⟨E', q1, s7', rfl, f7⟩ := loopF_acc (f := PyData.str) (tg := .nm 7) (body := semSs (Γof [.bx f_text]) (csOf []) [0] rowsInner) (g := fun r => (beads.cps.toList.map fun c => r ++ one c).map PyData.str) (n := 4) (N := 1000)
    (fun acc E => ∃ s7, E = [.own b, .dat G, .dat x2, .dat (.str beads), .dat (.int long), .dat (.list (rows.map PyData.str)), .own (.list acc), s7, .no] ∧ Fr s7)
    (xs := rows) (acc := []) (E := [.own b, .dat G, .dat x2, .dat (.str beads), .dat (.int long), .dat (.list (rows.map PyData.str)), .own (.list []), s7, .no]) ⟨s7, rfl, h7⟩ (by
      intro r hrr
      refine ⟨by rw [List.length_map, List.length_map, len_cps]; omega, ?_⟩
      rintro acc E ⟨s7, rfl, f7⟩ hacc
      refine ⟨_, _, ?_, rows_longer hbl (hr r hrr) hm (by omega), .dat (.str r), rfl, .inr ⟨_, rfl⟩⟩
      rcases f7 with rfl | ⟨d7, rfl⟩ <;> rfl) (by rw [List.length_nil]; omega)
  rw [List.nil_append, ← List.map_flatMap] at q1
  refine ⟨.dat (.list ((rows.flatMap fun r => beads.cps.toList.map fun c => r ++ one c).map PyData.str)), s7', .inr ⟨_, rfl⟩, f7, ?_⟩
  unfold rowsOuter
  refine seq_nx (E1 := [.own b, .dat G, .dat x2, .dat (.str beads), .dat (.int long), .dat (.list (rows.map PyData.str)), .own (.list []), s7, .no]) (by walk_at "e") ?_
  refine seq_nx (E1 := [.own b, .dat G, .dat x2, .dat (.str beads), .dat (.int long), .dat (.list (rows.map PyData.str)), .own (.list ((rows.flatMap fun r => beads.cps.toList.map fun c => r ++ one c).map PyData.str)), s7', .no]) ?_ ?_
  · rw [lp_val]
    generalize semSs (Γof [.bx f_text]) (csOf []) [0] rowsInner = B at q1 ⊢
    walk_at "f"
    exact q1
  · generalize (rows.flatMap fun r => beads.cps.toList.map fun c => r ++ one c).map PyData.str = X
    walk_at "f"
theorem flat_rows {beads : Str} {m : Nat} {rows : List Str} (hr : ∀ r ∈ rows, Tx beads m r) : ∀ r ∈ (rows.flatMap fun r => beads.cps.toList.map fun c => r ++ one c), Tx beads (m + 1) r := by
  intro z hz
  obtain ⟨r, h1, h2⟩ := List.mem_flatMap.mp hz
  obtain ⟨c, h3, rfl⟩ := List.mem_map.mp h2
  exact (hr r h1).snoc h3
theorem flat_len {beads : Str} {rows : List Str} : (rows.flatMap fun r => beads.cps.toList.map fun c => r ++ one c).length = rows.length * beads.length := by
  induction rows with
  | nil => simp
  | cons r rows ih => rw [List.flatMap_cons, List.length_append, List.length_map, len_cps, ih, List.length_cons, Nat.succ_mul]; omega
theorem pow_small {n : Nat} (h : n = 2 ∨ n = 3 ∨ n = 4) : binS .Pow (.dat (.int (n : Int))) (.dat (.int 2)) = some (.dat (.int ((n * n : Nat) : Int))) := by
  rcases h with rfl | rfl | rfl
  · rw [bi_pow (by decide)]; rfl
  · rw [bi_pow (by decide)]; rfl
  · rw [bi_pow (by decide)]; rfl
theorem rows_ok {n longest : Nat} {b : D} {name : Str} {g : Gm} (hg : GmOk longest g) (hlo : longest ≤ 100) (hb : Bx n b) (hn : n < 600000000) : ∃ (rows : List Str) (s : Sl) (b' : D), f_rows_of b [.tuple (gameL name g)] = .ok (s, b') ∧ walkS s = some (rows.map PyData.str) ∧ (∀ r ∈ rows, Tx g.beads g.long r) ∧ rows.length ≤ 200 ∧ Bx (n + 3800) b' := by
  have hll := hg.long
  obtain ⟨hb2, hb4⟩ := hg.beads.len
  have g2 : ixS (.dat (.tuple (gameL name g))) (.int 2) = some (.str g.beads) := rfl
  have g3 : ixS (.dat (.tuple (gameL name g))) (.int 3) = some (.int (g.long : Int)) := rfl
  generalize (PyData.tuple (gameL name g)) = G at g2 g3 ⊢
  have hpow := pow_small (n := g.beads.length) (by omega)
  by_cases hbig : 3 < g.beads.length ∨ 3 < g.long
  · obtain ⟨rows, b', h1, h2, h3, h4⟩ := rows_comp (longest := longest) (G := G) (x5 := .list [.str (Str.ofString "")]) (beads := g.beads) (long := g.long) (by omega) (by omega) hb (by omega)
    obtain ⟨c0, hc0, a0⟩ : ∃ c ∈ g.beads.cps.toList, atI g.beads.cps.toList 0 = some c := by
      have : 0 < g.beads.cps.toList.length := by rw [len_cps]; omega
      exact ⟨g.beads.cps.toList[0], List.getElem_mem this, atN (k := 0) (List.getElem?_eq_getElem this)⟩
    obtain ⟨c1, hc1, a1⟩ : ∃ c ∈ g.beads.cps.toList, atI g.beads.cps.toList (-1) = some c := by
      have : g.beads.cps.toList.length - 1 < g.beads.cps.toList.length := by rw [len_cps]; omega
      refine ⟨g.beads.cps.toList[g.beads.cps.toList.length - 1], List.getElem_mem this, ?_⟩
      unfold atI ixN
      rw [if_neg (by omega), if_pos (by rw [len_cps]; omega)]
      rw [show (-1 + (g.beads.cps.toList.length : Int)).toNat = g.beads.cps.toList.length - 1 by omega]
      exact List.getElem?_eq_getElem this
    refine ⟨rows ++ [repS (one c0) g.long, repS (one c1) g.long], .own (.list ((rows ++ [repS (one c0) g.long, repS (one c1) g.long]).map PyData.str)), b', ?_, rfl, ?_, by rw [List.length_append, h2]; show 38 + 2 ≤ 200; decide, h4⟩
    · have hm0 : binS .Mult (.dat (.str ⟨#[c0]⟩)) (.dat (.int (g.long : Int))) = some (.dat (.str (repS (one c0) g.long))) := by
        show (if _ then _ else _) = _
        rw [if_pos ⟨by omega, by omega, by show 1 ≤ 1000; decide⟩, Int.toNat_natCast]; rfl
      have hm1 : binS .Mult (.dat (.str ⟨#[c1]⟩)) (.dat (.int (g.long : Int))) = some (.dat (.str (repS (one c1) g.long))) := by
        show (if _ then _ else _) = _
        rw [if_pos ⟨by omega, by omega, by show 1 ≤ 1000; decide⟩, Int.toNat_natCast]; rfl
      have hlen : (rows.map PyData.str).length = 38 := by rw [List.length_map, h2]
      rw [List.map_append]
      generalize rows.map PyData.str = rs at h1 hlen ⊢
      refine fnX_go (E := [.own b, .dat G, .no, .no, .no, .no, .no, .no, .no]) rfl rfl ?_
      by_cases h9 : 9 < g.beads.length * g.beads.length
      · (unfold b_rows_of; walk_at "m")
        rfl
      · have : 3 < g.long := by
          rcases hbig with h | h
          · exact absurd (Nat.mul_le_mul (show 4 ≤ g.beads.length by omega) (show 4 ≤ g.beads.length by omega)) (by omega)
          · exact h
        (unfold b_rows_of; walk_at "m")
        rfl
    · intro r hr
      rcases List.mem_append.mp hr with q | q
      · exact h3 r q
      · have : r = repS (one c0) g.long ∨ r = repS (one c1) g.long := by simpa using q
        rcases this with rfl | rfl
        · exact Tx.rep hc0
        · exact Tx.rep hc1
  · have h9 : ¬ 9 < g.beads.length * g.beads.length := by
      have := Nat.mul_le_mul (show g.beads.length ≤ 3 by omega) (show g.beads.length ≤ 3 by omega)
      omega
    obtain ⟨E', q1, rows, s2, s6, s7, rfl, f2, f6, f7, q2, q3⟩ := loopF_inv (tg := .nm 2) (body := semSs (Γof [.bx f_text]) (csOf []) [0] rowsOuter) (fun t E => ∃ (rows : List Str) (s2 s6 s7 : Sl), E = [.own b, .dat G, s2, .dat (.str g.beads), .dat (.int (g.long : Int)), .dat (.list (rows.map PyData.str)), s6, s7, .no] ∧ Fr s2 ∧ Fr s6 ∧ Fr s7 ∧ (∀ r ∈ rows, Tx g.beads t r) ∧ rows.length ≤ 3 ^ t)
      (ds := intsD 0 g.long) (t := 0) (E := [.own b, .dat G, .no, .dat (.str g.beads), .dat (.int (g.long : Int)), .dat (.list [.str (Str.ofString "")]), .no, .no, .no]) ⟨[Str.ofString ""], .no, .no, .no, rfl, .inl rfl, .inl rfl, .inl rfl, (fun r hr => by rw [List.mem_singleton.mp hr]; exact Tx.nil), Nat.le_refl _⟩ (by
        rintro t d E hd ⟨rows, s2, s6, s7, rfl, f2, f6, f7, k1, k2⟩
        obtain ⟨ht, rfl⟩ := intsD_get hd
        have ht3 : 3 ^ (0 + t) ≤ 9 := by
          have : 0 + t ≤ 2 := by omega
          exact Nat.pow_le_pow_right (by decide) this
        obtain ⟨s6', s7', f6', f7', g1⟩ := rows_turn (b := b) (G := G) (x2 := .int (0 + (t : Int))) (beads := g.beads) (long := (g.long : Int)) (s6 := s6) (s7 := s7) hb4 k1 (by omega) (by omega) f7 f6
        refine ⟨_, _, ?_, g1, _, _, s6', s7', rfl, .inr ⟨_, rfl⟩, f6', f7', flat_rows k1, ?_⟩
        · rcases f2 with rfl | ⟨d2, rfl⟩ <;> rfl
        · rw [flat_len, Nat.pow_succ]
          exact Nat.mul_le_mul k2 (by omega))
    rw [intsD_len, Nat.zero_add] at q2 q3
    have hp : 3 ^ g.long ≤ 27 := Nat.pow_le_pow_right (by decide) (show g.long ≤ 3 by omega)
    refine ⟨rows, .dat (.list (rows.map PyData.str)), b, ?_, rfl, q2, by omega, hb.up (by omega)⟩
    unfold rowsOuter rowsInner at q1
    refine fnX_go (E := [.own b, .dat G, .no, .no, .no, .no, .no, .no, .no]) rfl rfl ?_
    (unfold b_rows_of; walk_at "m")
end Wq
set_option maxHeartbeats 4000000
namespace Wq
open PySem L2
local macro_rules | `(tactic| walk_at "e") => `(tactic| simp (disch := first | omega | (simp only [List.length_cons, List.length_nil, List.length_map, List.length_append, List.length_reverse]; omega)) only [↓ev_bind, ↓ev_bad, ↓toK, kOk, kBad, out_nx, out_rt, ss0, ss1, s_ret1, sr_cst, sr_int, sr_str, sr_bl, sr_non, sr_bin, sr_neg, sr_cmp, sr_cmp2, sr_bop, sr_not, sr_ite, sr_tup, sr_lst, sr_ix, sr_sl, sr_rev, sr_call, sr_callB, sr_callO, sr_blt, sr_join, sr_comp, sr_comp2, s_retI1, s_exp1, s_set1, s_unp1, s_par21, s_if1, s_app1, s_rev1, s_sto1, s_sto2, s_frz1, lp_rng, lp_val, lp_enum, set_eq, ev_of, ev_none, ev_slot, ev_cst, ev_int, ev_str, ev_bl, ev_non, ev_bin, ev_neg, ev_cmp, ev_cmp2, ev_and, ev_or, ev_not, ev_ite, ev_tup, ev_lst, ev_ix, ev_sl, ev_rev, ev_call, ev_callB, ev_callO, ev_blt, ev_join, ev_comp, ev_comp2, ev_nil, ev_cons, ev_rng, ev_rng2, ev_val, ev_enum, ev_zip, ev_own,
  of_v, of_k, of_t, of_s, ofV_v, ofV_k, ofV_s, ofD_v, ofD_k, ofD_s, ofD_d, sl_v, sl_k, sl_d, slot_s, slot_t, of_d, ofV_d, datS_dat, datS_own, tr_bool, tr_list, tr_own, args_nil, args_cons, pr_slot, pair_of, pair_ofV, pair_ofD, pair_cmp, bin_eq, cmp_v_eq, cmp_k_eq, cmp_t_eq, cmp_s_eq, cmp_d_eq, cmpM_eq,
  own_eq, noo_eq, bi_add, bi_sub, bi_mul, bi_div, bi_mod, bi_addS, bi_addT, bi_addL, cs_eqi, cs_nei, cs_eqs, cs_nes, cs_lt, cs_le, cs_gt, cs_ge, cs_is, cs_isnt, cs_inT, cst0, b1_sumL, ix_eq, tup_eq, lst_eq, ite_eq, blt1_eq, blt2_eq, b1_lenL, b1_lenO, b1_lenT, b1_lenS, b1_tupO, b1_tupL, b1_tupT, b1_lisO, b1_lisL, b1_lisT, b1_abs, b1_intB, b2_min, b2_max, b2_divmod, cb_eq, co_eq, call_eq, γ0, γs,
  and_one, and_two, or_one, or_two, andt_one, andt_two, ort_one, ort_two, not_eq, sl_eq, rev_eq, join_eq, comp_eq, comp2_eq, cown_eq, cut2, step_eq, tests_no, tests_one,
  setT, setTs, IT.slots, ITs.slots, wipeE, rng_nat, List.all_cons, List.all_nil, List.cons_append, List.nil_append, List.append_nil, Option.toList_some, Option.toList_none,
  slS_str, slS_lst, slS_tup, op_no, op_so, it_own, it_lst, it_tpl, wk_own', wk_lst, wk_tpl, wk_str, ixS_l, ixS_o, ixS_t, ixS_s, at0, at1, at2, at3, at4, at5, at6, ix0, ix1, ix2, bi_pow7, bi_pow18, dlt_t, dlt_f, dle_t, dle_f, deq_t, deq_f, nle_t, nlt_t, dnlt_t, dnle_t, Bool.not_true, Bool.not_false, Bool.and_true, Bool.true_and, Bool.and_self, Bool.and_false, List.contains_cons, List.contains_nil, beq_self_eq_true, Nat.reduceBEq, Nat.reduceEqDiff, Bool.or_false, Bool.or_self, Option.bind_some, Option.map_some, if_true, if_false, Bool.false_eq_true, ↓reduceIte,
  List.getElem?_cons_zero, List.getElem?_cons_succ, List.set_cons_zero, List.set_cons_succ, List.length_cons, List.length_nil])
def f_more_ends := fnX [.bx (f_take 1)] [] n_more_ends 2 b_more_ends
def moreLoop : ISs := (.cons (.ifs (.bop .And (.cons (.cmp .Eq (.callB 0 0 (.cons (.int 3) .nil)) (.int 0)) (.cons (.cmp .Lt (.blt .len (.cons (.slot 4) .nil)) (.int 6)) (.cons (.cmp .NotIn (.sl (.slot 5) .nil (.cons (.int 2) .nil)) (.comp (.sl (.slot 6) .nil (.cons (.int 2) .nil)) (.nm 6) (.own 4) .nil)) .nil))))
 (.cons (.append 4 (.slot 5)) .nil) .nil) .nil)
theorem heads2_ok {b G x2 x3 x5 : D} {kss : List (List Key)} (hk3 : kss.length ≤ 100) : loopC (stepC (.nm 6) [] (Mn.of (slF (slotM 6) [] [Mn.ofD (.int 2)]))) [6] (kss.map tupK) [] [.own b, .dat G, .dat x2, .dat x3, .no, .dat x5, .no] =
    .ok ((kss.map (List.take 2)).map tupK, [.own b, .dat G, .dat x2, .dat x3, .no, .dat x5, .no]) := by
  rw [loopC_of (g := fun ks => some (tupK (ks.take 2)))]
  · rw [List.filterMap_eq_map', List.nil_append, List.map_map]
    rfl
  · intro ks _
    refine ⟨[.own b, .dat G, .dat x2, .dat x3, .no, .dat x5, .dat (tupK ks)], ?_, rfl, rfl⟩
    unfold tupK
    walk_at "e"
    rw [List.map_take]
  · simp
    omega
theorem more_turn {n long : Nat} {b G x3 : D} {beads : Str} {kss : List (List Key)} {one : List Key} (hbd : BdG beads) (ek : EndK beads long one) (hb : Bx n b) (hn : n < 900000000) (hk : ∀ ks ∈ kss, EndK beads long ks) (hk2 : (kss.map (List.take 2)).Nodup) (hk3 : kss.length ≤ 6) :
    ∃ (kss' : List (List Key)) (b' : D), semSs (Γof [.bx (f_take 1)]) (csOf []) [0] moreLoop [.own b, .dat G, .dat (.str beads), .dat x3, .own (.list (kss.map tupK)), .dat (tupK one), .no] =
      .ok (.nx [.own b', .dat G, .dat (.str beads), .dat x3, .own (.list (kss'.map tupK)), .dat (tupK one), .no]) ∧ (∀ ks ∈ kss', EndK beads long ks) ∧ (kss'.map (List.take 2)).Nodup ∧ kss'.length ≤ 6 ∧ Bx (n + 1) b' := by
  obtain ⟨r, b1, h1, h2, h3⟩ := take_ok (m := 0) (room := 3) hb (by omega) (by omega) (by omega)
  have hs1 : SeqAt.shaped (tupK (one.take 2)) = true := (EndK.sd2 (n := 0) hbd ek).shaped (by decide)
  have hs2 : SeqAt.shaped (.list ((kss.map (List.take 2)).map tupK)) = true := (Sd.lst (n := 1) fun d hd => by
    obtain ⟨ks, hks, rfl⟩ := List.mem_map.mp hd
    obtain ⟨k2, hk2', rfl⟩ := List.mem_map.mp hks
    exact EndK.sd2 (n := 0) hbd (hk k2 hk2')).shaped (by decide)
  have hin := any_tupK (kss := kss.map (List.take 2)) (a := one.take 2) fun ks hks => by
    obtain ⟨k2, hk2', rfl⟩ := List.mem_map.mp hks
    obtain ⟨s, m, p, v, rfl, _⟩ := hk k2 hk2'
    obtain ⟨s', m', p', v', rfl, _⟩ := ek
    rfl
  have hsl : slS (tupK one) none (some 2) = some (.dat (tupK (one.take 2))) := by
    unfold tupK
    rw [slS_tup, cut2, List.map_take]
  have hlenD : ((kss.map tupK).length : Int) = (kss.length : Int) := by rw [List.length_map]
  unfold moreLoop
  have fin : ∀ kss' : List (List Key), semS (Γof [.bx (f_take 1)]) (csOf []) [0] (.ifs (.bop .And (.cons (.cmp .Eq (.callB 0 0 (.cons (.int 3) .nil)) (.int 0)) (.cons (.cmp .Lt (.blt .len (.cons (.slot 4) .nil)) (.int 6)) (.cons (.cmp .NotIn (.sl (.slot 5) .nil (.cons (.int 2) .nil)) (.comp (.sl (.slot 6) .nil (.cons (.int 2) .nil)) (.nm 6) (.own 4) .nil)) .nil))))
      (.cons (.append 4 (.slot 5)) .nil) .nil) [.own b, .dat G, .dat (.str beads), .dat x3, .own (.list (kss.map tupK)), .dat (tupK one), .no] =
      .ok (.nx [.own b1, .dat G, .dat (.str beads), .dat x3, .own (.list (kss'.map tupK)), .dat (tupK one), .no]) → semSs (Γof [.bx (f_take 1)]) (csOf []) [0] (.cons (.ifs (.bop .And (.cons (.cmp .Eq (.callB 0 0 (.cons (.int 3) .nil)) (.int 0)) (.cons (.cmp .Lt (.blt .len (.cons (.slot 4) .nil)) (.int 6)) (.cons (.cmp .NotIn (.sl (.slot 5) .nil (.cons (.int 2) .nil)) (.comp (.sl (.slot 6) .nil (.cons (.int 2) .nil)) (.nm 6) (.own 4) .nil)) .nil))))
      (.cons (.append 4 (.slot 5)) .nil) .nil) .nil) [.own b, .dat G, .dat (.str beads), .dat x3, .own (.list (kss.map tupK)), .dat (tupK one), .no] = .ok (.nx [.own b1, .dat G, .dat (.str beads), .dat x3, .own (.list (kss'.map tupK)), .dat (tupK one), .no]) := fun kss' h => seq_nx h rfl
  by_cases hr : (r : Int) = 0
  · by_cases hl : kss.length < 6
    · by_cases hm : one.take 2 ∈ kss.map (List.take 2)
      · have ha : (((kss.map (List.take 2)).map tupK).any fun z => PyData.eqv z (tupK (one.take 2))) = true := hin.mpr hm
        refine ⟨kss, b1, fin kss ?_, hk, hk2, hk3, h3⟩
        walk_at "e"
        rw [h1]
        walk_at "e"
        rw [hsl]
        walk_at "e"
        rw [heads2_ok (by omega)]
        walk_at "e"
        rw [cs_notin rfl rfl hs1 hs2, ha]
        walk_at "e"
      · have ha : (((kss.map (List.take 2)).map tupK).any fun z => PyData.eqv z (tupK (one.take 2))) = false := by
          cases hq : (((kss.map (List.take 2)).map tupK).any fun z => PyData.eqv z (tupK (one.take 2))) with
          | false => rfl
          | true => exact absurd (hin.mp hq) hm
        refine ⟨kss ++ [one], b1, fin (kss ++ [one]) ?_, ?_, ?_, by simp; omega, h3⟩
        · walk_at "e"
          rw [h1]
          walk_at "e"
          rw [hsl]
          walk_at "e"
          rw [heads2_ok (by omega)]
          walk_at "e"
          rw [cs_notin rfl rfl hs1 hs2, ha]
          walk_at "e"
          rw [List.map_append]
          rfl
        · intro ks hks
          rcases List.mem_append.mp hks with h | h
          · exact hk ks h
          · rw [List.mem_singleton.mp h]; exact ek
        · rw [List.map_append]
          refine List.nodup_append.mpr ⟨hk2, by simp, fun x hx y hy e => ?_⟩
          have hy' : y = one.take 2 := by simpa using hy
          rw [hy'] at e
          subst e
          exact hm hx
    · refine ⟨kss, b1, fin kss ?_, hk, hk2, hk3, h3⟩
      walk_at "e"
      rw [h1]
      walk_at "e"
  · refine ⟨kss, b1, fin kss ?_, hk, hk2, hk3, h3⟩
    walk_at "e"
    rw [h1]
    walk_at "e"
end Wq
set_option maxHeartbeats 4000000
namespace Wq
open PySem L2
local macro_rules | `(tactic| walk_at "d") => `(tactic| first | omega | (simp only [List.length_cons, List.length_nil, List.length_map, List.length_append, List.length_reverse]; omega))
local macro_rules | `(tactic| walk_at "n") => `(tactic| simp (disch := walk_at "d") only [↓ev_bind, ↓ev_bad, ↓toK, ev_of, ev_none, of_v, of_k, of_t, of_s, ofV_v, ofV_k, ofV_s, ofD_v, ofD_k, ofD_s, ofD_d, slot_s, slot_t, of_d, ofV_d, datS_dat, datS_own, tr_bool, tr_list, tr_own, args_nil, args_cons, bin_eq, cmp_v_eq, cmp_k_eq, cmp_t_eq, cmp_s_eq, cmp_d_eq, cmpM_eq, pair_of, pair_ofV, pair_ofD, pair_cmp, bi_add, bi_sub, bi_mul, bi_div, bi_mod, bi_addS, bi_addT, bi_addL, cs_eqi, cs_nei, cs_eqs, cs_nes, cs_lt, cs_le, cs_gt, cs_ge, cs_is, cs_isnt, ix_eq, tup_eq, lst_eq, ite_eq, blt1_eq, blt2_eq, b1_abs, b1_intB, b2_min, b2_max, b2_divmod, call_eq, γ0, γs, kOk, kBad, ss0, ss1, s_ret1, sr_cst, sr_int, sr_str, sr_bl, sr_non, sr_bin, sr_neg, sr_cmp, sr_cmp2, sr_bop, sr_not, sr_ite, sr_tup, sr_lst, sr_ix, sr_sl, sr_rev, sr_call, sr_callB, sr_callT, sr_pop, sr_callO, sr_blt, sr_join, sr_comp, sr_comp2, s_retI1, s_exp1, s_set1, s_unp1, s_par21, s_if1, s_app1, s_rev1, s_sto1, s_sto2, s_frz1, lp_rng, lp_val, lp_enum, set_eq, sl_v, sl_k, sl_d, pr_slot, own_eq, noo_eq, cb_eq, co_eq, ct_eq, pop_eq, and_one, and_two, or_one, or_two, andt_one, andt_two, ort_one, ort_two, not_eq, sl_eq, rev_eq, join_eq, cut2, step_eq, tests_no, tests_one, out_nx, out_rt, at0, at1, at2, at3, at4, at5, at6, ix0, ix1, ix2, b1_lenL, b1_lenO, b1_lenT, b1_lenS, b1_tupO, b1_tupL, b1_tupT, b1_lisO, b1_lisL, b1_lisT, b1_sumL, rng_nat, it_own, it_lst, it_tpl, wk_own', wk_lst, wk_tpl, wk_str, slS_str, slS_lst, slS_tup, op_no, op_so, ixS_l, ixS_o, ixS_t, ixS_s, dlt_t, dlt_f, dle_t, dle_f, deq_t, deq_f, nle_t, nlt_t, dnlt_t, dnle_t, bi_pow7, bi_pow18, nv_slot, nk_slot, nd_slot, nt_slot, np_slot, nv_cst, nk_cst, nd_cst, np_cst, nt_cst, nv_int, nk_int, nd_int, np_int, nt_int, nv_str, nk_str, nd_str, np_str, nt_str, nv_bl, nk_bl, nd_bl, np_bl, nt_bl, nv_non, nk_non, nd_non, np_non, nv_bin, nk_bin, nd_bin, np_bin, nt_bin, nv_neg, nk_neg, nd_neg, np_neg, nv_cmp, nk_cmp, nd_cmp, np_cmp, nt_cmp, nv_cmp2, nk_cmp2, nd_cmp2, np_cmp2, nt_cmp2, nv_and, nk_and, nd_and, np_and, nt_and, nv_or, nk_or, nd_or, np_or, nt_or, nv_not, nk_not, nd_not, np_not, nt_not, nv_ite, nk_ite, nd_ite, np_ite, nv_tup, nk_tup, nd_tup, np_tup, nv_lst, nk_lst, nd_lst, np_lst, nv_ix, nk_ix, nd_ix, np_ix, nt_ix, nv_sl, nk_sl, nd_sl, np_sl, nt_sl, nv_rev, nk_rev, nd_rev, np_rev, nt_rev, nv_call, nk_call, nd_call, np_call, nt_call, nv_callB, nk_callB, nd_callB, np_callB, nt_callB, nv_callO, nk_callO, nd_callO, np_callO, nt_callO, nv_callT, nk_callT, nd_callT, np_callT, nt_callT, nv_pop, nk_pop, nd_pop, np_pop, nt_pop, nv_blt, nk_blt, nd_blt, np_blt, nt_blt, nv_join, nk_join, nd_join, np_join, nt_join, nk_comp, nd_comp, np_comp, nt_comp, nk_comp2, nd_comp2, np_comp2, nt_comp2, na_nil, na_cons, nb_one, nb_two, nand_one, nand_two, nor_one, nor_two, nandt_one, nandt_two, nort_one, nort_two, ntest_no, ntest_one, ni_rng, ni_rng2, ni_val, ni_enum, ni_zip, ncs0, ncss, nis_d, nis_o, nisnt_d, nisnt_o, no_none, no_int, no_str, no_bool, no_list, no_tup, en_lst, en_str, zp_lst, zp_tup, decide_true, decide_false, id_eq, setT, setTs, IT.slots, ITs.slots, wipeE, List.all_cons, List.all_nil, List.cons_append, List.nil_append, List.append_nil, Option.toList_some, Option.toList_none, Bool.not_true, Bool.not_false, Bool.and_true, Bool.true_and, Bool.and_self, Bool.and_false, List.contains_cons, List.contains_nil, beq_self_eq_true, Nat.reduceBEq, Nat.reduceEqDiff, Nat.reduceLT, Nat.reduceLeDiff, Bool.or_false, Bool.or_self, Option.bind_some, Option.map_some, if_true, if_false, Bool.false_eq_true, ↓reduceIte, List.getElem?_cons_zero, List.getElem?_cons_succ, List.set_cons_zero, List.set_cons_succ, List.length_cons, List.length_nil])
local macro_rules | `(tactic| walk_at "m") => `(tactic| simp (disch := walk_at "d") only [↓ev_bind, ↓ev_bad, ↓toK, ev_of, ev_none, of_v, of_k, of_t, of_s, ofV_v, ofV_k, ofV_s, ofD_v, ofD_k, ofD_s, ofD_d, slot_s, slot_t, of_d, ofV_d, datS_dat, datS_own, tr_bool, tr_list, tr_own, args_nil, args_cons, bin_eq, cmp_v_eq, cmp_k_eq, cmp_t_eq, cmp_s_eq, cmp_d_eq, cmpM_eq, pair_of, pair_ofV, pair_ofD, pair_cmp, bi_add, bi_sub, bi_mul, bi_div, bi_mod, bi_addS, bi_addT, bi_addL, cs_eqi, cs_nei, cs_eqs, cs_nes, cs_lt, cs_le, cs_gt, cs_ge, cs_is, cs_isnt, ix_eq, tup_eq, lst_eq, ite_eq, blt1_eq, blt2_eq, b1_abs, b1_intB, b2_min, b2_max, b2_divmod, call_eq, γ0, γs, kOk, kBad, ss0, ss1, s_ret1, sr_cst, sr_int, sr_str, sr_bl, sr_non, sr_bin, sr_neg, sr_cmp, sr_cmp2, sr_bop, sr_not, sr_ite, sr_tup, sr_lst, sr_ix, sr_sl, sr_rev, sr_call, sr_callB, sr_callT, sr_pop, sr_callO, sr_blt, sr_join, sr_comp, sr_comp2, s_retI1, s_exp1, s_set1, s_unp1, s_par21, s_if1, s_app1, s_rev1, s_sto1, s_sto2, s_frz1, lp_rng, lp_val, lp_enum, set_eq, sl_v, sl_k, sl_d, pr_slot, own_eq, noo_eq, cb_eq, co_eq, ct_eq, pop_eq, and_one, and_two, or_one, or_two, andt_one, andt_two, ort_one, ort_two, not_eq, sl_eq, rev_eq, join_eq, cut2, step_eq, tests_no, tests_one, out_nx, out_rt, at0, at1, at2, at3, at4, at5, at6, ix0, ix1, ix2, b1_lenL, b1_lenO, b1_lenT, b1_lenS, b1_tupO, b1_tupL, b1_tupT, b1_lisO, b1_lisL, b1_lisT, b1_sumL, rng_nat, it_own, it_lst, it_tpl, wk_own', wk_lst, wk_tpl, wk_str, slS_str, slS_lst, slS_tup, op_no, op_so, ixS_l, ixS_o, ixS_t, ixS_s, dlt_t, dlt_f, dle_t, dle_f, deq_t, deq_f, nle_t, nlt_t, dnlt_t, dnle_t, bi_pow7, bi_pow18, nv_slot, nk_slot, nd_slot, nt_slot, np_slot, nv_cst, nk_cst, nd_cst, np_cst, nt_cst, nv_int, nk_int, nd_int, np_int, nt_int, nv_str, nk_str, nd_str, np_str, nt_str, nv_bl, nk_bl, nd_bl, np_bl, nt_bl, nv_non, nk_non, nd_non, np_non, nv_bin, nk_bin, nd_bin, np_bin, nt_bin, nv_neg, nk_neg, nd_neg, np_neg, nv_cmp, nk_cmp, nd_cmp, np_cmp, nt_cmp, nv_cmp2, nk_cmp2, nd_cmp2, np_cmp2, nt_cmp2, nv_and, nk_and, nd_and, np_and, nt_and, nv_or, nk_or, nd_or, np_or, nt_or, nv_not, nk_not, nd_not, np_not, nt_not, nv_ite, nk_ite, nd_ite, np_ite, nv_tup, nk_tup, nd_tup, np_tup, nv_lst, nk_lst, nd_lst, np_lst, nv_ix, nk_ix, nd_ix, np_ix, nt_ix, nv_sl, nk_sl, nd_sl, np_sl, nt_sl, nv_rev, nk_rev, nd_rev, np_rev, nt_rev, nv_call, nk_call, nd_call, np_call, nt_call, nv_callB, nk_callB, nd_callB, np_callB, nt_callB, nv_callO, nk_callO, nd_callO, np_callO, nt_callO, nv_callT, nk_callT, nd_callT, np_callT, nt_callT, nv_pop, nk_pop, nd_pop, np_pop, nt_pop, nv_blt, nk_blt, nd_blt, np_blt, nt_blt, nv_join, nk_join, nd_join, np_join, nt_join, nk_comp, nd_comp, np_comp, nt_comp, nk_comp2, nd_comp2, np_comp2, nt_comp2, na_nil, na_cons, nb_one, nb_two, nand_one, nand_two, nor_one, nor_two, nandt_one, nandt_two, nort_one, nort_two, ntest_no, ntest_one, ni_rng, ni_rng2, ni_val, ni_enum, ni_zip, ncs0, ncss, nis_d, nis_o, nisnt_d, nisnt_o, no_none, no_int, no_str, no_bool, no_list, no_tup, en_lst, en_str, zp_lst, zp_tup, decide_true, decide_false, id_eq, setT, setTs, IT.slots, ITs.slots, wipeE, List.all_cons, List.all_nil, List.cons_append, List.nil_append, List.append_nil, Option.toList_some, Option.toList_none, Bool.not_true, Bool.not_false, Bool.and_true, Bool.true_and, Bool.and_self, Bool.and_false, List.contains_cons, List.contains_nil, beq_self_eq_true, Nat.reduceBEq, Nat.reduceEqDiff, Nat.reduceLT, Nat.reduceLeDiff, Bool.or_false, Bool.or_self, Option.bind_some, Option.map_some, if_true, if_false, Bool.false_eq_true, ↓reduceIte, List.getElem?_cons_zero, List.getElem?_cons_succ, List.set_cons_zero, List.set_cons_succ, List.length_cons, List.length_nil, *])
theorem neg_at {α : Type} {xs : List α} (h : 0 < xs.length) : ∃ c ∈ xs, atI xs (-1) = some c := by
  have h1 : xs.length - 1 < xs.length := by omega
  refine ⟨xs[xs.length - 1], List.getElem_mem h1, ?_⟩
  unfold atI ixN
  rw [if_neg (by omega), if_pos (by omega)]
  rw [show (-1 + (xs.length : Int)).toNat = xs.length - 1 by omega]
  exact List.getElem?_eq_getElem h1
theorem nat_at {α : Type} {xs : List α} {k : Nat} (h : k < xs.length) : ∃ c ∈ xs, atI xs (k : Int) = some c := ⟨xs[k], List.getElem_mem h, atN (List.getElem?_eq_getElem h)⟩
theorem Tx.one {beads : Str} {c : Nat} (h : c ∈ beads.cps.toList) : Tx beads 1 ⟨#[c]⟩ := ⟨rfl, fun x hx => by
  have : x = c := by simpa using hx
  rw [this]; exact h⟩
theorem ends_sig {beads : Str} {long : Nat} {kss : List (List Key)} (h : ∀ ks ∈ kss, EndK beads long ks) : sigOk kss = true := by
  cases kss with
  | nil => rfl
  | cons k r =>
    have e1 := (h k List.mem_cons_self).sig
    simp only [sigOk, Bool.and_eq_true, Bool.not_eq_true', List.all_eq_true, decide_eq_true_eq]
    refine ⟨?_, fun x hx => by rw [(h x (List.mem_cons_of_mem _ hx)).sig, e1]⟩
    cases k with
    | nil => cases e1
    | cons _ _ => rfl
theorem more_ok {n longest : Nat} {b : D} {name : Str} {g : Gm} (hg : GmOk longest g) (hlo : longest ≤ 100) (hb : Bx n b) (hn : n < 600000000) : ∃ (g' : Gm) (b' : D), f_more_ends b [.tuple (gameL name g)] = .ok (.dat (.tuple (gameL name g')), b') ∧ GmOk longest g' ∧ Bx (n + 6) b' := by
  obtain ⟨hb2, hb4⟩ := hg.beads.len
  have hl2 := hg.long2
  obtain ⟨c0, hc0, a0⟩ := nat_at (xs := g.beads.cps.toList) (k := 0) (by rw [len_cps]; omega)
  obtain ⟨c1, hc1, a1⟩ := nat_at (xs := g.beads.cps.toList) (k := 1) (by rw [len_cps]; omega)
  obtain ⟨c2, hc2, a2⟩ := neg_at (xs := g.beads.cps.toList) (by rw [len_cps]; omega)
  have g2 : ixS (.dat (.tuple (gameL name g))) (.int 2) = some (.str g.beads) := rfl
  have g5 : ixS (.dat (.tuple (gameL name g))) (.int 5) = some (.tuple (g.ends.map tupK)) := rfl
  have s5 : slS (.tuple (gameL name g)) none (some 5) = some (.dat (.tuple [.str name, .str g.shape, .str g.beads, .int (g.long : Int), .tuple [.tuple (g.r1.map tupK), .tuple (g.r2.map tupK)]])) := rfl
  have s6 : slS (.tuple (gameL name g)) (some 6) none = some (.dat (.tuple [.tuple [.int g.s1, .int g.s2]])) := rfl
  let six : List (List Key) := [[.inl 2, .inr ⟨#[c0]⟩, .inl 9], [.inl 2, .inr ⟨#[c2]⟩, .inl 9], [.inl 0, .inr ⟨#[c1]⟩, .inl (-9)], [.inl 1, .inr ⟨#[c0]⟩, .inl (-9)], [.inl 2, .inr ⟨#[c1]⟩, .inl 4], [.inl 0, .inr ⟨#[c0]⟩, .inl 1]]
  have six_ok : ∀ ks ∈ six, EndK g.beads g.long ks := by
    intro ks hks
    have hks' : ks = [.inl 2, .inr ⟨#[c0]⟩, .inl 9] ∨ ks = [.inl 2, .inr ⟨#[c2]⟩, .inl 9] ∨ ks = [.inl 0, .inr ⟨#[c1]⟩, .inl (-9)] ∨ ks = [.inl 1, .inr ⟨#[c0]⟩, .inl (-9)] ∨ ks = [.inl 2, .inr ⟨#[c1]⟩, .inl 4] ∨ ks = [.inl 0, .inr ⟨#[c0]⟩, .inl 1] := by simpa [six] using hks
    rcases hks' with rfl | rfl | rfl | rfl | rfl | rfl
    · exact ⟨2, 1, _, 9, rfl, by decide, by decide, by omega, Tx.one hc0, by unfold Wr; decide⟩
    · exact ⟨2, 1, _, 9, rfl, by decide, by decide, by omega, Tx.one hc2, by unfold Wr; decide⟩
    · exact ⟨0, 1, _, -9, rfl, by decide, by decide, by omega, Tx.one hc1, by unfold Wr; decide⟩
    · exact ⟨1, 1, _, -9, rfl, by decide, by decide, by omega, Tx.one hc0, by unfold Wr; decide⟩
    · exact ⟨2, 1, _, 4, rfl, by decide, by decide, by omega, Tx.one hc1, by unfold Wr; decide⟩
    · exact ⟨0, 1, _, 1, rfl, by decide, by decide, by omega, Tx.one hc0, by unfold Wr; decide⟩
  have take_ok2 : ∀ ks ∈ g.ends.take 2, EndK g.beads g.long ks := fun ks hks => hg.ends.each ks (List.mem_of_mem_take hks)
  obtain ⟨E', q1, kss, b', s5', rfl, f5, k1, k2, k3, k4⟩ := loopF_inv (tg := .nm 5) (body := semSs (Γof [.bx (f_take 1)]) (csOf []) [0] moreLoop) (fun t E => ∃ (kss : List (List Key)) (b' : D) (s5 : Sl), E = [.own b', .dat (.tuple (gameL name g)), .dat (.str g.beads), .dat (.list (six.map tupK)), .own (.list (kss.map tupK)), s5, .no] ∧ Fr s5 ∧ (∀ ks ∈ kss, EndK g.beads g.long ks) ∧ (kss.map (List.take 2)).Nodup ∧ kss.length ≤ 6 ∧ Bx (n + t) b')
    (ds := six.map tupK) (t := 0) (E := [.own b, .dat (.tuple (gameL name g)), .dat (.str g.beads), .dat (.list (six.map tupK)), .own (.list ((g.ends.take 2).map tupK)), .no, .no]) ⟨g.ends.take 2, b, .no, rfl, .inl rfl, take_ok2, (hg.ends.nodup.sublist ((List.take_sublist 2 g.ends).map _)), by rw [List.length_take]; omega, hb⟩ (by
      rintro t d E hd ⟨kss, b1, s5, rfl, f5, k1, k2, k3, k4⟩
      rw [List.getElem?_map] at hd
      cases hs : six[t]? with
      | none => rw [hs] at hd; cases hd
      | some ks =>
        rw [hs] at hd
        have ed : d = tupK ks := (Option.some.inj hd).symm
        subst ed
        have ht : t < 6 := (List.getElem?_eq_some_iff.mp hs).1
        obtain ⟨kss', b2, w1, w2, w3, w4, w5⟩ := more_turn (G := .tuple (gameL name g)) (x3 := .list (six.map tupK)) hg.beads (six_ok ks (List.mem_of_getElem? hs)) k4 (by omega) k1 k2 k3
        refine ⟨_, _, ?_, w1, kss', b2, .dat (tupK ks), rfl, .inr ⟨_, rfl⟩, w2, w3, w4, w5.up (by omega)⟩
        rcases f5 with rfl | ⟨d5, rfl⟩ <;> rfl)
  have hsig := ends_sig k1
  have l6 : (six.map tupK).length = 6 := rfl
  refine ⟨{ g with ends := sortK kss }, b', ?_, ⟨hg.shape, hg.beads, hg.long2, hg.long, hg.r1, hg.r2, ⟨by rw [(sortK_perm kss).length_eq]; exact k3, fun ks hks => k1 ks ((sortK_perm kss).mem_iff.mp hks), ((sortK_perm kss).map _).nodup_iff.mpr k2, sortK_pw kss⟩, hg.s1, hg.s2⟩, k4⟩
  rw [List.map_take] at q1
  have q1' : loopF (.nm 5) (semSs (Γof [.bx (f_take 1)]) (csOf []) [0] moreLoop) [.tuple [.int 2, .str ⟨#[c0]⟩, .int 9], .tuple [.int 2, .str ⟨#[c2]⟩, .int 9], .tuple [.int 0, .str ⟨#[c1]⟩, .int (-9)], .tuple [.int 1, .str ⟨#[c0]⟩, .int (-9)], .tuple [.int 2, .str ⟨#[c1]⟩, .int 4], .tuple [.int 0, .str ⟨#[c0]⟩, .int 1]] [.own b, .dat (.tuple (gameL name g)), .dat (.str g.beads), .dat (.list [.tuple [.int 2, .str ⟨#[c0]⟩, .int 9], .tuple [.int 2, .str ⟨#[c2]⟩, .int 9], .tuple [.int 0, .str ⟨#[c1]⟩, .int (-9)], .tuple [.int 1, .str ⟨#[c0]⟩, .int (-9)], .tuple [.int 2, .str ⟨#[c1]⟩, .int 4], .tuple [.int 0, .str ⟨#[c0]⟩, .int 1]]), .own (.list ((g.ends.map tupK).take 2)), .no, .no] = _ := q1
  clear q1
  unfold moreLoop at q1'
  have a0' : atI g.beads.cps.toList 0 = some c0 := a0
  have a1' : atI g.beads.cps.toList 1 = some c1 := a1
  generalize hG : (PyData.tuple (gameL name g)) = G at q1' g2 g5 s5 s6 ⊢
  refine fnX_go (E := [.own b, .dat G, .no, .no, .no, .no, .no]) rfl rfl ?_
  generalize six.map tupK = sx at q1'
  (unfold b_more_ends; have wk1 := b1_sortO hsig; walk_at "m")
  rfl
end Wq
set_option maxHeartbeats 4000000
namespace Wq
open PySem L2
local macro_rules | `(tactic| walk_at "d") => `(tactic| first | omega | (simp only [List.length_cons, List.length_nil, List.length_map, List.length_append, List.length_reverse]; omega))
local macro_rules | `(tactic| walk_at "n") => `(tactic| simp (disch := walk_at "d") only [↓ev_bind, ↓ev_bad, ↓toK, ev_of, ev_none, of_v, of_k, of_t, of_s, ofV_v, ofV_k, ofV_s, ofD_v, ofD_k, ofD_s, ofD_d, slot_s, slot_t, of_d, ofV_d, datS_dat, datS_own, tr_bool, tr_list, tr_own, args_nil, args_cons, bin_eq, cmp_v_eq, cmp_k_eq, cmp_t_eq, cmp_s_eq, cmp_d_eq, cmpM_eq, pair_of, pair_ofV, pair_ofD, pair_cmp, bi_add, bi_sub, bi_mul, bi_div, bi_mod, bi_addS, bi_addT, bi_addL, cs_eqi, cs_nei, cs_eqs, cs_nes, cs_lt, cs_le, cs_gt, cs_ge, cs_is, cs_isnt, ix_eq, tup_eq, lst_eq, ite_eq, blt1_eq, blt2_eq, b1_abs, b1_intB, b2_min, b2_max, b2_divmod, call_eq, γ0, γs, kOk, kBad, ss0, ss1, s_ret1, sr_cst, sr_int, sr_str, sr_bl, sr_non, sr_bin, sr_neg, sr_cmp, sr_cmp2, sr_bop, sr_not, sr_ite, sr_tup, sr_lst, sr_ix, sr_sl, sr_rev, sr_call, sr_callB, sr_callT, sr_pop, sr_callO, sr_blt, sr_join, sr_comp, sr_comp2, s_retI1, s_exp1, s_set1, s_unp1, s_par21, s_if1, s_app1, s_rev1, s_sto1, s_sto2, s_frz1, lp_rng, lp_val, lp_enum, set_eq, sl_v, sl_k, sl_d, pr_slot, own_eq, noo_eq, cb_eq, co_eq, ct_eq, pop_eq, and_one, and_two, or_one, or_two, andt_one, andt_two, ort_one, ort_two, not_eq, sl_eq, rev_eq, join_eq, cut2, step_eq, tests_no, tests_one, out_nx, out_rt, at0, at1, at2, at3, at4, at5, at6, ix0, ix1, ix2, b1_lenL, b1_lenO, b1_lenT, b1_lenS, b1_tupO, b1_tupL, b1_tupT, b1_lisO, b1_lisL, b1_lisT, b1_sumL, rng_nat, it_own, it_lst, it_tpl, wk_own', wk_lst, wk_tpl, wk_str, slS_str, slS_lst, slS_tup, op_no, op_so, ixS_l, ixS_o, ixS_t, ixS_s, dlt_t, dlt_f, dle_t, dle_f, deq_t, deq_f, nle_t, nlt_t, dnlt_t, dnle_t, bi_pow7, bi_pow18, nv_slot, nk_slot, nd_slot, nt_slot, np_slot, nv_cst, nk_cst, nd_cst, np_cst, nt_cst, nv_int, nk_int, nd_int, np_int, nt_int, nv_str, nk_str, nd_str, np_str, nt_str, nv_bl, nk_bl, nd_bl, np_bl, nt_bl, nv_non, nk_non, nd_non, np_non, nv_bin, nk_bin, nd_bin, np_bin, nt_bin, nv_neg, nk_neg, nd_neg, np_neg, nv_cmp, nk_cmp, nd_cmp, np_cmp, nt_cmp, nv_cmp2, nk_cmp2, nd_cmp2, np_cmp2, nt_cmp2, nv_and, nk_and, nd_and, np_and, nt_and, nv_or, nk_or, nd_or, np_or, nt_or, nv_not, nk_not, nd_not, np_not, nt_not, nv_ite, nk_ite, nd_ite, np_ite, nv_tup, nk_tup, nd_tup, np_tup, nv_lst, nk_lst, nd_lst, np_lst, nv_ix, nk_ix, nd_ix, np_ix, nt_ix, nv_sl, nk_sl, nd_sl, np_sl, nt_sl, nv_rev, nk_rev, nd_rev, np_rev, nt_rev, nv_call, nk_call, nd_call, np_call, nt_call, nv_callB, nk_callB, nd_callB, np_callB, nt_callB, nv_callO, nk_callO, nd_callO, np_callO, nt_callO, nv_callT, nk_callT, nd_callT, np_callT, nt_callT, nv_pop, nk_pop, nd_pop, np_pop, nt_pop, nv_blt, nk_blt, nd_blt, np_blt, nt_blt, nv_join, nk_join, nd_join, np_join, nt_join, nk_comp, nd_comp, np_comp, nt_comp, nk_comp2, nd_comp2, np_comp2, nt_comp2, na_nil, na_cons, nb_one, nb_two, nand_one, nand_two, nor_one, nor_two, nandt_one, nandt_two, nort_one, nort_two, ntest_no, ntest_one, ni_rng, ni_rng2, ni_val, ni_enum, ni_zip, ncs0, ncss, nis_d, nis_o, nisnt_d, nisnt_o, no_none, no_int, no_str, no_bool, no_list, no_tup, en_lst, en_str, zp_lst, zp_tup, decide_true, decide_false, id_eq, setT, setTs, IT.slots, ITs.slots, wipeE, List.all_cons, List.all_nil, List.cons_append, List.nil_append, List.append_nil, Option.toList_some, Option.toList_none, Bool.not_true, Bool.not_false, Bool.and_true, Bool.true_and, Bool.and_self, Bool.and_false, List.contains_cons, List.contains_nil, beq_self_eq_true, Nat.reduceBEq, Nat.reduceEqDiff, Nat.reduceLT, Nat.reduceLeDiff, Bool.or_false, Bool.or_self, Option.bind_some, Option.map_some, if_true, if_false, Bool.false_eq_true, ↓reduceIte, List.getElem?_cons_zero, List.getElem?_cons_succ, List.set_cons_zero, List.set_cons_succ, List.length_cons, List.length_nil])
local macro_rules | `(tactic| walk_at "m") => `(tactic| simp (disch := walk_at "d") only [↓ev_bind, ↓ev_bad, ↓toK, ev_of, ev_none, of_v, of_k, of_t, of_s, ofV_v, ofV_k, ofV_s, ofD_v, ofD_k, ofD_s, ofD_d, slot_s, slot_t, of_d, ofV_d, datS_dat, datS_own, tr_bool, tr_list, tr_own, args_nil, args_cons, bin_eq, cmp_v_eq, cmp_k_eq, cmp_t_eq, cmp_s_eq, cmp_d_eq, cmpM_eq, pair_of, pair_ofV, pair_ofD, pair_cmp, bi_add, bi_sub, bi_mul, bi_div, bi_mod, bi_addS, bi_addT, bi_addL, cs_eqi, cs_nei, cs_eqs, cs_nes, cs_lt, cs_le, cs_gt, cs_ge, cs_is, cs_isnt, ix_eq, tup_eq, lst_eq, ite_eq, blt1_eq, blt2_eq, b1_abs, b1_intB, b2_min, b2_max, b2_divmod, call_eq, γ0, γs, kOk, kBad, ss0, ss1, s_ret1, sr_cst, sr_int, sr_str, sr_bl, sr_non, sr_bin, sr_neg, sr_cmp, sr_cmp2, sr_bop, sr_not, sr_ite, sr_tup, sr_lst, sr_ix, sr_sl, sr_rev, sr_call, sr_callB, sr_callT, sr_pop, sr_callO, sr_blt, sr_join, sr_comp, sr_comp2, s_retI1, s_exp1, s_set1, s_unp1, s_par21, s_if1, s_app1, s_rev1, s_sto1, s_sto2, s_frz1, lp_rng, lp_val, lp_enum, set_eq, sl_v, sl_k, sl_d, pr_slot, own_eq, noo_eq, cb_eq, co_eq, ct_eq, pop_eq, and_one, and_two, or_one, or_two, andt_one, andt_two, ort_one, ort_two, not_eq, sl_eq, rev_eq, join_eq, cut2, step_eq, tests_no, tests_one, out_nx, out_rt, at0, at1, at2, at3, at4, at5, at6, ix0, ix1, ix2, b1_lenL, b1_lenO, b1_lenT, b1_lenS, b1_tupO, b1_tupL, b1_tupT, b1_lisO, b1_lisL, b1_lisT, b1_sumL, rng_nat, it_own, it_lst, it_tpl, wk_own', wk_lst, wk_tpl, wk_str, slS_str, slS_lst, slS_tup, op_no, op_so, ixS_l, ixS_o, ixS_t, ixS_s, dlt_t, dlt_f, dle_t, dle_f, deq_t, deq_f, nle_t, nlt_t, dnlt_t, dnle_t, bi_pow7, bi_pow18, nv_slot, nk_slot, nd_slot, nt_slot, np_slot, nv_cst, nk_cst, nd_cst, np_cst, nt_cst, nv_int, nk_int, nd_int, np_int, nt_int, nv_str, nk_str, nd_str, np_str, nt_str, nv_bl, nk_bl, nd_bl, np_bl, nt_bl, nv_non, nk_non, nd_non, np_non, nv_bin, nk_bin, nd_bin, np_bin, nt_bin, nv_neg, nk_neg, nd_neg, np_neg, nv_cmp, nk_cmp, nd_cmp, np_cmp, nt_cmp, nv_cmp2, nk_cmp2, nd_cmp2, np_cmp2, nt_cmp2, nv_and, nk_and, nd_and, np_and, nt_and, nv_or, nk_or, nd_or, np_or, nt_or, nv_not, nk_not, nd_not, np_not, nt_not, nv_ite, nk_ite, nd_ite, np_ite, nv_tup, nk_tup, nd_tup, np_tup, nv_lst, nk_lst, nd_lst, np_lst, nv_ix, nk_ix, nd_ix, np_ix, nt_ix, nv_sl, nk_sl, nd_sl, np_sl, nt_sl, nv_rev, nk_rev, nd_rev, np_rev, nt_rev, nv_call, nk_call, nd_call, np_call, nt_call, nv_callB, nk_callB, nd_callB, np_callB, nt_callB, nv_callO, nk_callO, nd_callO, np_callO, nt_callO, nv_callT, nk_callT, nd_callT, np_callT, nt_callT, nv_pop, nk_pop, nd_pop, np_pop, nt_pop, nv_blt, nk_blt, nd_blt, np_blt, nt_blt, nv_join, nk_join, nd_join, np_join, nt_join, nk_comp, nd_comp, np_comp, nt_comp, nk_comp2, nd_comp2, np_comp2, nt_comp2, na_nil, na_cons, nb_one, nb_two, nand_one, nand_two, nor_one, nor_two, nandt_one, nandt_two, nort_one, nort_two, ntest_no, ntest_one, ni_rng, ni_rng2, ni_val, ni_enum, ni_zip, ncs0, ncss, nis_d, nis_o, nisnt_d, nisnt_o, no_none, no_int, no_str, no_bool, no_list, no_tup, en_lst, en_str, zp_lst, zp_tup, decide_true, decide_false, id_eq, setT, setTs, IT.slots, ITs.slots, wipeE, List.all_cons, List.all_nil, List.cons_append, List.nil_append, List.append_nil, Option.toList_some, Option.toList_none, Bool.not_true, Bool.not_false, Bool.and_true, Bool.true_and, Bool.and_self, Bool.and_false, List.contains_cons, List.contains_nil, beq_self_eq_true, Nat.reduceBEq, Nat.reduceEqDiff, Nat.reduceLT, Nat.reduceLeDiff, Bool.or_false, Bool.or_self, Option.bind_some, Option.map_some, if_true, if_false, Bool.false_eq_true, ↓reduceIte, List.getElem?_cons_zero, List.getElem?_cons_succ, List.set_cons_zero, List.set_cons_succ, List.length_cons, List.length_nil, *])
theorem repr_rp {k W : Nat} {ds : List D} (h : Rp k W (.tuple ds)) (hk : k ≤ 40) (hW : W ≤ 1048576) : blt1 .repr (.dat (.tuple ds)) = some (.dat (.str (PyData.tuple ds).shown)) := by
  show (reprS _).map _ = _
  unfold reprS
  have h1 := h.fits hW
  have h2 := Nat.le_trans h.dep hk
  rw [if_pos (by simp [isBox, h.sho, h.nod, h1, h2])]
  rfl
def g_right : List FnE := [.bx f_any_game, .bx f_more_ends, .bx f_rows_of, .pu f_end, .pu f_ended, .pu (f_lists 5), .pu (f_same 2)]
def f_right := fnX g_right [] n_right 1 b_right
def rightIn : ISs := (.cons (.set 6 (.call 3 (.cons (.slot 2) (.cons (.tup (.cons (.slot 5) (.cons (.slot 4) .nil))) .nil))))
 (.cons (.freeze 6)
 (.cons (.set 7 (.lst (.cons (.call 4 (.cons (.slot 2) (.cons (.tup (.cons (.slot 5) (.cons (.slot 4) .nil))) .nil))) (.cons (.call 4 (.cons (.call 5 (.cons (.slot 2) .nil)) (.cons (.lst (.cons (.slot 5) (.cons (.slot 4) .nil))) .nil))) (.cons (.call 4 (.cons (.slot 2) (.cons (.tup (.cons (.slot 5) (.cons (.slot 4) .nil))) .nil))) .nil)))))
 (.cons (.freeze 7)
 (.cons (.ifs (.not (.call 6 (.cons (.slot 7) (.cons (.bin .Mult (.lst (.cons (.slot 6) .nil)) (.int 3)) .nil))))
 (.cons (.ret (.bl false)) .nil) .nil) .nil)))))
def rightMid : ISs := (.cons (.loop (.nm 5) (.val (.tup (.cons (.int 0) (.cons (.int 1) .nil)))) rightIn) .nil)
def rightOut : ISs := (.cons (.set 3 (.blt .repr (.cons (.slot 2) .nil)))
 (.cons (.loop (.nm 4) (.val (.callB 2 0 (.cons (.slot 2) .nil))) rightMid)
 (.cons (.ifs (.cmp .NotEq (.blt .repr (.cons (.slot 2) .nil)) (.slot 3)) (.cons (.ret (.bl false)) .nil) .nil) .nil)))
theorem mul3 {x : D} : binS .Mult (.own (.list [x])) (.dat (.int 3)) = some (.own (.list [x, x, x])) := rfl
theorem right_in {name : Str} {g : Gm} {side : Nat} {row : Str} {b d1 : D} {s3 s6 s7 : Sl} (hg : GmOk 6 g) (hr : Tx g.beads g.long row) (hs : side < 2) :
    ∃ x6 x7, semSs (Γof g_right) (csOf []) [0] rightIn [.own b, .dat d1, .dat (.tuple (gameL name g)), s3, .dat (.str row), .dat (.int (side : Int)), s6, s7] =
      .ok (.nx [.own b, .dat d1, .dat (.tuple (gameL name g)), s3, .dat (.str row), .dat (.int (side : Int)), .dat x6, .dat x7]) := by
  have hlo := hg.long
  have h1 := end_ok (l := false) (l2 := false) (name := name) hg (by omega) hr.1 hs
  have h2 := ended_ok (l := false) (l2 := false) (name := name) (row := row) hg (by omega) (by rw [hr.1]; omega) hs
  have h3 := ended_ok (l := true) (l2 := true) (name := name) (row := row) hg (by omega) (by rw [hr.1]; omega) hs
  have h4 := lists_ok (hg.pl (name := name) (by omega))
  have h4' : listsSl (.tuple (gameL name g)) = .own (sq true (gameQ true name g)) := by
    rw [← gameQ_t]
    show Sl.own (.list ((gameL name g).map listsM)) = Sl.own (.list (listsAll (gameL name g)))
    rw [listsAll_map]
  rw [h4'] at h4
  have hq : Pq 1 (.list [endM g side row, endM g side row, endM g side row]) := .lst (by show 3 ≤ _; decide) fun d hd => by
    have : d = endM g side row := by simpa using hd
    subst this
    unfold endM
    split
    · exact .int _
    · split
      · exact .int _
      · exact .non
  have h5 := same_ok hq
  change f_end [.tuple (gameL name g), .tuple [.int (side : Int), .str row]] = _ at h1
  change f_ended [.tuple (gameL name g), .tuple [.int (side : Int), .str row]] = _ at h2
  change f_ended [.list (gameQ true name g), .list [.int (side : Int), .str row]] = _ at h3
  change f_lists 5 [.tuple (gameL name g)] = .ok (.own (.list (gameQ true name g))) at h4
  change f_same 2 _ = _ at h5
  generalize endM g side row = x at h1 h2 h3 h5
  refine ⟨x, .list [x, x, x], ?_⟩
  generalize (PyData.tuple (gameL name g)) = G at h1 h2 h4 ⊢
  generalize gameQ true name g = L at h3 h4
  (unfold rightIn; unfold g_right; have wk2 := @mul3; walk_at "m")
theorem right_mid {name : Str} {g : Gm} {row : Str} {b d1 : D} {s3 s5 s6 s7 : Sl} (hg : GmOk 6 g) (hr : Tx g.beads g.long row) (f5 : Fr s5) (f6 : Fr s6) (f7 : Fr s7) :
    ∃ s5' s6' s7', Fr s5' ∧ Fr s6' ∧ Fr s7' ∧ semSs (Γof g_right) (csOf []) [0] rightMid [.own b, .dat d1, .dat (.tuple (gameL name g)), s3, .dat (.str row), s5, s6, s7] =
      .ok (.nx [.own b, .dat d1, .dat (.tuple (gameL name g)), s3, .dat (.str row), s5', s6', s7']) := by
  obtain ⟨E', q1, t5, t6, t7, rfl, w5, w6, w7⟩ := loopF_inv (tg := .nm 5) (body := semSs (Γof g_right) (csOf []) [0] rightIn) (fun t E => ∃ s5 s6 s7, E = [.own b, .dat d1, .dat (.tuple (gameL name g)), s3, .dat (.str row), s5, s6, s7] ∧ Fr s5 ∧ Fr s6 ∧ Fr s7)
    (ds := [.int ((0 : Nat) : Int), .int ((1 : Nat) : Int)]) (t := 0) ⟨s5, s6, s7, rfl, f5, f6, f7⟩ (by
      rintro t d E hd ⟨s5, s6, s7, rfl, f5, f6, f7⟩
      obtain ⟨side, hs, rfl⟩ : ∃ side : Nat, side < 2 ∧ d = .int (side : Int) := by
        match t, hd with
        | 0, hd => exact ⟨0, by decide, by cases hd; rfl⟩
        | 1, hd => exact ⟨1, by decide, by cases hd; rfl⟩
      obtain ⟨x6, x7, w⟩ := right_in (name := name) (b := b) (d1 := d1) (s3 := s3) (s6 := s6) (s7 := s7) hg hr hs
      refine ⟨_, _, ?_, w, _, _, _, rfl, .inr ⟨_, rfl⟩, .inr ⟨_, rfl⟩, .inr ⟨_, rfl⟩⟩
      rcases f5 with rfl | ⟨d5, rfl⟩ <;> rfl)
  refine ⟨t5, t6, t7, w5, w6, w7, ?_⟩
  change loopF (.nm 5) _ [.int 0, .int 1] _ = _ at q1
  (unfold rightMid; walk_at "m")
theorem right_out {n : Nat} {name : Str} {g : Gm} {b d1 : D} {s3 s4 s5 s6 s7 : Sl} (hg : GmOk 6 g) (hnm : PyData.strOk name = true) (hnl : name.length ≤ 1000) (hb : Bx n b) (hn : n < 500000000) (f4 : Fr s4) (f5 : Fr s5) (f6 : Fr s6) (f7 : Fr s7) :
    ∃ b' s3' s4' s5' s6' s7', Fr s4' ∧ Fr s5' ∧ Fr s6' ∧ Fr s7' ∧ Bx (n + 3800) b' ∧ semSs (Γof g_right) (csOf []) [0] rightOut [.own b, .dat d1, .dat (.tuple (gameL name g)), s3, s4, s5, s6, s7] =
      .ok (.nx [.own b', .dat d1, .dat (.tuple (gameL name g)), s3', s4', s5', s6', s7']) := by
  have hrp := repr_rp (hg.rp (by decide) hnm hnl) (by decide) (by decide)
  obtain ⟨rows, s, b', h1, h2, h3, h4, h5⟩ := rows_ok (name := name) hg (by decide) hb (by omega)
  generalize (PyData.tuple (gameL name g)).shown = z at hrp
  obtain ⟨E', q1, t4, t5, t6, t7, rfl, w4, w5, w6, w7⟩ := loopF_inv (tg := .nm 4) (body := semSs (Γof g_right) (csOf []) [0] rightMid) (fun t E => ∃ s4 s5 s6 s7, E = [.own b', .dat d1, .dat (.tuple (gameL name g)), .dat (.str z), s4, s5, s6, s7] ∧ Fr s4 ∧ Fr s5 ∧ Fr s6 ∧ Fr s7)
    (ds := rows.map PyData.str) (t := 0) ⟨s4, s5, s6, s7, rfl, f4, f5, f6, f7⟩ (by
      rintro t d E hd ⟨s4, s5, s6, s7, rfl, f4, f5, f6, f7⟩
      rw [List.getElem?_map] at hd
      cases hrw : rows[t]? with
      | none => rw [hrw] at hd; cases hd
      | some row =>
        rw [hrw] at hd
        have ed : d = .str row := (Option.some.inj hd).symm
        subst ed
        obtain ⟨s5', s6', s7', k5, k6, k7, w⟩ := right_mid (name := name) (b := b') (d1 := d1) (s3 := .dat (.str z)) hg (h3 row (List.mem_of_getElem? hrw)) f5 f6 f7
        refine ⟨_, _, ?_, w, _, _, _, _, rfl, .inr ⟨_, rfl⟩, k5, k6, k7⟩
        rcases f4 with rfl | ⟨d4, rfl⟩ <;> rfl)
  refine ⟨b', .dat (.str z), t4, t5, t6, t7, w4, w5, w6, w7, h5, ?_⟩
  generalize (PyData.tuple (gameL name g)) = G at hrp h1 q1 ⊢
  generalize hB : semSs (Γof g_right) (csOf []) [0] rightMid = B at q1
  (unfold rightOut; unfold g_right; walk_at "m")
  have e : semSs (Γof [.bx f_any_game, .bx f_more_ends, .bx f_rows_of, .pu f_end, .pu f_ended, .pu (f_lists 5), .pu (f_same 2)]) (csOf []) [0] rightMid = B := hB
  (walk_at "m")
theorem right_ok {n : Nat} {b : D} (hb : Bx n b) (hn : n < 400000000) : ∃ b', f_right b [] = .ok (.dat (.bool true), b') ∧ Bx (n + 10000) b' := by
  obtain ⟨g, b1, h1, h2, h3⟩ := game_ok (longest := 6) (name := Str.ofString "game") (by decide) (by decide) hb (by omega)
  obtain ⟨g', b2, h4, h5, h6⟩ := more_ok (name := Str.ofString "game") h2 (by decide) h3 (by omega)
  obtain ⟨b3, s3, s4, s5, s6, s7, f4, f5, f6, f7, h7, h8⟩ := right_out (name := Str.ofString "game") (d1 := .tuple (gameL (Str.ofString "game") g)) (s3 := .no) (s4 := .no) (s5 := .no) (s6 := .no) (s7 := .no) h2 (strOk_of (by decide)) (by decide) h6 (by omega) (.inl rfl) (.inl rfl) (.inl rfl) (.inl rfl)
  obtain ⟨b4, t3, t4, t5, t6, t7, _, _, _, _, h9, h10⟩ := right_out (name := Str.ofString "game") (d1 := .tuple (gameL (Str.ofString "game") g)) (s3 := s3) h5 (strOk_of (by decide)) (by decide) h7 (by omega) f4 f5 f6 f7
  refine ⟨b4, ?_, h9.up (by omega)⟩
  change f_any_game b [.str (Str.ofString "game"), .int 6] = _ at h1
  have l2 : loopF (.nm 2) (semSs (Γof g_right) (csOf []) [0] rightOut) [.tuple (gameL (Str.ofString "game") g), .tuple (gameL (Str.ofString "game") g')] [.own b2, .dat (.tuple (gameL (Str.ofString "game") g)), .no, .no, .no, .no, .no, .no] = .ok (.nx [.own b4, .dat (.tuple (gameL (Str.ofString "game") g)), .dat (.tuple (gameL (Str.ofString "game") g')), t3, t4, t5, t6, t7]) := by
    unfold loopF
    show (semSs (Γof g_right) (csOf []) [0] rightOut [.own b2, .dat (.tuple (gameL (Str.ofString "game") g)), .dat (.tuple (gameL (Str.ofString "game") g)), .no, .no, .no, .no, .no]).bind _ = _
    rw [h8, ev_bind]
    unfold loopF
    show (semSs (Γof g_right) (csOf []) [0] rightOut [.own b3, .dat (.tuple (gameL (Str.ofString "game") g)), .dat (.tuple (gameL (Str.ofString "game") g')), s3, s4, s5, s6, s7]).bind _ = _
    rw [h10, ev_bind]
    rfl
  generalize (PyData.tuple (gameL (Str.ofString "game") g)) = G1 at h1 h4 l2
  generalize (PyData.tuple (gameL (Str.ofString "game") g')) = G2 at h4 l2
  unfold rightOut rightMid rightIn g_right at l2
  refine fnX_go (E := [.own b, .no, .no, .no, .no, .no, .no, .no]) rfl rfl ?_
  (unfold b_right; unfold g_right; walk_at "m")
end Wq
set_option maxHeartbeats 4000000
namespace Wq
open PySem L2
local macro_rules | `(tactic| walk_at "d") => `(tactic| first | omega | (simp only [List.length_cons, List.length_nil, List.length_map, List.length_append, List.length_reverse]; omega))
local macro_rules | `(tactic| walk_at "n") => `(tactic| simp (disch := walk_at "d") only [↓ev_bind, ↓ev_bad, ↓toK, ev_of, ev_none, of_v, of_k, of_t, of_s, ofV_v, ofV_k, ofV_s, ofD_v, ofD_k, ofD_s, ofD_d, slot_s, slot_t, of_d, ofV_d, datS_dat, datS_own, tr_bool, tr_list, tr_own, args_nil, args_cons, bin_eq, cmp_v_eq, cmp_k_eq, cmp_t_eq, cmp_s_eq, cmp_d_eq, cmpM_eq, pair_of, pair_ofV, pair_ofD, pair_cmp, bi_add, bi_sub, bi_mul, bi_div, bi_mod, bi_addS, bi_addT, bi_addL, cs_eqi, cs_nei, cs_eqs, cs_nes, cs_lt, cs_le, cs_gt, cs_ge, cs_is, cs_isnt, ix_eq, tup_eq, lst_eq, ite_eq, blt1_eq, blt2_eq, b1_abs, b1_intB, b2_min, b2_max, b2_divmod, call_eq, γ0, γs, kOk, kBad, ss0, ss1, s_ret1, sr_cst, sr_int, sr_str, sr_bl, sr_non, sr_bin, sr_neg, sr_cmp, sr_cmp2, sr_bop, sr_not, sr_ite, sr_tup, sr_lst, sr_ix, sr_sl, sr_rev, sr_call, sr_callB, sr_callT, sr_pop, sr_callO, sr_blt, sr_join, sr_comp, sr_comp2, s_retI1, s_exp1, s_set1, s_unp1, s_par21, s_if1, s_app1, s_rev1, s_sto1, s_sto2, s_frz1, lp_rng, lp_val, lp_enum, set_eq, sl_v, sl_k, sl_d, pr_slot, own_eq, noo_eq, cb_eq, co_eq, ct_eq, pop_eq, and_one, and_two, or_one, or_two, andt_one, andt_two, ort_one, ort_two, not_eq, sl_eq, rev_eq, join_eq, cut2, step_eq, tests_no, tests_one, out_nx, out_rt, at0, at1, at2, at3, at4, at5, at6, ix0, ix1, ix2, b1_lenL, b1_lenO, b1_lenT, b1_lenS, b1_tupO, b1_tupL, b1_tupT, b1_lisO, b1_lisL, b1_lisT, b1_sumL, rng_nat, it_own, it_lst, it_tpl, wk_own', wk_lst, wk_tpl, wk_str, slS_str, slS_lst, slS_tup, op_no, op_so, ixS_l, ixS_o, ixS_t, ixS_s, dlt_t, dlt_f, dle_t, dle_f, deq_t, deq_f, nle_t, nlt_t, dnlt_t, dnle_t, bi_pow7, bi_pow18, nv_slot, nk_slot, nd_slot, nt_slot, np_slot, nv_cst, nk_cst, nd_cst, np_cst, nt_cst, nv_int, nk_int, nd_int, np_int, nt_int, nv_str, nk_str, nd_str, np_str, nt_str, nv_bl, nk_bl, nd_bl, np_bl, nt_bl, nv_non, nk_non, nd_non, np_non, nv_bin, nk_bin, nd_bin, np_bin, nt_bin, nv_neg, nk_neg, nd_neg, np_neg, nv_cmp, nk_cmp, nd_cmp, np_cmp, nt_cmp, nv_cmp2, nk_cmp2, nd_cmp2, np_cmp2, nt_cmp2, nv_and, nk_and, nd_and, np_and, nt_and, nv_or, nk_or, nd_or, np_or, nt_or, nv_not, nk_not, nd_not, np_not, nt_not, nv_ite, nk_ite, nd_ite, np_ite, nv_tup, nk_tup, nd_tup, np_tup, nv_lst, nk_lst, nd_lst, np_lst, nv_ix, nk_ix, nd_ix, np_ix, nt_ix, nv_sl, nk_sl, nd_sl, np_sl, nt_sl, nv_rev, nk_rev, nd_rev, np_rev, nt_rev, nv_call, nk_call, nd_call, np_call, nt_call, nv_callB, nk_callB, nd_callB, np_callB, nt_callB, nv_callO, nk_callO, nd_callO, np_callO, nt_callO, nv_callT, nk_callT, nd_callT, np_callT, nt_callT, nv_pop, nk_pop, nd_pop, np_pop, nt_pop, nv_blt, nk_blt, nd_blt, np_blt, nt_blt, nv_join, nk_join, nd_join, np_join, nt_join, nk_comp, nd_comp, np_comp, nt_comp, nk_comp2, nd_comp2, np_comp2, nt_comp2, na_nil, na_cons, nb_one, nb_two, nand_one, nand_two, nor_one, nor_two, nandt_one, nandt_two, nort_one, nort_two, ntest_no, ntest_one, ni_rng, ni_rng2, ni_val, ni_enum, ni_zip, ncs0, ncss, nis_d, nis_o, nisnt_d, nisnt_o, no_none, no_int, no_str, no_bool, no_list, no_tup, en_lst, en_str, zp_lst, zp_tup, decide_true, decide_false, id_eq, setT, setTs, IT.slots, ITs.slots, wipeE, List.all_cons, List.all_nil, List.cons_append, List.nil_append, List.append_nil, Option.toList_some, Option.toList_none, Bool.not_true, Bool.not_false, Bool.and_true, Bool.true_and, Bool.and_self, Bool.and_false, List.contains_cons, List.contains_nil, beq_self_eq_true, Nat.reduceBEq, Nat.reduceEqDiff, Nat.reduceLT, Nat.reduceLeDiff, Bool.or_false, Bool.or_self, Option.bind_some, Option.map_some, if_true, if_false, Bool.false_eq_true, ↓reduceIte, List.getElem?_cons_zero, List.getElem?_cons_succ, List.set_cons_zero, List.set_cons_succ, List.length_cons, List.length_nil])
local macro_rules | `(tactic| walk_at "m") => `(tactic| simp (disch := walk_at "d") only [↓ev_bind, ↓ev_bad, ↓toK, ev_of, ev_none, of_v, of_k, of_t, of_s, ofV_v, ofV_k, ofV_s, ofD_v, ofD_k, ofD_s, ofD_d, slot_s, slot_t, of_d, ofV_d, datS_dat, datS_own, tr_bool, tr_list, tr_own, args_nil, args_cons, bin_eq, cmp_v_eq, cmp_k_eq, cmp_t_eq, cmp_s_eq, cmp_d_eq, cmpM_eq, pair_of, pair_ofV, pair_ofD, pair_cmp, bi_add, bi_sub, bi_mul, bi_div, bi_mod, bi_addS, bi_addT, bi_addL, cs_eqi, cs_nei, cs_eqs, cs_nes, cs_lt, cs_le, cs_gt, cs_ge, cs_is, cs_isnt, ix_eq, tup_eq, lst_eq, ite_eq, blt1_eq, blt2_eq, b1_abs, b1_intB, b2_min, b2_max, b2_divmod, call_eq, γ0, γs, kOk, kBad, ss0, ss1, s_ret1, sr_cst, sr_int, sr_str, sr_bl, sr_non, sr_bin, sr_neg, sr_cmp, sr_cmp2, sr_bop, sr_not, sr_ite, sr_tup, sr_lst, sr_ix, sr_sl, sr_rev, sr_call, sr_callB, sr_callT, sr_pop, sr_callO, sr_blt, sr_join, sr_comp, sr_comp2, s_retI1, s_exp1, s_set1, s_unp1, s_par21, s_if1, s_app1, s_rev1, s_sto1, s_sto2, s_frz1, lp_rng, lp_val, lp_enum, set_eq, sl_v, sl_k, sl_d, pr_slot, own_eq, noo_eq, cb_eq, co_eq, ct_eq, pop_eq, and_one, and_two, or_one, or_two, andt_one, andt_two, ort_one, ort_two, not_eq, sl_eq, rev_eq, join_eq, cut2, step_eq, tests_no, tests_one, out_nx, out_rt, at0, at1, at2, at3, at4, at5, at6, ix0, ix1, ix2, b1_lenL, b1_lenO, b1_lenT, b1_lenS, b1_tupO, b1_tupL, b1_tupT, b1_lisO, b1_lisL, b1_lisT, b1_sumL, rng_nat, it_own, it_lst, it_tpl, wk_own', wk_lst, wk_tpl, wk_str, slS_str, slS_lst, slS_tup, op_no, op_so, ixS_l, ixS_o, ixS_t, ixS_s, dlt_t, dlt_f, dle_t, dle_f, deq_t, deq_f, nle_t, nlt_t, dnlt_t, dnle_t, bi_pow7, bi_pow18, nv_slot, nk_slot, nd_slot, nt_slot, np_slot, nv_cst, nk_cst, nd_cst, np_cst, nt_cst, nv_int, nk_int, nd_int, np_int, nt_int, nv_str, nk_str, nd_str, np_str, nt_str, nv_bl, nk_bl, nd_bl, np_bl, nt_bl, nv_non, nk_non, nd_non, np_non, nv_bin, nk_bin, nd_bin, np_bin, nt_bin, nv_neg, nk_neg, nd_neg, np_neg, nv_cmp, nk_cmp, nd_cmp, np_cmp, nt_cmp, nv_cmp2, nk_cmp2, nd_cmp2, np_cmp2, nt_cmp2, nv_and, nk_and, nd_and, np_and, nt_and, nv_or, nk_or, nd_or, np_or, nt_or, nv_not, nk_not, nd_not, np_not, nt_not, nv_ite, nk_ite, nd_ite, np_ite, nv_tup, nk_tup, nd_tup, np_tup, nv_lst, nk_lst, nd_lst, np_lst, nv_ix, nk_ix, nd_ix, np_ix, nt_ix, nv_sl, nk_sl, nd_sl, np_sl, nt_sl, nv_rev, nk_rev, nd_rev, np_rev, nt_rev, nv_call, nk_call, nd_call, np_call, nt_call, nv_callB, nk_callB, nd_callB, np_callB, nt_callB, nv_callO, nk_callO, nd_callO, np_callO, nt_callO, nv_callT, nk_callT, nd_callT, np_callT, nt_callT, nv_pop, nk_pop, nd_pop, np_pop, nt_pop, nv_blt, nk_blt, nd_blt, np_blt, nt_blt, nv_join, nk_join, nd_join, np_join, nt_join, nk_comp, nd_comp, np_comp, nt_comp, nk_comp2, nd_comp2, np_comp2, nt_comp2, na_nil, na_cons, nb_one, nb_two, nand_one, nand_two, nor_one, nor_two, nandt_one, nandt_two, nort_one, nort_two, ntest_no, ntest_one, ni_rng, ni_rng2, ni_val, ni_enum, ni_zip, ncs0, ncss, nis_d, nis_o, nisnt_d, nisnt_o, no_none, no_int, no_str, no_bool, no_list, no_tup, en_lst, en_str, zp_lst, zp_tup, decide_true, decide_false, id_eq, setT, setTs, IT.slots, ITs.slots, wipeE, List.all_cons, List.all_nil, List.cons_append, List.nil_append, List.append_nil, Option.toList_some, Option.toList_none, Bool.not_true, Bool.not_false, Bool.and_true, Bool.true_and, Bool.and_self, Bool.and_false, List.contains_cons, List.contains_nil, beq_self_eq_true, Nat.reduceBEq, Nat.reduceEqDiff, Nat.reduceLT, Nat.reduceLeDiff, Bool.or_false, Bool.or_self, Option.bind_some, Option.map_some, if_true, if_false, Bool.false_eq_true, ↓reduceIte, List.getElem?_cons_zero, List.getElem?_cons_succ, List.set_cons_zero, List.set_cons_succ, List.length_cons, List.length_nil, *])
def f_folded := fnP [] [] n_folded 2 b_folded
def foldLoop : ISs := (.cons (.store 2 (.bin .Mod (.slot 3) (.slot 1)) (.bin .Add (.ix (.slot 2) (.bin .Mod (.slot 3) (.slot 1))) (.bin .Mult (.slot 4) (.bin .Add (.slot 3) (.int 2))))) .nil)
theorem cut_lo {ds : List D} {k : Nat} : cutD ds none (some (k : Int)) = ds.take k := by
  unfold cutD
  have e1 : HT.sIx ds.length 0 none = 0 := rfl
  have e2 : HT.sIx ds.length ds.length (some (k : Int)) = min k ds.length := HT.sIx_nat _ _ k
  rw [e1, e2, List.drop_zero, Nat.sub_zero]
  by_cases h : k ≤ ds.length
  · rw [Nat.min_eq_left h]
  · rw [Nat.min_eq_right (by omega), List.take_length, List.take_of_length_le (by omega)]
theorem cut_mid {ds : List D} {k m : Nat} : ∃ es : List D, cutD ds (some (k : Int)) (some (m : Int)) = es ∧ (∀ d ∈ es, d ∈ ds) ∧ es.length ≤ ds.length - k := by
  unfold cutD
  have e1 : HT.sIx ds.length 0 (some (k : Int)) = min k ds.length := HT.sIx_nat _ _ k
  have e2 : HT.sIx ds.length ds.length (some (m : Int)) = min m ds.length := HT.sIx_nat _ _ m
  rw [e1, e2]
  refine ⟨_, rfl, fun d hd => List.mem_of_mem_drop (List.mem_of_mem_take hd), ?_⟩
  rw [List.length_take, List.length_drop]
  omega
theorem ints_sub {ns : List Int} {es : List D} (h : ∀ d ∈ es, d ∈ ns.map PyData.int) : ∃ ms : List Int, es = ms.map PyData.int := by
  induction es with
  | nil => exact ⟨[], rfl⟩
  | cons d r ih =>
    obtain ⟨ms, hm⟩ := ih fun x hx => h x (List.mem_cons_of_mem _ hx)
    obtain ⟨i, _, rfl⟩ := List.mem_map.mp (h d List.mem_cons_self)
    exact ⟨i :: ms, by rw [hm]; rfl⟩
theorem fold_turn {S : D} {room k : Nat} {c : Int} {cells : List Int} (hr : 0 < room) (hk : k < 100) (hc : cells.length = room) (hr2 : room ≤ 100) :
    ∃ cells' : List Int, cells'.length = room ∧ semSs (Γof []) (csOf []) [] foldLoop [.dat S, .dat (.int (room : Int)), .own (.list (cells.map PyData.int)), .dat (.int (k : Int)), .dat (.int c)] = .ok (.nx [.dat S, .dat (.int (room : Int)), .own (.list (cells'.map PyData.int)), .dat (.int (k : Int)), .dat (.int c)]) := by
  have hm : (k : Int) % (room : Int) = ((k % room : Nat) : Int) := by omega
  have hlt : k % room < cells.length := by rw [hc]; exact Nat.mod_lt _ hr
  have hat : atI (cells.map PyData.int) ((k % room : Nat) : Int) = some (.int cells[k % room]) := atN (by rw [List.getElem?_map, List.getElem?_eq_getElem hlt]; rfl)
  have hix : ixN (cells.map PyData.int).length ((k % room : Nat) : Int) = some (k % room) := ixNat (by rw [List.length_map]; exact hlt)
  refine ⟨cells.set (k % room) (cells[k % room] + c * ((k : Int) + 2)), by rw [List.length_set]; exact hc, ?_⟩
  rw [List.map_set]
  generalize hcs : cells.map PyData.int = cs at hat hix ⊢
  (unfold foldLoop; walk_at "m")
theorem folded_ok {ns : List Int} {room : Nat} (hn : ns.length ≤ 63) (hr : 0 < room) (hr2 : room ≤ 62) : ∃ cells : List Int, f_folded [.list (ns.map PyData.int), .int (room : Int)] = .ok (.own (.list (cells.map PyData.int))) ∧ 1 ≤ cells.length ∧ cells.length ≤ room := by
  obtain ⟨es, he, hm, hl⟩ := cut_mid (ds := ns.map PyData.int) (k := room) (m := 63)
  obtain ⟨ms, rfl⟩ := ints_sub hm
  rw [List.length_map, List.length_map] at hl
  have h63 : cutD (ns.map PyData.int) (some (room : Int)) (some 63) = ms.map PyData.int := he
  have hw : ∃ (cells : List Int) (E' : En), loopF (.tp (.cons (.nm 3) (.cons (.nm 4) .nil))) (semSs (Γof []) (csOf []) [] foldLoop) (enumD (ms.map PyData.int)) [.dat (.list (ns.map PyData.int)), .dat (.int (room : Int)), .own (.list ((ns.take room).map PyData.int)), .no, .no] = .ok (.nx E') ∧ (∃ s3 s4, E' = [.dat (.list (ns.map PyData.int)), .dat (.int (room : Int)), .own (.list (cells.map PyData.int)), s3, s4]) ∧ cells.length = (ns.take room).length := by
    by_cases hz : ms = []
    · subst hz
      exact ⟨ns.take room, _, rfl, ⟨_, _, rfl⟩, rfl⟩
    · have hml : 0 < ms.length := List.length_pos_iff.mpr hz
      have htk : (ns.take room).length = room := by rw [List.length_take]; omega
      obtain ⟨E', q1, cells, s3, s4, rfl, f3, f4, k1⟩ := loopF_inv (tg := .tp (.cons (.nm 3) (.cons (.nm 4) .nil))) (body := semSs (Γof []) (csOf []) [] foldLoop) (fun t E => ∃ (cells : List Int) (s3 s4 : Sl), E = [.dat (.list (ns.map PyData.int)), .dat (.int (room : Int)), .own (.list (cells.map PyData.int)), s3, s4] ∧ Fr s3 ∧ Fr s4 ∧ cells.length = room)
        (ds := enumD (ms.map PyData.int)) (t := 0) (E := [.dat (.list (ns.map PyData.int)), .dat (.int (room : Int)), .own (.list ((ns.take room).map PyData.int)), .no, .no]) ⟨ns.take room, .no, .no, rfl, .inl rfl, .inl rfl, htk⟩ (by
          rintro t d E hd ⟨cells, s3, s4, rfl, f3, f4, k1⟩
          unfold enumD at hd
          rw [List.getElem?_mapIdx, List.getElem?_map] at hd
          cases hc : ms[t]? with
          | none => rw [hc] at hd; cases hd
          | some c =>
            rw [hc] at hd
            have ed : d = .tuple [.int (t : Int), .int c] := (Option.some.inj hd).symm
            subst ed
            have ht : t < ms.length := (List.getElem?_eq_some_iff.mp hc).1
            obtain ⟨cells', w1, w2⟩ := fold_turn (S := .list (ns.map PyData.int)) (k := t) (c := c) hr (by omega) k1 (by omega)
            refine ⟨_, _, ?_, w2, cells', _, _, rfl, .inr ⟨_, rfl⟩, .inr ⟨_, rfl⟩, w1⟩
            rcases f3 with rfl | ⟨d3, rfl⟩ <;> rcases f4 with rfl | ⟨d4, rfl⟩ <;> rfl)
      exact ⟨cells, _, q1, ⟨_, _, rfl⟩, by rw [k1, htk]⟩
  obtain ⟨cells, E', q1, ⟨s3, s4, rfl⟩, hcl⟩ := hw
  rw [List.length_take] at hcl
  rw [List.map_take] at q1
  unfold foldLoop at q1
  have hcut : cutD (ns.map PyData.int) none (some (room : Int)) = (ns.map PyData.int).take room := cut_lo
  have hne : cmpS .NotEq (.own (.list (cells.map PyData.int))) (.own (.list [])) = some (!cells.isEmpty) := by
    rw [cs_ne (a := .list (cells.map PyData.int)) (b := .list []) rfl rfl rfl (ints_shaped _) rfl, eqv_nil, map_empty]
  cases hce : cells.isEmpty with
  | true =>
    refine ⟨[0], ?_, by decide, hr⟩
    refine fnP_go (E := [.dat (.list (ns.map PyData.int)), .dat (.int (room : Int)), .no, .no, .no]) rfl rfl ?_
    generalize ns.map PyData.int = N at h63 q1 hcut
    generalize cells.map PyData.int = C at hne q1
    (unfold b_folded; walk_at "m")
    rfl
  | false =>
    refine ⟨cells, ?_, ?_, by omega⟩
    · refine fnP_go (E := [.dat (.list (ns.map PyData.int)), .dat (.int (room : Int)), .no, .no, .no]) rfl rfl ?_
      generalize ns.map PyData.int = N at h63 q1 hcut
      generalize cells.map PyData.int = C at hne q1 ⊢
      (unfold b_folded; walk_at "m")
    · cases cells with
      | nil => cases hce
      | cons _ _ => exact Nat.succ_le_succ (Nat.zero_le _)
def f_box := fnP [] [] n_box 2 b_box
theorem box_ok {cells : List Int} {k : Nat} (hk : k < cells.length) (hl : cells.length ≤ 1000) : ∃ b, f_box [.list (cells.map PyData.int), .int (k : Int)] = .ok (.own b) ∧ Bx 0 b := by
  have hat : atI (cells.map PyData.int) (k : Int) = some (.int cells[k]) := atN (by rw [List.getElem?_map, List.getElem?_eq_getElem hk]; rfl)
  have hlen : (cells.map PyData.int).length = cells.length := List.length_map _
  generalize cells[k] = c at hat
  generalize cells.map PyData.int = cs at hat hlen ⊢
  obtain ⟨y, hy⟩ : ∃ y : Int, (c % 2147483629 + 15485863 * (k : Int) + 43) * 48271 % 2147483647 = y := ⟨_, rfl⟩
  have hy1 : 0 ≤ y := by rw [← hy]; exact Int.emod_nonneg _ (by decide)
  have hy2 : y < 2147483647 := by rw [← hy]; exact Int.emod_lt_of_pos _ (by decide)
  by_cases hb : 1000000000000000000 ≤ (if c < 0 then -c else c)
  · refine ⟨.list [.int ((if c < 0 then -c else c) * 1), .int y, .int ((0 : Nat) : Int)], ?_, _, y, 0, rfl, ?_, hy1, hy2, Nat.le_refl _⟩
    · refine fnP_go (E := [.dat (.list cs), .dat (.int (k : Int)), .no]) rfl rfl ?_
      generalize hac : (if c < 0 then -c else c) = ac at hb
      have h0 : 0 ≤ c % 2147483629 := Int.emod_nonneg _ (by decide)
      have h1 : c % 2147483629 < 2147483629 := Int.emod_lt_of_pos _ (by decide)
      (unfold b_box; walk_at "m")
      rfl
    · split <;> omega
  · refine ⟨.list [.int ((if c < 0 then -c else c) * 0), .int y, .int ((0 : Nat) : Int)], ?_, _, y, 0, rfl, ?_, hy1, hy2, Nat.le_refl _⟩
    · refine fnP_go (E := [.dat (.list cs), .dat (.int (k : Int)), .no]) rfl rfl ?_
      generalize hac : (if c < 0 then -c else c) = ac at hb
      have h0 : 0 ≤ c % 2147483629 := Int.emod_nonneg _ (by decide)
      have h1 : c % 2147483629 < 2147483629 := Int.emod_lt_of_pos _ (by decide)
      (unfold b_box; walk_at "m")
      rfl
    · omega
end Wq
set_option maxHeartbeats 4000000
namespace Wq
open PySem L2
-- BLOCK law_k08
def c_law_k08_0 : IE := (.comp (.callB 2 3 .nil) (.nm 4) (.rng (.int 4)) .nil)
theorem k_c_law_k08_0 {Γ : Nat → FnE} {Cs : Nat → Option D} {E : En}  : (semE Γ Cs c_law_k08_0).k E = (semE Γ Cs c_law_k08_0).v E := (rfl)
theorem d_c_law_k08_0 {Γ : Nat → FnE} {Cs : Nat → Option D} {E : En}  : (semE Γ Cs c_law_k08_0).d E = ((semE Γ Cs c_law_k08_0).v E).bind fun p => (Rs.of (datS p.1)).bind fun d => .ok (d, p.2) := (rfl)
theorem p_c_law_k08_0 {Γ : Nat → FnE} {Cs : Nat → Option D} {E : En} {B : Mn} : pairM (semE Γ Cs c_law_k08_0) B E = ((semE Γ Cs c_law_k08_0).v E).bind fun p => (B.k p.2).bind fun q => .ok ((p.1, q.1), q.2) := (rfl)
theorem t_c_law_k08_0 {Γ : Nat → FnE} {Cs : Nat → Option D} {E : En}  : (semE Γ Cs c_law_k08_0).t E = truthM ((semE Γ Cs c_law_k08_0).v E) := (rfl)
theorem r_c_law_k08_0 {Γ : Nat → FnE} {Cs : Nat → Option D} {E : En} {G : List Nat} : semS Γ Cs G (.ret c_law_k08_0) E = ((semE Γ Cs c_law_k08_0).v E).bind fun p => .ok (.rt p.1 p.2) := (rfl)
def l_law_k08_0 : ISs :=
 (.cons (.set 3 (.call 1 (.cons (.slot 1) (.cons (.slot 2) .nil))))
 (.cons (.ifs (.not (.blt .all (.cons c_law_k08_0 .nil)))
 (.cons (.ret (.bl false))
 .nil)
 .nil)
 .nil))
def n_law_k08 : List Str := [(Str.ofString "_law_script"), (Str.ofString "_law_cells"), (Str.ofString "_law_k"), (Str.ofString "_law_box_here"), (Str.ofString "_law_turn")]
def b_law_k08 : ISs :=
 (.cons (.set 1 (.call 0 (.cons (.slot 0) (.cons (.int 3) .nil))))
 (.cons (.freeze 1)
 (.cons (.loop (.nm 2) (.rng (.blt .len (.cons (.slot 1) .nil)))
 l_law_k08_0)
 (.cons (.ret (.bl true))
 .nil))))
-- END
end Wq
set_option maxHeartbeats 4000000
namespace Wq
open PySem L2
local macro_rules | `(tactic| walk_at "d") => `(tactic| first | omega | (simp only [List.length_cons, List.length_nil, List.length_map, List.length_append, List.length_reverse]; omega))
local macro_rules | `(tactic| walk_at "n") => `(tactic| simp (disch := walk_at "d") only [↓ev_bind, ↓ev_bad, ↓toK, ev_of, ev_none, of_v, of_k, of_t, of_s, ofV_v, ofV_k, ofV_s, ofD_v, ofD_k, ofD_s, ofD_d, slot_s, slot_t, of_d, ofV_d, datS_dat, datS_own, tr_bool, tr_list, tr_own, args_nil, args_cons, bin_eq, cmp_v_eq, cmp_k_eq, cmp_t_eq, cmp_s_eq, cmp_d_eq, cmpM_eq, pair_of, pair_ofV, pair_ofD, pair_cmp, bi_add, bi_sub, bi_mul, bi_div, bi_mod, bi_addS, bi_addT, bi_addL, cs_eqi, cs_nei, cs_eqs, cs_nes, cs_lt, cs_le, cs_gt, cs_ge, cs_is, cs_isnt, ix_eq, tup_eq, lst_eq, ite_eq, blt1_eq, blt2_eq, b1_abs, b1_intB, b2_min, b2_max, b2_divmod, call_eq, γ0, γs, kOk, kBad, ss0, ss1, s_ret1, sr_cst, sr_int, sr_str, sr_bl, sr_non, sr_bin, sr_neg, sr_cmp, sr_cmp2, sr_bop, sr_not, sr_ite, sr_tup, sr_lst, sr_ix, sr_sl, sr_rev, sr_call, sr_callB, sr_callT, sr_pop, sr_callO, sr_blt, sr_join, sr_comp, sr_comp2, s_retI1, s_exp1, s_set1, s_unp1, s_par21, s_if1, s_app1, s_rev1, s_sto1, s_sto2, s_frz1, lp_rng, lp_val, lp_enum, set_eq, sl_v, sl_k, sl_d, pr_slot, own_eq, noo_eq, cb_eq, co_eq, ct_eq, pop_eq, and_one, and_two, or_one, or_two, andt_one, andt_two, ort_one, ort_two, not_eq, sl_eq, rev_eq, join_eq, cut2, step_eq, tests_no, tests_one, out_nx, out_rt, at0, at1, at2, at3, at4, at5, at6, ix0, ix1, ix2, b1_lenL, b1_lenO, b1_lenT, b1_lenS, b1_tupO, b1_tupL, b1_tupT, b1_lisO, b1_lisL, b1_lisT, b1_sumL, rng_nat, it_own, it_lst, it_tpl, wk_own', wk_lst, wk_tpl, wk_str, slS_str, slS_lst, slS_tup, op_no, op_so, ixS_l, ixS_o, ixS_t, ixS_s, dlt_t, dlt_f, dle_t, dle_f, deq_t, deq_f, nle_t, nlt_t, dnlt_t, dnle_t, bi_pow7, bi_pow18, nv_slot, nk_slot, nd_slot, nt_slot, np_slot, nv_cst, nk_cst, nd_cst, np_cst, nt_cst, nv_int, nk_int, nd_int, np_int, nt_int, nv_str, nk_str, nd_str, np_str, nt_str, nv_bl, nk_bl, nd_bl, np_bl, nt_bl, nv_non, nk_non, nd_non, np_non, nv_bin, nk_bin, nd_bin, np_bin, nt_bin, nv_neg, nk_neg, nd_neg, np_neg, nv_cmp, nk_cmp, nd_cmp, np_cmp, nt_cmp, nv_cmp2, nk_cmp2, nd_cmp2, np_cmp2, nt_cmp2, nv_and, nk_and, nd_and, np_and, nt_and, nv_or, nk_or, nd_or, np_or, nt_or, nv_not, nk_not, nd_not, np_not, nt_not, nv_ite, nk_ite, nd_ite, np_ite, nv_tup, nk_tup, nd_tup, np_tup, nv_lst, nk_lst, nd_lst, np_lst, nv_ix, nk_ix, nd_ix, np_ix, nt_ix, nv_sl, nk_sl, nd_sl, np_sl, nt_sl, nv_rev, nk_rev, nd_rev, np_rev, nt_rev, nv_call, nk_call, nd_call, np_call, nt_call, nv_callB, nk_callB, nd_callB, np_callB, nt_callB, nv_callO, nk_callO, nd_callO, np_callO, nt_callO, nv_callT, nk_callT, nd_callT, np_callT, nt_callT, nv_pop, nk_pop, nd_pop, np_pop, nt_pop, nv_blt, nk_blt, nd_blt, np_blt, nt_blt, nv_join, nk_join, nd_join, np_join, nt_join, nk_comp, nd_comp, np_comp, nt_comp, nk_comp2, nd_comp2, np_comp2, nt_comp2, na_nil, na_cons, nb_one, nb_two, nand_one, nand_two, nor_one, nor_two, nandt_one, nandt_two, nort_one, nort_two, ntest_no, ntest_one, ni_rng, ni_rng2, ni_val, ni_enum, ni_zip, ncs0, ncss, nis_d, nis_o, nisnt_d, nisnt_o, no_none, no_int, no_str, no_bool, no_list, no_tup, en_lst, en_str, zp_lst, zp_tup, decide_true, decide_false, id_eq, setT, setTs, IT.slots, ITs.slots, wipeE, List.all_cons, List.all_nil, List.cons_append, List.nil_append, List.append_nil, Option.toList_some, Option.toList_none, Bool.not_true, Bool.not_false, Bool.and_true, Bool.true_and, Bool.and_self, Bool.and_false, List.contains_cons, List.contains_nil, beq_self_eq_true, Nat.reduceBEq, Nat.reduceEqDiff, Nat.reduceLT, Nat.reduceLeDiff, Bool.or_false, Bool.or_self, Option.bind_some, Option.map_some, if_true, if_false, Bool.false_eq_true, ↓reduceIte, List.getElem?_cons_zero, List.getElem?_cons_succ, List.set_cons_zero, List.set_cons_succ, List.length_cons, List.length_nil, k_c_law_k08_0, d_c_law_k08_0, p_c_law_k08_0, t_c_law_k08_0, r_c_law_k08_0])
local macro_rules | `(tactic| walk_at "m") => `(tactic| simp (disch := walk_at "d") only [↓ev_bind, ↓ev_bad, ↓toK, ev_of, ev_none, of_v, of_k, of_t, of_s, ofV_v, ofV_k, ofV_s, ofD_v, ofD_k, ofD_s, ofD_d, slot_s, slot_t, of_d, ofV_d, datS_dat, datS_own, tr_bool, tr_list, tr_own, args_nil, args_cons, bin_eq, cmp_v_eq, cmp_k_eq, cmp_t_eq, cmp_s_eq, cmp_d_eq, cmpM_eq, pair_of, pair_ofV, pair_ofD, pair_cmp, bi_add, bi_sub, bi_mul, bi_div, bi_mod, bi_addS, bi_addT, bi_addL, cs_eqi, cs_nei, cs_eqs, cs_nes, cs_lt, cs_le, cs_gt, cs_ge, cs_is, cs_isnt, ix_eq, tup_eq, lst_eq, ite_eq, blt1_eq, blt2_eq, b1_abs, b1_intB, b2_min, b2_max, b2_divmod, call_eq, γ0, γs, kOk, kBad, ss0, ss1, s_ret1, sr_cst, sr_int, sr_str, sr_bl, sr_non, sr_bin, sr_neg, sr_cmp, sr_cmp2, sr_bop, sr_not, sr_ite, sr_tup, sr_lst, sr_ix, sr_sl, sr_rev, sr_call, sr_callB, sr_callT, sr_pop, sr_callO, sr_blt, sr_join, sr_comp, sr_comp2, s_retI1, s_exp1, s_set1, s_unp1, s_par21, s_if1, s_app1, s_rev1, s_sto1, s_sto2, s_frz1, lp_rng, lp_val, lp_enum, set_eq, sl_v, sl_k, sl_d, pr_slot, own_eq, noo_eq, cb_eq, co_eq, ct_eq, pop_eq, and_one, and_two, or_one, or_two, andt_one, andt_two, ort_one, ort_two, not_eq, sl_eq, rev_eq, join_eq, cut2, step_eq, tests_no, tests_one, out_nx, out_rt, at0, at1, at2, at3, at4, at5, at6, ix0, ix1, ix2, b1_lenL, b1_lenO, b1_lenT, b1_lenS, b1_tupO, b1_tupL, b1_tupT, b1_lisO, b1_lisL, b1_lisT, b1_sumL, rng_nat, it_own, it_lst, it_tpl, wk_own', wk_lst, wk_tpl, wk_str, slS_str, slS_lst, slS_tup, op_no, op_so, ixS_l, ixS_o, ixS_t, ixS_s, dlt_t, dlt_f, dle_t, dle_f, deq_t, deq_f, nle_t, nlt_t, dnlt_t, dnle_t, bi_pow7, bi_pow18, nv_slot, nk_slot, nd_slot, nt_slot, np_slot, nv_cst, nk_cst, nd_cst, np_cst, nt_cst, nv_int, nk_int, nd_int, np_int, nt_int, nv_str, nk_str, nd_str, np_str, nt_str, nv_bl, nk_bl, nd_bl, np_bl, nt_bl, nv_non, nk_non, nd_non, np_non, nv_bin, nk_bin, nd_bin, np_bin, nt_bin, nv_neg, nk_neg, nd_neg, np_neg, nv_cmp, nk_cmp, nd_cmp, np_cmp, nt_cmp, nv_cmp2, nk_cmp2, nd_cmp2, np_cmp2, nt_cmp2, nv_and, nk_and, nd_and, np_and, nt_and, nv_or, nk_or, nd_or, np_or, nt_or, nv_not, nk_not, nd_not, np_not, nt_not, nv_ite, nk_ite, nd_ite, np_ite, nv_tup, nk_tup, nd_tup, np_tup, nv_lst, nk_lst, nd_lst, np_lst, nv_ix, nk_ix, nd_ix, np_ix, nt_ix, nv_sl, nk_sl, nd_sl, np_sl, nt_sl, nv_rev, nk_rev, nd_rev, np_rev, nt_rev, nv_call, nk_call, nd_call, np_call, nt_call, nv_callB, nk_callB, nd_callB, np_callB, nt_callB, nv_callO, nk_callO, nd_callO, np_callO, nt_callO, nv_callT, nk_callT, nd_callT, np_callT, nt_callT, nv_pop, nk_pop, nd_pop, np_pop, nt_pop, nv_blt, nk_blt, nd_blt, np_blt, nt_blt, nv_join, nk_join, nd_join, np_join, nt_join, nk_comp, nd_comp, np_comp, nt_comp, nk_comp2, nd_comp2, np_comp2, nt_comp2, na_nil, na_cons, nb_one, nb_two, nand_one, nand_two, nor_one, nor_two, nandt_one, nandt_two, nort_one, nort_two, ntest_no, ntest_one, ni_rng, ni_rng2, ni_val, ni_enum, ni_zip, ncs0, ncss, nis_d, nis_o, nisnt_d, nisnt_o, no_none, no_int, no_str, no_bool, no_list, no_tup, en_lst, en_str, zp_lst, zp_tup, decide_true, decide_false, id_eq, setT, setTs, IT.slots, ITs.slots, wipeE, List.all_cons, List.all_nil, List.cons_append, List.nil_append, List.append_nil, Option.toList_some, Option.toList_none, Bool.not_true, Bool.not_false, Bool.and_true, Bool.true_and, Bool.and_self, Bool.and_false, List.contains_cons, List.contains_nil, beq_self_eq_true, Nat.reduceBEq, Nat.reduceEqDiff, Nat.reduceLT, Nat.reduceLeDiff, Bool.or_false, Bool.or_self, Option.bind_some, Option.map_some, if_true, if_false, Bool.false_eq_true, ↓reduceIte, List.getElem?_cons_zero, List.getElem?_cons_succ, List.set_cons_zero, List.set_cons_succ, List.length_cons, List.length_nil, k_c_law_k08_0, d_c_law_k08_0, p_c_law_k08_0, t_c_law_k08_0, r_c_law_k08_0, *])
def f_law_k08 := fnP [.pu f_folded, .pu f_box, .bx f_right] [] n_law_k08 1 b_law_k08
theorem rights_k08 {S C : D} {k : Int} {n : Nat} {b : D} (hb : Bx n b) (hn : n < 100000000) : ∃ b', (semE (Γof [.pu f_folded, .pu f_box, .bx f_right]) (csOf []) c_law_k08_0).v [.dat S, .dat C, .dat (.int k), .own b, .no] = .ok (.own (.list ((List.replicate 4 true).map PyData.bool)), [.dat S, .dat C, .dat (.int k), .own b', .no]) ∧ Bx (n + 40000) b' := by
  obtain ⟨acc', E', h2, b', rfl, rfl, h6⟩ := loopC_inv (step := stepC (.nm 4) (semAs (Γof [.pu f_folded, .pu f_box, .bx f_right]) (csOf []) .nil) (semE (Γof [.pu f_folded, .pu f_box, .bx f_right]) (csOf []) (.callB 2 3 .nil))) (vs := [4]) (fun t acc E => ∃ (b' : D), acc = (List.replicate t true).map PyData.bool ∧ E = [.dat S, .dat C, .dat (.int k), .own b', .no] ∧ Bx (n + 10000 * t) b')
    (ds := intsD 0 4) (t := 0) (acc := []) (E := [.dat S, .dat C, .dat (.int k), .own b, .no]) ⟨b, rfl, rfl, hb⟩ (by
      rintro t d acc E hd ⟨b1, rfl, rfl, g3⟩
      obtain ⟨ht, rfl⟩ := intsD_get hd
      obtain ⟨b2, g4, g5⟩ := right_ok g3 (by omega)
      refine ⟨by rw [List.length_map, List.length_replicate]; omega, some (.bool true), [.dat S, .dat C, .dat (.int k), .own b2, .dat (.int (0 + (t : Int)))], ?_, rfl, b2, ?_, rfl, g5.up (by omega)⟩
      · (walk_at "m")
      · rw [List.replicate_succ', List.map_append]; rfl)
  rw [intsD_len] at h2 h6
  exact ⟨b', comp_tree (E1 := [.dat S, .dat C, .dat (.int k), .own b, .no]) (E2 := [.dat S, .dat C, .dat (.int k), .own b, .no]) rfl (by rw [ni_rng, nd_int, nv_int]; rfl) rfl rfl h2, h6.up (by omega)⟩
theorem law_ok {ns : List Int} (hn : ns.length ≤ 63) : f_law_k08 [.list (ns.map PyData.int)] = .ok (.dat (.bool true)) := by
  obtain ⟨cells, h1, h2, h3⟩ := folded_ok (room := 3) hn (by decide) (by decide)
  change f_folded [.list (ns.map PyData.int), .int 3] = _ at h1
  have hl : (cells.map PyData.int).length = cells.length := List.length_map _
  obtain ⟨E', q1, s2, s3, rfl, _⟩ := loopF_inv (tg := .nm 2) (body := semSs (Γof [.pu f_folded, .pu f_box, .bx f_right]) (csOf []) [] l_law_k08_0) (fun t E => ∃ (s2 s3 : Sl), E = [.dat (.list (ns.map PyData.int)), .dat (.list (cells.map PyData.int)), s2, s3, .no] ∧ Fr s2)
    (ds := intsD 0 cells.length) (t := 0) (E := [.dat (.list (ns.map PyData.int)), .dat (.list (cells.map PyData.int)), .no, .no, .no]) ⟨.no, .no, rfl, .inl rfl⟩ (by
      rintro t d E hd ⟨s2, s3, rfl, f2⟩
      obtain ⟨ht, rfl⟩ := intsD_get hd
      obtain ⟨b, g1, g2⟩ := box_ok (cells := cells) (k := t) ht (by omega)
      obtain ⟨b', g3, g4⟩ := rights_k08 (S := .list (ns.map PyData.int)) (C := .list (cells.map PyData.int)) (k := 0 + (t : Int)) g2 (by decide)
      have et : (0 + (t : Int)) = (t : Int) := by omega
      rw [et] at g3 ⊢
      refine ⟨[.dat (.list (ns.map PyData.int)), .dat (.list (cells.map PyData.int)), .dat (.int (t : Int)), s3, .no], [.dat (.list (ns.map PyData.int)), .dat (.list (cells.map PyData.int)), .dat (.int (t : Int)), .own b', .no], ?_, ?_, _, _, rfl, .inr ⟨_, rfl⟩⟩
      · rcases f2 with rfl | ⟨d2, rfl⟩ <;> rfl
      · have ha : (List.replicate 4 true).all id = true := rfl
        generalize PyData.list (ns.map PyData.int) = S at g3 ⊢
        (unfold l_law_k08_0; have wk1 := @b1_allO; walk_at "m"))
  generalize PyData.list (ns.map PyData.int) = S at h1 q1 ⊢
  refine fnP_go (E := [.dat S, .no, .no, .no, .no]) rfl rfl ?_
  (unfold b_law_k08; walk_at "m")
end Wq
set_option maxHeartbeats 4000000
namespace Wq
open PySem L2
def topS (i : Nat) : Stmt := PySem.Challenge.pw_solvedplay_k08_ended_or_not.main.body.getD i (.Pass ⟨0, 0, 0, 0⟩)
abbrev s_stands : Stmt := topS 3
theorem sc_stands : FnScope n_stands [(Str.ofString "shape"), (Str.ofString "row"), (Str.ofString "text"), (Str.ofString "place")] (defScope s_stands) := ⟨rfl, rfl, rfl, by decide +kernel, rfl, by decide +kernel, by decide +kernel⟩
theorem ck_stands : chkSs ⟨n_stands, defScope s_stands, fun _ => true, [], []⟩ b_stands (defBody s_stands) = true := by decide +kernel
abbrev s_places_of : Stmt := topS 2
theorem sc_places_of : FnScope n_places_of [(Str.ofString "game"), (Str.ofString "row"), (Str.ofString "text")] (defScope s_places_of) := ⟨rfl, rfl, rfl, by decide +kernel, rfl, by decide +kernel, by decide +kernel⟩
theorem ck_places_of : chkSs ⟨n_places_of, defScope s_places_of, fun _ => true, [(Str.ofString "stands")], []⟩ b_places_of (defBody s_places_of) = true := by decide +kernel
abbrev s_moves_by_rules : Stmt := topS 5
theorem sc_moves_by_rules : FnScope n_moves_by_rules [(Str.ofString "game"), (Str.ofString "standing")] (defScope s_moves_by_rules) := ⟨rfl, rfl, rfl, by decide +kernel, rfl, by decide +kernel, by decide +kernel⟩
theorem ck_moves_by_rules : chkSs ⟨n_moves_by_rules, defScope s_moves_by_rules, fun _ => true, [(Str.ofString "places_of")], []⟩ b_moves_by_rules (defBody s_moves_by_rules) = true := by decide +kernel
abbrev s_ended : Stmt := topS 4
theorem sc_ended : FnScope n_ended [(Str.ofString "game"), (Str.ofString "standing")] (defScope s_ended) := ⟨rfl, rfl, rfl, by decide +kernel, rfl, by decide +kernel, by decide +kernel⟩
theorem ck_ended : chkSs ⟨n_ended, defScope s_ended, fun _ => true, [(Str.ofString "places_of"), (Str.ofString "moves_by_rules")], [(Str.ofString "GREATEST")]⟩ b_ended (defBody s_ended) = true := by decide +kernel
abbrev s_box : Stmt := topS 7
theorem sc_box : FnScope n_box [(Str.ofString "_law_script"), (Str.ofString "_law_k")] (defScope s_box) := ⟨rfl, rfl, rfl, by decide +kernel, rfl, by decide +kernel, by decide +kernel⟩
theorem ck_box : chkSs ⟨n_box, defScope s_box, fun _ => true, [], []⟩ b_box (defBody s_box) = true := by decide +kernel
abbrev s_take : Stmt := topS 8
theorem sc_take : FnScope n_take [(Str.ofString "_law_box_here"), (Str.ofString "_law_room")] (defScope s_take) := ⟨rfl, rfl, rfl, by decide +kernel, rfl, by decide +kernel, by decide +kernel⟩
theorem ck_take : chkSs ⟨n_take, defScope s_take, fun _ => true, [(Str.ofString "_law_take")], []⟩ b_take (defBody s_take) = true := by decide +kernel
abbrev s_folded : Stmt := topS 9
theorem sc_folded : FnScope n_folded [(Str.ofString "_law_script"), (Str.ofString "_law_room")] (defScope s_folded) := ⟨rfl, rfl, rfl, by decide +kernel, rfl, by decide +kernel, by decide +kernel⟩
theorem ck_folded : chkSs ⟨n_folded, defScope s_folded, fun _ => true, [], []⟩ b_folded (defBody s_folded) = true := by decide +kernel
abbrev s_same : Stmt := topS 10
theorem sc_same : FnScope n_same [(Str.ofString "_law_found"), (Str.ofString "_law_due")] (defScope s_same) := ⟨rfl, rfl, rfl, by decide +kernel, rfl, by decide +kernel, by decide +kernel⟩
theorem ck_same : chkSs ⟨n_same, defScope s_same, fun _ => true, [(Str.ofString "_law_same")], []⟩ b_same (defBody s_same) = true := by decide +kernel
abbrev s_of : Stmt := topS 11
theorem sc_of : FnScope n_of [(Str.ofString "_law_box_here"), (Str.ofString "_law_some")] (defScope s_of) := ⟨rfl, rfl, rfl, by decide +kernel, rfl, by decide +kernel, by decide +kernel⟩
theorem ck_of : chkSs ⟨n_of, defScope s_of, fun _ => true, [(Str.ofString "_law_take")], []⟩ b_of (defBody s_of) = true := by decide +kernel
abbrev s_text : Stmt := topS 12
theorem sc_text : FnScope n_text [(Str.ofString "_law_box_here"), (Str.ofString "_law_beads"), (Str.ofString "_law_size")] (defScope s_text) := ⟨rfl, rfl, rfl, by decide +kernel, rfl, by decide +kernel, by decide +kernel⟩
theorem ck_text : chkSs ⟨n_text, defScope s_text, fun _ => true, [(Str.ofString "_law_of")], []⟩ b_text (defBody s_text) = true := by decide +kernel
abbrev s_rules : Stmt := topS 13
theorem sc_rules : FnScope n_rules [(Str.ofString "_law_box_here"), (Str.ofString "_law_beads"), (Str.ofString "_law_long")] (defScope s_rules) := ⟨rfl, rfl, rfl, by decide +kernel, rfl, by decide +kernel, by decide +kernel⟩
theorem ck_rules : chkSs ⟨n_rules, defScope s_rules, fun _ => true, [(Str.ofString "_law_take"), (Str.ofString "_law_text")], []⟩ b_rules (defBody s_rules) = true := by decide +kernel
abbrev s_turned_text : Stmt := topS 14
theorem sc_turned_text : FnScope n_turned_text [(Str.ofString "_law_text_here"), (Str.ofString "_law_beads")] (defScope s_turned_text) := ⟨rfl, rfl, rfl, by decide +kernel, rfl, by decide +kernel, by decide +kernel⟩
theorem ck_turned_text : chkSs ⟨n_turned_text, defScope s_turned_text, fun _ => true, [], []⟩ b_turned_text (defBody s_turned_text) = true := by decide +kernel
abbrev s_ends : Stmt := topS 15
theorem sc_ends : FnScope n_ends [(Str.ofString "_law_box_here"), (Str.ofString "_law_beads"), (Str.ofString "_law_long")] (defScope s_ends) := ⟨rfl, rfl, rfl, by decide +kernel, rfl, by decide +kernel, by decide +kernel⟩
theorem ck_ends : chkSs ⟨n_ends, defScope s_ends, fun _ => true, [(Str.ofString "_law_take"), (Str.ofString "_law_of"), (Str.ofString "_law_text")], []⟩ b_ends (defBody s_ends) = true := by decide +kernel
abbrev s_any_game : Stmt := topS 16
theorem sc_any_game : FnScope n_any_game [(Str.ofString "_law_box_here"), (Str.ofString "_law_name"), (Str.ofString "_law_longest")] (defScope s_any_game) := ⟨rfl, rfl, rfl, by decide +kernel, rfl, by decide +kernel, by decide +kernel⟩
theorem ck_any_game : chkSs ⟨n_any_game, defScope s_any_game, fun _ => true, [(Str.ofString "_law_of"), (Str.ofString "_law_take"), (Str.ofString "_law_rules"), (Str.ofString "_law_turned_text"), (Str.ofString "_law_ends")], []⟩ b_any_game (defBody s_any_game) = true := by decide +kernel
abbrev s_beads_at : Stmt := topS 17
theorem sc_beads_at : FnScope n_beads_at [(Str.ofString "_law_game"), (Str.ofString "_law_row"), (Str.ofString "_law_place"), (Str.ofString "_law_size")] (defScope s_beads_at) := ⟨rfl, rfl, rfl, by decide +kernel, rfl, by decide +kernel, by decide +kernel⟩
theorem ck_beads_at : chkSs ⟨n_beads_at, defScope s_beads_at, fun _ => true, [], []⟩ b_beads_at (defBody s_beads_at) = true := by decide +kernel
abbrev s_spots : Stmt := topS 18
theorem sc_spots : FnScope n_spots [(Str.ofString "_law_game"), (Str.ofString "_law_row"), (Str.ofString "_law_text_here")] (defScope s_spots) := ⟨rfl, rfl, rfl, by decide +kernel, rfl, by decide +kernel, by decide +kernel⟩
theorem ck_spots : chkSs ⟨n_spots, defScope s_spots, fun _ => true, [(Str.ofString "_law_beads_at")], []⟩ b_spots (defBody s_spots) = true := by decide +kernel
abbrev s_steps_of : Stmt := topS 19
theorem sc_steps_of : FnScope n_steps_of [(Str.ofString "_law_game"), (Str.ofString "_law_standing")] (defScope s_steps_of) := ⟨rfl, rfl, rfl, by decide +kernel, rfl, by decide +kernel, by decide +kernel⟩
theorem ck_steps_of : chkSs ⟨n_steps_of, defScope s_steps_of, fun _ => true, [(Str.ofString "_law_spots")], []⟩ b_steps_of (defBody s_steps_of) = true := by decide +kernel
abbrev s_end : Stmt := topS 20
theorem sc_end : FnScope n_end [(Str.ofString "_law_game"), (Str.ofString "_law_standing")] (defScope s_end) := ⟨rfl, rfl, rfl, by decide +kernel, rfl, by decide +kernel, by decide +kernel⟩
theorem ck_end : chkSs ⟨n_end, defScope s_end, fun _ => true, [(Str.ofString "_law_spots"), (Str.ofString "_law_steps_of")], []⟩ b_end (defBody s_end) = true := by decide +kernel
abbrev s_lists : Stmt := topS 21
theorem sc_lists : FnScope n_lists [(Str.ofString "_law_thing")] (defScope s_lists) := ⟨rfl, rfl, rfl, by decide +kernel, rfl, by decide +kernel, by decide +kernel⟩
theorem ck_lists : chkSs ⟨n_lists, defScope s_lists, fun _ => true, [(Str.ofString "_law_lists")], []⟩ b_lists (defBody s_lists) = true := by decide +kernel
abbrev s_rows_of : Stmt := topS 22
theorem sc_rows_of : FnScope n_rows_of [(Str.ofString "_law_box_here"), (Str.ofString "_law_game")] (defScope s_rows_of) := ⟨rfl, rfl, rfl, by decide +kernel, rfl, by decide +kernel, by decide +kernel⟩
theorem ck_rows_of : chkSs ⟨n_rows_of, defScope s_rows_of, fun _ => true, [(Str.ofString "_law_text")], []⟩ b_rows_of (defBody s_rows_of) = true := by decide +kernel
abbrev s_more_ends : Stmt := topS 23
theorem sc_more_ends : FnScope n_more_ends [(Str.ofString "_law_box_here"), (Str.ofString "_law_game")] (defScope s_more_ends) := ⟨rfl, rfl, rfl, by decide +kernel, rfl, by decide +kernel, by decide +kernel⟩
theorem ck_more_ends : chkSs ⟨n_more_ends, defScope s_more_ends, fun _ => true, [(Str.ofString "_law_take")], []⟩ b_more_ends (defBody s_more_ends) = true := by decide +kernel
abbrev s_right : Stmt := topS 24
theorem sc_right : FnScope n_right [(Str.ofString "_law_box_here")] (defScope s_right) := ⟨rfl, rfl, rfl, by decide +kernel, rfl, by decide +kernel, by decide +kernel⟩
theorem ck_right : chkSs ⟨n_right, defScope s_right, fun _ => true, [(Str.ofString "_law_any_game"), (Str.ofString "_law_more_ends"), (Str.ofString "_law_rows_of"), (Str.ofString "_law_end"), (Str.ofString "ended"), (Str.ofString "_law_lists"), (Str.ofString "_law_same")], []⟩ b_right (defBody s_right) = true := by decide +kernel
abbrev s_law : Stmt := topS 25
theorem sc_law : FnScope n_law_k08 [(Str.ofString "_law_script")] (defScope s_law) := ⟨rfl, rfl, rfl, by decide +kernel, rfl, by decide +kernel, by decide +kernel⟩
theorem ck_law : chkSs ⟨n_law_k08, defScope s_law, fun _ => true, [(Str.ofString "_law_folded"), (Str.ofString "_law_box"), (Str.ofString "_law_right")], []⟩ b_law_k08 (defBody s_law) = true := by decide +kernel
end Wq
set_option maxHeartbeats 4000000
namespace Wq
open PySem L2
theorem def_at {K : PySem.W.Frag} {h : Heap} {mg : Str → Option Value} {x : Str} {st : Stmt} {ps : List Str} {f : Addr} {oc : Value} {od an : Option Addr} {sl : Array (Option Value)} {kv dc pm cd ct : Value} (X : K.In h) (G : h.Ns mainGlobals mg) (a : PySem.W.nsIn K mainGlobals x = some (some (.ref f)))
    (l : K.lookup f = some ⟨oc, od, .func (PySem.W.fnOf x x (defArgs st) (defBody st) (defScope st) .none kv dc pm an cd ct), sl⟩) (c : PySem.W.codeIn K cd x = true) (k : PySem.W.keepIn K (.ref f) = true) (hb : Binds K (PySem.W.fnOf x x (defArgs st) (defBody st) (defScope st) .none kv dc pm an cd ct) ps []) : DefAt K mg x st ps :=
  ⟨f, _, fun_mk l c k, PySem.W.mg_of X G a, k, hb⟩
theorem cst_int {K : PySem.W.Frag} {h : Heap} {mg : Str → Option Value} {x : Str} {i : Int} {t : Tok} (X : K.In h) (G : h.Ns mainGlobals mg) (a : PySem.W.nsIn K mainGlobals x = some (some (.int i t))) : CstOk K mg x (.int i) := ⟨_, .int i, PySem.W.mg_of X G a, ⟨t, rfl⟩, fun _ => .int i⟩
theorem cst_str {K : PySem.W.Frag} {h : Heap} {mg : Str → Option Value} {x : Str} {i : Str} {t : Tok} (X : K.In h) (G : h.Ns mainGlobals mg) (a : PySem.W.nsIn K mainGlobals x = some (some (.str i t))) : CstOk K mg x (.str i) := ⟨_, .str i, PySem.W.mg_of X G a, ⟨t, rfl⟩, fun _ => .str i⟩
theorem def_puF {P : Program} {w : World} {K : PySem.W.Frag} {mg : Str → Option Value} {base : Heap} {x : Str} {st : Stmt} {f : Addr} {fd : FuncData} {ps N tb cn : List Str} {l : List FnE} {cs : List D} {body : ISs} {k0 : Nat} (F : Fun K x x st f fd) (Sc : FnScope N ps (defScope st)) (hchk : chkSs ⟨N, defScope st, fun _ => true, tb, cn⟩ body (defBody st) = true) (hb : BltOk mg)
    (hs : CstsOk K mg cn cs) (hc : CallsOk P w K mg base k0 tb l) (hr : 1 ≤ k0) : FnG P w K mg base (k0 + 1) f fd ps (spP K (cP (fnP l cs N ps.length body))) := by
  refine def_P F Sc ?_ ?_
  · rintro ds post ⟨r, h, _⟩
    unfold fnP at h
    split at h
    · rename_i hl; exact eq_of_beq hl
    · cases h
  · rintro ds post ⟨r, h, hp⟩
    unfold fnP at h
    split at h
    · obtain ⟨⟨r', E'⟩, h1, h2⟩ := Rs.bind_ok h
      cases h2
      have S := snd_Ss (Γof l) (csOf cs) [] body (sxOf P w K mg base N (defScope st) k0) ⟨N, defScope st, fun _ => true, tb, cn⟩ ⟨rfl, rfl, rfl⟩ (envOk hb hc hs hr) _ hchk
      rcases outF_ok h1 with ⟨E2, e1, rfl, _⟩ | e1
      · exact S _ _ e1 _ hp
      · exact S _ _ e1 _ hp
    · cases h
theorem all_mk {l : PySem.W.OpenLaw} {w : World} {K : PySem.W.Frag} {h : Heap} {mg : Str → Option Value} {fa f0 f1 f2 f3 f4 f5 f6 f7 f8 f9 f10 f11 f12 f13 f14 f15 f16 f17 f18 f19 f20 f21 f22 : Addr} (X : K.In h) (G : h.Ns mainGlobals mg) (hfa : mg (Str.ofString "law") = some (.ref fa))
    {od0 an0 od1 an1 od2 an2 od3 an3 od4 an4 od5 an5 od6 an6 od7 an7 od8 an8 od9 an9 od10 an10 od11 an11 od12 an12 od13 an13 od14 an14 od15 an15 od16 an16 od17 an17 od18 an18 od19 an19 od20 an20 od21 an21 od22 an22 : Option Addr} {sl0 sl1 sl2 sl3 sl4 sl5 sl6 sl7 sl8 sl9 sl10 sl11 sl12 sl13 sl14 sl15 sl16 sl17 sl18 sl19 sl20 sl21 sl22 : Array (Option Value)} {oc0 kv0 dc0 pm0 cd0 ct0 oc1 kv1 dc1 pm1 cd1 ct1 oc2 kv2 dc2 pm2 cd2 ct2 oc3 kv3 dc3 pm3 cd3 ct3 oc4 kv4 dc4 pm4 cd4 ct4 oc5 kv5 dc5 pm5 cd5 ct5 oc6 kv6 dc6 pm6 cd6 ct6 oc7 kv7 dc7 pm7 cd7 ct7 oc8 kv8 dc8 pm8 cd8 ct8 oc9 kv9 dc9 pm9 cd9 ct9 oc10 kv10 dc10 pm10 cd10 ct10 oc11 kv11 dc11 pm11 cd11 ct11 oc12 kv12 dc12 pm12 cd12 ct12 oc13 kv13 dc13 pm13 cd13 ct13 oc14 kv14 dc14 pm14 cd14 ct14 oc15 kv15 dc15 pm15 cd15 ct15 oc16 kv16 dc16 pm16 cd16 ct16 oc17 kv17 dc17 pm17 cd17 ct17 oc18 kv18 dc18 pm18 cd18 ct18 oc19 kv19 dc19 pm19 cd19 ct19 oc20 kv20 dc20 pm20 cd20 ct20 oc21 kv21 dc21 pm21 cd21 ct21 oc22 kv22 dc22 pm22 cd22 ct22 : Value} {tk0 : Tok}
    (a0 : PySem.W.nsIn K mainGlobals (Str.ofString "stands") = some (some (.ref f0))) (l0 : K.lookup f0 = some ⟨oc0, od0, .func (PySem.W.fnOf (Str.ofString "stands") (Str.ofString "stands") (defArgs s_stands) (defBody s_stands) (defScope s_stands) .none kv0 dc0 pm0 an0 cd0 ct0), sl0⟩) (c0 : PySem.W.codeIn K cd0 (Str.ofString "stands") = true) (k0 : PySem.W.keepIn K (.ref f0) = true)
    (a1 : PySem.W.nsIn K mainGlobals (Str.ofString "places_of") = some (some (.ref f1))) (l1 : K.lookup f1 = some ⟨oc1, od1, .func (PySem.W.fnOf (Str.ofString "places_of") (Str.ofString "places_of") (defArgs s_places_of) (defBody s_places_of) (defScope s_places_of) .none kv1 dc1 pm1 an1 cd1 ct1), sl1⟩) (c1 : PySem.W.codeIn K cd1 (Str.ofString "places_of") = true) (k1 : PySem.W.keepIn K (.ref f1) = true)
    (a2 : PySem.W.nsIn K mainGlobals (Str.ofString "moves_by_rules") = some (some (.ref f2))) (l2 : K.lookup f2 = some ⟨oc2, od2, .func (PySem.W.fnOf (Str.ofString "moves_by_rules") (Str.ofString "moves_by_rules") (defArgs s_moves_by_rules) (defBody s_moves_by_rules) (defScope s_moves_by_rules) .none kv2 dc2 pm2 an2 cd2 ct2), sl2⟩) (c2 : PySem.W.codeIn K cd2 (Str.ofString "moves_by_rules") = true) (k2 : PySem.W.keepIn K (.ref f2) = true)
    (a3 : PySem.W.nsIn K mainGlobals (Str.ofString "ended") = some (some (.ref f3))) (l3 : K.lookup f3 = some ⟨oc3, od3, .func (PySem.W.fnOf (Str.ofString "ended") (Str.ofString "ended") (defArgs s_ended) (defBody s_ended) (defScope s_ended) .none kv3 dc3 pm3 an3 cd3 ct3), sl3⟩) (c3 : PySem.W.codeIn K cd3 (Str.ofString "ended") = true) (k3 : PySem.W.keepIn K (.ref f3) = true)
    (a4 : PySem.W.nsIn K mainGlobals (Str.ofString "_law_box") = some (some (.ref f4))) (l4 : K.lookup f4 = some ⟨oc4, od4, .func (PySem.W.fnOf (Str.ofString "_law_box") (Str.ofString "_law_box") (defArgs s_box) (defBody s_box) (defScope s_box) .none kv4 dc4 pm4 an4 cd4 ct4), sl4⟩) (c4 : PySem.W.codeIn K cd4 (Str.ofString "_law_box") = true) (k4 : PySem.W.keepIn K (.ref f4) = true)
    (a5 : PySem.W.nsIn K mainGlobals (Str.ofString "_law_take") = some (some (.ref f5))) (l5 : K.lookup f5 = some ⟨oc5, od5, .func (PySem.W.fnOf (Str.ofString "_law_take") (Str.ofString "_law_take") (defArgs s_take) (defBody s_take) (defScope s_take) .none kv5 dc5 pm5 an5 cd5 ct5), sl5⟩) (c5 : PySem.W.codeIn K cd5 (Str.ofString "_law_take") = true) (k5 : PySem.W.keepIn K (.ref f5) = true)
    (a6 : PySem.W.nsIn K mainGlobals (Str.ofString "_law_folded") = some (some (.ref f6))) (l6 : K.lookup f6 = some ⟨oc6, od6, .func (PySem.W.fnOf (Str.ofString "_law_folded") (Str.ofString "_law_folded") (defArgs s_folded) (defBody s_folded) (defScope s_folded) .none kv6 dc6 pm6 an6 cd6 ct6), sl6⟩) (c6 : PySem.W.codeIn K cd6 (Str.ofString "_law_folded") = true) (k6 : PySem.W.keepIn K (.ref f6) = true)
    (a7 : PySem.W.nsIn K mainGlobals (Str.ofString "_law_same") = some (some (.ref f7))) (l7 : K.lookup f7 = some ⟨oc7, od7, .func (PySem.W.fnOf (Str.ofString "_law_same") (Str.ofString "_law_same") (defArgs s_same) (defBody s_same) (defScope s_same) .none kv7 dc7 pm7 an7 cd7 ct7), sl7⟩) (c7 : PySem.W.codeIn K cd7 (Str.ofString "_law_same") = true) (k7 : PySem.W.keepIn K (.ref f7) = true)
    (a8 : PySem.W.nsIn K mainGlobals (Str.ofString "_law_of") = some (some (.ref f8))) (l8 : K.lookup f8 = some ⟨oc8, od8, .func (PySem.W.fnOf (Str.ofString "_law_of") (Str.ofString "_law_of") (defArgs s_of) (defBody s_of) (defScope s_of) .none kv8 dc8 pm8 an8 cd8 ct8), sl8⟩) (c8 : PySem.W.codeIn K cd8 (Str.ofString "_law_of") = true) (k8 : PySem.W.keepIn K (.ref f8) = true)
    (a9 : PySem.W.nsIn K mainGlobals (Str.ofString "_law_text") = some (some (.ref f9))) (l9 : K.lookup f9 = some ⟨oc9, od9, .func (PySem.W.fnOf (Str.ofString "_law_text") (Str.ofString "_law_text") (defArgs s_text) (defBody s_text) (defScope s_text) .none kv9 dc9 pm9 an9 cd9 ct9), sl9⟩) (c9 : PySem.W.codeIn K cd9 (Str.ofString "_law_text") = true) (k9 : PySem.W.keepIn K (.ref f9) = true)
    (a10 : PySem.W.nsIn K mainGlobals (Str.ofString "_law_rules") = some (some (.ref f10))) (l10 : K.lookup f10 = some ⟨oc10, od10, .func (PySem.W.fnOf (Str.ofString "_law_rules") (Str.ofString "_law_rules") (defArgs s_rules) (defBody s_rules) (defScope s_rules) .none kv10 dc10 pm10 an10 cd10 ct10), sl10⟩) (c10 : PySem.W.codeIn K cd10 (Str.ofString "_law_rules") = true) (k10 : PySem.W.keepIn K (.ref f10) = true)
    (a11 : PySem.W.nsIn K mainGlobals (Str.ofString "_law_turned_text") = some (some (.ref f11))) (l11 : K.lookup f11 = some ⟨oc11, od11, .func (PySem.W.fnOf (Str.ofString "_law_turned_text") (Str.ofString "_law_turned_text") (defArgs s_turned_text) (defBody s_turned_text) (defScope s_turned_text) .none kv11 dc11 pm11 an11 cd11 ct11), sl11⟩) (c11 : PySem.W.codeIn K cd11 (Str.ofString "_law_turned_text") = true) (k11 : PySem.W.keepIn K (.ref f11) = true)
    (a12 : PySem.W.nsIn K mainGlobals (Str.ofString "_law_ends") = some (some (.ref f12))) (l12 : K.lookup f12 = some ⟨oc12, od12, .func (PySem.W.fnOf (Str.ofString "_law_ends") (Str.ofString "_law_ends") (defArgs s_ends) (defBody s_ends) (defScope s_ends) .none kv12 dc12 pm12 an12 cd12 ct12), sl12⟩) (c12 : PySem.W.codeIn K cd12 (Str.ofString "_law_ends") = true) (k12 : PySem.W.keepIn K (.ref f12) = true)
    (a13 : PySem.W.nsIn K mainGlobals (Str.ofString "_law_any_game") = some (some (.ref f13))) (l13 : K.lookup f13 = some ⟨oc13, od13, .func (PySem.W.fnOf (Str.ofString "_law_any_game") (Str.ofString "_law_any_game") (defArgs s_any_game) (defBody s_any_game) (defScope s_any_game) .none kv13 dc13 pm13 an13 cd13 ct13), sl13⟩) (c13 : PySem.W.codeIn K cd13 (Str.ofString "_law_any_game") = true) (k13 : PySem.W.keepIn K (.ref f13) = true)
    (a14 : PySem.W.nsIn K mainGlobals (Str.ofString "_law_beads_at") = some (some (.ref f14))) (l14 : K.lookup f14 = some ⟨oc14, od14, .func (PySem.W.fnOf (Str.ofString "_law_beads_at") (Str.ofString "_law_beads_at") (defArgs s_beads_at) (defBody s_beads_at) (defScope s_beads_at) .none kv14 dc14 pm14 an14 cd14 ct14), sl14⟩) (c14 : PySem.W.codeIn K cd14 (Str.ofString "_law_beads_at") = true) (k14 : PySem.W.keepIn K (.ref f14) = true)
    (a15 : PySem.W.nsIn K mainGlobals (Str.ofString "_law_spots") = some (some (.ref f15))) (l15 : K.lookup f15 = some ⟨oc15, od15, .func (PySem.W.fnOf (Str.ofString "_law_spots") (Str.ofString "_law_spots") (defArgs s_spots) (defBody s_spots) (defScope s_spots) .none kv15 dc15 pm15 an15 cd15 ct15), sl15⟩) (c15 : PySem.W.codeIn K cd15 (Str.ofString "_law_spots") = true) (k15 : PySem.W.keepIn K (.ref f15) = true)
    (a16 : PySem.W.nsIn K mainGlobals (Str.ofString "_law_steps_of") = some (some (.ref f16))) (l16 : K.lookup f16 = some ⟨oc16, od16, .func (PySem.W.fnOf (Str.ofString "_law_steps_of") (Str.ofString "_law_steps_of") (defArgs s_steps_of) (defBody s_steps_of) (defScope s_steps_of) .none kv16 dc16 pm16 an16 cd16 ct16), sl16⟩) (c16 : PySem.W.codeIn K cd16 (Str.ofString "_law_steps_of") = true) (k16 : PySem.W.keepIn K (.ref f16) = true)
    (a17 : PySem.W.nsIn K mainGlobals (Str.ofString "_law_end") = some (some (.ref f17))) (l17 : K.lookup f17 = some ⟨oc17, od17, .func (PySem.W.fnOf (Str.ofString "_law_end") (Str.ofString "_law_end") (defArgs s_end) (defBody s_end) (defScope s_end) .none kv17 dc17 pm17 an17 cd17 ct17), sl17⟩) (c17 : PySem.W.codeIn K cd17 (Str.ofString "_law_end") = true) (k17 : PySem.W.keepIn K (.ref f17) = true)
    (a18 : PySem.W.nsIn K mainGlobals (Str.ofString "_law_lists") = some (some (.ref f18))) (l18 : K.lookup f18 = some ⟨oc18, od18, .func (PySem.W.fnOf (Str.ofString "_law_lists") (Str.ofString "_law_lists") (defArgs s_lists) (defBody s_lists) (defScope s_lists) .none kv18 dc18 pm18 an18 cd18 ct18), sl18⟩) (c18 : PySem.W.codeIn K cd18 (Str.ofString "_law_lists") = true) (k18 : PySem.W.keepIn K (.ref f18) = true)
    (a19 : PySem.W.nsIn K mainGlobals (Str.ofString "_law_rows_of") = some (some (.ref f19))) (l19 : K.lookup f19 = some ⟨oc19, od19, .func (PySem.W.fnOf (Str.ofString "_law_rows_of") (Str.ofString "_law_rows_of") (defArgs s_rows_of) (defBody s_rows_of) (defScope s_rows_of) .none kv19 dc19 pm19 an19 cd19 ct19), sl19⟩) (c19 : PySem.W.codeIn K cd19 (Str.ofString "_law_rows_of") = true) (k19 : PySem.W.keepIn K (.ref f19) = true)
    (a20 : PySem.W.nsIn K mainGlobals (Str.ofString "_law_more_ends") = some (some (.ref f20))) (l20 : K.lookup f20 = some ⟨oc20, od20, .func (PySem.W.fnOf (Str.ofString "_law_more_ends") (Str.ofString "_law_more_ends") (defArgs s_more_ends) (defBody s_more_ends) (defScope s_more_ends) .none kv20 dc20 pm20 an20 cd20 ct20), sl20⟩) (c20 : PySem.W.codeIn K cd20 (Str.ofString "_law_more_ends") = true) (k20 : PySem.W.keepIn K (.ref f20) = true)
    (a21 : PySem.W.nsIn K mainGlobals (Str.ofString "_law_right") = some (some (.ref f21))) (l21 : K.lookup f21 = some ⟨oc21, od21, .func (PySem.W.fnOf (Str.ofString "_law_right") (Str.ofString "_law_right") (defArgs s_right) (defBody s_right) (defScope s_right) .none kv21 dc21 pm21 an21 cd21 ct21), sl21⟩) (c21 : PySem.W.codeIn K cd21 (Str.ofString "_law_right") = true) (k21 : PySem.W.keepIn K (.ref f21) = true)
    (a22 : PySem.W.nsIn K mainGlobals (Str.ofString "law") = some (some (.ref f22))) (l22 : K.lookup f22 = some ⟨oc22, od22, .func (PySem.W.fnOf (Str.ofString "law") (Str.ofString "law") (defArgs s_law) (defBody s_law) (defScope s_law) .none kv22 dc22 pm22 an22 cd22 ct22), sl22⟩) (c22 : PySem.W.codeIn K cd22 (Str.ofString "law") = true) (k22 : PySem.W.keepIn K (.ref f22) = true)
    (cst0 : PySem.W.nsIn K mainGlobals (Str.ofString "GREATEST") = some (some (.int 9 tk0)))
    (z0 : PySem.W.nsIn K mainGlobals (Str.ofString "len") = some none)    (z1 : PySem.W.nsIn K mainGlobals (Str.ofString "abs") = some none)    (z2 : PySem.W.nsIn K mainGlobals (Str.ofString "int") = some none)    (z3 : PySem.W.nsIn K mainGlobals (Str.ofString "min") = some none)    (z4 : PySem.W.nsIn K mainGlobals (Str.ofString "max") = some none)    (z5 : PySem.W.nsIn K mainGlobals (Str.ofString "divmod") = some none)    (z6 : PySem.W.nsIn K mainGlobals (Str.ofString "list") = some none)    (z7 : PySem.W.nsIn K mainGlobals (Str.ofString "tuple") = some none)    (z8 : PySem.W.nsIn K mainGlobals (Str.ofString "all") = some none)    (z9 : PySem.W.nsIn K mainGlobals (Str.ofString "any") = some none)    (z10 : PySem.W.nsIn K mainGlobals (Str.ofString "sum") = some none)    (z11 : PySem.W.nsIn K mainGlobals (Str.ofString "sorted") = some none)    (z12 : PySem.W.nsIn K mainGlobals (Str.ofString "repr") = some none)    (z13 : PySem.W.nsIn K mainGlobals (Str.ofString "str") = some none)    (z14 : PySem.W.nsIn K mainGlobals (Str.ofString "isinstance") = some none)    (z15 : PySem.W.nsIn K mainGlobals (Str.ofString "bool") = some none)    (z16 : PySem.W.nsIn K mainGlobals (Str.ofString "range") = some none)    (z17 : PySem.W.nsIn K mainGlobals (Str.ofString "enumerate") = some none)    (z18 : PySem.W.nsIn K mainGlobals (Str.ofString "zip") = some none)    (z19 : PySem.W.nsIn K mainGlobals (Str.ofString "dict") = some none)    (z20 : PySem.W.nsIn K mainGlobals (Str.ofString "set") = some none)    (z21 : PySem.W.nsIn K mainGlobals (Str.ofString "reversed") = some none) :
    ∃ fd : FuncData, (∀ (s : Shared) (v : Value), BindsTo s fd ⟨[v], []⟩ [((Str.ofString "_law_script"), v)]) ∧ ∀ base : Heap, K.In base → base.Ns mainGlobals mg → FnG l.prog w K mg base 8 fa fd [(Str.ofString "_law_script")] (spP K (cP f_law_k08)) := by
  have e := hfa.symm.trans (PySem.W.mg_of X G a22)
  cases e
  have hB : BltOk mg := by
    intro x hx
    have hx := hx
    simp only [bltNames, List.mem_cons, List.not_mem_nil, or_false] at hx
    rcases hx with rfl | rfl | rfl | rfl | rfl | rfl | rfl | rfl | rfl | rfl | rfl | rfl | rfl | rfl | rfl | rfl | rfl | rfl | rfl | rfl | rfl | rfl
    · exact PySem.W.mg_none_of X G z0
    · exact PySem.W.mg_none_of X G z1
    · exact PySem.W.mg_none_of X G z2
    · exact PySem.W.mg_none_of X G z3
    · exact PySem.W.mg_none_of X G z4
    · exact PySem.W.mg_none_of X G z5
    · exact PySem.W.mg_none_of X G z6
    · exact PySem.W.mg_none_of X G z7
    · exact PySem.W.mg_none_of X G z8
    · exact PySem.W.mg_none_of X G z9
    · exact PySem.W.mg_none_of X G z10
    · exact PySem.W.mg_none_of X G z11
    · exact PySem.W.mg_none_of X G z12
    · exact PySem.W.mg_none_of X G z13
    · exact PySem.W.mg_none_of X G z14
    · exact PySem.W.mg_none_of X G z15
    · exact PySem.W.mg_none_of X G z16
    · exact PySem.W.mg_none_of X G z17
    · exact PySem.W.mg_none_of X G z18
    · exact PySem.W.mg_none_of X G z19
    · exact PySem.W.mg_none_of X G z20
    · exact PySem.W.mg_none_of X G z21
  have K0 := cst_int X G cst0
  have D0 : DefAt K mg (Str.ofString "stands") s_stands [(Str.ofString "shape"), (Str.ofString "row"), (Str.ofString "text"), (Str.ofString "place")] := def_at X G a0 l0 c0 k0 ((fun_mk (st := s_stands) l0 c0 k0).binds fun _ _ _ _ _ _ us hl => match us, hl with | [_, _, _, _], _ => rfl)
  have D1 : DefAt K mg (Str.ofString "places_of") s_places_of [(Str.ofString "game"), (Str.ofString "row"), (Str.ofString "text")] := def_at X G a1 l1 c1 k1 ((fun_mk (st := s_places_of) l1 c1 k1).binds fun _ _ _ _ _ _ us hl => match us, hl with | [_, _, _], _ => rfl)
  have D2 : DefAt K mg (Str.ofString "moves_by_rules") s_moves_by_rules [(Str.ofString "game"), (Str.ofString "standing")] := def_at X G a2 l2 c2 k2 ((fun_mk (st := s_moves_by_rules) l2 c2 k2).binds fun _ _ _ _ _ _ us hl => match us, hl with | [_, _], _ => rfl)
  have D3 : DefAt K mg (Str.ofString "ended") s_ended [(Str.ofString "game"), (Str.ofString "standing")] := def_at X G a3 l3 c3 k3 ((fun_mk (st := s_ended) l3 c3 k3).binds fun _ _ _ _ _ _ us hl => match us, hl with | [_, _], _ => rfl)
  have D4 : DefAt K mg (Str.ofString "_law_box") s_box [(Str.ofString "_law_script"), (Str.ofString "_law_k")] := def_at X G a4 l4 c4 k4 ((fun_mk (st := s_box) l4 c4 k4).binds fun _ _ _ _ _ _ us hl => match us, hl with | [_, _], _ => rfl)
  have D5 : DefAt K mg (Str.ofString "_law_take") s_take [(Str.ofString "_law_box_here"), (Str.ofString "_law_room")] := def_at X G a5 l5 c5 k5 ((fun_mk (st := s_take) l5 c5 k5).binds fun _ _ _ _ _ _ us hl => match us, hl with | [_, _], _ => rfl)
  have D6 : DefAt K mg (Str.ofString "_law_folded") s_folded [(Str.ofString "_law_script"), (Str.ofString "_law_room")] := def_at X G a6 l6 c6 k6 ((fun_mk (st := s_folded) l6 c6 k6).binds fun _ _ _ _ _ _ us hl => match us, hl with | [_, _], _ => rfl)
  have D7 : DefAt K mg (Str.ofString "_law_same") s_same [(Str.ofString "_law_found"), (Str.ofString "_law_due")] := def_at X G a7 l7 c7 k7 ((fun_mk (st := s_same) l7 c7 k7).binds fun _ _ _ _ _ _ us hl => match us, hl with | [_, _], _ => rfl)
  have D8 : DefAt K mg (Str.ofString "_law_of") s_of [(Str.ofString "_law_box_here"), (Str.ofString "_law_some")] := def_at X G a8 l8 c8 k8 ((fun_mk (st := s_of) l8 c8 k8).binds fun _ _ _ _ _ _ us hl => match us, hl with | [_, _], _ => rfl)
  have D9 : DefAt K mg (Str.ofString "_law_text") s_text [(Str.ofString "_law_box_here"), (Str.ofString "_law_beads"), (Str.ofString "_law_size")] := def_at X G a9 l9 c9 k9 ((fun_mk (st := s_text) l9 c9 k9).binds fun _ _ _ _ _ _ us hl => match us, hl with | [_, _, _], _ => rfl)
  have D10 : DefAt K mg (Str.ofString "_law_rules") s_rules [(Str.ofString "_law_box_here"), (Str.ofString "_law_beads"), (Str.ofString "_law_long")] := def_at X G a10 l10 c10 k10 ((fun_mk (st := s_rules) l10 c10 k10).binds fun _ _ _ _ _ _ us hl => match us, hl with | [_, _, _], _ => rfl)
  have D11 : DefAt K mg (Str.ofString "_law_turned_text") s_turned_text [(Str.ofString "_law_text_here"), (Str.ofString "_law_beads")] := def_at X G a11 l11 c11 k11 ((fun_mk (st := s_turned_text) l11 c11 k11).binds fun _ _ _ _ _ _ us hl => match us, hl with | [_, _], _ => rfl)
  have D12 : DefAt K mg (Str.ofString "_law_ends") s_ends [(Str.ofString "_law_box_here"), (Str.ofString "_law_beads"), (Str.ofString "_law_long")] := def_at X G a12 l12 c12 k12 ((fun_mk (st := s_ends) l12 c12 k12).binds fun _ _ _ _ _ _ us hl => match us, hl with | [_, _, _], _ => rfl)
  have D13 : DefAt K mg (Str.ofString "_law_any_game") s_any_game [(Str.ofString "_law_box_here"), (Str.ofString "_law_name"), (Str.ofString "_law_longest")] := def_at X G a13 l13 c13 k13 ((fun_mk (st := s_any_game) l13 c13 k13).binds fun _ _ _ _ _ _ us hl => match us, hl with | [_, _, _], _ => rfl)
  have D14 : DefAt K mg (Str.ofString "_law_beads_at") s_beads_at [(Str.ofString "_law_game"), (Str.ofString "_law_row"), (Str.ofString "_law_place"), (Str.ofString "_law_size")] := def_at X G a14 l14 c14 k14 ((fun_mk (st := s_beads_at) l14 c14 k14).binds fun _ _ _ _ _ _ us hl => match us, hl with | [_, _, _, _], _ => rfl)
  have D15 : DefAt K mg (Str.ofString "_law_spots") s_spots [(Str.ofString "_law_game"), (Str.ofString "_law_row"), (Str.ofString "_law_text_here")] := def_at X G a15 l15 c15 k15 ((fun_mk (st := s_spots) l15 c15 k15).binds fun _ _ _ _ _ _ us hl => match us, hl with | [_, _, _], _ => rfl)
  have D16 : DefAt K mg (Str.ofString "_law_steps_of") s_steps_of [(Str.ofString "_law_game"), (Str.ofString "_law_standing")] := def_at X G a16 l16 c16 k16 ((fun_mk (st := s_steps_of) l16 c16 k16).binds fun _ _ _ _ _ _ us hl => match us, hl with | [_, _], _ => rfl)
  have D17 : DefAt K mg (Str.ofString "_law_end") s_end [(Str.ofString "_law_game"), (Str.ofString "_law_standing")] := def_at X G a17 l17 c17 k17 ((fun_mk (st := s_end) l17 c17 k17).binds fun _ _ _ _ _ _ us hl => match us, hl with | [_, _], _ => rfl)
  have D18 : DefAt K mg (Str.ofString "_law_lists") s_lists [(Str.ofString "_law_thing")] := def_at X G a18 l18 c18 k18 ((fun_mk (st := s_lists) l18 c18 k18).binds fun _ _ _ _ _ _ us hl => match us, hl with | [_], _ => rfl)
  have D19 : DefAt K mg (Str.ofString "_law_rows_of") s_rows_of [(Str.ofString "_law_box_here"), (Str.ofString "_law_game")] := def_at X G a19 l19 c19 k19 ((fun_mk (st := s_rows_of) l19 c19 k19).binds fun _ _ _ _ _ _ us hl => match us, hl with | [_, _], _ => rfl)
  have D20 : DefAt K mg (Str.ofString "_law_more_ends") s_more_ends [(Str.ofString "_law_box_here"), (Str.ofString "_law_game")] := def_at X G a20 l20 c20 k20 ((fun_mk (st := s_more_ends) l20 c20 k20).binds fun _ _ _ _ _ _ us hl => match us, hl with | [_, _], _ => rfl)
  have D21 : DefAt K mg (Str.ofString "_law_right") s_right [(Str.ofString "_law_box_here")] := def_at X G a21 l21 c21 k21 ((fun_mk (st := s_right) l21 c21 k21).binds fun _ _ _ _ _ _ us hl => match us, hl with | [_], _ => rfl)
  have FL := fun_mk (st := s_law) l22 c22 k22
  refine ⟨PySem.W.fnOf (Str.ofString "law") (Str.ofString "law") (defArgs s_law) (defBody s_law) (defScope s_law) .none kv22 dc22 pm22 an22 cd22 ct22, fun s v => .of_eq rfl, fun base _ _ => ?_⟩
  have P0 : CallG l.prog w K mg base (Str.ofString "stands") 2 [(Str.ofString "shape"), (Str.ofString "row"), (Str.ofString "text"), (Str.ofString "place")] (spP K (cP f_stands)) := def_pu (k0 := 1) D0 sc_stands ck_stands hB .nil .nil (by decide)
  have P1 : CallG l.prog w K mg base (Str.ofString "places_of") 3 [(Str.ofString "game"), (Str.ofString "row"), (Str.ofString "text")] (spP K (cP f_places_of)) := def_pu (k0 := 2) D1 sc_places_of ck_places_of hB .nil (.pu P0 (by decide) .nil) (by decide)
  have P2 : CallG l.prog w K mg base (Str.ofString "moves_by_rules") 4 [(Str.ofString "game"), (Str.ofString "standing")] (spP K (cP f_moves_by_rules)) := def_pu (k0 := 3) D2 sc_moves_by_rules ck_moves_by_rules hB .nil (.pu P1 (by decide) .nil) (by decide)
  have P3 : CallG l.prog w K mg base (Str.ofString "ended") 5 [(Str.ofString "game"), (Str.ofString "standing")] (spP K (cP f_ended)) := def_pu (k0 := 4) D3 sc_ended ck_ended hB (.cons K0 .nil) (.pu P1 (by decide) (.pu P2 (by decide) .nil)) (by decide)
  have P4 : CallG l.prog w K mg base (Str.ofString "_law_box") 2 [(Str.ofString "_law_script"), (Str.ofString "_law_k")] (spP K (cP f_box)) := def_pu (k0 := 1) D4 sc_box ck_box hB .nil .nil (by decide)
  have P5 : CallG l.prog w K mg base (Str.ofString "_law_take") 2 [(Str.ofString "_law_box_here"), (Str.ofString "_law_room")] (spB K (cB (f_take 1))) := def_recX (k0 := 1) D5 sc_take ck_take hB .nil .nil (by decide) 0
  have P6 : CallG l.prog w K mg base (Str.ofString "_law_folded") 2 [(Str.ofString "_law_script"), (Str.ofString "_law_room")] (spP K (cP f_folded)) := def_pu (k0 := 1) D6 sc_folded ck_folded hB .nil .nil (by decide)
  have P7 : CallG l.prog w K mg base (Str.ofString "_law_same") 3 [(Str.ofString "_law_found"), (Str.ofString "_law_due")] (spP K (cP (f_same 2))) := def_rec (k0 := 1) D7 sc_same ck_same hB .nil .nil (by decide) 1
  have P8 : CallG l.prog w K mg base (Str.ofString "_law_of") 3 [(Str.ofString "_law_box_here"), (Str.ofString "_law_some")] (spB K (cB f_of)) := def_bx (k0 := 2) D8 sc_of ck_of hB .nil (.bx P5 (by decide) .nil) (by decide)
  have P9 : CallG l.prog w K mg base (Str.ofString "_law_text") 4 [(Str.ofString "_law_box_here"), (Str.ofString "_law_beads"), (Str.ofString "_law_size")] (spB K (cB f_text)) := def_bx (k0 := 3) D9 sc_text ck_text hB .nil (.bx P8 (by decide) .nil) (by decide)
  have P10 : CallG l.prog w K mg base (Str.ofString "_law_rules") 5 [(Str.ofString "_law_box_here"), (Str.ofString "_law_beads"), (Str.ofString "_law_long")] (spB K (cB f_rules)) := def_bx (k0 := 4) D10 sc_rules ck_rules hB .nil (.bx P5 (by decide) (.bx P9 (by decide) .nil)) (by decide)
  have P11 : CallG l.prog w K mg base (Str.ofString "_law_turned_text") 2 [(Str.ofString "_law_text_here"), (Str.ofString "_law_beads")] (spP K (cP f_turned_text)) := def_pu (k0 := 1) D11 sc_turned_text ck_turned_text hB .nil .nil (by decide)
  have P12 : CallG l.prog w K mg base (Str.ofString "_law_ends") 5 [(Str.ofString "_law_box_here"), (Str.ofString "_law_beads"), (Str.ofString "_law_long")] (spB K (cB f_ends)) := def_bx (k0 := 4) D12 sc_ends ck_ends hB .nil (.bx P5 (by decide) (.bx P8 (by decide) (.bx P9 (by decide) .nil))) (by decide)
  have P13 : CallG l.prog w K mg base (Str.ofString "_law_any_game") 6 [(Str.ofString "_law_box_here"), (Str.ofString "_law_name"), (Str.ofString "_law_longest")] (spB K (cB f_any_game)) := def_bx (k0 := 5) D13 sc_any_game ck_any_game hB .nil (.bx P8 (by decide) (.bx P5 (by decide) (.bx P10 (by decide) (.pu P11 (by decide) (.bx P12 (by decide) .nil))))) (by decide)
  have P14 : CallG l.prog w K mg base (Str.ofString "_law_beads_at") 2 [(Str.ofString "_law_game"), (Str.ofString "_law_row"), (Str.ofString "_law_place"), (Str.ofString "_law_size")] (spP K (cP f_beads_at)) := def_pu (k0 := 1) D14 sc_beads_at ck_beads_at hB .nil .nil (by decide)
  have P15 : CallG l.prog w K mg base (Str.ofString "_law_spots") 3 [(Str.ofString "_law_game"), (Str.ofString "_law_row"), (Str.ofString "_law_text_here")] (spP K (cP f_spots)) := def_pu (k0 := 2) D15 sc_spots ck_spots hB .nil (.pu P14 (by decide) .nil) (by decide)
  have P16 : CallG l.prog w K mg base (Str.ofString "_law_steps_of") 4 [(Str.ofString "_law_game"), (Str.ofString "_law_standing")] (spP K (cP f_steps_of)) := def_pu (k0 := 3) D16 sc_steps_of ck_steps_of hB .nil (.pu P15 (by decide) .nil) (by decide)
  have P17 : CallG l.prog w K mg base (Str.ofString "_law_end") 5 [(Str.ofString "_law_game"), (Str.ofString "_law_standing")] (spP K (cP f_end)) := def_pu (k0 := 4) D17 sc_end ck_end hB .nil (.pu P15 (by decide) (.pu P16 (by decide) .nil)) (by decide)
  have P18 : CallG l.prog w K mg base (Str.ofString "_law_lists") 6 [(Str.ofString "_law_thing")] (spP K (cP (f_lists 5))) := def_rec (k0 := 1) D18 sc_lists ck_lists hB .nil .nil (by decide) 4
  have P19 : CallG l.prog w K mg base (Str.ofString "_law_rows_of") 5 [(Str.ofString "_law_box_here"), (Str.ofString "_law_game")] (spB K (cB f_rows_of)) := def_bx (k0 := 4) D19 sc_rows_of ck_rows_of hB .nil (.bx P9 (by decide) .nil) (by decide)
  have P20 : CallG l.prog w K mg base (Str.ofString "_law_more_ends") 3 [(Str.ofString "_law_box_here"), (Str.ofString "_law_game")] (spB K (cB f_more_ends)) := def_bx (k0 := 2) D20 sc_more_ends ck_more_ends hB .nil (.bx P5 (by decide) .nil) (by decide)
  have P21 : CallG l.prog w K mg base (Str.ofString "_law_right") 7 [(Str.ofString "_law_box_here")] (spB K (cB f_right)) := def_bx (k0 := 6) D21 sc_right ck_right hB .nil (.bx P13 (by decide) (.bx P20 (by decide) (.bx P19 (by decide) (.pu P17 (by decide) (.pu P3 (by decide) (.pu P18 (by decide) (.pu P7 (by decide) .nil))))))) (by decide)
  exact def_puF (k0 := 7) FL sc_law ck_law hB .nil (.pu P6 (by decide) (.pu P4 (by decide) (.bx P21 (by decide) .nil))) (by decide)
theorem ints_dp {K : PySem.W.Frag} {H : Hp} : ∀ ns : List Int, DpAll K H (ns.map V.int) (ns.map PyData.int)
  | [] => .nil
  | n :: r => .cons (.int n) (ints_dp r)
theorem rel_data {K : PySem.W.Frag} {H : Hp} {vs : List V} {ds : List D} (h : DpAll K H vs ds) : Rel K ⟨H, H, []⟩ (vs.map some) (ds.map Sl.dat) H H where
  len := by rw [List.length_map, List.length_map, dpAll_len h]
  sub := Same.refl _
  sub0 := Same.refl _
  keep := fun _ _ e _ => e
  new := fun a o e => .inl ⟨o, e⟩
  giv := fun p hp => nomatch hp
  dat := fun j d e => by
    rw [List.getElem?_map] at e
    cases z : ds[j]? with
    | none => rw [z] at e; cases e
    | some d' =>
      rw [z] at e
      cases e
      obtain ⟨v, g1, g2⟩ := dpAll_get h z
      exact ⟨v, by rw [List.getElem?_map, g1]; rfl, g2⟩
  own := fun j d e => by
    rw [List.getElem?_map] at e
    cases z : ds[j]? with
    | none => rw [z] at e; cases e
    | some d' => rw [z] at e; cases e
  inj := fun j l d d' a e => by
    rw [List.getElem?_map] at e
    cases z : ds[j]? with
    | none => rw [z] at e; cases e
    | some d' => rw [z] at e; cases e
theorem walk {l : PySem.W.OpenLaw} {q : Program} {loose : List Str} {XP : (Str → Option Value) → Heap → Prop} {YP : World → Heap → Prop} {d : DefRec} {K : Params → PySem.W.Frag} (hn : l.most = some 63) (hdf : d.params.defaults = [])
    (hY : ∀ (w : World) (h : Heap), YP w h → (K w.params).In h)
    (F : ∀ (w : World) (mg : Str → Option Value) (fa : Addr) (h : Heap), (K w.params).In h → h.Ns mainGlobals mg → mg d.name = some (.ref fa) →
      ∃ fd : FuncData, (∀ (s : Shared) (u : Value), BindsTo s fd ⟨[u], []⟩ [((Str.ofString "_law_script"), u)]) ∧ ∀ base : Heap, (K w.params).In base → base.Ns mainGlobals mg → FnG l.prog w (K w.params) mg base 8 fa fd [(Str.ofString "_law_script")] (spP (K w.params) (cP f_law_k08))) :
    PySem.W.WalkO q loose XP YP l.row.toRowW d [] (fun f vs => PySem.call f vs) := by
  refine walk_by (n := 63) (k := 8) (x := (Str.ofString "_law_script")) (sp := fun w => spP (K w.params) (cP f_law_k08)) hn (by decide) hdf ⟨rfl, by decide, by decide⟩ hY F fun w H a ns hl hO hS => ?_
  refine ⟨H, [], [Sl.dat (.list (ns.map PyData.int))], fun r _ => r = .dat (.bool true), rfl, rel_data (vs := [.ref a]) (ds := [.list (ns.map PyData.int)]) (.cons (.lst hS (ints_dp ns)) .nil), ⟨[.list (ns.map PyData.int)], rfl, _, law_ok hl, fun _ => rfl⟩, fun v r outs R' H' _ _ ok e => ?_⟩
  subst e
  cases ok
  rfl
end Wq
open PySem PySem.W PyProof.Rows
set_option maxRecDepth 100000 in
set_option maxHeartbeats 0 in
theorem PySem.Challenge.cw_solvedplay_k08_ended_or_not_holds : PySem.Challenge.rw_solvedplay_k08_ended_or_not.Holds := by
  w_on; o_law; k_head; (case hw => w_witness2)
  k_fill
  refine Wq.walk (l := PySem.Challenge.rw_solvedplay_k08_ended_or_not) rfl rfl (fun w h Y => PySem.W.kIn_of Y) ?F
  case F =>
    intro w mg fa h KX G hmg
    refine' Wq.all_mk KX G hmg ?a0 ?l0 ?c0 ?k0 ?a1 ?l1 ?c1 ?k1 ?a2 ?l2 ?c2 ?k2 ?a3 ?l3 ?c3 ?k3 ?a4 ?l4 ?c4 ?k4 ?a5 ?l5 ?c5 ?k5 ?a6 ?l6 ?c6 ?k6 ?a7 ?l7 ?c7 ?k7 ?a8 ?l8 ?c8 ?k8 ?a9 ?l9 ?c9 ?k9 ?a10 ?l10 ?c10 ?k10 ?a11 ?l11 ?c11 ?k11 ?a12 ?l12 ?c12 ?k12 ?a13 ?l13 ?c13 ?k13 ?a14 ?l14 ?c14 ?k14 ?a15 ?l15 ?c15 ?k15 ?a16 ?l16 ?c16 ?k16 ?a17 ?l17 ?c17 ?k17 ?a18 ?l18 ?c18 ?k18 ?a19 ?l19 ?c19 ?k19 ?a20 ?l20 ?c20 ?k20 ?a21 ?l21 ?c21 ?k21 ?a22 ?l22 ?c22 ?k22 ?cst0 ?z0 ?z1 ?z2 ?z3 ?z4 ?z5 ?z6 ?z7 ?z8 ?z9 ?z10 ?z11 ?z12 ?z13 ?z14 ?z15 ?z16 ?z17 ?z18 ?z19 ?z20 ?z21
    (case a0 => k_is); (case l0 => k_is); (case c0 => k_is); (case k0 => k_is); (case a1 => k_is); (case l1 => k_is); (case c1 => k_is); (case k1 => k_is)
    (case a2 => k_is); (case l2 => k_is); (case c2 => k_is); (case k2 => k_is); (case a3 => k_is); (case l3 => k_is); (case c3 => k_is); (case k3 => k_is)
    (case a4 => k_is); (case l4 => k_is); (case c4 => k_is); (case k4 => k_is); (case a5 => k_is); (case l5 => k_is); (case c5 => k_is); (case k5 => k_is)
    (case a6 => k_is); (case l6 => k_is); (case c6 => k_is); (case k6 => k_is); (case a7 => k_is); (case l7 => k_is); (case c7 => k_is); (case k7 => k_is)
    (case a8 => k_is); (case l8 => k_is); (case c8 => k_is); (case k8 => k_is); (case a9 => k_is); (case l9 => k_is); (case c9 => k_is); (case k9 => k_is)
    (case a10 => k_is); (case l10 => k_is); (case c10 => k_is); (case k10 => k_is); (case a11 => k_is); (case l11 => k_is); (case c11 => k_is); (case k11 => k_is)
    (case a12 => k_is); (case l12 => k_is); (case c12 => k_is); (case k12 => k_is); (case a13 => k_is); (case l13 => k_is); (case c13 => k_is); (case k13 => k_is)
    (case a14 => k_is); (case l14 => k_is); (case c14 => k_is); (case k14 => k_is); (case a15 => k_is); (case l15 => k_is); (case c15 => k_is); (case k15 => k_is)
    (case a16 => k_is); (case l16 => k_is); (case c16 => k_is); (case k16 => k_is); (case a17 => k_is); (case l17 => k_is); (case c17 => k_is); (case k17 => k_is)
    (case a18 => k_is); (case l18 => k_is); (case c18 => k_is); (case k18 => k_is); (case a19 => k_is); (case l19 => k_is); (case c19 => k_is); (case k19 => k_is)
    (case a20 => k_is); (case l20 => k_is); (case c20 => k_is); (case k20 => k_is); (case a21 => k_is); (case l21 => k_is); (case c21 => k_is); (case k21 => k_is)
    (case a22 => k_is); (case l22 => k_is); (case c22 => k_is); (case k22 => k_is); (case cst0 => k_is); (case z0 => k_is); (case z1 => k_is); (case z2 => k_is)
    (case z3 => k_is); (case z4 => k_is); (case z5 => k_is); (case z6 => k_is); (case z7 => k_is); (case z8 => k_is); (case z9 => k_is); (case z10 => k_is)
    (case z11 => k_is); (case z12 => k_is); (case z13 => k_is); (case z14 => k_is); (case z15 => k_is); (case z16 => k_is); (case z17 => k_is); (case z18 => k_is)
    (case z19 => k_is); (case z20 => k_is); (case z21 => k_is)
