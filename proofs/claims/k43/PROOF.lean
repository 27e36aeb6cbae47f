import PyProof.Rows.All
import HandS.ForMost
import HandS.IsInst
import HandS.Wide
import HandS.TupMul
import HandS.Zip
import HandS.Style
import KE.GoesMore
import KE.GoesZip
import KE.GoesEnum
import HandS.Property
import HandS.MakeKwOnly
import HandS.FStr
import OpenK.KOps
import HandS.Conv
import HandS.TupAny
import PyProof.TupleOfSeq
import PyProof.InstEq
import KE.KFmtOwn
import KE.KRevSl
import HandS.ListItems
import HandS.More
import HandS.SortRule
import HandS.WordsDict
import PySem.Challenge.RW_likestreets_k43_whole_kinds_tell_their_h
set_option Elab.async false
set_option linter.all false
set_option maxRecDepth 100000
set_option maxHeartbeats 8000000
namespace Lk
open PySem PySem.Spec PyProof.Rows L2

/-! ### a def that may be called where nothing is being shown (so that repr of a list is known) -/
structure GOk (P : Program) (w : World) (K : PySem.W.Frag) (mg : Str → Option Value) (base : Heap) (k : Nat) (f : Addr) (fd : FuncData) (ps : List Str) (sp : Sp) : Prop where
  len : ∀ vs H Q E, sp vs H Q E → vs.length = ps.length
  go : ∀ (A : Around) (out : List Env) (s : Shared) (H : Hp) (ar : Args) (us : List Value) (vs : List V) (Q : VK) (E : XK),
    A.guards = some [] → Room k A → Env0 P w K mg base A out s H → BindsTo s fd ar (ps.zip us) → Vals vs us → sp vs H Q E →
    codeAny (model P w) A (.call (.ref f) ar) (CR CX0 out P w H s Q E) s

section
variable {P : Program} {w : World} {K : PySem.W.Frag} {mg : Str → Option Value} {base : Heap} {k : Nat} {f : Addr} {fd : FuncData} {ps : List Str} {sp : Sp}
theorem GOk.of (F : FnOk P w K mg base CX0 k f fd ps sp) : GOk P w K mg base k f fd ps sp :=
  ⟨F.len, fun A out s H ar us vs Q E _ hr e b v h => F.run A out s H ar us vs Q E hr e b v h⟩
theorem GOk.mono {j : Nat} (F : GOk P w K mg base j f fd ps sp) (h : j ≤ k) : GOk P w K mg base k f fd ps sp :=
  ⟨F.len, fun A out s H ar us vs Q E g hr => F.go A out s H ar us vs Q E g (hr.mono h)⟩
theorem guards_deeper (A : Around) (env : Env) : (A.deeper env).guards = A.guards := rfl

/-- a def of the text, walked where nothing is being shown -/
theorem gok_of {x qual : Str} {st : Stmt} {N : List Str} (F : Fun K x qual st f fd) (S : FnScope N ps (defScope st)) (len : ∀ vs H Q E, sp vs H Q E → vs.length = ps.length)
    (hb : ∀ (cdv : Value) (A : Around) (out : List Env) (s : Shared) (H : Hp) (vs : List V) (Q : VK) (E : XK),
      A.guards = some [] → Room k (A.deeper (envOfC qual (defScope st) s.heap.objs.size f cdv)) → sp vs H Q E →
      ∃ t, PSs (cxOf CX0 P w K mg base N qual (defScope st) f cdv A out s H E).nox (defBody st) t ∧ t { nx := fun _ H' => Q .non H', rt := Q } (start N vs) H) :
    GOk P w K mg base (k + 1) f fd ps sp := by
  obtain ⟨oc, od, kV, doc, pm, an, cdv, ct, osl, rfl, lk, hcd⟩ := F.ex
  refine ⟨len, ?_⟩
  intro A out s H ar us vs Q E hg hr e0 hbd rv hsp
  have hl := len _ _ _ _ hsp
  have old : ∀ b o, base.get? b = some o → s.heap.get? b = some o := fun b o e => (e0.bs b o e).1
  have hk : ∀ y ∈ ps.zip us, (defScope st).names.lookup y.1 = some .local ∨
      ((defScope st).names.lookup y.1 = some .cell ∧ ((cellsFrom (s.heap.objs.size + 1) (defScope st).names []).lookup y.1).isSome = true) := by
    intro y hy
    rcases S.par y.1 (List.of_mem_zip (a := y.1) (b := y.2) hy).1 with q | q
    · exact Or.inl q
    · exact Or.inr ⟨q, PySem.W.cellsFrom_some _ _ _ (Or.inl q)⟩
  refine codeAny_call_function hr.depth ((e0.mod.kin.keeps old) _ _ lk) rfl S.co S.gen rfl
    (PySem.W.codeRec_of (e0.mod.kin.keeps old) hcd) (hbd _ _ _ _ (wpAny_newFunctionEnv_cells S.kind hk fun env he s1 x => ?_))
  cases he
  refine ⟨(e0.mod.nolimit.keeps old).keeps x.toInCall.keep, codeAny_func ?_⟩
  obtain ⟨t, ht, hq⟩ := hb cdv A out s H vs Q E hg (hr.deeper _) hsp
  have J : Inv (cxOf CX0 P w K mg base N qual (defScope st) f cdv A out s H E) [] (start N vs) H s1 := inv_start S hr.hd e0 hl rv x
  refine wpAny_mono (ht.nox.run [] s1 (start N vs) H _ J hq) ?_ (fun _ _ z => z)
  intro fl s' hs
  cases fl with
  | next =>
    obtain ⟨σ', H', J', q⟩ := hs
    exact ⟨V.non, H', J'.os, J'.bare, J'.base, J'.hok, rfl, q⟩
  | ret u =>
    obtain ⟨v, σ', H', J', r', q⟩ := hs
    exact ⟨v, H', J'.os, J'.bare, J'.base, J'.hok, r', q⟩
  | brk => exact hs.elim fun _ z => z.elim fun _ z => z.2.elim
  | cont => exact hs.elim fun _ z => z.elim fun _ z => z.2.elim
end

section
variable {X : Cx} {k : Nat} {f : Addr} {fd : FuncData} {ps : List Str} {sp : Sp} {dvs : List V} {ds : List Value} {x : Str} {p pos : Pos} {e : Expr} {es : List Expr} {t : TA}
theorem run_g {pins : List (Addr × Obj)} {σ : L2.St} {H : Hp} {s : Shared} {Q : VK} {us : List Value} {vs : List V} (F : GOk X.prog X.w X.K X.mg X.base k f fd ps sp) (hg : X.A.guards = some [])
    (hr : Room k X.A) (hb : Binds X.K fd ps ds) (hd : Vals dvs ds) (I : Inv X pins σ H s) (r : Vals vs us) (h : sp (vs ++ dvs) H Q E0) :
    wpAny (model X.prog X.w) X.A (call (.ref f) us) (EP X pins σ Q) X.xe s := by
  have r2 := r.append hd
  have hl := r2.length.symm.trans (F.len _ _ _ _ h)
  refine wpAny_call (codeAny_mono (F.go X.A X.stack s H ⟨us, []⟩ (us ++ ds) (vs ++ dvs) Q E0 hg hr I.env0 (hb s us I.kIn hl) r2 h) ?_)
  intro r s' hq
  match r, hq with
  | .error _, hq => exact hq.elim
  | .ok (.ret u), hq => exact I.after hq
  | .ok .next, hq => exact hq.elim
  | .ok .brk, hq => exact hq.elim
  | .ok .cont, hq => exact hq.elim
/-- f(e, ..) -/
theorem pe_callG (F : GOk X.prog X.w X.K X.mg X.base k f fd ps sp) (hg : X.A.guards = some []) (hr : Room k X.A) (gl : Gl X x) (hm : X.mg x = some (.ref f)) (hk : PySem.W.keepIn X.K (.ref f) = true)
    (hb : Binds X.K fd ps ds) (hd : Vals dvs ds) (ha : PA X (e :: es) t) (hdb : (x == ("__debug__" : Str)) = false := by decide)
    (he : starEach (e :: es) X.env = (false, eval e X.env) :: starEach es X.env := by rfl) (hpl : (backTo pos (starEach es X.env)).any (·.1) = false := by rfl) :
    PE X (.Call (.Name x p) (e :: es) [] pos) (tCall sp dvs E0 t) :=
  ⟨fun pins s σ H Q I h => wpAny_Call_Name_kw (ld_glob I gl hm (PySem.W.callWith_K (h₀ := X.base) I.ok.mod.kin hk
    (thn (ha.run pos pins s σ H _ I h) fun us s1 ⟨vs, H1, I1, r, q⟩ => ⟨I1.kIn, run_g F hg hr hb hd I1 r q⟩) he hpl) hdb)⟩
/-- values in another sequence -/
def perm {α : Type} (is : List Nat) (ws : List α) : List α := is.filterMap fun i => ws[i]?
theorem Vals.perm {zs : List V} {ws : List Value} (r : Vals zs ws) : ∀ is : List Nat, Vals (Lk.perm is zs) (Lk.perm is ws)
  | [] => .nil
  | i :: is => by
    unfold Lk.perm
    rw [List.filterMap_cons, List.filterMap_cons]
    cases e : zs[i]? with
    | none => rw [r.none_of e]; exact Vals.perm r is
    | some x =>
      obtain ⟨u, h1, h2⟩ := r.get e
      rw [h1]
      exact .cons h2 (Vals.perm r is)
/-- f(k = v, ..): keywords alone, in any sequence; is: where each parameter's value stands among them -/
def tKey (sp : Sp) (is : List Nat) (n : Nat) (tk : TA) : TE := fun σ H Q => tk σ H fun zs H1 => zs.length = n ∧ sp (perm is zs) H1 Q E0
theorem pe_callKG {ks : List Str} {is : List Nat} {kws : List Keyword} {tk : TA} (F : GOk X.prog X.w X.K X.mg X.base k f fd ps sp) (hg : X.A.guards = some []) (hr : Room k X.A) (gl : Gl X x) (hm : X.mg x = some (.ref f))
    (hk : PySem.W.keepIn X.K (.ref f) = true) (hb : ∀ (s : Shared) (ws : List Value), ws.length = ks.length → BindsTo s fd ⟨[], ks.zip ws⟩ (ps.zip (perm is ws))) (hkw : PK X kws tk)
    (hall : (backToKw pos (keywordEach kws X.env)).all (·.1.isSome) = true := by rfl) (hks : (backToKw pos (keywordEach kws X.env)).filterMap (·.1) = ks := by rfl)
    (hdb : (x == ("__debug__" : Str)) = false := by decide)
    (hpl : ((backTo pos (starEach [] X.env)).any (·.1) || (backToKw pos (keywordEach kws X.env)).any (·.1.isNone)) = false := by rfl) :
    PE X (.Call (.Name x p) [] kws pos) (tKey sp is ks.length tk) := by
  refine ⟨fun pins s σ H Q I h => wpAny_Call_Name_kw (ld_glob I gl hm (PySem.W.callWith_KW0 (h₀ := X.base) I.ok.mod.kin hk hall
    (thn (hkw.run pos pins s σ H _ I h) fun ws s2 ⟨zs, H2, I2, rz, l1, q2⟩ => ⟨I2.kIn, ?_⟩) hpl) hdb)⟩
  rw [hks]
  have r2 := Vals.perm rz is
  have hl := r2.length.symm.trans (F.len _ _ _ _ q2)
  refine wpAny_call (codeAny_mono (F.go X.A X.stack s2 H2 ⟨[], ks.zip ws⟩ (perm is ws) (perm is zs) Q E0 hg hr I2.env0 (hb s2 ws (rz.length.symm.trans l1)) r2 q2) ?_)
  intro r s' hq
  match r, hq with
  | .error _, hq => exact hq.elim
  | .ok (.ret u), hq => exact I2.after hq
  | .ok .next, hq => exact hq.elim
  | .ok .brk, hq => exact hq.elim
  | .ok .cont, hq => exact hq.elim
end
end Lk

namespace Lk
open PySem PySem.Spec L2

/-! ### data -/
/-- the written part, and the classes of objects by their number -/
structure Cl where
  K : PySem.W.Frag
  C : Nat → Addr
inductive D where
  | non | bl (b : Bool) | int (i : Int) | str (x : Str)
  | ty (n : String) | lst (xs : List D) | tup (xs : List D) | dk (ks : List Key) (ds : List D) | obj (c : Nat) (ns : List Str) (ds : List D) | adr (a : Addr) | scr (ns : List Int)

/-- a pot: a list of two counts that the text draws from -/
def IsPot (H : Hp) (a : Addr) : Prop := ∃ x y : Int, H a = some (.lst [.int x, .int y]) ∧ 0 ≤ x ∧ 0 ≤ y ∧ y < 2147483648

mutual
inductive At (cls : Cl) (N : Addr → Prop) (H : Hp) : V → D → Prop where
  | non : At cls N H .non .non
  | bl (b : Bool) : At cls N H (.bl b) (.bl b)
  | int (i : Int) : At cls N H (.int i) (.int i)
  | str (x : Str) : At cls N H (.str x) (.str x)
  | ty (n : String) : At cls N H (.ty n) (.ty n)
  | lst {a : Addr} {vs : List V} {ds : List D} : ¬ N a → H a = some (.lst vs) → AtAll cls N H vs ds → At cls N H (.ref a) (.lst ds)
  | tup {a : Addr} {vs : List V} {ds : List D} : ¬ N a → H a = some (.tup vs) → AtAll cls N H vs ds → At cls N H (.ref a) (.tup ds)
  | dk {a : Addr} {ks : List Key} {vs : List V} {ds : List D} : ¬ N a → H a = some (.dK (ks.zip vs)) → ks.length = vs.length → AtAll cls N H vs ds → At cls N H (.ref a) (.dk ks ds)
  | obj {a dx : Addr} {c : Nat} {ns : List Str} {vs : List V} {ds : List D} : ¬ N a → H a = some (.ins (cls.C c) dx (ns.zip vs)) → ns.length = vs.length → AtAll cls N H vs ds → At cls N H (.ref a) (.obj c ns ds)
  | adr (a : Addr) : At cls N H (.ref a) (.adr a)
  /-- the script -/
  | scr {a : Addr} {ns : List Int} : ¬ N a → Rd H a (.lst (ns.map V.int)) → At cls N H (.ref a) (.scr ns)
  | scrK {a : Addr} {ns : List Int} : (∀ H', SqL cls.K H' a (ns.map V.int)) → At cls N H (.ref a) (.scr ns)
inductive AtAll (cls : Cl) (N : Addr → Prop) (H : Hp) : List V → List D → Prop where
  | nil : AtAll cls N H [] []
  | cons {v : V} {vs : List V} {d : D} {ds : List D} : At cls N H v d → AtAll cls N H vs ds → AtAll cls N H (v :: vs) (d :: ds)
end

/-- the heap goes on: all stands but the pots, and these stay pots -/
structure Go (p : Addr → Prop) (H H' : Hp) : Prop where
  ext : ∀ a o, ¬ p a → H a = some o → H' a = some o
  pot : ∀ a, p a → IsPot H a → IsPot H' a
theorem Go.refl {p : Addr → Prop} (H : Hp) : Go p H H := ⟨fun _ _ _ h => h, fun _ _ h => h⟩
theorem Go.trans {p : Addr → Prop} {H H1 H2 : Hp} (a : Go p H H1) (b : Go p H1 H2) : Go p H H2 :=
  ⟨fun x o n h => b.ext x o n (a.ext x o n h), fun x n h => b.pot x n (a.pot x n h)⟩
theorem Go.new {p : Addr → Prop} {H : Hp} {a : Addr} {o : HO} (h : H a = none) : Go p H (upd H a o) :=
  ⟨fun x u _ e => by rw [upd_ne (ne_of_none e h)]; exact e, fun x _ ⟨i, j, e, q⟩ => ⟨i, j, by rw [upd_ne (ne_of_none e h)]; exact e, q⟩⟩

theorem rd_mono {H H' : Hp} {a : Addr} {u : HO} (e : ∀ o, H a = some o → H' a = some o) (h : Rd H a u) : Rd H' a u := by
  rcases h with h | ⟨o, h⟩
  · exact .inl (e _ h)
  · exact .inr ⟨o, e _ h⟩
theorem rd_some {H : Hp} {a : Addr} {u : HO} (h : Rd H a u) : H a ≠ none := by
  rcases h with h | ⟨o, h⟩ <;> (rw [h]; exact fun z => nomatch z)

section
variable {cls : Cl} {N N' : Addr → Prop} {H H' : Hp}
mutual
/-- what stands outside of N and stays is the same data -/
theorem At.keep (hN : ∀ a, H a ≠ none → ¬ N a → ¬ N' a) (hk : ∀ a o, ¬ N a → H a = some o → H' a = some o) : ∀ {d : D} {v : V}, At cls N H v d → At cls N' H' v d
  | .non, _, .non => .non
  | .bl _, _, .bl b => .bl b
  | .int _, _, .int i => .int i
  | .str _, _, .str x => .str x
  | .ty _, _, .ty n => .ty n
  | .lst _, _, .lst n r h => .lst (hN _ (by rw [r]; exact fun z => nomatch z) n) (hk _ _ n r) (AtAll.keep hN hk h)
  | .tup _, _, .tup n r h => .tup (hN _ (by rw [r]; exact fun z => nomatch z) n) (hk _ _ n r) (AtAll.keep hN hk h)
  | .dk _ _, _, .dk n r l h => .dk (hN _ (by rw [r]; exact fun z => nomatch z) n) (hk _ _ n r) l (AtAll.keep hN hk h)
  | .obj _ _ _, _, .obj n r l h => .obj (hN _ (by rw [r]; exact fun z => nomatch z) n) (hk _ _ n r) l (AtAll.keep hN hk h)
  | .adr _, _, .adr a => .adr a
  | .scr _, _, .scr n r => .scr (hN _ (rd_some r) n) (rd_mono (fun o => hk _ o n) r)
  | .scr _, _, .scrK h => .scrK h
theorem AtAll.keep (hN : ∀ a, H a ≠ none → ¬ N a → ¬ N' a) (hk : ∀ a o, ¬ N a → H a = some o → H' a = some o) : ∀ {ds : List D} {vs : List V}, AtAll cls N H vs ds → AtAll cls N' H' vs ds
  | [], _, .nil => .nil
  | _ :: _, _, .cons h t => .cons (At.keep hN hk h) (AtAll.keep hN hk t)
end
end

/-- what a state must hold -/
structure Wf (p N : Addr → Prop) (H : Hp) : Prop where
  sub : ∀ a, p a → N a
  dom : ∀ a, N a → H a ≠ none
  pot : ∀ a, p a → IsPot H a
theorem IsPot.some {H : Hp} {a : Addr} (h : IsPot H a) : H a ≠ none := by
  obtain ⟨x, y, e, _⟩ := h
  rw [e]; exact fun z => nomatch z
theorem some_of {H : Hp} {a : Addr} (h : H a ≠ none) : ∃ o, H a = some o := by
  cases e : H a with
  | none => exact absurd e h
  | some o => exact ⟨o, rfl⟩
section
variable {cls : Cl} {p N N' : Addr → Prop} {H H' : Hp} {v : V} {d : D} {vs : List V} {ds : List D}
theorem Wf.mono (W : Wf p N H) (g : Go p H H') : Wf p N H' where
  sub := W.sub
  dom := fun a n => by
    by_cases hp : p a
    · exact (g.pot a hp (W.pot a hp)).some
    · obtain ⟨o, e⟩ := some_of (W.dom a n)
      rw [g.ext a o hp e]
      exact fun z => nomatch z
  pot := fun a hp => g.pot a hp (W.pot a hp)
theorem At.mono (h : At cls N H v d) (sub : ∀ a, p a → N a) (g : Go p H H') : At cls N H' v d := h.keep (fun _ _ n => n) fun a o n e => g.ext a o (fun z => n (sub a z)) e
theorem AtAll.mono (h : AtAll cls N H vs ds) (sub : ∀ a, p a → N a) (g : Go p H H') : AtAll cls N H' vs ds := h.keep (fun _ _ n => n) fun a o n e => g.ext a o (fun z => n (sub a z)) e
/-- N lesser: the data are the same -/
theorem At.less (h : At cls N H v d) (hs : ∀ a, N' a → N a) : At cls N' H v d := h.keep (fun a _ n z => n (hs a z)) fun _ _ _ e => e
theorem AtAll.less (h : AtAll cls N H vs ds) (hs : ∀ a, N' a → N a) : AtAll cls N' H vs ds := h.keep (fun a _ n z => n (hs a z)) fun _ _ _ e => e
theorem AtAll.length : ∀ {vs : List V} {ds : List D}, AtAll cls N H vs ds → vs.length = ds.length
  | _, [], .nil => rfl
  | _, _ :: _, .cons _ t => congrArg Nat.succ (AtAll.length t)
theorem AtAll.get : ∀ {vs : List V} {ds : List D} {i : Nat} {d : D}, AtAll cls N H vs ds → ds[i]? = some d → ∃ v, vs[i]? = some v ∧ At cls N H v d
  | _, [], _, _, .nil, e => nomatch e
  | _, x :: _, 0, d, .cons a _, e => by
    have e : some x = some d := e
    cases e
    exact ⟨_, rfl, a⟩
  | _, _ :: _, i + 1, d, .cons _ t, e => AtAll.get (i := i) t e
theorem AtAll.append : ∀ {vs ws : List V} {ds es : List D}, AtAll cls N H vs ds → AtAll cls N H ws es → AtAll cls N H (vs ++ ws) (ds ++ es)
  | _, _, [], _, .nil, k => k
  | _, _, _ :: _, _, .cons a t, k => .cons a (AtAll.append t k)
theorem AtAll.set : ∀ {vs : List V} {ds : List D} {i : Nat}, AtAll cls N H vs ds → At cls N H v d → AtAll cls N H (vs.set i v) (ds.set i d)
  | _, [], _, .nil, _ => .nil
  | _, _ :: _, 0, .cons _ t, a => .cons a t
  | _, _ :: _, _ + 1, .cons b t, a => .cons b (AtAll.set t a)
theorem AtAll.take : ∀ {vs : List V} {ds : List D} (n : Nat), AtAll cls N H vs ds → AtAll cls N H (vs.take n) (ds.take n)
  | _, [], n, .nil => by rw [List.take_nil, List.take_nil]; exact .nil
  | _, _ :: _, 0, .cons _ _ => .nil
  | _, _ :: _, n + 1, .cons b t => .cons b (AtAll.take n t)
theorem AtAll.drop : ∀ {vs : List V} {ds : List D} (n : Nat), AtAll cls N H vs ds → AtAll cls N H (vs.drop n) (ds.drop n)
  | _, [], n, .nil => by rw [List.drop_nil, List.drop_nil]; exact .nil
  | _, _ :: _, 0, .cons b t => .cons b t
  | _, _ :: _, n + 1, .cons _ t => AtAll.drop n t
theorem atAll_ints : ∀ is : List Int, AtAll cls N H (is.map V.int) (is.map D.int)
  | [] => .nil
  | i :: is => .cons (.int i) (atAll_ints is)
theorem AtAll.ints : ∀ {is : List Int} {vs : List V}, AtAll cls N H vs (is.map D.int) → vs = is.map V.int
  | [], _, .nil => rfl
  | i :: is, _, .cons (.int _) t => by rw [AtAll.ints t]; rfl
theorem AtAll.bls : ∀ {bs : List Bool} {vs : List V}, AtAll cls N H vs (bs.map D.bl) → vs = bs.map V.bl
  | [], _, .nil => rfl
  | i :: is, _, .cons (.bl _) t => by rw [AtAll.bls t]; rfl
end

/-! ### a state: the names' values -/
/-- things of a def's own that are no lists: a dict of whole numbers; a tuple of a value and a list -/
inductive Con where
  | tbl (kvs : List (Int × Int))
  | box (s : D) (xs : List D)
inductive Slot where
  /-- data that does not change -/
  | dat (d : D)
  /-- a list of the def's own that it changes -/
  | own (xs : List D)
  /-- another thing of its own -/
  | mut (c : Con)
def ConAt (cls : Cl) (M : Addr → Prop) (H : Hp) (v : V) (a : Addr) : Con → Prop
  | .tbl kvs => v = .ref a ∧ H a = some (.dK (kvs.map fun q => (Sum.inl q.1, V.int q.2)))
  | .box s xs => ∃ t v0 vs, v = .ref t ∧ ¬ M t ∧ H t = some (.tup [v0, .ref a]) ∧ At cls M H v0 s ∧ H a = some (.lst vs) ∧ AtAll cls M H vs xs
theorem ConAt.ne {cls : Cl} {M : Addr → Prop} {H : Hp} {v : V} {a : Addr} {c : Con} (h : ConAt cls M H v a c) : H a ≠ none := by
  cases c with
  | tbl kvs => rw [h.2]; exact fun z => nomatch z
  | box s xs =>
    obtain ⟨t, v0, vs, _, _, _, _, e, _⟩ := h
    rw [e]; exact fun z => nomatch z
theorem ConAt.keep {cls : Cl} {M M' : Addr → Prop} {H H' : Hp} {v : V} {a : Addr} {c : Con} (h : ConAt cls M H v a c) (hN : ∀ b, H b ≠ none → ¬ M b → ¬ M' b) (hk : ∀ b o, ¬ M b → H b = some o → H' b = some o) (ha : ∀ o, H a = some o → H' a = some o) : ConAt cls M' H' v a c := by
  cases c with
  | tbl kvs => exact ⟨h.1, ha _ h.2⟩
  | box s xs =>
    obtain ⟨t, v0, vs, e1, n, e2, a0, e3, aa⟩ := h
    exact ⟨t, v0, vs, e1, hN _ (by rw [e2]; exact fun z => nomatch z) n, hk _ _ n e2, a0.keep hN hk, ha _ e3, aa.keep hN hk⟩
abbrev Sts := List (Option Slot)
def hid (N : Addr → Prop) (ad : Nat → Addr) (ds : Sts) : Addr → Prop := fun a => N a ∨ ∃ (i : Nat) (xs : List D), ds[i]? = some (some (Slot.own xs)) ∧ ad i = a

structure Sta (cls : Cl) (p : Addr → Prop) (pn : List (V × D)) (N : Addr → Prop) (H0 : Hp) (ad : Nat → Addr) (H : Hp) (σ : L2.St) (ds : Sts) : Prop where
  wf : Wf p N H
  go : Go p H0 H
  len : σ.length = ds.length
  dat : ∀ (i : Nat) (d : D), ds[i]? = some (some (Slot.dat d)) → ∃ v, σ[i]? = some (some v) ∧ At cls (hid N ad ds) H v d
  own : ∀ (i : Nat) (xs : List D), ds[i]? = some (some (Slot.own xs)) → σ[i]? = some (some (.ref (ad i))) ∧ ¬ N (ad i) ∧ H0 (ad i) = none ∧ ∃ vs, H (ad i) = some (.lst vs) ∧ AtAll cls (hid N ad ds) H vs xs
  pin : ∀ q ∈ pn, At cls (hid N ad ds) H q.1 q.2
  inj : ∀ (i j : Nat) (xs ys : List D), ds[i]? = some (some (Slot.own xs)) → ds[j]? = some (some (Slot.own ys)) → ad i = ad j → i = j
  mt : ∀ (i : Nat) (c : Con), ds[i]? = some (some (Slot.mut c)) → ∃ v, σ[i]? = some (some v) ∧ N (ad i) ∧ ¬ p (ad i) ∧ H0 (ad i) = none ∧ ConAt cls (hid N ad ds) H v (ad i) c
  minj : ∀ (i j : Nat) (c c' : Con), ds[i]? = some (some (Slot.mut c)) → ds[j]? = some (some (Slot.mut c')) → ad i = ad j → i = j

section
variable {cls : Cl} {p N : Addr → Prop} {pn : List (V × D)} {H0 H H' : Hp} {ad : Nat → Addr} {σ : L2.St} {ds : Sts}
theorem Sta.hsub (E : Sta cls p pn N H0 ad H σ ds) : ∀ a, p a → hid N ad ds a := fun a h => .inl (E.wf.sub a h)
theorem Sta.hwf (E : Sta cls p pn N H0 ad H σ ds) : Wf p (hid N ad ds) H where
  sub := E.hsub
  dom := fun a h => by
    rcases h with h | ⟨i, xs, e, q⟩
    · exact E.wf.dom a h
    · obtain ⟨_, _, _, vs, h, _⟩ := E.own i xs e
      rw [← q, h]
      exact fun z => nomatch z
  pot := E.wf.pot
theorem Sta.mono (E : Sta cls p pn N H0 ad H σ ds) (g : Go p H H') : Sta cls p pn N H0 ad H' σ ds :=
  ⟨E.wf.mono g, E.go.trans g, E.len, fun i d e => let ⟨v, h1, h2⟩ := E.dat i d e; ⟨v, h1, h2.mono E.hsub g⟩,
    fun i xs e => let ⟨h1, h2, h3, vs, h4, h5⟩ := E.own i xs e; ⟨h1, h2, h3, vs, g.ext _ _ (fun z => h2 (E.wf.sub _ z)) h4, h5.mono E.hsub g⟩, fun q hq => (E.pin q hq).mono E.hsub g, E.inj,
    fun i c e => let ⟨v, h1, h2, h3, h4, h5⟩ := E.mt i c e; ⟨v, h1, h2, h3, h4, h5.keep (fun _ _ n => n) (fun a o n e => g.ext a o (fun z => n (E.hsub a z)) e) fun o e => g.ext _ o h3 e⟩, E.minj⟩
/-- a name is stored -/
theorem get_set {α : Type} {l : List α} {i j : Nat} {x y : α} (e : (l.set i x)[j]? = some y) : (i = j ∧ y = x ∧ i < l.length) ∨ (i ≠ j ∧ l[j]? = some y) := by
  rw [List.getElem?_set] at e
  split at e
  · split at e
    · cases e; exact .inl ⟨by assumption, rfl, by assumption⟩
    · cases e
  · exact .inr ⟨by assumption, e⟩
theorem hid_set {i : Nat} {d : D} : ∀ a, hid N ad (ds.set i (some (Slot.dat d))) a → hid N ad ds a := by
  intro a h
  rcases h with h | ⟨j, xs, e, q⟩
  · exact .inl h
  · rcases get_set e with ⟨_, z, _⟩ | ⟨_, e⟩
    · cases z
    · exact .inr ⟨j, xs, e, q⟩
theorem Sta.put {i : Nat} {v : V} {d : D} (E : Sta cls p pn N H0 ad H σ ds) (h : At cls (hid N ad ds) H v d) : Sta cls p pn N H0 ad H (σ.set i (some v)) (ds.set i (some (Slot.dat d))) := by
  refine ⟨E.wf, E.go, by rw [List.length_set, List.length_set]; exact E.len, fun j x e => ?_, fun j xs e => ?_, fun q hq => (E.pin q hq).less hid_set, fun a b xs ys e1 e2 q => ?_, fun j c e => ?_, fun a b c c' e1 e2 q => ?_⟩
  · rcases get_set e with ⟨rfl, z, hi⟩ | ⟨ne, e⟩
    · cases z
      exact ⟨v, by rw [List.getElem?_set_self (by rw [E.len]; exact hi)], h.less hid_set⟩
    · obtain ⟨w, h1, h2⟩ := E.dat j x e
      exact ⟨w, by rw [List.getElem?_set_ne ne]; exact h1, h2.less hid_set⟩
  · rcases get_set e with ⟨rfl, z, hi⟩ | ⟨ne, e⟩
    · cases z
    · obtain ⟨h1, h2, h3, vs, h4, h5⟩ := E.own j xs e
      exact ⟨by rw [List.getElem?_set_ne ne]; exact h1, h2, h3, vs, h4, h5.less hid_set⟩
  · rcases get_set e1 with ⟨_, z, _⟩ | ⟨_, e1⟩
    · cases z
    · rcases get_set e2 with ⟨_, z, _⟩ | ⟨_, e2⟩
      · cases z
      · exact E.inj a b xs ys e1 e2 q
  · rcases get_set e with ⟨_, z, _⟩ | ⟨ne, e⟩
    · cases z
    · obtain ⟨w, h1, h2, h3, h4, h5⟩ := E.mt j c e
      exact ⟨w, by rw [List.getElem?_set_ne ne]; exact h1, h2, h3, h4, h5.keep (fun b _ n z => n (hid_set b z)) (fun _ _ _ e => e) fun _ e => e⟩
  · rcases get_set e1 with ⟨_, z, _⟩ | ⟨_, e1⟩
    · cases z
    · rcases get_set e2 with ⟨_, z, _⟩ | ⟨_, e2⟩
      · cases z
      · exact E.minj a b c c' e1 e2 q
/-- names are wiped -/
def wipeD (ds : Sts) : List Nat → Sts
  | [] => ds
  | v :: vs => (wipeD ds vs).set v none
theorem hid_wipe1 {i : Nat} : ∀ a, hid N ad (ds.set i none) a → hid N ad ds a := by
  intro a h
  rcases h with h | ⟨j, xs, e, q⟩
  · exact .inl h
  · rcases get_set e with ⟨_, z, _⟩ | ⟨_, e⟩
    · cases z
    · exact .inr ⟨j, xs, e, q⟩
theorem Sta.wipe1 {i : Nat} {o : Option V} (E : Sta cls p pn N H0 ad H σ ds) : Sta cls p pn N H0 ad H (σ.set i o) (ds.set i none) := by
  refine ⟨E.wf, E.go, by rw [List.length_set, List.length_set]; exact E.len, fun j x e => ?_, fun j xs e => ?_, fun q hq => (E.pin q hq).less hid_wipe1, fun a b xs ys e1 e2 q => ?_, fun j c e => ?_, fun a b c c' e1 e2 q => ?_⟩
  · rcases get_set e with ⟨rfl, z, hi⟩ | ⟨ne, e⟩
    · cases z
    · obtain ⟨w, h1, h2⟩ := E.dat j x e
      exact ⟨w, by rw [List.getElem?_set_ne ne]; exact h1, h2.less hid_wipe1⟩
  · rcases get_set e with ⟨rfl, z, hi⟩ | ⟨ne, e⟩
    · cases z
    · obtain ⟨h1, h2, h3, vs, h4, h5⟩ := E.own j xs e
      exact ⟨by rw [List.getElem?_set_ne ne]; exact h1, h2, h3, vs, h4, h5.less hid_wipe1⟩
  · rcases get_set e1 with ⟨_, z, _⟩ | ⟨_, e1⟩
    · cases z
    · rcases get_set e2 with ⟨_, z, _⟩ | ⟨_, e2⟩
      · cases z
      · exact E.inj a b xs ys e1 e2 q
  · rcases get_set e with ⟨_, z, _⟩ | ⟨ne, e⟩
    · cases z
    · obtain ⟨w, h1, h2, h3, h4, h5⟩ := E.mt j c e
      exact ⟨w, by rw [List.getElem?_set_ne ne]; exact h1, h2, h3, h4, h5.keep (fun b _ n z => n (hid_wipe1 b z)) (fun _ _ _ e => e) fun _ e => e⟩
  · rcases get_set e1 with ⟨_, z, _⟩ | ⟨_, e1⟩
    · cases z
    · rcases get_set e2 with ⟨_, z, _⟩ | ⟨_, e2⟩
      · cases z
      · exact E.minj a b c c' e1 e2 q
theorem Sta.wipe (E : Sta cls p pn N H0 ad H σ ds) : ∀ vs : List Nat, Sta cls p pn N H0 ad H (L2.wipe σ vs) (wipeD ds vs)
  | [] => E
  | v :: vs => (E.wipe vs).wipe1
/-- an own list becomes data -/
theorem Sta.freeze {i : Nat} {xs : List D} (E : Sta cls p pn N H0 ad H σ ds) (e0 : ds[i]? = some (some (Slot.own xs))) : Sta cls p pn N H0 ad H σ (ds.set i (some (Slot.dat (D.lst xs)))) := by
  have hi : i < ds.length := by
    obtain ⟨h, _⟩ := List.getElem?_eq_some_iff.mp e0
    exact h
  obtain ⟨h1, h2, h3, vs, h4, h5⟩ := E.own i xs e0
  refine ⟨E.wf, E.go, by rw [List.length_set]; exact E.len, fun j x e => ?_, fun j ys e => ?_, fun q hq => (E.pin q hq).less hid_set, fun a b xs ys e1 e2 q => ?_, fun j c e => ?_, fun a b c c' e1 e2 q => ?_⟩
  · rcases get_set e with ⟨rfl, z, _⟩ | ⟨ne, e⟩
    · cases z
      refine ⟨_, h1, .lst (fun z => ?_) h4 (h5.less hid_set)⟩
      rcases z with z | ⟨j, ys, e, q⟩
      · exact h2 z
      · rcases get_set e with ⟨_, z, _⟩ | ⟨ne, e⟩
        · cases z
        · exact ne (E.inj j i ys xs e e0 q).symm
    · obtain ⟨w, k1, k2⟩ := E.dat j x e
      exact ⟨w, k1, k2.less hid_set⟩
  · rcases get_set e with ⟨rfl, z, _⟩ | ⟨ne, e⟩
    · cases z
    · obtain ⟨k1, k2, k3, ws, k4, k5⟩ := E.own j ys e
      exact ⟨k1, k2, k3, ws, k4, k5.less hid_set⟩
  · rcases get_set e1 with ⟨_, z, _⟩ | ⟨_, e1⟩
    · cases z
    · rcases get_set e2 with ⟨_, z, _⟩ | ⟨_, e2⟩
      · cases z
      · exact E.inj a b xs ys e1 e2 q
  · rcases get_set e with ⟨_, z, _⟩ | ⟨ne, e⟩
    · cases z
    · obtain ⟨w, h1, h2, h3, h4, h5⟩ := E.mt j c e
      exact ⟨w, h1, h2, h3, h4, h5.keep (fun b _ n z => n (hid_set b z)) (fun _ _ _ e => e) fun _ e => e⟩
  · rcases get_set e1 with ⟨_, z, _⟩ | ⟨_, e1⟩
    · cases z
    · rcases get_set e2 with ⟨_, z, _⟩ | ⟨_, e2⟩
      · cases z
      · exact E.minj a b c c' e1 e2 q
/-- a new own list -/
theorem Sta.fresh {i : Nat} {l : Addr} (E : Sta cls p pn N H0 ad H σ ds) (hl : H l = none) (hi : i < ds.length) :
    Sta cls p pn N H0 (fun j => if j = i then l else ad j) (upd H l (.lst [])) (σ.set i (some (.ref l))) (ds.set i (some (Slot.own []))) := by
  have g : Go p H (upd H l (.lst [])) := Go.new hl
  have E1 := E.mono g
  have nl : ∀ a, hid N ad ds a → a ≠ l := fun a h z => by
    subst z
    exact E.hwf.dom a h hl
  have hd : ∀ a, hid N (fun j => if j = i then l else ad j) (ds.set i (some (Slot.own []))) a → a = l ∨ hid N ad ds a := by
    intro a h
    rcases h with h | ⟨j, xs, e, q⟩
    · exact .inr (.inl h)
    · rcases get_set e with ⟨z, _, _⟩ | ⟨ne, e⟩
      · left
        rw [← q]
        simp only [z, if_true]
      · right
        refine .inr ⟨j, xs, e, ?_⟩
        simpa only [if_neg (Ne.symm ne)] using q
  have kp : ∀ {v : V} {d : D}, At cls (hid N ad ds) H v d → At cls (hid N (fun j => if j = i then l else ad j) (ds.set i (some (Slot.own [])))) (upd H l (.lst [])) v d := fun h =>
    h.keep (fun a hs n z => by
      rcases hd a z with z | z
      · exact hs (by rw [z]; exact hl)
      · exact n z) fun a o _ e => by rw [upd_ne (ne_of_none e hl)]; exact e
  have kpA : ∀ {v : List V} {d : List D}, AtAll cls (hid N ad ds) H v d → AtAll cls (hid N (fun j => if j = i then l else ad j) (ds.set i (some (Slot.own [])))) (upd H l (.lst [])) v d := fun h =>
    h.keep (fun a hs n z => by
      rcases hd a z with z | z
      · exact hs (by rw [z]; exact hl)
      · exact n z) fun a o _ e => by rw [upd_ne (ne_of_none e hl)]; exact e
  refine ⟨E1.wf, E1.go, by rw [List.length_set, List.length_set]; exact E.len, fun j x e => ?_, fun j xs e => ?_, fun q hq => kp (E.pin q hq), fun a b xs ys e1 e2 q => ?_, fun j c e => ?_, fun a b c c' e1 e2 q => ?_⟩
  · rcases get_set e with ⟨rfl, z, _⟩ | ⟨ne, e⟩
    · cases z
    · obtain ⟨w, h1, h2⟩ := E.dat j x e
      exact ⟨w, by rw [List.getElem?_set_ne ne]; exact h1, kp h2⟩
  · rcases get_set e with ⟨rfl, z, _⟩ | ⟨ne, e⟩
    · cases z
      simp only [if_true]
      refine ⟨by rw [List.getElem?_set_self (by rw [E.len]; exact hi)], fun z => E.wf.dom _ z hl, ?_, [], upd_same, .nil⟩
      cases q : H0 l with
      | none => rfl
      | some o =>
        by_cases hp : p l
        · exact absurd hl (E.wf.pot l hp).some
        · rw [E.go.ext l o hp q] at hl; cases hl
    · obtain ⟨h1, h2, h3, vs, h4, h5⟩ := E.own j xs e
      simp only [if_neg (Ne.symm ne)]
      exact ⟨by rw [List.getElem?_set_ne ne]; exact h1, h2, h3, vs, by rw [upd_ne (ne_of_none h4 hl)]; exact h4, kpA h5⟩
  · rcases get_set e1 with ⟨rfl, z, _⟩ | ⟨n1, e1⟩
    · rcases get_set e2 with ⟨rfl, _, _⟩ | ⟨n2, e2⟩
      · rfl
      · simp only [if_true, if_neg (Ne.symm n2)] at q
        obtain ⟨_, _, _, vs, h4, _⟩ := E.own b ys e2
        rw [← q, hl] at h4; cases h4
    · rcases get_set e2 with ⟨rfl, _, _⟩ | ⟨n2, e2⟩
      · simp only [if_true, if_neg (Ne.symm n1)] at q
        obtain ⟨_, _, _, vs, h4, _⟩ := E.own a xs e1
        rw [q, hl] at h4; cases h4
      · simp only [if_neg (Ne.symm n1), if_neg (Ne.symm n2)] at q
        exact E.inj a b xs ys e1 e2 q
  · rcases get_set e with ⟨_, z, _⟩ | ⟨ne, e⟩
    · cases z
    · obtain ⟨w, h1, h2, h3, h4, h5⟩ := E.mt j c e
      simp only [if_neg (Ne.symm ne)]
      exact ⟨w, by rw [List.getElem?_set_ne ne]; exact h1, h2, h3, h4, h5.keep (fun a hs n z => by
        rcases hd a z with z | z
        · exact hs (by rw [z]; exact hl)
        · exact n z) (fun a o _ e => by rw [upd_ne (ne_of_none e hl)]; exact e) fun o e => by rw [upd_ne (ne_of_none e hl)]; exact e⟩
  · rcases get_set e1 with ⟨_, z, _⟩ | ⟨n1, e1⟩
    · cases z
    · rcases get_set e2 with ⟨_, z, _⟩ | ⟨n2, e2⟩
      · cases z
      · simp only [if_neg (Ne.symm n1), if_neg (Ne.symm n2)] at q
        exact E.minj a b c c' e1 e2 q
/-- an own list is changed -/
theorem Sta.change {i : Nat} {xs ys : List D} {ws : List V} (E : Sta cls p pn N H0 ad H σ ds) (e0 : ds[i]? = some (some (Slot.own xs))) (h : AtAll cls (hid N ad ds) H ws ys) :
    Sta cls p pn N H0 ad (upd H (ad i) (.lst ws)) σ (ds.set i (some (Slot.own ys))) := by
  have hi : i < ds.length := (List.getElem?_eq_some_iff.mp e0).1
  obtain ⟨h1, h2, h3, vs, h4, h5⟩ := E.own i xs e0
  have hid2 : ∀ a, hid N ad (ds.set i (some (Slot.own ys))) a → hid N ad ds a := by
    intro a h
    rcases h with h | ⟨j, zs, e, q⟩
    · exact .inl h
    · rcases get_set e with ⟨rfl, _, _⟩ | ⟨_, e⟩
      · exact .inr ⟨i, xs, e0, q⟩
      · exact .inr ⟨j, zs, e, q⟩
  have hin : hid N ad ds (ad i) := .inr ⟨i, xs, e0, rfl⟩
  have kp : ∀ {v : V} {d : D}, At cls (hid N ad ds) H v d → At cls (hid N ad (ds.set i (some (Slot.own ys)))) (upd H (ad i) (.lst ws)) v d := fun k =>
    k.keep (fun a _ n z => n (hid2 a z)) fun a o n e => by rw [upd_ne (fun z => n (by rw [z]; exact hin))]; exact e
  have kpA : ∀ {v : List V} {d : List D}, AtAll cls (hid N ad ds) H v d → AtAll cls (hid N ad (ds.set i (some (Slot.own ys)))) (upd H (ad i) (.lst ws)) v d := fun k =>
    k.keep (fun a _ n z => n (hid2 a z)) fun a o n e => by rw [upd_ne (fun z => n (by rw [z]; exact hin))]; exact e
  have np : ∀ a, p a → a ≠ ad i := fun a hp z => h2 (by rw [← z]; exact E.wf.sub a hp)
  have pk : ∀ a, p a → IsPot H a → IsPot (upd H (ad i) (.lst ws)) a := fun a hp ⟨x, y, e, q⟩ => ⟨x, y, by rw [upd_ne (np a hp)]; exact e, q⟩
  refine ⟨⟨E.wf.sub, fun a n => ?_, fun a hp => pk a hp (E.wf.pot a hp)⟩, ⟨fun a o hp e => ?_, fun a hp q => pk a hp (E.go.pot a hp q)⟩, by rw [List.length_set]; exact E.len, fun j x e => ?_, fun j zs e => ?_, fun q hq => kp (E.pin q hq), fun a b us1 us2 e1 e2 q => ?_, fun j c e => ?_, fun a b c c' e1 e2 q => ?_⟩
  · rw [upd_ne (fun z => h2 (by rw [← z]; exact n))]
    exact E.wf.dom a n
  · rw [upd_ne (ne_of_none e h3)]
    exact E.go.ext a o hp e
  · rcases get_set e with ⟨rfl, z, _⟩ | ⟨ne, e⟩
    · cases z
    · obtain ⟨w, k1, k2⟩ := E.dat j x e
      exact ⟨w, k1, kp k2⟩
  · rcases get_set e with ⟨rfl, z, _⟩ | ⟨ne, e⟩
    · cases z
      exact ⟨h1, h2, h3, ws, upd_same, kpA h⟩
    · obtain ⟨k1, k2, k3, us, k4, k5⟩ := E.own j zs e
      exact ⟨k1, k2, k3, us, by rw [upd_ne (fun z => ne (E.inj i j xs zs e0 e z.symm))]; exact k4, kpA k5⟩
  · have fix : ∀ {c : Nat} {zs : List D}, (ds.set i (some (Slot.own ys)))[c]? = some (some (Slot.own zs)) → ∃ us, ds[c]? = some (some (Slot.own us)) := fun {c zs} e => by
      rcases get_set e with ⟨rfl, _, _⟩ | ⟨_, e⟩
      · exact ⟨xs, e0⟩
      · exact ⟨zs, e⟩
    obtain ⟨u1, k1⟩ := fix e1
    obtain ⟨u2, k2⟩ := fix e2
    exact E.inj a b u1 u2 k1 k2 q
  · rcases get_set e with ⟨_, z, _⟩ | ⟨ne, e⟩
    · cases z
    · obtain ⟨w, k1, k2, k3, k4, k5⟩ := E.mt j c e
      have nj : ad j ≠ ad i := fun z => h2 (by rw [← z]; exact k2)
      exact ⟨w, k1, k2, k3, k4, k5.keep (fun b _ n z => n (hid2 b z)) (fun b o n e => by rw [upd_ne (fun z => n (by rw [z]; exact hin))]; exact e) fun o e => by rw [upd_ne nj]; exact e⟩
  · rcases get_set e1 with ⟨_, z, _⟩ | ⟨_, e1⟩
    · cases z
    · rcases get_set e2 with ⟨_, z, _⟩ | ⟨_, e2⟩
      · cases z
      · exact E.minj a b c c' e1 e2 q
/-- one more thing is pinned -/
theorem Sta.pins (E : Sta cls p pn N H0 ad H σ ds) {q : List (V × D)} (h : ∀ x ∈ q, At cls (hid N ad ds) H x.1 x.2) : Sta cls p (q ++ pn) N H0 ad H σ ds :=
  ⟨E.wf, E.go, E.len, E.dat, E.own, fun x hx => (List.mem_append.mp hx).elim (h x) (E.pin x), E.inj, E.mt, E.minj⟩
theorem Sta.unpin {q : List (V × D)} (E : Sta cls p (q ++ pn) N H0 ad H σ ds) : Sta cls p pn N H0 ad H σ ds :=
  ⟨E.wf, E.go, E.len, E.dat, E.own, fun x hx => E.pin x (List.mem_append_right _ hx), E.inj, E.mt, E.minj⟩
/-- a new object that is to change by itself: it is put under N -/
theorem Sta.lay {l : Addr} {o : HO} (E : Sta cls p pn N H0 ad H σ ds) (hl : H l = none) : Sta cls p pn (fun a => N a ∨ a = l) H0 ad (upd H l o) σ ds := by
  have g : Go p H (upd H l o) := Go.new hl
  have nl : ∀ a, H a ≠ none → a ≠ l := fun a h z => h (by rw [z]; exact hl)
  have hd : ∀ a, H a ≠ none → ¬ hid N ad ds a → ¬ hid (fun a => N a ∨ a = l) ad ds a := fun a h n z => by
    rcases z with (z | z) | z
    · exact n (.inl z)
    · exact nl a h z
    · exact n (.inr z)
  have kk : ∀ a u, ¬ hid N ad ds a → H a = some u → upd H l o a = some u := fun a u _ e => by rw [upd_ne (ne_of_none e hl)]; exact e
  have W := E.wf.mono g
  refine ⟨⟨fun a h => .inl (W.sub a h), fun a h => ?_, W.pot⟩, E.go.trans g, E.len, fun i d e => ?_, fun i xs e => ?_, fun q hq => (E.pin q hq).keep hd kk, E.inj, fun i c e => ?_, E.minj⟩
  · rcases h with h | h
    · exact W.dom a h
    · rw [h, upd_same]; exact fun z => nomatch z
  · obtain ⟨v, h1, h2⟩ := E.dat i d e
    exact ⟨v, h1, h2.keep hd kk⟩
  · obtain ⟨h1, h2, h3, vs, h4, h5⟩ := E.own i xs e
    refine ⟨h1, fun z => ?_, h3, vs, by rw [upd_ne (ne_of_none h4 hl)]; exact h4, h5.keep hd kk⟩
    rcases z with z | z
    · exact h2 z
    · exact nl _ (by rw [h4]; exact fun z => nomatch z) z
  · obtain ⟨v, h1, h2, h3, h4, h5⟩ := E.mt i c e
    exact ⟨v, h1, .inl h2, h3, h4, h5.keep hd kk fun u e => by rw [upd_ne (ne_of_none e hl)]; exact e⟩
/-- what is under N and no pot changes as it likes -/
theorem Sta.turn {l : Addr} {o : HO} (E : Sta cls p pn N H0 ad H σ ds) (hN : N l) (hp : ¬ p l) (h0 : H0 l = none) (hm : ∀ (i : Nat) (c : Con), ds[i]? = some (some (Slot.mut c)) → ad i ≠ l) : Sta cls p pn N H0 ad (upd H l o) σ ds := by
  have kk : ∀ a u, ¬ hid N ad ds a → H a = some u → upd H l o a = some u := fun a u n e => by rw [upd_ne (fun z => n (by rw [z]; exact .inl hN))]; exact e
  have pk : ∀ a, p a → IsPot H a → IsPot (upd H l o) a := fun a h ⟨x, y, e, q⟩ => ⟨x, y, by rw [upd_ne (fun z => hp (by rw [← z]; exact h))]; exact e, q⟩
  refine ⟨⟨E.wf.sub, fun a h => ?_, fun a h => pk a h (E.wf.pot a h)⟩, ⟨fun a u n e => by rw [upd_ne (ne_of_none e h0)]; exact E.go.ext a u n e, fun a h q => pk a h (E.go.pot a h q)⟩, E.len, fun i d e => ?_, fun i xs e => ?_, fun q hq => (E.pin q hq).keep (fun _ _ n => n) kk, E.inj, fun i c e => ?_, E.minj⟩
  · by_cases z : a = l
    · rw [z, upd_same]; exact fun z => nomatch z
    · rw [upd_ne z]; exact E.wf.dom a h
  · obtain ⟨v, h1, h2⟩ := E.dat i d e
    exact ⟨v, h1, h2.keep (fun _ _ n => n) kk⟩
  · obtain ⟨h1, h2, h3, vs, h4, h5⟩ := E.own i xs e
    exact ⟨h1, h2, h3, vs, by rw [upd_ne (fun z => h2 (by rw [z]; exact hN))]; exact h4, h5.keep (fun _ _ n => n) kk⟩
  · obtain ⟨v, h1, h2, h3, h4, h5⟩ := E.mt i c e
    exact ⟨v, h1, h2, h3, h4, h5.keep (fun _ _ n => n) kk fun u e' => by rw [upd_ne (hm i c e)]; exact e'⟩
/-- less under N -/
theorem Sta.lessN {N' : Addr → Prop} (E : Sta cls p pn N H0 ad H σ ds) (hs : ∀ a, N' a → N a) (hp : ∀ a, p a → N' a) (hm : ∀ (i : Nat) (c : Con), ds[i]? = some (some (Slot.mut c)) → N' (ad i)) : Sta cls p pn N' H0 ad H σ ds := by
  have hd : ∀ a, hid N' ad ds a → hid N ad ds a := fun a h => h.elim (fun z => .inl (hs a z)) .inr
  refine ⟨⟨hp, fun a h => E.wf.dom a (hs a h), E.wf.pot⟩, E.go, E.len, fun i d e => ?_, fun i xs e => ?_, fun q hq => (E.pin q hq).less hd, E.inj, fun i c e => ?_, E.minj⟩
  · obtain ⟨v, h1, h2⟩ := E.dat i d e
    exact ⟨v, h1, h2.less hd⟩
  · obtain ⟨h1, h2, h3, vs, h4, h5⟩ := E.own i xs e
    exact ⟨h1, fun z => h2 (hs _ z), h3, vs, h4, h5.less hd⟩
  · obtain ⟨v, h1, h2, h3, h4, h5⟩ := E.mt i c e
    exact ⟨v, h1, hm i c e, h3, h4, h5.keep (fun b _ n z => n (hd b z)) (fun _ _ _ e => e) fun _ e => e⟩
end
end Lk

namespace Lk
open PySem PySem.Spec L2

def ownOf : Option Slot → Option (List D)
  | some (.own xs) => some xs
  | _ => none
theorem hid_congr {N : Addr → Prop} {ad : Nat → Addr} {ds ds' : Sts} (h : ds'.map ownOf = ds.map ownOf) : hid N ad ds' = hid N ad ds := by
  have key : ∀ {a b : Sts}, b.map ownOf = a.map ownOf → ∀ (i : Nat) (xs : List D), a[i]? = some (some (Slot.own xs)) → b[i]? = some (some (Slot.own xs)) := by
    intro a b h i xs e
    have e1 : (b.map ownOf)[i]? = some (some xs) := by rw [h, List.getElem?_map, e]; rfl
    rw [List.getElem?_map] at e1
    cases q : b[i]? with
    | none => rw [q] at e1; cases e1
    | some o =>
      rw [q] at e1
      match o, e1 with
      | some (.own ys), e1 => cases e1; rfl
  funext a
  apply propext
  constructor
  · rintro (z | ⟨i, xs, e, q⟩)
    · exact .inl z
    · exact .inr ⟨i, xs, key h.symm i xs e, q⟩
  · rintro (z | ⟨i, xs, e, q⟩)
    · exact .inl z
    · exact .inr ⟨i, xs, key h i xs e, q⟩

section
variable (cls : Cl) (p : Addr → Prop)
/-- from this state te gives a value whose data are such -/
def Ev (te : TE) (ds : Sts) (P : D → Prop) : Prop := ∀ (pn : List (V × D)) (N : Addr → Prop) (H0 : Hp) (ad : Nat → Addr) (σ : L2.St) (H : Hp), Sta cls p pn N H0 ad H σ ds →
  ∀ Q : VK, (∀ v H' d, P d → Go p H H' → At cls (hid N ad ds) H' v d → Q v H') → te σ H Q
def EvA (ta : TA) (ds : Sts) (P : List D → Prop) : Prop := ∀ (pn : List (V × D)) (N : Addr → Prop) (H0 : Hp) (ad : Nat → Addr) (σ : L2.St) (H : Hp), Sta cls p pn N H0 ad H σ ds →
  ∀ Q : List V → Hp → Prop, (∀ vs H' xs, P xs → Go p H H' → AtAll cls (hid N ad ds) H' vs xs → Q vs H') → ta σ H Q
def ET (tt : TT) (ds : Sts) (B : Bool → Prop) : Prop := ∀ (pn : List (V × D)) (N : Addr → Prop) (H0 : Hp) (ad : Nat → Addr) (σ : L2.St) (H : Hp), Sta cls p pn N H0 ad H σ ds →
  ∀ Q : Bool → Hp → Prop, (∀ b H', B b → Go p H H' → Q b H') → tt σ H Q
def EvO (to : TO) (ds : Sts) (O : Option Int → Prop) : Prop := ∀ (pn : List (V × D)) (N : Addr → Prop) (H0 : Hp) (ad : Nat → Addr) (σ : L2.St) (H : Hp), Sta cls p pn N H0 ad H σ ds →
  ∀ Q : Option Int → Hp → Prop, (∀ o H', O o → Go p H H' → Q o H') → to σ H Q
/-- d is stored: the names js change -/
def EvG (g : TG) (js : List Nat) (d : D) (ds ds' : Sts) : Prop := ∀ (pn : List (V × D)) (N : Addr → Prop) (H0 : Hp) (ad : Nat → Addr) (σ : L2.St) (H : Hp), Sta cls p pn N H0 ad H σ ds →
  ∀ v, At cls (hid N ad ds) H v d → ∀ Q : L2.St → Hp → Prop, (∀ σ', Sta cls p pn N H0 ad H σ' ds' → (∀ vs : List Nat, (∀ j ∈ js, j ∈ vs) → L2.wipe σ' vs = L2.wipe σ vs) → Q σ' H) → g v σ H Q
/-- J walks the data xs as long as the things of q stand -/
def Wk (J : It) (q : List (V × D)) (xs : List D) : Prop := ∀ (N : Addr → Prop) (H : Hp), Wf p N H → (∀ x ∈ q, At cls N H x.1 x.2) → ∀ i : Nat,
  (∀ d, xs[i]? = some d → J.go i H ∧ ∀ v H', J.yld i H v H' → Go p H H' ∧ At cls N H' v d) ∧ (i = xs.length → J.stop i H)
def EI (wi : TI) (ds : Sts) (P : List D → Prop) : Prop := ∀ (pn : List (V × D)) (N : Addr → Prop) (H0 : Hp) (ad : Nat → Addr) (σ : L2.St) (H : Hp), Sta cls p pn N H0 ad H σ ds →
  ∀ R : It → Hp → Prop, (∀ J H' xs q, P xs → Go p H H' → (∀ x ∈ q, At cls (hid N ad ds) H' x.1 x.2) → Wk cls p J q xs → R J H') → wi σ H R
/-- a statement: what holds behind it, of what it returns, where it breaks, where it goes on with the loop -/
def Sv (t : TS) (ds : Sts) (nx : Sts → Prop) (rt : D → Prop) (bk ct : Sts → Prop) : Prop := ∀ (pn : List (V × D)) (N : Addr → Prop) (H0 : Hp) (ad : Nat → Addr) (σ : L2.St) (H : Hp), Sta cls p pn N H0 ad H σ ds →
  ∀ Dn : Ends, (∀ ad' σ' H' ds', nx ds' → Sta cls p pn N H0 ad' H' σ' ds' → Dn.nx σ' H') → (∀ v H' d, rt d → Go p H0 H' → At cls N H' v d → Dn.rt v H') →
    (∀ ad' σ' H' ds', bk ds' → Sta cls p pn N H0 ad' H' σ' ds' → Dn.bk σ' H') → (∀ ad' σ' H' ds', ct ds' → Sta cls p pn N H0 ad' H' σ' ds' → Dn.ct σ' H') → t Dn σ H
end

section
variable {cls : Cl} {p : Addr → Prop} {ds ds' : Sts} {ta tb tc te : TE} {tt tu : TT} {P PX PY PZ : D → Prop} {B B' : Bool → Prop}

/-! ### expressions -/
theorem Ev.mono {P' : D → Prop} (h : Ev cls p te ds P) (k : ∀ d, P d → P' d) : Ev cls p te ds P' := fun pn N H0 ad σ H S Q q => h pn N H0 ad σ H S Q fun v H' d hp => q v H' d (k d hp)
theorem ET.mono (h : ET cls p tt ds B) (k : ∀ b, B b → B' b) : ET cls p tt ds B' := fun pn N H0 ad σ H S Q q => h pn N H0 ad σ H S Q fun b H' hp => q b H' (k b hp)
theorem EvA.mono {ta : TA} {P P' : List D → Prop} (h : EvA cls p ta ds P) (k : ∀ d, P d → P' d) : EvA cls p ta ds P' := fun pn N H0 ad σ H S Q q => h pn N H0 ad σ H S Q fun v H' d hp => q v H' d (k d hp)
theorem EI.mono {wi : TI} {P P' : List D → Prop} (h : EI cls p wi ds P) (k : ∀ d, P d → P' d) : EI cls p wi ds P' := fun pn N H0 ad σ H S Q q => h pn N H0 ad σ H S Q fun J H' xs w hp => q J H' xs w (k xs hp)
theorem Sv.mono {t : TS} {nx nx' : Sts → Prop} {rt rt' : D → Prop} {bk ct : Sts → Prop} (h : Sv cls p t ds nx rt bk ct) (k : ∀ d, nx d → nx' d) (k2 : ∀ d, rt d → rt' d) : Sv cls p t ds nx' rt' bk ct :=
  fun pn N H0 ad σ H S Dn q1 q2 => h pn N H0 ad σ H S Dn (fun a s h d z => q1 a s h d (k d z)) (fun v h d z => q2 v h d (k2 d z))

theorem ev_var {i : Nat} {d : D} (e : ds[i]? = some (some (Slot.dat d))) : Ev cls p (tVar i) ds (· = d) := fun pn N H0 ad σ H S Q q =>
  let ⟨v, h1, h2⟩ := S.dat i d e
  ⟨v, h1, q v H d rfl (Go.refl H) h2⟩
theorem ev_int {i : Int} : Ev cls p (tC (.int i)) ds (· = .int i) := fun _ _ _ _ _ H _ Q q => q _ H _ rfl (Go.refl H) (.int i)
theorem ev_bl {b : Bool} : Ev cls p (tC (.bl b)) ds (· = .bl b) := fun _ _ _ _ _ H _ Q q => q _ H _ rfl (Go.refl H) (.bl b)
theorem ev_non : Ev cls p (tC .non) ds (· = .non) := fun _ _ _ _ _ H _ Q q => q _ H _ rfl (Go.refl H) .non
theorem ev_str {x : Str} : Ev cls p (tC (.str x)) ds (· = .str x) := fun _ _ _ _ _ H _ Q q => q _ H _ rfl (Go.refl H) (.str x)

/-- an operation on values -/
def Rv (cls : Cl) (p : Addr → Prop) (r : R2) (PX PY P : D → Prop) : Prop := ∀ (N : Addr → Prop) (H : Hp) (x y : V) (dx dy : D), Wf p N H → At cls N H x dx → At cls N H y dy → PX dx → PY dy →
  ∀ Q : VK, (∀ v H' d, P d → Go p H H' → At cls N H' v d → Q v H') → r x y H Q
theorem ev_op {r : R2} (ha : Ev cls p ta ds PX) (hb : Ev cls p tb ds PY) (hr : Rv cls p r PX PY P) : Ev cls p (tOp r ta tb) ds P := fun pn N H0 ad σ H S Q q =>
  ha pn N H0 ad σ H S _ fun x H1 dx px g1 a1 => hb pn N H0 ad σ H1 (S.mono g1) _ fun y H2 dy py g2 a2 =>
    hr _ H2 x y dx dy (S.mono (g1.trans g2)).hwf (a1.mono S.hsub g2) a2 px py Q fun v H3 d pd g3 a3 => q v H3 d pd ((g1.trans g2).trans g3) a3
/-- whole numbers -/
def IntP (P : D → Prop) : Prop := ∀ d, P d → ∃ i, d = .int i
theorem intP {i : Int} : IntP (· = .int i) := fun _ e => ⟨i, e⟩
def SInt (f : Int → Int → Int) (PX PY : D → Prop) : D → Prop := fun d => ∃ i j, PX (.int i) ∧ PY (.int j) ∧ d = .int (f i j)
def SBl (f : Int → Int → Bool) (PX PY : D → Prop) : D → Prop := fun d => ∃ i j, PX (.int i) ∧ PY (.int j) ∧ d = .bl (f i j)
theorem intP_S {f : Int → Int → Int} : IntP (SInt f PX PY) := fun _ ⟨i, j, _, _, e⟩ => ⟨_, e⟩
theorem rv_I0 {f : Int → Int → Int} (hx : IntP PX) (hy : IntP PY) : Rv cls p (rI0 fun i j => .int (f i j)) PX PY (SInt f PX PY) := fun N H x y dx dy W ax ay px py Q q => by
  obtain ⟨i, rfl⟩ := hx dx px
  obtain ⟨j, rfl⟩ := hy dy py
  cases ax; cases ay
  exact ⟨i, j, rfl, rfl, q _ H _ ⟨i, j, px, py, rfl⟩ (Go.refl H) (.int _)⟩
theorem rv_B0 {f : Int → Int → Bool} (hx : IntP PX) (hy : IntP PY) : Rv cls p (rI0 fun i j => .bl (f i j)) PX PY (SBl f PX PY) := fun N H x y dx dy W ax ay px py Q q => by
  obtain ⟨i, rfl⟩ := hx dx px
  obtain ⟨j, rfl⟩ := hy dy py
  cases ax; cases ay
  exact ⟨i, j, rfl, rfl, q _ H _ ⟨i, j, px, py, rfl⟩ (Go.refl H) (.bl _)⟩
theorem rv_IC {C : Int → Int → Prop} {f : Int → Int → Int} (hx : IntP PX) (hy : IntP PY) (hc : ∀ i j, PX (.int i) → PY (.int j) → C i j) : Rv cls p (rI C fun i j => .int (f i j)) PX PY (SInt f PX PY) := fun N H x y dx dy W ax ay px py Q q => by
  obtain ⟨i, rfl⟩ := hx dx px
  obtain ⟨j, rfl⟩ := hy dy py
  cases ax; cases ay
  exact ⟨i, j, rfl, rfl, hc i j px py, q _ H _ ⟨i, j, px, py, rfl⟩ (Go.refl H) (.int _)⟩
/-- an item by its place -/
theorem rv_ixL {K : PySem.W.Frag} (h : ∀ dx dy, PX dx → PY dy → ∃ xs i d, dx = .lst xs ∧ dy = .int i ∧ atI xs i = some d ∧ P d) : Rv cls p (rIxL K) PX PY P := fun N H x y dx dy W ax ay px py Q q => by
  obtain ⟨xs, i, d, rfl, rfl, e, pd⟩ := h dx dy px py
  cases ay
  cases ax with
  | @lst a vs _ n r hh =>
    unfold atI at e
    rw [← hh.length] at e
    cases e1 : ixN vs.length i with
    | none => rw [e1] at e; cases e
    | some j =>
      rw [e1] at e
      obtain ⟨v, hv, av⟩ := hh.get (show xs[j]? = some d from e)
      exact ⟨a, vs, i, v, rfl, rfl, .inl (.inl r), by unfold atI; rw [e1]; exact hv, q v H d pd (Go.refl H) av⟩
theorem rv_ixT {K : PySem.W.Frag} (h : ∀ dx dy, PX dx → PY dy → ∃ xs i d, dx = .tup xs ∧ dy = .int i ∧ atI xs i = some d ∧ P d) : Rv cls p (rIxT K) PX PY P := fun N H x y dx dy W ax ay px py Q q => by
  obtain ⟨xs, i, d, rfl, rfl, e, pd⟩ := h dx dy px py
  cases ay
  cases ax with
  | @tup a vs _ n r hh =>
    unfold atI at e
    rw [← hh.length] at e
    cases e1 : ixN vs.length i with
    | none => rw [e1] at e; cases e
    | some j =>
      rw [e1] at e
      obtain ⟨v, hv, av⟩ := hh.get (show xs[j]? = some d from e)
      exact ⟨a, vs, i, v, rfl, rfl, .inl (.inl r), by unfold atI; rw [e1]; exact hv, q v H d pd (Go.refl H) av⟩
theorem ev_neg (ha : Ev cls p ta ds PX) (hx : IntP PX) : Ev cls p (tUn (rU fun i => .int (-i)) ta) ds (fun d => ∃ i, PX (.int i) ∧ d = .int (-i)) := fun pn N H0 ad σ H S Q q =>
  ha pn N H0 ad σ H S _ fun x H1 dx px g1 a1 => by
    obtain ⟨i, rfl⟩ := hx dx px
    cases a1
    exact ⟨i, rfl, q _ H1 _ ⟨i, px, rfl⟩ g1 (.int _)⟩

/-! ### arguments, displays, calls -/
variable {t tr : TA} {PA PB : List D → Prop}
theorem ea_nil : EvA cls p tNil ds (· = []) := fun _ _ _ _ _ H _ Q q => q [] H [] rfl (Go.refl H) .nil
theorem ea_cons (ha : Ev cls p te ds PX) (hr : EvA cls p tr ds PA) : EvA cls p (tCons te tr) ds (fun l => ∃ x xs, PX x ∧ PA xs ∧ l = x :: xs) := fun pn N H0 ad σ H S Q q =>
  ha pn N H0 ad σ H S _ fun x H1 dx px g1 a1 => hr pn N H0 ad σ H1 (S.mono g1) _ fun vs H2 xs ps g2 a2 => q _ H2 _ ⟨dx, xs, px, ps, rfl⟩ (g1.trans g2) (.cons (a1.mono S.hsub g2) a2)
theorem fresh_hid {N : Addr → Prop} {H : Hp} {a : Addr} (W : Wf p N H) (h : H a = none) : ¬ N a := fun n => W.dom a n h
theorem ev_tup (h : EvA cls p t ds PA) (hl : ∀ xs, PA xs → xs.length ≤ 100000) : Ev cls p (tTup t) ds (fun d => ∃ xs, PA xs ∧ d = .tup xs) := fun pn N H0 ad σ H S Q q =>
  h pn N H0 ad σ H S _ fun vs H1 xs ps g1 a1 => ⟨by rw [a1.length]; exact Nat.le_trans (hl xs ps) (by decide), fun l hl => q _ _ _ ⟨xs, ps, rfl⟩ (g1.trans (Go.new hl))
    (.tup (fresh_hid (S.mono g1).hwf hl) upd_same (a1.mono S.hsub (Go.new hl)))⟩
theorem ev_lst (h : EvA cls p t ds PA) (hl : ∀ xs, PA xs → xs.length ≤ 100000) : Ev cls p (tLst t) ds (fun d => ∃ xs, PA xs ∧ d = .lst xs) := fun pn N H0 ad σ H S Q q =>
  h pn N H0 ad σ H S _ fun vs H1 xs ps g1 a1 => ⟨by rw [a1.length]; exact Nat.le_trans (hl xs ps) (by decide), fun l hl => q _ _ _ ⟨xs, ps, rfl⟩ (g1.trans (Go.new hl))
    (.lst (fresh_hid (S.mono g1).hwf hl) upd_same (a1.mono S.hsub (Go.new hl)))⟩
/-- a call of what is known, by values -/
def Rc (cls : Cl) (p : Addr → Prop) (r : List V → Hp → VK → Prop) (PA : List D → Prop) (P : D → Prop) : Prop := ∀ (N : Addr → Prop) (H : Hp) (vs : List V) (xs : List D), Wf p N H → AtAll cls N H vs xs → PA xs →
  ∀ Q : VK, (∀ v H' d, P d → Go p H H' → At cls N H' v d → Q v H') → r vs H Q
theorem ev_cb {r : List V → Hp → VK → Prop} (h : EvA cls p t ds PA) (hr : Rc cls p r PA P) : Ev cls p (tCB r t) ds P := fun pn N H0 ad σ H S Q q =>
  h pn N H0 ad σ H S _ fun vs H1 xs ps g1 a1 => hr _ H1 vs xs (S.mono g1).hwf a1 ps Q fun v H2 d pd g2 a2 => q v H2 d pd (g1.trans g2) a2

/-- what a def of these texts promises: n arguments, such ones; then such a value -/
def spG (cls : Cl) (n : Nat) (pre : (Addr → Prop) → List D → Prop) (F : List D → D → Prop) : Sp := fun vs H Q _ => ∃ (p N : Addr → Prop) (xs : List D), Wf p N H ∧ AtAll cls N H vs xs ∧ xs.length = n ∧ pre p xs ∧
  ∀ v H' d, F xs d → Go p H H' → At cls N H' v d → Q v H'
theorem ev_call {n : Nat} {pre : (Addr → Prop) → List D → Prop} {F : List D → D → Prop} (h : EvA cls p t ds PA) (hp : ∀ xs, PA xs → xs.length = n ∧ pre p xs) : Ev cls p (tCall (spG cls n pre F) [] E0 t) ds (fun d => ∃ xs, PA xs ∧ F xs d) := fun pn N H0 ad σ H S Q q =>
  h pn N H0 ad σ H S _ fun vs H1 xs ps g1 a1 => by
    show spG cls n pre F (vs ++ []) H1 Q E0
    rw [List.append_nil]
    exact ⟨p, _, xs, (S.mono g1).hwf, a1, (hp xs ps).1, (hp xs ps).2, fun v H2 d fd g2 a2 => q v H2 d ⟨xs, ps, fd⟩ (g1.trans g2) a2⟩
theorem AtAll.perm {N : Addr → Prop} {H : Hp} {vs : List V} {xs : List D} (h : AtAll cls N H vs xs) : ∀ is : List Nat, AtAll cls N H (perm is vs) (perm is xs)
  | [] => .nil
  | i :: is => by
    unfold Lk.perm
    rw [List.filterMap_cons, List.filterMap_cons]
    cases e : xs[i]? with
    | none =>
      have : vs[i]? = none := List.getElem?_eq_none_iff.mpr (by rw [h.length]; exact List.getElem?_eq_none_iff.mp e)
      rw [this]
      exact AtAll.perm h is
    | some x =>
      obtain ⟨u, h1, h2⟩ := h.get e
      rw [h1]
      exact .cons h2 (AtAll.perm h is)
theorem ev_key {n m : Nat} {is : List Nat} {pre : (Addr → Prop) → List D → Prop} {F : List D → D → Prop} (h : EvA cls p t ds PA) (hp : ∀ xs, PA xs → xs.length = m ∧ (perm is xs).length = n ∧ pre p (perm is xs)) :
    Ev cls p (tKey (spG cls n pre F) is m t) ds (fun d => ∃ xs, PA xs ∧ F (perm is xs) d) := fun pn N H0 ad σ H S Q q =>
  h pn N H0 ad σ H S _ fun vs H1 xs ps g1 a1 =>
    ⟨a1.length.trans (hp xs ps).1, p, _, perm is xs, (S.mono g1).hwf, AtAll.perm a1 is, (hp xs ps).2.1, (hp xs ps).2.2, fun v H2 d fd g2 a2 => q v H2 d ⟨xs, ps, fd⟩ (g1.trans g2) a2⟩

/-! ### tests -/
def BlP (P : D → Prop) : Prop := ∀ d, P d → ∃ b, d = .bl b
theorem blP {b : Bool} : BlP (· = .bl b) := fun _ e => ⟨b, e⟩
theorem blP_S {f : Int → Int → Bool} : BlP (SBl f PX PY) := fun _ ⟨_, _, _, _, e⟩ => ⟨_, e⟩
theorem et_test (h : Ev cls p te ds P) (hb : BlP P) : ET cls p (tTest te) ds (fun b => P (.bl b)) := fun pn N H0 ad σ H S Q q =>
  h pn N H0 ad σ H S _ fun v H1 d pd g a => by
    obtain ⟨b, rfl⟩ := hb d pd
    cases a
    exact ⟨b, rfl, q b H1 pd g⟩
theorem et_B (h : Ev cls p te ds P) (hb : BlP P) : ET cls p (tB te) ds (fun b => P (.bl b)) := fun pn N H0 ad σ H S Q q =>
  h pn N H0 ad σ H S _ fun v H1 d pd g a => by
    obtain ⟨b, rfl⟩ := hb d pd
    cases a
    exact ⟨b, rfl, q b H1 pd g⟩
theorem et_not (h : ET cls p tt ds B) : ET cls p (tNot tt) ds (fun b => B (!b)) := fun pn N H0 ad σ H S Q q =>
  h pn N H0 ad σ H S _ fun b H1 pb g => q (!b) H1 (show B (!!b) by rw [Bool.not_not]; exact pb) g
theorem et_and (h : ET cls p tt ds B) (k : B true → ET cls p tu ds B') : ET cls p (tAnd tt tu) ds (fun b => (b = false ∧ B false) ∨ (B true ∧ B' b)) := fun pn N H0 ad σ H S Q q =>
  h pn N H0 ad σ H S _ fun b H1 pb g => by
    cases b with
    | true => exact k pb pn N H0 ad σ H1 (S.mono g) _ fun c H2 pc g2 => q c H2 (.inr ⟨pb, pc⟩) (g.trans g2)
    | false => exact q false H1 (.inl ⟨rfl, pb⟩) g
theorem et_or (h : ET cls p tt ds B) (k : B false → ET cls p tu ds B') : ET cls p (tOr tt tu) ds (fun b => (b = true ∧ B true) ∨ (B false ∧ B' b)) := fun pn N H0 ad σ H S Q q =>
  h pn N H0 ad σ H S _ fun b H1 pb g => by
    cases b with
    | false => exact k pb pn N H0 ad σ H1 (S.mono g) _ fun c H2 pc g2 => q c H2 (.inr ⟨pb, pc⟩) (g.trans g2)
    | true => exact q true H1 (.inl ⟨rfl, pb⟩) g
theorem et_yes : ET cls p tYes ds (· = true) := fun pn N H0 ad σ H S Q q => q true H rfl (Go.refl H)
theorem ev_andV (h : Ev cls p ta ds PX) (hb : BlP PX) (k : PX (.bl true) → Ev cls p tb ds PY) : Ev cls p (tAndV ta tb) ds (fun d => (d = .bl false ∧ PX (.bl false)) ∨ (PX (.bl true) ∧ PY d)) := fun pn N H0 ad σ H S Q q =>
  h pn N H0 ad σ H S _ fun v H1 d pd g a => by
    obtain ⟨b, rfl⟩ := hb d pd
    cases a
    refine ⟨b, rfl, ?_⟩
    cases b with
    | true => exact k pd pn N H0 ad σ H1 (S.mono g) _ fun c H2 d pc g2 a2 => q c H2 d (.inr ⟨pd, pc⟩) (g.trans g2) a2
    | false => exact q _ H1 _ (.inl ⟨rfl, pd⟩) g (.bl false)
theorem ev_orV (h : Ev cls p ta ds PX) (hb : BlP PX) (k : PX (.bl false) → Ev cls p tb ds PY) : Ev cls p (tOrV ta tb) ds (fun d => (d = .bl true ∧ PX (.bl true)) ∨ (PX (.bl false) ∧ PY d)) := fun pn N H0 ad σ H S Q q =>
  h pn N H0 ad σ H S _ fun v H1 d pd g a => by
    obtain ⟨b, rfl⟩ := hb d pd
    cases a
    refine ⟨b, rfl, ?_⟩
    cases b with
    | false => exact k pd pn N H0 ad σ H1 (S.mono g) _ fun c H2 d pc g2 a2 => q c H2 d (.inr ⟨pd, pc⟩) (g.trans g2) a2
    | true => exact q _ H1 _ (.inl ⟨rfl, pd⟩) g (.bl true)
theorem ev_notV (h : Ev cls p ta ds PX) (hb : BlP PX) : Ev cls p (tNotV ta) ds (fun d => ∃ b, PX (.bl b) ∧ d = .bl (!b)) := fun pn N H0 ad σ H S Q q =>
  h pn N H0 ad σ H S _ fun v H1 d pd g a => by
    obtain ⟨b, rfl⟩ := hb d pd
    cases a
    exact ⟨b, rfl, q _ H1 _ ⟨b, pd, rfl⟩ g (.bl _)⟩
theorem ev_if (h : ET cls p tt ds B) (k : B true → Ev cls p ta ds PX) (k' : B false → Ev cls p tb ds PY) : Ev cls p (tIf tt ta tb) ds (fun d => (B true ∧ PX d) ∨ (B false ∧ PY d)) := fun pn N H0 ad σ H S Q q =>
  h pn N H0 ad σ H S _ fun b H1 pb g => by
    cases b with
    | true => exact k pb pn N H0 ad σ H1 (S.mono g) _ fun c H2 d pc g2 a2 => q c H2 d (.inl ⟨pb, pc⟩) (g.trans g2) a2
    | false => exact k' pb pn N H0 ad σ H1 (S.mono g) _ fun c H2 d pc g2 a2 => q c H2 d (.inr ⟨pb, pc⟩) (g.trans g2) a2
/-- a < b < c -/
theorem ev_chain {f f' : Int → Int → Bool} (ha : Ev cls p ta ds PX) (hb : Ev cls p tb ds PY) (hc : Ev cls p tc ds PZ) (hx : IntP PX) (hy : IntP PY) (hz : IntP PZ) :
    Ev cls p (tChain (rI0 fun i j => .bl (f i j)) (rI0 fun i j => .bl (f' i j)) ta tb tc) ds (fun d => ∃ i j, PX (.int i) ∧ PY (.int j) ∧ ((f i j = false ∧ d = .bl false) ∨ (f i j = true ∧ ∃ k, PZ (.int k) ∧ d = .bl (f' j k)))) := by
  intro pn N H0 ad σ H S Q q
  refine ha pn N H0 ad σ H S _ fun x H1 dx px g1 a1 => ?_
  refine hb pn N H0 ad σ H1 (S.mono g1) _ fun y H2 dy py g2 a2 => ?_
  obtain ⟨i, ei⟩ := hx dx px
  obtain ⟨j, ej⟩ := hy dy py
  subst ei ej
  cases a1
  cases a2
  refine ⟨i, j, rfl, rfl, _, rfl, ?_⟩
  cases e : f i j with
  | false => exact q _ H2 _ ⟨i, j, px, py, .inl ⟨e, rfl⟩⟩ (g1.trans g2) (.bl false)
  | true =>
    refine hc pn N H0 ad σ H2 (S.mono (g1.trans g2)) _ fun z H3 dz pz g3 a3 => ?_
    obtain ⟨k, ek⟩ := hz dz pz
    subst ek
    cases a3
    exact ⟨j, k, rfl, rfl, q _ H3 _ ⟨i, j, px, py, .inr ⟨e, k, pz, rfl⟩⟩ ((g1.trans g2).trans g3) (.bl _)⟩

/-! ### stores -/
variable {g : TG} {js : List Nat} {d : D}
theorem wipe_swap (σ : L2.St) (i : Nat) (x : Option V) (vs : List Nat) (h : i ∈ vs) : L2.wipe (σ.set i x) vs = L2.wipe σ vs := by
  have comm : ∀ (l : List Nat) (τ : L2.St), i ∉ l → L2.wipe (τ.set i x) l = (L2.wipe τ l).set i x := by
    intro l
    induction l with
    | nil => intro τ _; rfl
    | cons v l ih =>
      intro τ hn
      unfold L2.wipe
      rw [ih τ (fun z => hn (List.mem_cons_of_mem _ z)), List.set_comm _ _ (fun z => hn (by rw [z]; exact List.mem_cons_self ..))]
  induction vs with
  | nil => cases h
  | cons v vs ih =>
    by_cases hm : i ∈ vs
    · unfold L2.wipe
      rw [ih hm]
    · have e : v = i := by
        rcases List.mem_cons.mp h with z | z
        · exact z.symm
        · exact absurd z hm
      subst e
      unfold L2.wipe
      rw [comm vs σ hm, List.set_set]
theorem wipe_wipe (σ : L2.St) : ∀ vs : List Nat, L2.wipe (L2.wipe σ vs) vs = L2.wipe σ vs := by
  intro vs
  have gen : ∀ (ls : List Nat), (∀ j ∈ ls, j ∈ vs) → L2.wipe (L2.wipe σ ls) vs = L2.wipe σ vs := by
    intro ls
    induction ls with
    | nil => intro _; rfl
    | cons v ls ih =>
      intro h
      show L2.wipe ((L2.wipe σ ls).set v none) vs = _
      rw [wipe_swap _ _ _ _ (h v (List.mem_cons_self ..)), ih fun j hj => h j (List.mem_cons_of_mem _ hj)]
  exact gen vs fun _ h => h
theorem eg_name {i : Nat} : EvG cls p (gName i) [i] d ds (ds.set i (some (Slot.dat d))) := fun pn N H0 ad σ H S v a Q q =>
  q _ (S.put a) fun vs h => wipe_swap σ i _ vs (h i (List.mem_cons_self ..))
/-- the targets of a tuple, one by one -/
def EvGs (cls : Cl) (p : Addr → Prop) (gs : TGs) (js : List Nat) (xs : List D) (ds ds' : Sts) : Prop := ∀ (pn : List (V × D)) (N : Addr → Prop) (H0 : Hp) (ad : Nat → Addr) (σ : L2.St) (H : Hp) (M : Addr → Prop), Sta cls p pn N H0 ad H σ ds → (∀ a, hid N ad ds a → M a) →
  ∀ vs, AtAll cls M H vs xs → ∀ Q : L2.St → Hp → Prop, (∀ σ', Sta cls p pn N H0 ad H σ' ds' → (∀ ws : List Nat, (∀ j ∈ js, j ∈ ws) → L2.wipe σ' ws = L2.wipe σ ws) → Q σ' H) → gs vs σ H Q
theorem egs_nil : EvGs cls p gNil [] [] ds ds := fun pn N H0 ad σ H M S hM vs a Q q => by
  cases a
  exact ⟨rfl, q σ S fun _ _ => rfl⟩
theorem egs_cons {gs : TGs} {i : Nat} {js : List Nat} {xs : List D} (h : EvGs cls p gs js xs (ds.set i (some (Slot.dat d))) ds') : EvGs cls p (gCons (gName i) gs) (i :: js) (d :: xs) ds ds' := fun pn N H0 ad σ H M S hM vs a Q q => by
  cases a with
  | cons a1 a2 =>
    refine ⟨_, _, rfl, ?_⟩
    refine h pn N H0 ad _ H M (S.put (a1.less hM)) (fun x hx => hM x (hid_set x hx)) _ a2 Q fun σ' S' w => q σ' S' fun ws hw => ?_
    rw [w ws fun j hj => hw j (List.mem_cons_of_mem _ hj), wipe_swap σ i _ ws (hw i (List.mem_cons_self ..))]
theorem eg_tup {K : PySem.W.Frag} {gs : TGs} {n : Nat} {js : List Nat} {xs : List D} (h : EvGs cls p gs js xs ds ds') (hn : xs.length = n) : EvG cls p (gTup K n gs) js (.tup xs) ds ds' := fun pn N H0 ad σ H S v a Q q => by
  cases a with
  | @tup l vs _ nn r hh => exact ⟨l, vs, rfl, .inl (.inl r), hh.length.trans hn, h pn N H0 ad σ H _ S (fun _ z => z) vs hh Q q⟩
end
end Lk

namespace Lk
open PySem PySem.Spec L2

/-! ### zip of a list or tuple with a list or tuple -/
def SqK (K : PySem.W.Frag) (k : Bool) (H : Hp) (a : Addr) (xs : List V) : Prop := if k = true then SqL K H a xs else SqT K H a xs
def ItPos (k : Bool) (h : Heap) (it a : Addr) (i : Nat) : Prop := if k = true then h.IsListIter it a i else h.IsTupleIter it a i
def IsK (k : Bool) (h : Heap) (a : Addr) (its : Array Value) : Prop := if k = true then h.IsList a its else h.IsTuple a its
def ItzS (K : PySem.W.Frag) (k l : Bool) (a b : Addr) : It :=
  ⟨fun i H => ∃ (xs ys : List V) (x y : V), SqK K k H a xs ∧ SqK K l H b ys ∧ xs[i]? = some x ∧ ys[i]? = some y,
   fun i H v H' => ∃ T x y, v = .ref T ∧ H T = none ∧ H' = upd H T (.tup [x, y]) ∧ (∀ xs, SqK K k H a xs → xs[i]? = some x) ∧ ∀ ys, SqK K l H b ys → ys[i]? = some y,
   fun i H => ∃ xs ys : List V, SqK K k H a xs ∧ SqK K l H b ys ∧ i ≤ xs.length ∧ i ≤ ys.length ∧ (i = xs.length ∨ i = ys.length)⟩
theorem drawsK {prog : Program} {w : World} {A : Around} (hh : A.handled = none) (k : Bool) (it a : Addr) (hne : a ≠ it) (its : Array Value) :
    Draws prog w A it [it, a] its.size (fun i v => its[i]? = some v) (fun i h => ItPos k h it a i ∧ IsK k h a its) := by
  cases k with
  | true => exact Draws.list hh it a hne its
  | false => exact Draws.tuple hh it a hne its
section
variable {X : Cx} {pins : List (Addr × Obj)} {σ : L2.St} {H : Hp} {s : Shared} {a : Addr} {xs ys : List V}
theorem seqK {k : Bool} (I : Inv X pins σ H s) (h : SqK X.K k H a xs) : ∃ its : List Value, Vals xs its ∧ IsK k s.heap a its.toArray ∧ a < s.heap.objs.size := by
  cases k with
  | true =>
    obtain ⟨its, r, pl, _⟩ := I.list (show SqL X.K H a xs from h)
    exact ⟨its, r, pl.isList, pl.lt⟩
  | false =>
    obtain ⟨its, r, pl, _⟩ := I.tuple (show SqT X.K H a xs from h)
    obtain ⟨o, ho, _⟩ := id pl
    exact ⟨its, r, pl, Heap.lt_size ho⟩
theorem seqK_inj {k : Bool} (I : Inv X pins σ H s) (h : SqK X.K k H a xs) (h' : SqK X.K k H a ys) : xs = ys := by
  cases k with
  | true => exact I.list_inj (show SqL X.K H a xs from h) (show SqL X.K H a ys from h')
  | false => exact I.tuple_inj (show SqT X.K H a xs from h) (show SqT X.K H a ys from h')
end
theorem itPos_keep {k : Bool} {h h' : Heap} {it a : Addr} {i : Nat} (p : ItPos k h it a i) (e : ∀ o, h.get? it = some o → h'.get? it = some o) : ItPos k h' it a i := by
  cases k with
  | true => exact Heap.IsListIter.at (show h.IsListIter it a i from p) e
  | false => exact Heap.IsTupleIter.at (show h.IsTupleIter it a i from p) e
theorem itPos_live {k : Bool} {h : Heap} {it a : Addr} {i : Nat} (p : ItPos k h it a i) : ∃ o, h.get? it = some o ∧ ∀ v, o.data ≠ .cell v := by
  cases k with
  | true =>
    obtain ⟨o, e, _, d⟩ := (show h.IsListIter it a i from p)
    exact ⟨o, e, fun v q => by rw [d] at q; cases q⟩
  | false =>
    obtain ⟨o, e, _, d⟩ := (show h.IsTupleIter it a i from p)
    exact ⟨o, e, fun v q => by rw [d] at q; cases q⟩

theorem apartK {k : Bool} {h : Heap} {it a : Addr} {i : Nat} {its : Array Value} (p : ItPos k h it a i) (q : IsK k h a its) : a ≠ it := by
  intro e
  subst e
  cases k with
  | true =>
    obtain ⟨o1, e1, c1, _⟩ := (show h.IsListIter a a i from p)
    obtain ⟨o2, e2, c2, _⟩ := (show h.IsList a its from q)
    rw [e1] at e2
    have := Option.some.inj e2
    subst this
    rw [c1] at c2
    simp at c2
  | false =>
    obtain ⟨o1, e1, c1, _⟩ := (show h.IsTupleIter a a i from p)
    obtain ⟨o2, e2, c2, _⟩ := (show h.IsTuple a its from q)
    rw [e1] at e2
    have := Option.some.inj e2
    subst this
    rw [c1] at c2
    simp at c2

theorem turn_zipS {P : Program} {w : World} {K : PySem.W.Frag} {elts : List Expr} {kk : Nat} {tpos : Pos} {k l : Bool} {a b z TI TO i1 i2 : Addr} (S : ZipSep2 z TI TO i1 i2 [i1, a] [i2, b]) :
    Turn P w K (.Tuple elts kk tpos) (ItzS K k l a b) [z, TI, TO, i1, i2] z
      (fun i h => IsZip h z TI TO .none ∧ IsTupOf2 h TI (.ref i1) (.ref i2) ∧ (∃ x y, IsTupOf2 h TO x y) ∧ ItPos k h i1 a i ∧ ItPos l h i2 b i) where
  mem := List.mem_cons_self ..
  obj := by
    rintro i h ⟨hz, hTI, ⟨x, y, hTO⟩, p1, p2⟩ c hc
    have hc' : c = z ∨ c = TI ∨ c = TO ∨ c = i1 ∨ c = i2 := by simpa using hc
    rcases hc' with q | q | q | q | q <;> subst q
    · exact ⟨_, hz, fun v q => nomatch q⟩
    · exact ⟨_, hTI, fun v q => nomatch q⟩
    · exact ⟨_, hTO, fun v q => nomatch q⟩
    · exact itPos_live p1
    · exact itPos_live p2
  keep := by
    rintro i h h' ⟨hz, hTI, ⟨x, y, hTO⟩, p1, p2⟩ kp
    exact ⟨kp z (by simp) _ hz, kp TI (by simp) _ hTI, ⟨x, y, kp TO (by simp) _ hTO⟩, itPos_keep p1 (kp i1 (by simp)), itPos_keep p2 (kp i2 (by simp))⟩
  item := by
    rintro X rfl rfl rfl hc i pins s σ H E I hf ⟨hz, hTI, ⟨x0, y0, hTO⟩, p1, p2⟩ ⟨xs, ys, x, y, hqx, hqy, hx, hy⟩
    obtain ⟨is1, r1, k1, la⟩ := seqK I hqx
    obtain ⟨is2, r2, k2, lb⟩ := seqK I hqy
    obtain ⟨u, hu, ru⟩ := r1.get hx
    obtain ⟨v, hv, rv⟩ := r2.get hy
    have n1 : a ≠ i1 := apartK p1 k1
    have n2 : b ≠ i2 := apartK p2 k2
    have hzl : z < s.heap.objs.size := Heap.lt_size hz
    have hh : X.A.handled = none := I.ok.hd hc
    refine wpAny_pyNext_zipD2_item S (drawsK (A := X.A.in1) hh k i1 a n1 is1.toArray) (drawsK (A := X.A.in1) hh l i2 b n2 is2.toArray) hz hTI hTO ⟨p1, k1⟩ ⟨p2, k2⟩
      (by simpa using (List.getElem?_eq_some_iff.mp hu).1) (by simpa using (List.getElem?_eq_some_iff.mp hv).1) fun x1 x2 h' tk q1 q2 z' TO' st1 st2 hT hsz hk => ?_
    have ex1 : x1 = u := by
      have q1 : is1.toArray[i]? = some x1 := q1
      rw [List.getElem?_toArray, hu] at q1
      exact (Option.some.inj q1).symm
    have ex2 : x2 = v := by
      have q2 : is2.toArray[i]? = some x2 := q2
      rw [List.getElem?_toArray, hv] at q2
      exact (Option.some.inj q2).symm
    subst ex1 ex2
    refine ⟨_, rfl, wpAny_letOwnedTupleGo_zip (s := { s with heap := h', toks := tk }) z' fun h2 z2 sb => ?_⟩
    have hT2 : h2.get? s.heap.objs.size = some { cls := .type "tuple", data := .seq #[x1, x2] } := (sb.2 _ (Nat.ne_of_gt hzl)).trans hT
    have new : ObjOk X.prog X.w (upd H s.heap.objs.size (.tup [x, y])) h2 s.heap.objs.size (.tup [x, y]) :=
      ⟨(by decide : 2 ≤ sizeLine), [x1, x2], .cons ru (.cons rv .nil), ⟨_, hT2, rfl, _, rfl⟩⟩
    have I1 : Inv X pins σ (upd H s.heap.objs.size (.tup [x, y])) { s with heap := h2, toks := tk } :=
      I.turnedNew (ch := [z, TI, TO, i1, i2]) (fun c o hb q => (sb.2 c (fun e => hb (by simp [e]))).trans (hk c o (fun e => hb (by simp [e])) (fun e => hb (by simp [e])) (fun e => hb (by simp [e])) (fun e => hb (by simp [e])) q)) hf (Nat.le_refl _) new
    have back : ∀ c o, c ≠ z → h'.get? c = some o → h2.get? c = some o := fun c o n e => (sb.2 c n).trans e
    refine ⟨.ref s.heap.objs.size, _, I1, rfl, ⟨_, x, y, rfl, I.hok.fresh (Nat.le_refl _), rfl, fun l hl => by rw [seqK_inj I hl hqx]; exact hx, fun l hl => by rw [seqK_inj I hl hqy]; exact hy⟩, ⟨z2, ?_, ⟨x1, x2, ?_⟩, ?_, ?_⟩, ?_⟩
    · exact back _ _ S.TIz (hk _ _ S.TIz S.TITO S.TIi1 S.TIi2 hTI)
    · exact back _ _ S.TOz TO'
    · exact itPos_keep st1.1 fun o e => back _ _ S.zi1.symm e
    · exact itPos_keep st2.1 fun o e => back _ _ S.zi2.symm e
    · intro c hcm
      have hlt : c < s.heap.objs.size := by
        have hc' : c = z ∨ c = TI ∨ c = TO ∨ c = i1 ∨ c = i2 := by simpa using hcm
        rcases hc' with q | q | q | q | q <;> subst q
        · exact hzl
        · exact Heap.lt_size hTI
        · exact Heap.lt_size hTO
        · obtain ⟨o, e, _⟩ := itPos_live p1
          exact Heap.lt_size e
        · obtain ⟨o, e, _⟩ := itPos_live p2
          exact Heap.lt_size e
      rw [upd_ne (Nat.ne_of_lt hlt)]
      exact (hf c hcm).1
  done := by
    rintro X rfl rfl rfl hc i pins s σ H E I hf ⟨hz, hTI, ⟨x0, y0, hTO⟩, p1, p2⟩ ⟨xs, ys, hqx, hqy, l1, l2, he⟩
    obtain ⟨is1, r1, k1, la⟩ := seqK I hqx
    obtain ⟨is2, r2, k2, lb⟩ := seqK I hqy
    have e1 : xs.length = is1.toArray.size := by rw [r1.length]; simp
    have e2 : ys.length = is2.toArray.size := by rw [r2.length]; simp
    have hh : X.A.handled = none := I.ok.hd hc
    rw [e1] at l1 he
    rw [e2] at l2 he
    exact wpAny_pyNext_zipD2_end S (drawsK (A := X.A.in1) hh k i1 a (apartK p1 k1) is1.toArray) (drawsK (A := X.A.in1) hh l i2 b (apartK p2 k2) is2.toArray) hz hTI hTO ⟨p1, k1⟩ ⟨p2, k2⟩ l1 l2 he
      fun h' tk hk => ⟨rfl, I.turnedL (ch := [z, TI, TO, i1, i2]) (fun c o hb q => hk c o (fun e => hb (by simp [e])) (fun e => hb (by simp [e])) (fun e => hb (by simp [e])) (fun e => hb (by simp [e])) q) hf⟩
  self := fun A i s Q E st h => wpAny_pyIter_zip st.1 h
def begK (k : Bool) (a : Addr) : Obj := if k = true then { cls := .type "list_iterator", data := .fields #[.ref a, .int 0 0] } else { cls := .type "tuple_iterator", data := .fields #[.ref a, .int 0 0] }
theorem beginsK (k : Bool) (a : Addr) (its : Array Value) : Begins (.ref a) (begK k a) fun h => IsK k h a its := by
  cases k with
  | true => exact begins_list a its
  | false => exact begins_tuple a its
theorem posK {k : Bool} {h : Heap} {it a : Addr} (e : h.get? it = some (begK k a)) : ItPos k h it a 0 := by
  cases k with
  | true => exact ⟨_, e, rfl, rfl⟩
  | false => exact ⟨_, e, rfl, rfl⟩
def iZipS (K : PySem.W.Frag) (ta : TA) : TI := fun σ H R => ta σ H fun vs H1 => ∃ (a b : Addr) (k l : Bool) (xs ys : List V), vs = [.ref a, .ref b] ∧ SqK K k H1 a xs ∧ SqK K l H1 b ys ∧ R (ItzS K k l a b) H1
theorem pi_zipS {X : Cx} {e e2 : Expr} {ta : TA} {p pos tpos : Pos} {elts : List Expr} {kk : Nat} (hg : Gl X "zip") (hm : X.mg "zip" = none) (ha : PA X [e, e2] ta)
    (hs : starEach [e, e2] X.env = (false, eval e X.env) :: starEach [e2] X.env := by rfl) (hpl : (backTo pos (starEach [e2] X.env)).any (·.1) = false := by rfl) :
    PI X (.Tuple elts kk tpos) (.Call (.Name "zip" p) [e, e2] [] pos) (iZipS X.K ta) := by
  refine ⟨fun pins s σ H R I h => PyProof.Rows.Call_ (ld_blt I hg hm PyProof.Rows.boot_zip (PyProof.Rows.callWith_type1 (thn (ha.run pos pins s σ H _ I h) fun us s1 ⟨vs, H1, I1, r1, q1⟩ => ?_) hs hpl))⟩
  obtain ⟨a, b, k, l, xs, ys, ex, hqx, hqy, q⟩ := q1
  subst ex
  cases r1 with
  | cons r rr =>
  cases rr with
  | cons r' rr =>
  cases rr
  cases r
  cases r'
  obtain ⟨is1, rv1, k1, la⟩ := seqK I1 hqx
  obtain ⟨is2, rv2, k2, lb⟩ := seqK I1 hqy
  refine zip_begins2 (beginsK k a is1.toArray) (beginsK l b is2.toArray) k1 k2 fun h' hz hTI hTO g1 g2 hsz hk => wpAny_pyIter_zip hz ?_
  have I2 : Inv X pins σ H1 { s1 with heap := h' } := I1.kept (t' := s1.toks) hk
  refine ⟨s1.heap.objs.size + 4, [s1.heap.objs.size + 4, s1.heap.objs.size + 2, s1.heap.objs.size + 3, s1.heap.objs.size, s1.heap.objs.size + 1], _, _, H1, rfl, I2,
    turn_zipS (zip_sep2 (fp1 := [a]) (fp2 := [b]) (by simpa using la) (by simpa using lb)), ⟨hz, hTI, ⟨_, _, hTO⟩, posK g1, posK g2⟩, fun c hcm => ?_, q⟩
  have hc' : c = s1.heap.objs.size + 4 ∨ c = s1.heap.objs.size + 2 ∨ c = s1.heap.objs.size + 3 ∨ c = s1.heap.objs.size ∨ c = s1.heap.objs.size + 1 := by simpa using hcm
  have hle : s1.heap.objs.size ≤ c := by
    have : c = s1.heap.objs.size + 4 ∨ c = s1.heap.objs.size + 2 ∨ c = s1.heap.objs.size + 3 ∨ c = s1.heap.objs.size + 0 ∨ c = s1.heap.objs.size + 1 := hc'
    rcases this with z | z | z | z | z <;> (rw [z]; exact Nat.le_add_right _ _)
  obtain ⟨f1, f2, f3, f4, f5, f6⟩ := I1.fpOk hle (I1.hok.fresh hle)
  exact ⟨f1, f2, f3, f4, f5, f6⟩
end Lk

namespace Lk
open PySem PySem.Spec L2

section
variable {cls : Cl} {p : Addr → Prop} {ds ds' : Sts} {ta tb tc te : TE} {tt tu : TT} {P PX PY PZ : D → Prop} {B B' : Bool → Prop} {t tr : TA} {PA PB : List D → Prop}

/-! ### what is walked -/
theorem wk_list {K : PySem.W.Frag} {a : Addr} {xs : List D} : Wk cls p (Itl K a) [(.ref a, .lst xs)] xs := fun N H W h i => by
  cases h _ (List.mem_cons_self ..) with
  | @lst _ vs _ n r hh =>
    refine ⟨fun d e => ?_, fun e => ⟨vs, .inl (.inl r), by rw [hh.length]; exact Nat.le_of_eq e.symm⟩⟩
    obtain ⟨v, hv, av⟩ := hh.get e
    refine ⟨⟨vs, v, .inl (.inl r), hv⟩, fun w H' y => ?_⟩
    obtain ⟨rfl, y⟩ := y
    have := y vs (.inl (.inl r))
    rw [hv] at this
    cases this
    exact ⟨Go.refl _, av⟩
theorem wk_tup {K : PySem.W.Frag} {a : Addr} {xs : List D} : Wk cls p (Itt K a) [(.ref a, .tup xs)] xs := fun N H W h i => by
  cases h _ (List.mem_cons_self ..) with
  | @tup _ vs _ n r hh =>
    refine ⟨fun d e => ?_, fun e => ⟨vs, .inl (.inl r), by rw [hh.length]; exact Nat.le_of_eq e.symm⟩⟩
    obtain ⟨v, hv, av⟩ := hh.get e
    refine ⟨⟨vs, v, .inl (.inl r), hv⟩, fun w H' y => ?_⟩
    obtain ⟨rfl, y⟩ := y
    have := y vs (.inl (.inl r))
    rw [hv] at this
    cases this
    exact ⟨Go.refl _, av⟩
def irng (lo : Int) (n : Nat) : List D := (List.range n).map fun (i : Nat) => D.int (lo + i)
theorem wk_range {lo : Int} {n : Nat} : Wk cls p (Itr lo n) [] (irng lo n) := fun N H W h i => by
  refine ⟨fun d e => ?_, fun e => ?_⟩
  · unfold irng at e
    rw [List.getElem?_map] at e
    cases q : (List.range n)[i]? with
    | none => rw [q] at e; cases e
    | some j =>
      rw [q] at e
      cases e
      have hi : i < n := by
        have := (List.getElem?_eq_some_iff.mp q).1
        rwa [List.length_range] at this
      have hj : j = i := by
        rw [List.getElem?_range hi] at q
        exact (Option.some.inj q).symm
      subst hj
      refine ⟨hi, fun v H' y => ?_⟩
      obtain ⟨rfl, rfl⟩ := y
      exact ⟨Go.refl _, .int _⟩
  · unfold irng at e
    rw [List.length_map, List.length_range] at e
    exact Nat.le_of_eq e.symm
def zips : List D → List D → List D
  | x :: xs, y :: ys => .tup [x, y] :: zips xs ys
  | _, _ => []
theorem zips_get : ∀ {xs ys : List D} {i : Nat} {d : D}, (zips xs ys)[i]? = some d → ∃ x y, xs[i]? = some x ∧ ys[i]? = some y ∧ d = .tup [x, y]
  | [], _, _, _, e => nomatch e
  | _ :: _, [], _, _, e => nomatch e
  | x :: xs, y :: ys, 0, d, e => by
    have e : some (D.tup [x, y]) = some d := e
    cases e
    exact ⟨x, y, rfl, rfl, rfl⟩
  | _ :: xs, _ :: ys, i + 1, d, e => zips_get (xs := xs) (ys := ys) (i := i) e
theorem zips_len : ∀ {xs ys : List D}, (zips xs ys).length = min xs.length ys.length
  | [], _ => by rw [List.length_nil, Nat.zero_min]; rfl
  | _ :: _, [] => by rw [List.length_nil, Nat.min_zero]; rfl
  | x :: xs, y :: ys => by
    show (zips xs ys).length + 1 = min (xs.length + 1) (ys.length + 1)
    rw [zips_len]
    omega
/-- a list or a tuple -/
def sq (k : Bool) (xs : List D) : D := if k = true then .lst xs else .tup xs
theorem at_sq {K : PySem.W.Frag} {N : Addr → Prop} {H : Hp} {k : Bool} {a : Addr} {xs : List D} (h : At cls N H (.ref a) (sq k xs)) : ∃ vs, SqK K k H a vs ∧ AtAll cls N H vs xs := by
  cases k with
  | true => cases h with | @lst _ vs _ n r hh => exact ⟨vs, .inl (.inl r), hh⟩
  | false => cases h with | @tup _ vs _ n r hh => exact ⟨vs, .inl (.inl r), hh⟩
theorem ref_sq {N : Addr → Prop} {H : Hp} {k : Bool} {v : V} {xs : List D} (h : At cls N H v (sq k xs)) : ∃ a, v = .ref a := by
  cases k with
  | true => cases h with | @lst a vs _ n r hh => exact ⟨a, rfl⟩
  | false => cases h with | @tup a vs _ n r hh => exact ⟨a, rfl⟩
theorem wk_zipS {K : PySem.W.Frag} {k l : Bool} {a b : Addr} {xs ys : List D} : Wk cls p (ItzS K k l a b) [(.ref a, sq k xs), (.ref b, sq l ys)] (zips xs ys) := fun N H W h i => by
  obtain ⟨vs, r, hh⟩ := at_sq (K := K) (h _ (List.mem_cons_self ..))
  obtain ⟨ws, r', hh'⟩ := at_sq (K := K) (h _ (List.mem_cons_of_mem _ (List.mem_cons_self ..)))
  refine ⟨fun d e => ?_, fun e => ⟨vs, ws, r, r', ?_⟩⟩
  · obtain ⟨x, y, ex, ey, rfl⟩ := zips_get e
    obtain ⟨v, hv, av⟩ := hh.get ex
    obtain ⟨w, hw, aw⟩ := hh'.get ey
    refine ⟨⟨vs, ws, v, w, r, r', hv, hw⟩, fun u H' z => ?_⟩
    obtain ⟨T, x2, y2, rfl, hT, rfl, z1, z2⟩ := z
    have e1 := z1 vs r
    have e2 := z2 ws r'
    rw [hv] at e1
    rw [hw] at e2
    cases e1
    cases e2
    have g : Go p H (upd H T (.tup [v, w])) := Go.new hT
    exact ⟨g, .tup (fresh_hid W hT) upd_same (.cons (av.mono W.sub g) (.cons (aw.mono W.sub g) .nil))⟩
  · rw [zips_len] at e
    rw [hh.length, hh'.length]
    omega

/-- either of two readings -/
def iOr (w1 w2 : TI) : TI := fun σ H R => w1 σ H R ∨ w2 σ H R
theorem pi_or {X : Cx} {tg it : Expr} {w1 w2 : TI} (h1 : PI X tg it w1) (h2 : PI X tg it w2) : PI X tg it (iOr w1 w2) :=
  ⟨fun pins s σ H R I h => h.elim (h1.run pins s σ H R I) (h2.run pins s σ H R I)⟩
theorem ei_l {w1 w2 : TI} (h : EI cls p w1 ds PA) : EI cls p (iOr w1 w2) ds PA := fun pn N H0 ad σ H S R q => .inl (h pn N H0 ad σ H S R q)
theorem ei_r {w1 w2 : TI} (h : EI cls p w2 ds PA) : EI cls p (iOr w1 w2) ds PA := fun pn N H0 ad σ H S R q => .inr (h pn N H0 ad σ H S R q)
def eOr (t1 t2 : TE) : TE := fun σ H Q => t1 σ H Q ∨ t2 σ H Q
theorem pe_or2 {X : Cx} {e : Expr} {t1 t2 : TE} (h1 : PE X e t1) (h2 : PE X e t2) : PE X e (eOr t1 t2) :=
  ⟨fun pins s σ H Q I h => h.elim (h1.run pins s σ H Q I) (h2.run pins s σ H Q I)⟩
theorem ev_l {t1 t2 : TE} (h : Ev cls p t1 ds P) : Ev cls p (eOr t1 t2) ds P := fun pn N H0 ad σ H S Q q => .inl (h pn N H0 ad σ H S Q q)
theorem ev_r {t1 t2 : TE} (h : Ev cls p t2 ds P) : Ev cls p (eOr t1 t2) ds P := fun pn N H0 ad σ H S Q q => .inr (h pn N H0 ad σ H S Q q)

theorem ei_list {K : PySem.W.Frag} (h : Ev cls p te ds P) (hp : ∀ d, P d → ∃ xs, d = .lst xs) : EI cls p (iList K te) ds (fun xs => P (.lst xs)) := fun pn N H0 ad σ H S R q =>
  h pn N H0 ad σ H S _ fun v H1 d pd g a => by
    obtain ⟨xs, rfl⟩ := hp d pd
    cases a with
    | @lst a vs _ n r hh =>
      refine ⟨a, rfl, ⟨vs, .inl (.inl r)⟩, q _ H1 xs [(.ref a, .lst xs)] pd g (fun x hx => ?_) wk_list⟩
      rw [List.mem_singleton] at hx
      rw [hx]
      exact .lst n r hh
theorem ei_tup {K : PySem.W.Frag} (h : Ev cls p te ds P) (hp : ∀ d, P d → ∃ xs, d = .tup xs) : EI cls p (iTup K te) ds (fun xs => P (.tup xs)) := fun pn N H0 ad σ H S R q =>
  h pn N H0 ad σ H S _ fun v H1 d pd g a => by
    obtain ⟨xs, rfl⟩ := hp d pd
    cases a with
    | @tup a vs _ n r hh =>
      refine ⟨a, rfl, ⟨vs, .inl (.inl r)⟩, q _ H1 xs [(.ref a, .tup xs)] pd g (fun x hx => ?_) wk_tup⟩
      rw [List.mem_singleton] at hx
      rw [hx]
      exact .tup n r hh
theorem ei_range1 (h : EvA cls p t ds PA) (hp : ∀ xs, PA xs → ∃ n : Int, xs = [.int n] ∧ -(2 ^ 62) ≤ n ∧ n < 2 ^ 62) : EI cls p (iRng1 t) ds (fun xs => ∃ n : Int, PA [.int n] ∧ xs = irng 0 n.toNat) := fun pn N H0 ad σ H S R q =>
  h pn N H0 ad σ H S _ fun vs H1 xs ps g a => by
    obtain ⟨n, rfl, h1, h2⟩ := hp xs ps
    cases a with
    | cons a b =>
      cases a
      cases b
      exact ⟨n, rfl, h1, h2, q _ H1 _ [] ⟨n, ps, rfl⟩ g (fun x hx => nomatch hx) wk_range⟩
theorem ei_range2 (h : EvA cls p t ds PA) (hp : ∀ xs, PA xs → ∃ m n : Int, xs = [.int m, .int n] ∧ -(2 ^ 62) ≤ m ∧ m < 2 ^ 62 ∧ -(2 ^ 62) ≤ n ∧ n < 2 ^ 62) :
    EI cls p (iRng2 t) ds (fun xs => ∃ m n : Int, PA [.int m, .int n] ∧ xs = irng m (n - m).toNat) := fun pn N H0 ad σ H S R q =>
  h pn N H0 ad σ H S _ fun vs H1 xs ps g a => by
    obtain ⟨m, n, rfl, h1, h2, h3, h4⟩ := hp xs ps
    cases a with
    | cons a b =>
      cases a
      cases b with
      | cons b c =>
        cases b
        cases c
        exact ⟨m, n, rfl, ⟨h1, h2, h3, h4⟩, q _ H1 _ [] ⟨m, n, ps, rfl⟩ g (fun x hx => nomatch hx) wk_range⟩
theorem ei_zip {K : PySem.W.Frag} (h : EvA cls p t ds PA) (hp : ∀ xs, PA xs → ∃ k l a b, xs = [sq k a, sq l b]) : EI cls p (iZipS K t) ds (fun xs => ∃ k l a b, PA [sq k a, sq l b] ∧ xs = zips a b) := fun pn N H0 ad σ H S R q =>
  h pn N H0 ad σ H S _ fun vs H1 xs ps g a => by
    obtain ⟨k, l, m, n, rfl⟩ := hp xs ps
    cases a with
    | cons a b =>
    cases b with
    | cons b c =>
      cases c
      obtain ⟨a', rfl⟩ := ref_sq a
      obtain ⟨b', rfl⟩ := ref_sq b
      obtain ⟨vs, r, _⟩ := at_sq (K := K) a
      obtain ⟨ws, r', _⟩ := at_sq (K := K) b
      refine ⟨a', b', k, l, vs, ws, rfl, r, r', q _ H1 _ _ ⟨_, _, _, _, ps, rfl⟩ g (fun x hx => ?_) wk_zipS⟩
      rcases List.mem_cons.mp hx with z | hx
      · rw [z]; exact a
      · rw [List.mem_singleton] at hx
        rw [hx]; exact b

/-! ### comprehensions -/
theorem Paired.snoc {α β : Type} {F : α → β → Prop} : ∀ {xs : List α} {ys : List β} {x : α} {y : β}, Paired F xs ys → F x y → Paired F (xs ++ [x]) (ys ++ [y])
  | _, _, _, _, .nil, h => .cons h .nil
  | _, _, _, _, .cons r t, h => .cons r (Paired.snoc t h)
theorem Go.chg {H H1 H' : Hp} {l : Addr} {o : HO} (g : Go p H H') (hl : H l = none) (hp : ∀ a, p a → H a ≠ none) : Go p H (upd H' l o) :=
  ⟨fun a u n e => by rw [upd_ne (ne_of_none e hl)]; exact g.ext a u n e, fun a h q => by
    obtain ⟨x, y, e, z⟩ := g.pot a h q
    exact ⟨x, y, by rw [upd_ne (fun w => hp a h (by rw [w]; exact hl))]; exact e, z⟩⟩
theorem ev_lc {wi : TI} {g : TG} {vs : List Nat} {js : List Nat} {PI : List D → Prop} {b : D → Bool} {Pe : D → D → Prop} (hi : EI cls p wi ds PI) (hz : ∀ xs, PI xs → xs.length ≤ 100000) (hj : ∀ j ∈ js, j ∈ vs)
    (h : ∀ xs, PI xs → ∀ x ∈ xs, ∃ ds', EvG cls p g js x (wipeD ds vs) ds' ∧ ds'.map ownOf = ds.map ownOf ∧ ET cls p tt ds' (· = b x) ∧ (b x = true → Ev cls p te ds' (Pe x)))
    (hw : (wipeD ds vs).map ownOf = ds.map ownOf) :
    Ev cls p (tLc wi g tt te vs) ds (fun d => ∃ xs ys, PI xs ∧ Paired Pe (xs.filter b) ys ∧ d = .lst ys) := by
  intro pn N H0 ad σ H S Q q
  refine hi pn N H0 ad σ H S _ fun J H1 xs qs px g1 hq wk => ?_
  intro DD hD
  have S1 := S.mono g1
  have hNl : ¬ hid N ad ds DD := fresh_hid S1.hwf hD
  have hpD : ¬ p DD := fun z => hNl (S1.hsub _ z)
  have h0D : H0 DD = none := by
    cases e : H0 DD with
    | none => rfl
    | some o => rw [S1.go.ext _ _ hpD e] at hD; cases hD
  have hp1 : ∀ a, p a → H1 a ≠ none := fun a z => S1.wf.dom a (S1.wf.sub a z)
  let N2 : Addr → Prop := fun a => N a ∨ a = DD
  have hmD : ∀ (i : Nat) (c : Con), ds[i]? = some (some (Slot.mut c)) → ad i ≠ DD := fun i c e z => by
    obtain ⟨_, _, _, _, _, hc⟩ := S1.mt i c e
    exact hc.ne (by rw [z]; exact hD)
  have SL : Sta cls p (qs ++ pn) N2 H0 ad (upd H1 DD (.lst [])) σ ds := (S1.pins hq).lay hD
  refine ⟨fun i m H' => m = xs.length - i ∧ i ≤ xs.length ∧ (∃ acc ys, H' DD = some (.lst acc) ∧ AtAll cls (hid N2 ad ds) H' acc ys ∧ Paired Pe ((xs.take i).filter b) ys) ∧ Sta cls p (qs ++ pn) N2 H0 ad H' σ ds ∧ Go p H1 H',
    ⟨xs.length, by rw [Nat.sub_zero], Nat.zero_le _, ⟨[], [], upd_same, .nil, .nil⟩, SL, (Go.refl H1).chg (H1 := H1) hD hp1⟩, ?_⟩
  rintro i m H' ⟨rfl, hi2, ⟨acc, ys, e, aa, pp⟩, S2, g2⟩
  have wki := wk _ H' S2.hwf (fun x hx => S2.pin x (List.mem_append_left _ hx)) i
  by_cases hlt : i < xs.length
  · refine .inr ?_
    have ei : xs[i]? = some xs[i] := List.getElem?_eq_getElem hlt
    obtain ⟨k1, k2⟩ := wki.1 _ ei
    refine ⟨k1, fun H' => (∃ acc ys, H' DD = some (.lst acc) ∧ AtAll cls (hid N2 ad ds) H' acc ys ∧ Paired Pe ((xs.take (i + 1)).filter b) ys) ∧ Sta cls p (qs ++ pn) N2 H0 ad H' σ ds ∧ Go p H1 H',
      fun H3 ⟨z1, z2, z3⟩ => ⟨xs.length - (i + 1), by omega, rfl, hlt, z1, z2, z3⟩, fun x H3 y => ?_⟩
    obtain ⟨g3, a3⟩ := k2 x H3 y
    have S3 := S2.mono g3
    obtain ⟨ds', hg, ho, ht, he⟩ := h xs px xs[i] (List.getElem_mem hlt)
    have ew : hid N2 ad (wipeD ds vs) = hid N2 ad ds := hid_congr hw
    have ed : hid N2 ad ds' = hid N2 ad ds := hid_congr ho
    refine hg _ N2 H0 ad _ H3 (S3.wipe vs) x (by rw [ew]; exact a3) _ fun σ' S4 w => ⟨?_, ?_⟩
    · rw [w vs hj, wipe_wipe]
    refine ht _ N2 H0 ad σ' H3 S4 _ fun c H4 ec g4 => ?_
    have S5 := S3.mono g4
    have tk : xs.take (i + 1) = xs.take i ++ [xs[i]] := by rw [List.take_add_one, ei]; rfl
    subst ec
    cases hb : b xs[i] with
    | true =>
      rw [if_pos rfl]
      refine he hb _ N2 H0 ad σ' H4 (S4.mono g4) _ fun v H5 d pd g5 a5 => ?_
      rw [ed] at a5
      have S6 := S5.mono g5
      have e5 : H5 DD = some (.lst acc) := ((g3.trans g4).trans g5).ext _ _ hpD e
      have a6 : AtAll cls (hid N2 ad ds) H5 acc ys := aa.mono S2.hsub ((g3.trans g4).trans g5)
      refine ⟨acc, e5, ?_, ⟨_, ys ++ [d], upd_same, (a6.append (.cons a5 .nil)).keep (fun _ _ n => n) (fun a o n e => by rw [upd_ne (fun z => n (by rw [z]; exact .inl (.inr rfl)))]; exact e), ?_⟩, S6.turn (.inr rfl) hpD h0D hmD, (((g2.trans g3).trans g4).trans g5).chg (H1 := H1) hD hp1⟩
      · have l1 : acc.length = ys.length := aa.length
        have l2 : ys.length = ((xs.take i).filter b).length := pp.length.symm
        have l3 : ((xs.take i).filter b).length ≤ xs.length := Nat.le_trans (List.length_filter_le _ _) (by rw [List.length_take]; exact Nat.min_le_right _ _)
        have := hz xs px
        exact Nat.lt_of_le_of_lt (show acc.length ≤ 100000 by omega) (by decide)
      · rw [tk, List.filter_append, List.filter_cons, hb]
        simp only [if_true, List.filter_nil]
        exact Paired.snoc pp pd
    | false =>
      rw [if_neg Bool.false_ne_true]
      have e4 : H4 DD = some (.lst acc) := (g3.trans g4).ext _ _ hpD e
      refine ⟨⟨acc, ys, e4, aa.mono S2.hsub (g3.trans g4), ?_⟩, S5, (g2.trans g3).trans g4⟩
      rw [tk, List.filter_append, List.filter_cons, hb]
      simp only [Bool.false_eq_true, if_false, List.filter_nil, List.append_nil]
      exact pp
  · have ei : i = xs.length := by omega
    subst ei
    refine .inl ⟨wki.2 rfl, q _ H' _ ⟨xs, ys, px, ?_, rfl⟩ (g1.trans g2) (.lst hNl e (aa.less fun a z => z.elim (fun y => .inl (.inl y)) .inr))⟩
    rw [List.take_length] at pp
    exact pp

/-! ### statements -/
variable {nx nx' bk ct : Sts → Prop} {rt : D → Prop} {ts tu' : TS}
theorem sv_seq (h1 : Sv cls p ts ds nx' rt bk ct) (h2 : ∀ ds', nx' ds' → Sv cls p tu' ds' nx rt bk ct) : Sv cls p (tSeq ts tu') ds nx rt bk ct := fun pn N H0 ad σ H S Dn q1 q2 q3 q4 =>
  h1 pn N H0 ad σ H S { Dn with nx := tu' Dn } (fun ad' σ' H' ds' z S' => h2 ds' z pn N H0 ad' σ' H' S' Dn q1 q2 q3 q4) q2 q3 q4
theorem sv_next (h : nx ds) : Sv cls p tNext ds nx rt bk ct := fun pn N H0 ad σ H S Dn q1 _ _ _ => q1 ad σ H ds h S
theorem sv_break (h : bk ds) : Sv cls p tBreak ds nx rt bk ct := fun pn N H0 ad σ H S Dn _ _ q3 _ => q3 ad σ H ds h S
theorem sv_cont (h : ct ds) : Sv cls p tCont ds nx rt bk ct := fun pn N H0 ad σ H S Dn _ _ _ q4 => q4 ad σ H ds h S
theorem sv_asg {g : TG} {js : List Nat} (h : Ev cls p te ds P) (k : ∀ d, P d → ∃ ds', EvG cls p g js d ds ds' ∧ nx ds') : Sv cls p (tAsg te g) ds nx rt bk ct := fun pn N H0 ad σ H S Dn q1 _ _ _ =>
  h pn N H0 ad σ H S _ fun v H1 d pd g1 a => by
    obtain ⟨ds', hg, hn⟩ := k d pd
    exact hg pn N H0 ad σ H1 (S.mono g1) v a _ fun σ' S' _ => q1 ad σ' H1 ds' hn S'
theorem sv_set {i : Nat} (h : Ev cls p te ds P) (k : ∀ d, P d → nx (ds.set i (some (Slot.dat d)))) : Sv cls p (tAsg te (gName i)) ds nx rt bk ct := sv_asg h fun d pd => ⟨_, eg_name, k d pd⟩
theorem sv_ret (h : Ev cls p te ds P) (k : ∀ d, P d → rt d) : Sv cls p (tRet te) ds nx rt bk ct := fun pn N H0 ad σ H S Dn _ q2 _ _ =>
  h pn N H0 ad σ H S _ fun v H1 d pd g1 a => q2 v H1 d (k d pd) (S.go.trans g1) (a.less fun _ z => .inl z)
theorem sv_retN (h : rt .non) : Sv cls p tRetN ds nx rt bk ct := fun pn N H0 ad σ H S Dn _ q2 _ _ => q2 .non H .non h S.go .non
theorem sv_if (h : ET cls p tt ds B) (k : B true → Sv cls p ts ds nx rt bk ct) (k' : B false → Sv cls p tu' ds nx rt bk ct) : Sv cls p (tIfS tt ts tu') ds nx rt bk ct := fun pn N H0 ad σ H S Dn q1 q2 q3 q4 =>
  h pn N H0 ad σ H S _ fun b H1 pb g1 => by
    cases b with
    | true => exact k pb pn N H0 ad σ H1 (S.mono g1) Dn q1 q2 q3 q4
    | false => exact k' pb pn N H0 ad σ H1 (S.mono g1) Dn q1 q2 q3 q4
theorem sv_expr (h : Ev cls p te ds P) (k : nx ds) : Sv cls p (tDrop te) ds nx rt bk ct := fun pn N H0 ad σ H S Dn q1 _ _ _ =>
  h pn N H0 ad σ H S _ fun v H1 d pd g1 a => q1 ad σ H1 ds k (S.mono g1)
theorem sv_par {i j : Nat} (h : EvA cls p t ds PA) (k : ∀ xs, PA xs → ∃ a b, xs = [a, b] ∧ nx ((ds.set i (some (Slot.dat a))).set j (some (Slot.dat b)))) : Sv cls p (tPar i j t) ds nx rt bk ct := fun pn N H0 ad σ H S Dn q1 _ _ _ =>
  h pn N H0 ad σ H S _ fun vs H1 xs ps g1 a => by
    obtain ⟨x, y, rfl, hn⟩ := k xs ps
    cases a with
    | cons a b =>
    cases b with
    | cons b c =>
      cases c
      exact ⟨_, _, rfl, q1 ad _ H1 _ hn (((S.mono g1).put a).put (b.less hid_set))⟩
theorem sv_augI {i : Nat} {x : Int} {f : Int → Int → Int} (e : ds[i]? = some (some (Slot.dat (.int x)))) (h : Ev cls p te ds P) (hx : IntP P) (k : ∀ y, P (.int y) → nx (ds.set i (some (Slot.dat (.int (f x y)))))) : Sv cls p (tAug i te (ipI f)) ds nx rt bk ct := fun pn N H0 ad σ H S Dn q1 _ _ _ => by
  obtain ⟨v, h1, h2⟩ := S.dat i _ e
  cases h2
  refine ⟨_, h1, h pn N H0 ad σ H S _ fun w H1 d pd g1 a => ?_⟩
  obtain ⟨y, rfl⟩ := hx d pd
  cases a
  exact ⟨x, y, rfl, rfl, q1 ad _ H1 _ (k y pd) ((S.mono g1).put (.int _))⟩
/-- an own list begins -/
theorem sv_new {i : Nat} (hi : i < ds.length) (k : nx (ds.set i (some (Slot.own [])))) : Sv cls p (tAsg (tLst tNil) (gName i)) ds nx rt bk ct := fun pn N H0 ad σ H S Dn q1 _ _ _ =>
  ⟨Nat.zero_le _, fun l hl => q1 _ _ _ _ k (S.fresh hl hi)⟩
/-- own.append(e) -/
theorem sv_app {K : PySem.W.Frag} {i : Nat} {xs : List D} (e : ds[i]? = some (some (Slot.own xs))) (h : Ev cls p te ds P) (hz : xs.length < 100000) (k : ∀ d, P d → nx (ds.set i (some (Slot.own (xs ++ [d]))))) :
    Sv cls p (tDrop (tBM K "list" rAppend (tVar i) (tCons te tNil))) ds nx rt bk ct := fun pn N H0 ad σ H S Dn q1 _ _ _ => by
  obtain ⟨h1, h2, h3, vs, h4, h5⟩ := S.own i xs e
  refine ⟨.ref (ad i), h1, .inl ⟨rfl, _, .inl (.inl h4)⟩, h pn N H0 ad σ H S _ fun v H1 d pd g1 a => ?_⟩
  have S1 := S.mono g1
  have e4 : H1 (ad i) = some (.lst vs) := g1.ext _ _ (fun z => h2 (S.wf.sub _ z)) h4
  have hl : vs.length < sizeLine := by rw [h5.length]; exact Nat.lt_of_lt_of_le hz (by decide)
  exact ⟨ad i, vs, v, rfl, rfl, e4, hl, q1 ad σ _ _ (k d pd) (S1.change e ((h5.mono S.hsub g1).append (.cons a .nil)))⟩
/-- own[i] = e -/
theorem sv_item {i : Nat} {xs : List D} {PI : D → Prop} (e : ds[i]? = some (some (Slot.own xs))) (h : Ev cls p te ds P) (hi : Ev cls p ta ds PI) (k : ∀ d dj, P d → PI dj → ∃ (k : Int) (j : Nat), dj = .int k ∧ ixN xs.length k = some j ∧ nx (ds.set i (some (Slot.own (xs.set j d))))) :
    Sv cls p (tAsg te (gSub (tVar i) ta rSetL)) ds nx rt bk ct := fun pn N H0 ad σ H S Dn q1 _ _ _ =>
  h pn N H0 ad σ H S _ fun v H1 d pd g1 a => by
    have S1 := S.mono g1
    obtain ⟨h1, h2, h3, vs, h4, h5⟩ := S1.own i xs e
    refine ⟨.ref (ad i), h1, hi pn N H0 ad σ H1 S1 _ fun w H2 dj pj g2 b => ?_⟩
    have S2 := S1.mono g2
    obtain ⟨z, j, rfl, ej, hn⟩ := k d dj pd pj
    cases b
    have e4 : H2 (ad i) = some (.lst vs) := g2.ext _ _ (fun y => h2 (S1.wf.sub _ y)) h4
    exact ⟨ad i, vs, z, j, rfl, rfl, e4, by rw [h5.length]; exact ej, q1 ad σ _ _ hn (S2.change e ((h5.mono S1.hsub g2).set (a.mono S1.hsub g2)))⟩
/-- an own list is data from here on -/
theorem sv_freeze {i : Nat} {xs : List D} (e : ds[i]? = some (some (Slot.own xs))) (h : Sv cls p ts (ds.set i (some (Slot.dat (.lst xs)))) nx rt bk ct) : Sv cls p ts ds nx rt bk ct := fun pn N H0 ad σ H S Dn q1 q2 q3 q4 =>
  h pn N H0 ad σ H (S.freeze e) Dn q1 q2 q3 q4
theorem sv_for {wi : TI} {g : TG} {PI : List D → Prop} (hi : EI cls p wi ds PI)
    (h : ∀ xs, PI xs → ∃ Jv : Nat → Sts → Prop, Jv 0 ds ∧ (∀ i d ds1, xs[i]? = some d → Jv i ds1 → ∃ js ds2, EvG cls p g js d ds1 ds2 ∧ Sv cls p ts ds2 (Jv (i + 1)) rt nx (Jv (i + 1))) ∧ ∀ ds1, Jv xs.length ds1 → nx ds1) :
    Sv cls p (tFor wi g ts) ds nx rt bk ct := by
  intro pn N H0 ad σ H S Dn q1 q2 _ _
  refine hi pn N H0 ad σ H S _ fun J H1 xs qs px g1 hq wk => ?_
  obtain ⟨Jv, j0, jt, je⟩ := h xs px
  refine ⟨fun i m σ H => m = xs.length - i ∧ i ≤ xs.length ∧ ∃ ad' ds1, Jv i ds1 ∧ Sta cls p (qs ++ pn) N H0 ad' H σ ds1, ⟨xs.length, by rw [Nat.sub_zero], Nat.zero_le _, ad, ds, j0, (S.mono g1).pins hq⟩, ?_⟩
  rintro i m σ1 H2 ⟨rfl, hi2, ad', ds1, jv, S1⟩
  have wki := wk _ H2 S1.hwf (fun x hx => S1.pin x (List.mem_append_left _ hx)) i
  by_cases hlt : i < xs.length
  · obtain ⟨k1, k2⟩ := wki.1 _ (List.getElem?_eq_getElem hlt)
    refine .inr ⟨k1, fun σ' H' => ∃ ad' ds2, Jv (i + 1) ds2 ∧ Sta cls p (qs ++ pn) N H0 ad' H' σ' ds2, fun σ' H' ⟨a, b, c, d⟩ => ⟨xs.length - (i + 1), by omega, rfl, hlt, a, b, c, d⟩, fun x H3 y => ?_⟩
    obtain ⟨g3, a3⟩ := k2 x H3 y
    obtain ⟨js, ds2, hg, hs⟩ := jt i _ ds1 (List.getElem?_eq_getElem hlt) jv
    refine hg _ N H0 ad' σ1 H3 (S1.mono g3) x a3 _ fun σ' S4 _ => ?_
    exact hs _ N H0 ad' σ' H3 S4 _ (fun a s h d z S => ⟨a, d, z, S⟩) q2 (fun a s h d z S => q1 a s h d z S.unpin) (fun a s h d z S => ⟨a, d, z, S⟩)
  · have ei : i = xs.length := by omega
    subst ei
    exact .inl ⟨wki.2 rfl, q1 ad' σ1 H2 ds1 (je ds1 jv) S1.unpin⟩
theorem sv_while (Pv : Sts → Prop) (μ : Sts → Nat) (h0 : Pv ds) (h : ∀ ds, Pv ds → ∃ B, ET cls p tt ds B ∧ (B true → Sv cls p ts ds (fun d => Pv d ∧ μ d < μ ds) rt nx (fun d => Pv d ∧ μ d < μ ds)) ∧ (B false → nx ds)) :
    Sv cls p (tWhile tt ts) ds nx rt bk ct := by
  intro pn N H0 ad σ H S Dn q1 q2 _ _
  refine ⟨fun m σ H => ∃ ad ds, m = μ ds ∧ Pv ds ∧ Sta cls p pn N H0 ad H σ ds, ⟨_, ad, ds, rfl, h0, S⟩, ?_⟩
  rintro m σ H ⟨ad, ds, rfl, pv, S⟩
  obtain ⟨B, ht, h1, h2⟩ := h ds pv
  refine ht pn N H0 ad σ H S _ fun b H1 pb g => ?_
  cases b with
  | true =>
    refine ⟨fun σ' H' => ∃ m', m' < μ ds ∧ ∃ ad ds, m' = μ ds ∧ Pv ds ∧ Sta cls p pn N H0 ad H' σ' ds, fun _ _ z => z, ?_⟩
    exact h1 pb pn N H0 ad σ H1 (S.mono g) _ (fun a s h d z S => ⟨_, z.2, a, d, rfl, z.1, S⟩) q2 (fun a s h d z S => q1 a s h d z S) (fun a s h d z S => ⟨_, z.2, a, d, rfl, z.1, S⟩)
  | false => exact q1 ad σ H1 ds (h2 pb) (S.mono g)
end
end Lk

namespace Lk
open PySem PySem.Spec L2

/-! ### data as the library's data -/
/-- a key as the library's data -/
def keyP : Key → PyData
  | .inl i => .int i
  | .inr x => .str x
mutual
def py : D → PyData
  | .non => .none
  | .bl b => .bool b
  | .int i => .int i
  | .str x => .str x
  | .lst xs => .list (pyAll xs)
  | .tup xs => .tuple (pyAll xs)
  | .ty _ => .none
  | .dk ks ds => .dict ((ks.map keyP).zip (pyAll ds))
  | .obj _ _ _ => .none
  | .adr _ => .none
  | .scr _ => .none
def pyAll : List D → List PyData
  | [] => []
  | d :: ds => py d :: pyAll ds
end
/-- no objects, no dicts, at most n deep -/
def okD : Nat → D → Bool
  | _, .non => true
  | _, .bl _ => true
  | _, .int _ => true
  | _, .str x => PyData.strOk x
  | n + 1, .lst xs => xs.all (okD n)
  | n + 1, .tup xs => xs.all (okD n)
  | _, _ => false
/-- .. and numbers of some five hundred digits at most -/
def shD : Nat → D → Bool
  | _, .non => true
  | _, .bl _ => true
  | _, .int i => decide (i.natAbs < 2 ^ 1900)
  | n + 1, .lst xs => xs.all (shD n)
  | n + 1, .tup xs => xs.all (shD n)
  | _, _ => false
def szD : Nat → D → Nat
  | n + 1, .lst xs => 4 + (xs.map fun x => szD n x + 2).sum
  | n + 1, .tup xs => 4 + (xs.map fun x => szD n x + 2).sum
  | _, _ => 2000

theorem okD_can : ∀ (n : Nat) (d : D), okD n d = true → (py d).canLay0 = true ∧ (py d).depth ≤ n := by
  have all : ∀ (n : Nat), (∀ d : D, okD n d = true → (py d).canLay0 = true ∧ (py d).depth ≤ n) → ∀ xs : List D, xs.all (okD n) = true → PyData.canLayAll0 (pyAll xs) = true ∧ PyData.depthAll (pyAll xs) ≤ n := by
    intro n ih xs
    induction xs with
    | nil => intro _; exact ⟨rfl, Nat.zero_le _⟩
    | cons x xs ihx =>
      intro h
      rw [List.all_cons, Bool.and_eq_true] at h
      obtain ⟨a1, a2⟩ := ih x h.1
      obtain ⟨b1, b2⟩ := ihx h.2
      unfold pyAll PyData.canLayAll0 PyData.depthAll
      exact ⟨by rw [a1, b1]; rfl, by omega⟩
  intro n
  induction n with
  | zero =>
    intro d h
    cases d with
    | non => exact ⟨rfl, Nat.le_refl _⟩
    | bl b => exact ⟨rfl, Nat.le_refl _⟩
    | int i => exact ⟨rfl, Nat.le_refl _⟩
    | str x => exact ⟨by unfold py PyData.canLay0; exact h, Nat.le_refl _⟩
    | _ => cases h
  | succ n ih =>
    intro d h
    cases d with
    | non => exact ⟨rfl, Nat.zero_le _⟩
    | bl b => exact ⟨rfl, Nat.zero_le _⟩
    | int i => exact ⟨rfl, Nat.zero_le _⟩
    | str x => exact ⟨by unfold py PyData.canLay0; exact h, Nat.zero_le _⟩
    | lst xs =>
      obtain ⟨a, b⟩ := all n ih xs h
      exact ⟨by unfold py PyData.canLay0; exact a, by unfold py PyData.depth; omega⟩
    | tup xs =>
      obtain ⟨a, b⟩ := all n ih xs h
      exact ⟨by unfold py PyData.canLay0; exact a, by unfold py PyData.depth; omega⟩
    | _ => cases h
theorem okD_shaped {n : Nat} {d : D} (h : okD n d = true) (hn : n ≤ 64) : SeqAt.shaped (py d) = true := by
  obtain ⟨a, b⟩ := okD_can n d h
  unfold SeqAt.shaped
  rw [a, decide_eq_true (Nat.le_trans b hn)]
  rfl
theorem dp_of {cls : Cl} {N : Addr → Prop} {H : Hp} {K : PySem.W.Frag} : ∀ (n : Nat) (d : D) (v : V), (okD n d = true ∨ shD n d = true) → At cls N H v d → Dp K H v (py d) := by
  have all : ∀ (n : Nat), (∀ (d : D) (v : V), (okD n d = true ∨ shD n d = true) → At cls N H v d → Dp K H v (py d)) → ∀ (xs : List D) (vs : List V), (xs.all (okD n) = true ∨ xs.all (shD n) = true) → AtAll cls N H vs xs → DpAll K H vs (pyAll xs) := by
    intro n ih xs
    induction xs with
    | nil => intro vs _ a; cases a; exact .nil
    | cons x xs ihx =>
      intro vs h a
      cases a with
      | cons a1 a2 =>
        refine .cons (ih x _ ?_ a1) (ihx _ ?_ a2)
        · rcases h with h | h <;> (rw [List.all_cons, Bool.and_eq_true] at h)
          · exact .inl h.1
          · exact .inr h.1
        · rcases h with h | h <;> (rw [List.all_cons, Bool.and_eq_true] at h)
          · exact .inl h.2
          · exact .inr h.2
  intro n
  induction n with
  | zero =>
    intro d v h a
    cases a with
    | non => exact .non
    | bl b => exact .bl b
    | int i => exact .int i
    | str x => exact .str x
    | _ => rcases h with h | h <;> cases h
  | succ n ih =>
    intro d v h a
    cases a with
    | non => exact .non
    | bl b => exact .bl b
    | int i => exact .int i
    | str x => exact .str x
    | lst nn r hh => exact .lst (.inl (.inl r)) (all n ih _ _ h hh)
    | tup nn r hh => exact .tup (.inl (.inl r)) (all n ih _ _ h hh)
    | _ => rcases h with h | h <;> cases h
theorem listText_le (ts : List Str) : (listText ts).length ≤ 4 + piled ts := by
  unfold listText
  rw [strLen_append]
  have e1 : (("]" : String) : Str).length = 1 := rfl
  cases ts with
  | nil => exact (by decide : (textFrom 0 "[" [] : Str).length + (("]" : String) : Str).length ≤ 4 + piled [])
  | cons t r =>
    show (textFrom 1 ((("[" : String) : Str) ++ (if (0 : Nat) > 0 then ", " else "" : String) ++ t) r).length + _ ≤ _
    rw [textFrom_length_pos r 1 _ (Nat.succ_pos 0), piled_cons, strLen_append, strLen_append, e1]
    have e2 : (("[" : String) : Str).length = 1 := rfl
    have e3 : (((if (0 : Nat) > 0 then ", " else "" : String)) : Str).length = 0 := rfl
    rw [e2, e3]
    omega
theorem tupleText_le (ts : List Str) : (tupleText ts).length ≤ 4 + piled ts := by
  unfold tupleText
  rw [strLen_append, strLen_append]
  have e1 : (("(" : String) : Str).length = 1 := rfl
  have e3 : (((if ts.length == 1 then ",)" else ")" : String) : Str)).length ≤ 2 := by split <;> decide
  rw [e1]
  by_cases h : ts = []
  · subst h
    have e4 : (Str.join ", " []).length = 0 := rfl
    omega
  · have := join_length_add ts h
    omega
theorem shD_show : ∀ (n : Nat) (d : D), shD n d = true → (py d).showable = true ∧ (py d).hasDict = false ∧ (py d).depth ≤ n ∧ (py d).shown.length ≤ szD n d := by
  have int : ∀ i : Int, i.natAbs < 2 ^ 1900 → (PyData.int i).showable = true ∧ (toString i : Str).length ≤ 2000 := by
    intro i hi
    have l : i.natAbs.log2 < 1900 := PySem.Flt.log2_lt_of (by decide) hi
    refine ⟨by unfold PyData.showable; exact decide_eq_true (by omega), ?_⟩
    have h2 := int_text_length_le (a := i) (by decide) l
    have e : (toString i : Str).length = (toString i).length := by
      exact ofString_length _
    rw [e]
    omega
  have all : ∀ (n : Nat), (∀ d : D, shD n d = true → (py d).showable = true ∧ (py d).hasDict = false ∧ (py d).depth ≤ n ∧ (py d).shown.length ≤ szD n d) → ∀ xs : List D, xs.all (shD n) = true →
      PyData.showableAll (pyAll xs) = true ∧ PyData.hasDictAll (pyAll xs) = false ∧ PyData.depthAll (pyAll xs) ≤ n ∧ piled (PyData.shownAll (pyAll xs)) ≤ (xs.map fun x => szD n x + 2).sum := by
    intro n ih xs
    induction xs with
    | nil => intro _; exact ⟨rfl, rfl, Nat.zero_le _, Nat.le_refl _⟩
    | cons x xs ihx =>
      intro h
      rw [List.all_cons, Bool.and_eq_true] at h
      obtain ⟨a1, a2, a3, a4⟩ := ih x h.1
      obtain ⟨b1, b2, b3, b4⟩ := ihx h.2
      unfold pyAll PyData.showableAll PyData.hasDictAll PyData.depthAll PyData.shownAll
      refine ⟨by rw [a1, b1]; rfl, by rw [a2, b2]; rfl, by omega, ?_⟩
      rw [piled_cons, List.map_cons, List.sum_cons]
      omega
  intro n
  induction n with
  | zero =>
    intro d h
    cases d with
    | non => exact ⟨rfl, rfl, Nat.le_refl _, by decide +kernel⟩
    | bl b => cases b <;> exact ⟨rfl, rfl, Nat.le_refl _, by decide +kernel⟩
    | int i =>
      obtain ⟨a, b⟩ := int i (of_decide_eq_true h)
      exact ⟨a, rfl, Nat.le_refl _, b⟩
    | _ => cases h
  | succ n ih =>
    intro d h
    cases d with
    | non => exact ⟨rfl, rfl, Nat.zero_le _, by show (("None" : String) : Str).length ≤ 2000; decide⟩
    | bl b => cases b <;> exact ⟨rfl, rfl, Nat.zero_le _, by first | (show (("True" : String) : Str).length ≤ 2000; decide) | (show (("False" : String) : Str).length ≤ 2000; decide)⟩
    | int i =>
      obtain ⟨a, b⟩ := int i (of_decide_eq_true h)
      exact ⟨a, rfl, Nat.zero_le _, b⟩
    | lst xs =>
      obtain ⟨a, b, c, e⟩ := all n ih xs h
      refine ⟨by unfold py PyData.showable; exact a, by unfold py PyData.hasDict; exact b, by unfold py PyData.depth; omega, ?_⟩
      have := listText_le (PyData.shownAll (pyAll xs))
      unfold py PyData.shown szD
      omega
    | tup xs =>
      obtain ⟨a, b, c, e⟩ := all n ih xs h
      refine ⟨by unfold py PyData.showable; exact a, by unfold py PyData.hasDict; exact b, by unfold py PyData.depth; omega, ?_⟩
      have := tupleText_le (PyData.shownAll (pyAll xs))
      unfold py PyData.shown szD
      omega
    | _ => cases h

/-! ### repr, == -/
def rShow (K : PySem.W.Frag) : List V → Hp → VK → Prop := fun vs H Q => ∃ (v : V) (d : PyData), vs = [v] ∧ Dp K H v d ∧ d.showable = true ∧ d.hasDict = false ∧ d.depth ≤ 20 ∧ d.shown.length ≤ sizeLine ∧ Q (.str d.shown) H
theorem call_show {X : Cx} (hg : X.A.guards = some []) (hu : X.A.units + 64 < cLine) : CallR X (.builtin "repr") (rShow X.K) := by
  intro pins s σ H xs us Q I r h
  obtain ⟨v, d, rfl, dp, h1, h2, h3, h4, q⟩ := h
  obtain ⟨u, rfl, ru⟩ := L2.vals1 r
  obtain ⟨as, rd⟩ := Dp.reads I d v u dp ru
  cases dp with
  | non => cases ru; exact PySem.P.repr_of_none ⟨.str _, H, I.tok _, ⟨_, rfl⟩, q⟩
  | bl b => cases ru; exact PySem.P.repr_of_bool ⟨.str _, H, I.tok _, ⟨_, rfl⟩, q⟩
  | int i =>
    obtain ⟨t, rfl⟩ := ru
    exact PySem.P.repr_of_int (of_decide_eq_true h1) ⟨.str _, H, I.tok _, ⟨_, rfl⟩, q⟩
  | str x =>
    obtain ⟨t, rfl⟩ := ru
    exact PySem.P.repr_of_str ⟨.str _, H, I.tok _, ⟨_, rfl⟩, q⟩ h4
  | lst _ _ =>
    cases ru
    exact repr_of_reads' rd h1 (fun z => by rw [h2] at z; cases z) hg (by omega) (fun _ _ e => e) (fun h' u tk k => ⟨.str _, H, I.kept k, ⟨_, rfl⟩, q⟩) h4
  | tup _ _ =>
    cases ru
    exact repr_of_reads' rd h1 (fun z => by rw [h2] at z; cases z) hg (by omega) (fun _ _ e => e) (fun h' u tk k => ⟨.str _, H, I.kept k, ⟨_, rfl⟩, q⟩) h4
/-- two rules for one operator -/
def rOr (r1 r2 : R2) : R2 := fun x y H Q => r1 x y H Q ∨ r2 x y H Q
theorem op_or {X : Cx} {f : Value → Value → Sem Value} {r1 r2 : R2} (h1 : OpR X f r1) (h2 : OpR X f r2) : OpR X f (rOr r1 r2) := fun pins s σ H x y v u Q I rx ry h => h.elim (h1 pins s σ H x y v u Q I rx ry) (h2 pins s σ H x y v u Q I rx ry)
def cOr (r1 r2 : List V → Hp → VK → Prop) : List V → Hp → VK → Prop := fun vs H Q => r1 vs H Q ∨ r2 vs H Q
theorem call_or {X : Cx} {f : Value} {r1 r2 : List V → Hp → VK → Prop} (h1 : CallR X f r1) (h2 : CallR X f r2) : CallR X f (cOr r1 r2) := fun pins s σ H xs us Q I r h => h.elim (h1 pins s σ H xs us Q I r) (h2 pins s σ H xs us Q I r)

section
variable {cls : Cl} {p : Addr → Prop} {ds ds' : Sts} {ta tb tc te : TE} {P PX PY PZ : D → Prop} {t : TA} {PA PB : List D → Prop} {K : PySem.W.Frag}
theorem rv_l {r1 r2 : R2} (h : Rv cls p r1 PX PY P) : Rv cls p (rOr r1 r2) PX PY P := fun N H x y dx dy W ax ay px py Q q => .inl (h N H x y dx dy W ax ay px py Q q)
theorem rv_r {r1 r2 : R2} (h : Rv cls p r2 PX PY P) : Rv cls p (rOr r1 r2) PX PY P := fun N H x y dx dy W ax ay px py Q q => .inr (h N H x y dx dy W ax ay px py Q q)
theorem rc_l {r1 r2 : List V → Hp → VK → Prop} (h : Rc cls p r1 PA P) : Rc cls p (cOr r1 r2) PA P := fun N H vs xs W a ps Q q => .inl (h N H vs xs W a ps Q q)
theorem rc_r {r1 r2 : List V → Hp → VK → Prop} (h : Rc cls p r2 PA P) : Rc cls p (cOr r1 r2) PA P := fun N H vs xs W a ps Q q => .inr (h N H vs xs W a ps Q q)
/-- repr of data -/
theorem rc_show (h : ∀ xs, PA xs → ∃ d n, xs = [d] ∧ n ≤ 20 ∧ shD n d = true ∧ szD n d ≤ 10000000) : Rc cls p (rShow K) PA (fun d => ∃ x, PA [x] ∧ d = .str (py x).shown) := fun N H vs xs W a ps Q q => by
  obtain ⟨d, n, rfl, hn, hs, hz⟩ := h xs ps
  cases a with
  | cons a b =>
    cases b
    obtain ⟨h1, h2, h3, h4⟩ := shD_show n d hs
    exact ⟨_, py d, rfl, dp_of n d _ (.inr hs) a, h1, h2, Nat.le_trans h3 hn, Nat.le_trans (Nat.le_trans h4 hz) (by decide), q _ H _ ⟨d, ps, rfl⟩ (Go.refl H) (.str _)⟩
/-- == and != of data -/
theorem rv_eqD (h : ∀ dx dy, PX dx → PY dy → ∃ n, n ≤ 64 ∧ okD n dx = true ∧ okD n dy = true) : Rv cls p (rEqD K) PX PY (fun d => ∃ x y, PX x ∧ PY y ∧ d = .bl (PyData.eqv (py x) (py y))) := fun N H x y dx dy W ax ay px py' Q q => by
  obtain ⟨n, hn, h1, h2⟩ := h dx dy px py'
  exact ⟨_, _, dp_of n dx x (.inl h1) ax, dp_of n dy y (.inl h2) ay, okD_shaped h1 hn, okD_shaped h2 hn, q _ H _ ⟨dx, dy, px, py', rfl⟩ (Go.refl H) (.bl _)⟩
theorem rv_neD (h : ∀ dx dy, PX dx → PY dy → ∃ n, n ≤ 64 ∧ okD n dx = true ∧ okD n dy = true) : Rv cls p (rNeD K) PX PY (fun d => ∃ x y, PX x ∧ PY y ∧ d = .bl (!PyData.eqv (py x) (py y))) := fun N H x y dx dy W ax ay px py' Q q => by
  obtain ⟨n, hn, h1, h2⟩ := h dx dy px py'
  exact ⟨_, _, dp_of n dx x (.inl h1) ax, dp_of n dy y (.inl h2) ay, okD_shaped h1 hn, okD_shaped h2 hn, q _ H _ ⟨dx, dy, px, py', rfl⟩ (Go.refl H) (.bl _)⟩
/-- == and != of texts, whole numbers, bools -/
theorem rv_eqS (h : ∀ dx dy, PX dx → PY dy → ∃ x y, dx = .str x ∧ dy = .str y) : Rv cls p rEq PX PY (fun d => ∃ x y, PX (.str x) ∧ PY (.str y) ∧ d = .bl (decide (x = y))) := fun N H x y dx dy W ax ay px py' Q q => by
  obtain ⟨a, b, rfl, rfl⟩ := h dx dy px py'
  cases ax
  cases ay
  refine ⟨rfl, ?_⟩
  have e : decide (V.str a = V.str b) = decide (a = b) := by
    by_cases z : a = b
    · subst z; simp
    · rw [decide_eq_false z, decide_eq_false (fun y => z (V.str.inj y))]
  rw [e]
  exact q _ H _ ⟨a, b, px, py', rfl⟩ (Go.refl H) (.bl _)
theorem rv_neS (h : ∀ dx dy, PX dx → PY dy → ∃ x y, dx = .str x ∧ dy = .str y) : Rv cls p rNe PX PY (fun d => ∃ x y, PX (.str x) ∧ PY (.str y) ∧ d = .bl (!decide (x = y))) := fun N H x y dx dy W ax ay px py' Q q => by
  obtain ⟨a, b, rfl, rfl⟩ := h dx dy px py'
  cases ax
  cases ay
  refine ⟨rfl, ?_⟩
  have e : decide (V.str a = V.str b) = decide (a = b) := by
    by_cases z : a = b
    · subst z; simp
    · rw [decide_eq_false z, decide_eq_false (fun y => z (V.str.inj y))]
  rw [e]
  exact q _ H _ ⟨a, b, px, py', rfl⟩ (Go.refl H) (.bl _)
theorem rv_eqI (hx : IntP PX) (hy : IntP PY) : Rv cls p rEq PX PY (SBl (fun i j => decide (i = j)) PX PY) := fun N H x y dx dy W ax ay px py' Q q => by
  obtain ⟨a, rfl⟩ := hx dx px
  obtain ⟨b, rfl⟩ := hy dy py'
  cases ax
  cases ay
  refine ⟨rfl, ?_⟩
  have e : decide (V.int a = V.int b) = decide (a = b) := by
    by_cases z : a = b
    · subst z; simp
    · rw [decide_eq_false z, decide_eq_false (fun y => z (V.int.inj y))]
  rw [e]
  exact q _ H _ ⟨a, b, px, py', rfl⟩ (Go.refl H) (.bl _)
theorem rv_neI (hx : IntP PX) (hy : IntP PY) : Rv cls p rNe PX PY (SBl (fun i j => !decide (i = j)) PX PY) := fun N H x y dx dy W ax ay px py' Q q => by
  obtain ⟨a, rfl⟩ := hx dx px
  obtain ⟨b, rfl⟩ := hy dy py'
  cases ax
  cases ay
  refine ⟨rfl, ?_⟩
  have e : decide (V.int a = V.int b) = decide (a = b) := by
    by_cases z : a = b
    · subst z; simp
    · rw [decide_eq_false z, decide_eq_false (fun y => z (V.int.inj y))]
  rw [e]
  exact q _ H _ ⟨a, b, px, py', rfl⟩ (Go.refl H) (.bl _)
end
end Lk

namespace Lk
open PySem PySem.Spec L2

section
variable {cls : Cl} {p : Addr → Prop} {ds ds' : Sts} {ta tb tc te : TE} {P PX PY PZ : D → Prop} {t : TA} {PA PB : List D → Prop} {K : PySem.W.Frag}

/-! ### built-ins by their name -/
theorem rc_len (h : ∀ xs, PA xs → ∃ k a, xs = [sq k a]) : Rc cls p (fun xs H Q => ∃ p ys, xs = [.ref p] ∧ (SqL K H p ys ∨ SqT K H p ys) ∧ Q (.int ys.length) H) PA (fun d => ∃ k a, PA [sq k a] ∧ d = .int a.length) := fun N H vs xs W a ps Q q => by
  obtain ⟨k, l, rfl⟩ := h xs ps
  cases a with
  | cons a b =>
    cases b
    obtain ⟨r, rfl⟩ := ref_sq a
    obtain ⟨ws, h1, h2⟩ := at_sq (K := K) a
    refine ⟨r, ws, rfl, ?_, ?_⟩
    · cases k with
      | true => exact .inl h1
      | false => exact .inr h1
    · rw [h2.length]
      exact q _ H _ ⟨k, l, ps, rfl⟩ (Go.refl H) (.int _)
theorem rc_tuple (h : ∀ xs, PA xs → ∃ k a, xs = [sq k a]) : Rc cls p (fun xs H Q => ∃ p ys, xs = [.ref p] ∧ ((SqL K H p ys ∧ ∀ l, H l = none → Q (.ref l) (upd H l (.tup ys))) ∨ (SqT K H p ys ∧ Q (.ref p) H))) PA
    (fun d => ∃ k a, PA [sq k a] ∧ d = .tup a) := fun N H vs xs W a ps Q q => by
  obtain ⟨k, l, rfl⟩ := h xs ps
  cases a with
  | cons a b =>
    cases b
    have a0 := a
    obtain ⟨r, rfl⟩ := ref_sq a
    obtain ⟨ws, h1, h2⟩ := at_sq (K := K) a
    refine ⟨r, ws, rfl, ?_⟩
    cases k with
    | true => exact .inl ⟨h1, fun l hl => q _ _ _ ⟨true, _, ps, rfl⟩ (Go.new hl) (.tup (fresh_hid W hl) upd_same (h2.mono W.sub (Go.new hl)))⟩
    | false => exact .inr ⟨h1, q _ H _ ⟨false, _, ps, rfl⟩ (Go.refl H) a0⟩
theorem rc_list (h : ∀ xs, PA xs → ∃ k a, xs = [sq k a]) : Rc cls p (fun xs H Q => ∃ p ys, xs = [.ref p] ∧ (SqL K H p ys ∨ SqT K H p ys) ∧ ∀ l, H l = none → Q (.ref l) (upd H l (.lst ys))) PA
    (fun d => ∃ k a, PA [sq k a] ∧ d = .lst a) := fun N H vs xs W a ps Q q => by
  obtain ⟨k, l, rfl⟩ := h xs ps
  cases a with
  | cons a b =>
    cases b
    obtain ⟨r, rfl⟩ := ref_sq a
    obtain ⟨ws, h1, h2⟩ := at_sq (K := K) a
    refine ⟨r, ws, rfl, ?_, fun l hl => q _ _ _ ⟨k, _, ps, rfl⟩ (Go.new hl) (.lst (fresh_hid W hl) upd_same (h2.mono W.sub (Go.new hl)))⟩
    cases k with
    | true => exact .inl h1
    | false => exact .inr h1
theorem rc_sum (h : ∀ xs, PA xs → ∃ is : List Int, xs = [.lst (is.map D.int)]) : Rc cls p (rSum K) PA (fun d => ∃ is : List Int, PA [.lst (is.map D.int)] ∧ d = .int is.sum) := fun N H vs xs W a ps Q q => by
  obtain ⟨is, rfl⟩ := h xs ps
  cases a with
  | cons a b =>
    cases b
    cases a with
    | @lst a ws _ n r hh =>
      rw [hh.ints] at r
      exact ⟨a, is, rfl, .inl (.inl r), q _ H _ ⟨is, ps, rfl⟩ (Go.refl H) (.int _)⟩
theorem rc_all (h : ∀ xs, PA xs → ∃ bs : List Bool, xs = [.lst (bs.map D.bl)]) : Rc cls p (rAll K) PA (fun d => ∃ bs : List Bool, PA [.lst (bs.map D.bl)] ∧ d = .bl (bs.all id)) := fun N H vs xs W a ps Q q => by
  obtain ⟨is, rfl⟩ := h xs ps
  cases a with
  | cons a b =>
    cases b
    cases a with
    | @lst a ws _ n r hh =>
      rw [hh.bls] at r
      exact ⟨a, is, rfl, .inl (.inl r), q _ H _ ⟨is, ps, rfl⟩ (Go.refl H) (.bl _)⟩
theorem rc_any (h : ∀ xs, PA xs → ∃ bs : List Bool, xs = [.lst (bs.map D.bl)]) : Rc cls p (rAny K) PA (fun d => ∃ bs : List Bool, PA [.lst (bs.map D.bl)] ∧ d = .bl (bs.any id)) := fun N H vs xs W a ps Q q => by
  obtain ⟨is, rfl⟩ := h xs ps
  cases a with
  | cons a b =>
    cases b
    cases a with
    | @lst a ws _ n r hh =>
      rw [hh.bls] at r
      exact ⟨a, is, rfl, .inl (.inl r), q _ H _ ⟨is, ps, rfl⟩ (Go.refl H) (.bl _)⟩
theorem rc_abs (h : ∀ xs, PA xs → ∃ i : Int, xs = [.int i]) : Rc cls p (fun xs H Q => ∃ i, xs = [V.int i] ∧ Q (.int (if i < 0 then -i else i)) H) PA (fun d => ∃ i : Int, PA [.int i] ∧ d = .int (if i < 0 then -i else i)) := fun N H vs xs W a ps Q q => by
  obtain ⟨i, rfl⟩ := h xs ps
  cases a with | cons a b => cases b; cases a; exact ⟨i, rfl, q _ H _ ⟨i, ps, rfl⟩ (Go.refl H) (.int _)⟩
theorem rc_max2 (h : ∀ xs, PA xs → ∃ i j : Int, xs = [.int i, .int j]) : Rc cls p (fun xs H Q => ∃ i j, xs = [V.int i, V.int j] ∧ Q (.int (if j > i then j else i)) H) PA (fun d => ∃ i j : Int, PA [.int i, .int j] ∧ d = .int (if j > i then j else i)) := fun N H vs xs W a ps Q q => by
  obtain ⟨i, j, rfl⟩ := h xs ps
  cases a with | cons a b => cases b with | cons b c => cases c; cases a; cases b; exact ⟨i, j, rfl, q _ H _ ⟨i, j, ps, rfl⟩ (Go.refl H) (.int _)⟩
theorem rc_min2 (h : ∀ xs, PA xs → ∃ i j : Int, xs = [.int i, .int j]) : Rc cls p (fun xs H Q => ∃ i j, xs = [V.int i, V.int j] ∧ Q (.int (if j < i then j else i)) H) PA (fun d => ∃ i j : Int, PA [.int i, .int j] ∧ d = .int (if j < i then j else i)) := fun N H vs xs W a ps Q q => by
  obtain ⟨i, j, rfl⟩ := h xs ps
  cases a with | cons a b => cases b with | cons b c => cases c; cases a; cases b; exact ⟨i, j, rfl, q _ H _ ⟨i, j, ps, rfl⟩ (Go.refl H) (.int _)⟩
theorem rc_int (h : ∀ xs, PA xs → ∃ i : Int, xs = [.int i]) : Rc cls p (fun xs H Q => (∃ i, xs = [V.int i] ∧ Q (.int i) H) ∨ ∃ k, xs = [V.bl k] ∧ Q (.int (if k then 1 else 0)) H) PA (fun d => ∃ i : Int, PA [.int i] ∧ d = .int i) := fun N H vs xs W a ps Q q => by
  obtain ⟨i, rfl⟩ := h xs ps
  cases a with | cons a b => cases b; cases a; exact .inl ⟨i, rfl, q _ H _ ⟨i, ps, rfl⟩ (Go.refl H) (.int _)⟩
theorem rc_divmod (h : ∀ xs, PA xs → ∃ i j : Int, xs = [.int i, .int j] ∧ 0 < j ∧ j < 1073741824) : Rc cls p (fun xs H Q => ∃ i j, xs = [V.int i, V.int j] ∧ CDiv i j ∧ ∀ p, H p = none → Q (.ref p) (upd H p (.tup [.int (i / j), .int (i % j)]))) PA
    (fun d => ∃ i j : Int, PA [.int i, .int j] ∧ d = .tup [.int (i / j), .int (i % j)]) := fun N H vs xs W a ps Q q => by
  obtain ⟨i, j, rfl, h1, h2⟩ := h xs ps
  cases a with | cons a b => cases b with | cons b c =>
    cases c; cases a; cases b
    exact ⟨i, j, rfl, ⟨h1, h2⟩, fun l hl => q _ _ _ ⟨i, j, ps, rfl⟩ (Go.new hl) (.tup (fresh_hid W hl) upd_same (.cons (.int _) (.cons (.int _) .nil)))⟩

/-! ### isinstance -/
/-- the name of a value's built-in class -/
def tyName : D → String
  | .non => "NoneType"
  | .bl _ => "bool"
  | .int _ => "int"
  | .str _ => "str"
  | .lst _ => "list"
  | .tup _ => "tuple"
  | .dk _ _ => "dict"
  | _ => ""
def builtD : D → Bool
  | .obj _ _ _ => false
  | .adr _ => false
  | .scr _ => false
  | .ty _ => false
  | _ => true
theorem tyX_of {N : Addr → Prop} {H : Hp} {v : V} {d : D} (a : At cls N H v d) (hb : builtD d = true) : TyX K H v (.type (tyName d)) := by
  cases a with
  | non => exact .base .non
  | bl b => exact .base (.bl b)
  | int i => exact .base (.int i)
  | str x => exact .base (.str x)
  | lst n r _ => exact .base (.lst r)
  | tup n r _ => exact .base (.tup r)
  | dk n r _ _ => exact .base (.dK r)
  | _ => cases hb
/-- what isinstance answers of built-in classes -/
def isB (a b : String) : Option Bool := kitB a b
theorem rc_isi {n : String} (h : ∀ xs, PA xs → ∃ d b, xs = [d, .ty n] ∧ builtD d = true ∧ isB (tyName d) n = some b) : Rc cls p (rIsi K) PA (fun r => ∃ d b, PA [d, .ty n] ∧ isB (tyName d) n = some b ∧ r = .bl b) := fun N H vs xs W a ps Q q => by
  obtain ⟨d, b, rfl, hb, hk⟩ := h xs ps
  cases a with | cons a1 a2 => cases a2 with | cons a2 a3 =>
    cases a3
    cases a2
    exact ⟨_, _, _, _, b, rfl, .ty n, tyX_of a1 hb, kit_ty hk, q _ H _ ⟨d, b, ps, hk, rfl⟩ (Go.refl H) (.bl b)⟩
/-- isinstance(x, (T1, T2)) -/
theorem rc_isi2 {m n : String} (h : ∀ xs, PA xs → ∃ d b c, xs = [d, .tup [.ty m, .ty n]] ∧ builtD d = true ∧ isB (tyName d) m = some b ∧ isB (tyName d) n = some c) :
    ∀ (N : Addr → Prop) (H : Hp) (v : V) (T : Addr) (d : D), Wf p N H → At cls N H v d → H T = some (.tup [.ty m, .ty n]) → PA [d, .tup [.ty m, .ty n]] → ∀ Q : VK, (∀ w H' r, (∃ d b c, PA [d, .tup [.ty m, .ty n]] ∧ isB (tyName d) m = some b ∧ isB (tyName d) n = some c ∧ r = .bl (b || c)) → Go p H H' → At cls N H' w r → Q w H') →
      rIsiT K [v, .ref T] H Q := fun N H v T d W a hT ps Q q => by
  obtain ⟨d', b, c, e, hb, h1, h2⟩ := h _ ps
  cases e
  refine ⟨v, T, _, _, [.type m, .type n], b || c, rfl, hT, .cons (.ty m) (.cons (.ty n) .nil), tyX_of a hb, ?_, q _ H _ ⟨d, b, c, ps, h1, h2, rfl⟩ (Go.refl H) (.bl _)⟩
  refine kitAny_cons (b := b) (kit_ty h1) (fun e => ?_) fun e => by rw [e]; rfl
  subst e
  refine kitAny_cons (b := c) (kit_ty h2) (fun e => ?_) fun e => by rw [e]; rfl
  subst e
  rfl
/-- .. the tuple of classes laid on the way -/
theorem ev_isi2 {m n : String} (hx : Ev cls p ta ds PX) (h : ∀ d, PX d → builtD d = true ∧ ∃ b c, isB (tyName d) m = some b ∧ isB (tyName d) n = some c) :
    Ev cls p (tCB (rIsiT K) (tCons ta (tCons (tTup (tCons (tC (.ty m)) (tCons (tC (.ty n)) tNil))) tNil))) ds (fun r => ∃ d b c, PX d ∧ isB (tyName d) m = some b ∧ isB (tyName d) n = some c ∧ r = .bl (b || c)) := fun pn N H0 ad σ H S Q q =>
  hx pn N H0 ad σ H S _ fun v H1 d pd g1 a1 => by
    refine ⟨by show 2 ≤ sizeLine; decide, fun T hT => ?_⟩
    have g2 : Go p H1 (upd H1 T (.tup [.ty m, .ty n])) := Go.new hT
    refine rc_isi2 (p := p) (PA := fun xs => ∃ d, PX d ∧ xs = [d, .tup [.ty m, .ty n]]) (fun xs ⟨d, pd, e⟩ => ?_) (hid N ad ds) _ v T d (S.mono (g1.trans g2)).hwf (a1.mono S.hsub g2) upd_same ⟨d, pd, rfl⟩ Q fun w H' r ⟨d', b, c, ⟨d2, pd2, e2⟩, h1, h2, e⟩ g3 a3 => ?_
    · obtain ⟨hb, b, c, h1, h2⟩ := h d pd
      exact ⟨d, b, c, e, hb, h1, h2⟩
    · cases e2
      exact q w H' r ⟨d', b, c, pd2, h1, h2, e⟩ ((g1.trans g2).trans g3) a3
theorem ev_ty {n : String} : Ev cls p (tC (.ty n)) ds (· = .ty n) := fun _ _ _ _ _ H _ Q q => q _ H _ rfl (Go.refl H) (.ty n)

/-! ### lists put together -/
theorem rv_cat (h : ∀ dx dy, PX dx → PY dy → ∃ xs ys, dx = .lst xs ∧ dy = .lst ys ∧ xs.length + ys.length ≤ 100000) :
    Rv cls p rCat PX PY (fun d => ∃ xs ys, PX (.lst xs) ∧ PY (.lst ys) ∧ d = .lst (xs ++ ys)) := fun N H x y dx dy W ax ay px py' Q q => by
  obtain ⟨xs, ys, rfl, rfl, hz⟩ := h dx dy px py'
  cases ax with
  | @lst a vs _ n r hh =>
  cases ay with
  | @lst b ws _ n' r' hh' =>
    exact ⟨a, b, vs, ws, rfl, rfl, r, r', by rw [hh.length, hh'.length]; exact Nat.le_trans hz (by decide), fun l hl => q _ _ _ ⟨xs, ys, px, py', rfl⟩ (Go.new hl) (.lst (fresh_hid W hl) upd_same ((hh.append hh').mono W.sub (Go.new hl)))⟩
def reps (k : Nat) (xs : List D) : List D := (List.replicate k xs).flatten
theorem AtAll.reps {N : Addr → Prop} {H : Hp} {vs : List V} {xs : List D} (h : AtAll cls N H vs xs) : ∀ k : Nat, AtAll cls N H (List.replicate k vs).flatten (Lk.reps k xs)
  | 0 => .nil
  | k + 1 => by
    unfold Lk.reps
    rw [List.replicate_succ, List.replicate_succ, List.flatten_cons, List.flatten_cons]
    exact h.append (AtAll.reps h k)
/-- [..] * k -/
theorem rv_rep (h : ∀ dx dy, PX dx → PY dy → ∃ xs k, dx = .lst xs ∧ dy = .int k ∧ -(2 ^ 63) ≤ k ∧ k < 2 ^ 63 ∧ xs.length * k.toNat ≤ 100000) :
    Rv cls p rRep PX PY (fun d => ∃ xs k, PX (.lst xs) ∧ PY (.int k) ∧ d = .lst (reps k.toNat xs)) := fun N H x y dx dy W ax ay px py' Q q => by
  obtain ⟨xs, k, rfl, rfl, h1, h2, hz⟩ := h dx dy px py'
  cases ay
  cases ax with
  | @lst a vs _ n r hh =>
    exact ⟨a, k, vs, rfl, rfl, r, h1, h2, by rw [hh.length]; exact Nat.le_trans hz (by decide), fun l hl => q _ _ _ ⟨xs, k, px, py', rfl⟩ (Go.new hl) (.lst (fresh_hid W hl) upd_same ((hh.reps k.toNat).mono W.sub (Go.new hl)))⟩
/-- (..) * k -/
theorem rv_repT (h : ∀ dx dy, PX dx → PY dy → ∃ xs k, dx = .tup xs ∧ dy = .int k ∧ xs ≠ [] ∧ 2 ≤ k ∧ k ≤ 1000 ∧ xs.length ≤ 1000) :
    Rv cls p (rRepT K) PX PY (fun d => ∃ xs k, PX (.tup xs) ∧ PY (.int k) ∧ d = .tup (reps k.toNat xs)) := fun N H x y dx dy W ax ay px py' Q q => by
  obtain ⟨xs, k, rfl, rfl, h0, h1, h2, hz⟩ := h dx dy px py'
  cases ay
  cases ax with
  | @tup a vs _ n r hh =>
    refine ⟨a, k, vs, rfl, rfl, .inl (.inl r), fun z => h0 ?_, h1, h2, by rw [hh.length]; exact hz, fun l hl => q _ _ _ ⟨xs, k, px, py', rfl⟩ (Go.new hl) (.tup (fresh_hid W hl) upd_same ((hh.reps k.toNat).mono W.sub (Go.new hl)))⟩
    have := hh.length
    rw [z] at this
    exact List.length_eq_zero_iff.mp this.symm
/-- slices -/
def cut (xs : List D) (lo hi : Option Int) : List D := (xs.drop (HT.sIx xs.length 0 lo)).take (HT.sIx xs.length xs.length hi - HT.sIx xs.length 0 lo)
theorem AtAll.cut {N : Addr → Prop} {H : Hp} {vs : List V} {xs : List D} (h : AtAll cls N H vs xs) (lo hi : Option Int) : AtAll cls N H (cutV vs lo hi) (Lk.cut xs lo hi) := by
  unfold cutV Lk.cut
  rw [h.length]
  exact (h.drop _).take _
theorem eo_none : EvO cls p tNoPart ds (· = none) := fun _ _ _ _ _ H _ Q q => q none H rfl (Go.refl H)
theorem eo_some (h : Ev cls p te ds P) (hi : IntP P) : EvO cls p (tPart te) ds (fun o => ∃ i, P (.int i) ∧ o = some i) := fun pn N H0 ad σ H S Q q =>
  h pn N H0 ad σ H S _ fun v H1 d pd g a => by
    obtain ⟨i, rfl⟩ := hi d pd
    cases a
    exact ⟨i, rfl, q _ H1 ⟨i, pd, rfl⟩ g⟩
theorem ev_slL {tl th : TO} {OL OH : Option Int → Prop} (h : Ev cls p te ds P) (hl : EvO cls p tl ds OL) (hh : EvO cls p th ds OH) (hp : ∀ d, P d → ∃ xs, d = .lst xs) :
    Ev cls p (tSl (rSlL K) te tl th) ds (fun d => ∃ xs lo hi, P (.lst xs) ∧ OL lo ∧ OH hi ∧ d = .lst (cut xs lo hi)) := fun pn N H0 ad σ H S Q q =>
  h pn N H0 ad σ H S _ fun v H1 d pd g1 a => hl pn N H0 ad σ H1 (S.mono g1) _ fun lo H2 pl g2 => hh pn N H0 ad σ H2 (S.mono (g1.trans g2)) _ fun hi H3 ph g3 => by
    obtain ⟨xs, rfl⟩ := hp d pd
    have g := g1.trans (g2.trans g3)
    cases a.mono S.hsub (g2.trans g3) with
    | @lst l0 vs _ n r hh =>
      exact ⟨l0, vs, rfl, .inl (.inl r), fun l hl => q _ _ _ ⟨xs, lo, hi, pd, pl, ph, rfl⟩ (g.trans (Go.new hl)) (.lst (fresh_hid (S.mono g).hwf hl) upd_same ((hh.cut lo hi).mono S.hsub (Go.new hl)))⟩
/-- {} -/
theorem ev_dk : Ev cls p tDNewK ds (· = .dk [] []) := fun pn N H0 ad σ H S Q q => fun l hl => q _ _ _ rfl (Go.new hl) (.dk (fresh_hid S.hwf hl) (by rw [upd_same]; rfl) rfl .nil)
/-- truth of a list or tuple -/
theorem et_truth (h : Ev cls p te ds P) (hp : ∀ d, P d → ∃ k xs, d = sq k xs) {tt : TT} (ht : tt = fun σ H Q => te σ H fun x H1 => ∃ k, TruV K x H1 k ∧ Q k H1) : ET cls p tt ds (fun b => ∃ k xs, P (sq k xs) ∧ b = !xs.isEmpty) := fun pn N H0 ad σ H S Q q => by
  subst ht
  exact h pn N H0 ad σ H S _ fun v H1 d pd g a => by
    obtain ⟨k, xs, rfl⟩ := hp d pd
    obtain ⟨r, rfl⟩ := ref_sq a
    obtain ⟨ws, h1, h2⟩ := at_sq (K := K) a
    have e : (!ws.isEmpty) = !xs.isEmpty := by
      cases ws with
      | nil => cases xs with
        | nil => rfl
        | cons x xs => cases h2
      | cons w ws => cases xs with
        | nil => cases h2
        | cons x xs => rfl
    refine ⟨!xs.isEmpty, ?_, q _ H1 ⟨k, xs, pd, rfl⟩ g⟩
    cases k with
    | true => exact .inl ⟨ws, h1, e.symm⟩
    | false => exact .inr (.inl ⟨ws, h1, e.symm⟩)
end
end Lk

namespace Lk
open PySem PySem.Spec PyProof.Rows L2

/-! ### a def by its body -/
def entry (m : Nat) (xs : List D) : Sts := xs.map (fun d => some (Slot.dat d)) ++ List.replicate m none
def noSt : Sts → Prop := fun _ => False
section
variable {cls : Cl} {p N : Addr → Prop} {H : Hp}
theorem sta_entry {Nm : List Str} {vs : List V} {xs : List D} (W : Wf p N H) (a : AtAll cls N H vs xs) : Sta cls p [] N H (fun _ => 0) H (start Nm vs) (entry (Nm.length - vs.length) xs) := by
  have noown : ∀ (i : Nat) (ys : List D), (entry (Nm.length - vs.length) xs)[i]? ≠ some (some (Slot.own ys)) := by
    intro i ys e
    unfold entry at e
    by_cases hi : i < xs.length
    · rw [List.getElem?_append_left (by rw [List.length_map]; exact hi), List.getElem?_map] at e
      cases q : xs[i]? with
      | none => rw [q] at e; cases e
      | some d => rw [q] at e; cases e
    · rw [List.getElem?_append_right (by rw [List.length_map]; omega), List.getElem?_replicate] at e
      split at e <;> cases e
  have nomut : ∀ (i : Nat) (c : Con), (entry (Nm.length - vs.length) xs)[i]? ≠ some (some (Slot.mut c)) := by
    intro i c e
    unfold entry at e
    by_cases hi : i < xs.length
    · rw [List.getElem?_append_left (by rw [List.length_map]; exact hi), List.getElem?_map] at e
      cases q : xs[i]? with
      | none => rw [q] at e; cases e
      | some d => rw [q] at e; cases e
    · rw [List.getElem?_append_right (by rw [List.length_map]; omega), List.getElem?_replicate] at e
      split at e <;> cases e
  have hh : ∀ b, hid N (fun _ => 0) (entry (Nm.length - vs.length) xs) b → N b := fun b h => h.elim id fun ⟨i, ys, e, _⟩ => absurd e (noown i ys)
  refine ⟨W, Go.refl H, ?_, fun i d e => ?_, fun i ys e => absurd e (noown i ys), (fun q hq => nomatch hq), fun i j xs ys e => absurd e (noown i xs), fun i c e => absurd e (nomut i c), fun i j c c' e => absurd e (nomut i c)⟩
  · unfold entry L2.start
    rw [List.length_append, List.length_append, List.length_map, List.length_map, List.length_replicate, List.length_replicate, a.length]
  · unfold entry at e
    by_cases hi : i < xs.length
    · rw [List.getElem?_append_left (by rw [List.length_map]; exact hi), List.getElem?_map] at e
      cases q : xs[i]? with
      | none => rw [q] at e; cases e
      | some d' =>
        rw [q] at e
        cases e
        obtain ⟨v, hv, av⟩ := a.get q
        refine ⟨v, ?_, av.less hh⟩
        unfold L2.start
        rw [List.getElem?_append_left (by rw [List.length_map, a.length]; exact hi), List.getElem?_map, hv]
        rfl
    · rw [List.getElem?_append_right (by rw [List.length_map]; omega), List.getElem?_replicate] at e
      split at e <;> cases e
end
theorem gok_ev {P : Program} {w : World} {K : PySem.W.Frag} {mg : Str → Option Value} {base : Heap} {k : Nat} {f : Addr} {fd : FuncData} {ps Nm : List Str} {cls : Cl} {n m : Nat} {pre : (Addr → Prop) → List D → Prop} {FF : List D → D → Prop} {x qual : Str} {st : Stmt}
    (F : Fun K x qual st f fd) (S : FnScope Nm ps (defScope st)) (hn : ps.length = n) (hm : Nm.length - n = m)
    (hb : ∀ (cdv : Value) (A : Around) (out : List Env) (s : Shared) (H : Hp) (E : XK), A.guards = some [] → Room k (A.deeper (envOfC qual (defScope st) s.heap.objs.size f cdv)) →
      ∃ t, PSs (cxOf CX0 P w K mg base Nm qual (defScope st) f cdv A out s H E).nox (defBody st) t ∧ ∀ p xs, xs.length = n → pre p xs → Sv cls p t (entry m xs) (fun _ => FF xs .non) (FF xs) noSt noSt) :
    GOk P w K mg base (k + 1) f fd ps (spG cls n pre FF) := by
  refine gok_of F S (fun vs H Q E ⟨p, N, xs, _, a, l, _⟩ => by rw [a.length, l, hn]) fun cdv A out s H vs Q E hg hr hs => ?_
  obtain ⟨t, ht, hv⟩ := hb cdv A out s H E hg hr
  obtain ⟨p, N, xs, W, a, l, hp, q⟩ := hs
  refine ⟨t, ht, ?_⟩
  have S0 := sta_entry (Nm := Nm) W a
  rw [a.length, l, hm] at S0
  exact hv p xs l hp [] N H _ _ H S0 _ (fun ad' σ' H' ds' z S' => q .non H' .non z S'.go .non) (fun v H' d z g b => q v H' d z g b) (fun _ _ _ _ z => z.elim) (fun _ _ _ _ z => z.elim)

/-! ### what may be called -/
def Cal (P : Program) (w : World) (K : PySem.W.Frag) (mg : Str → Option Value) (base : Heap) (x : Str) (k : Nat) (ps : List Str) (kws : List (List Str × List Nat)) (sp : Sp) : Prop :=
  ∃ (f : Addr) (fd : FuncData), GOk P w K mg base k f fd ps sp ∧ mg x = some (.ref f) ∧ PySem.W.keepIn K (.ref f) = true ∧ Binds K fd ps [] ∧
    ∀ q ∈ kws, ∀ (s : Shared) (ws : List Value), ws.length = q.1.length → BindsTo s fd ⟨[], q.1.zip ws⟩ (ps.zip (perm q.2 ws))
section
variable {X : Cx} {k : Nat} {ps : List Str} {kws : List (List Str × List Nat)} {sp : Sp} {x : Str} {p pos : Pos} {e : Expr} {es : List Expr} {t : TA}
theorem pe_callC (C : Cal X.prog X.w X.K X.mg X.base x k ps kws sp) (hg : X.A.guards = some []) (hr : Room k X.A) (gl : Gl X x) (ha : PA X (e :: es) t) (hdb : (x == ("__debug__" : Str)) = false := by decide)
    (he : starEach (e :: es) X.env = (false, eval e X.env) :: starEach es X.env := by rfl) (hpl : (backTo pos (starEach es X.env)).any (·.1) = false := by rfl) : PE X (.Call (.Name x p) (e :: es) [] pos) (tCall sp [] E0 t) := by
  obtain ⟨f, fd, G, hm, hk, hb, _⟩ := C
  exact pe_callG G hg hr gl hm hk hb .nil ha hdb he hpl
theorem pe_keyC {ks : List Str} {is : List Nat} {kw : List Keyword} {tk : TA} (C : Cal X.prog X.w X.K X.mg X.base x k ps kws sp) (hin : (ks, is) ∈ kws) (hg : X.A.guards = some []) (hr : Room k X.A) (gl : Gl X x) (hkw : PK X kw tk)
    (hall : (backToKw pos (keywordEach kw X.env)).all (·.1.isSome) = true := by rfl) (hks : (backToKw pos (keywordEach kw X.env)).filterMap (·.1) = ks := by rfl) (hdb : (x == ("__debug__" : Str)) = false := by decide)
    (hpl : ((backTo pos (starEach [] X.env)).any (·.1) || (backToKw pos (keywordEach kw X.env)).any (·.1.isNone)) = false := by rfl) : PE X (.Call (.Name x p) [] kw pos) (tKey sp is ks.length tk) := by
  obtain ⟨f, fd, G, hm, hk, _, hb⟩ := C
  exact pe_callKG G hg hr gl hm hk (hb _ hin) hkw hall hks hdb hpl
end
theorem Cal.mono {P : Program} {w : World} {K : PySem.W.Frag} {mg : Str → Option Value} {base : Heap} {x : Str} {j k : Nat} {ps : List Str} {kws : List (List Str × List Nat)} {sp : Sp} (C : Cal P w K mg base x j ps kws sp) (h : j ≤ k) : Cal P w K mg base x k ps kws sp := by
  obtain ⟨f, fd, G, r⟩ := C
  exact ⟨f, fd, G.mono h, r⟩

/-- the built-ins' names are nobody's here -/
structure Bt (mg : Str → Option Value) : Prop where
  len : mg "len" = none
  tuple : mg "tuple" = none
  list : mg "list" = none
  sum : mg "sum" = none
  all : mg "all" = none
  any : mg "any" = none
  abs : mg "abs" = none
  max : mg "max" = none
  min : mg "min" = none
  int : mg "int" = none
  bool : mg "bool" = none
  divmod : mg "divmod" = none
  isinstance : mg "isinstance" = none
  range : mg "range" = none
  zip : mg "zip" = none
  repr : mg "repr" = none
  enumerate : mg "enumerate" = none
  sorted : mg "sorted" = none
  str : mg "str" = none
  dict : mg "dict" = none

/-! ### operators of these texts: the written part is said, so that a comprehension's block has the same readings -/
section
variable {X : Cx} {K : PySem.W.Frag}
theorem opAdd : OpR X (binaryOp .Add) (rOr (rI0 fun i j => .int (i + j)) rCat) := op_or op_add op_cat
theorem opMul (h : X.K = K) : OpR X (binaryOp .Mult) (rOr (rI CMulW fun i j => .int (i * j)) (rOr rRep (rRepT K))) := by subst h; exact op_or op_mulW (op_or op_rep op_repT)
theorem opEq (h : X.K = K) (hu : X.A.units + 64 < cLine) : OpR X (compareOp .Eq) (rOr rEq (rEqD K)) := by subst h; exact op_or op_eq (op_eqD hu)
theorem opNe (h : X.K = K) (hu : X.A.units + 64 < cLine) : OpR X (compareOp .NotEq) (rOr rNe (rNeD K)) := by subst h; exact op_or op_ne (op_neD hu)
def rLen (K : PySem.W.Frag) : List V → Hp → VK → Prop := fun xs H Q => ∃ p ys, xs = [.ref p] ∧ (SqL K H p ys ∨ SqT K H p ys) ∧ Q (.int ys.length) H
theorem kLen (h : X.K = K) : CallR X (.builtin "len") (rLen K) := by subst h; exact call_len_seq
def rTuple (K : PySem.W.Frag) : List V → Hp → VK → Prop := fun xs H Q => ∃ p ys, xs = [.ref p] ∧ ((SqL K H p ys ∧ ∀ l, H l = none → Q (.ref l) (upd H l (.tup ys))) ∨ (SqT K H p ys ∧ Q (.ref p) H))
theorem kTuple (h : X.K = K) : CallR X (.type "tuple") (rTuple K) := by subst h; exact call_tuple_of
def rList (K : PySem.W.Frag) : List V → Hp → VK → Prop := fun xs H Q => ∃ p ys, xs = [.ref p] ∧ (SqL K H p ys ∨ SqT K H p ys) ∧ ∀ l, H l = none → Q (.ref l) (upd H l (.lst ys))
theorem kList (h : X.K = K) : CallR X (.type "list") (rList K) := by subst h; exact call_list_of
theorem kSum (h : X.K = K) (hc : X.calm = true) : CallR X (.builtin "sum") (rSum K) := by subst h; exact cr_sum hc
theorem kAll (h : X.K = K) (hc : X.calm = true) : CallR X (.builtin "all") (rAll K) := by subst h; exact cr_all hc
theorem kAny (h : X.K = K) (hc : X.calm = true) : CallR X (.builtin "any") (rAny K) := by subst h; exact cr_any hc
def rAbs : List V → Hp → VK → Prop := fun xs H Q => ∃ i, xs = [.int i] ∧ Q (.int (if i < 0 then -i else i)) H
theorem kAbs : CallR X (.builtin "abs") rAbs := call_abs
def rMax : List V → Hp → VK → Prop := fun xs H Q => ∃ i j, xs = [.int i, .int j] ∧ Q (.int (if j > i then j else i)) H
theorem kMax (hc : X.calm = true) : CallR X (.builtin "max") rMax := call_max2 hc
def rMin : List V → Hp → VK → Prop := fun xs H Q => ∃ i j, xs = [.int i, .int j] ∧ Q (.int (if j < i then j else i)) H
theorem kMin (hc : X.calm = true) : CallR X (.builtin "min") rMin := call_min2 hc
def rInt : List V → Hp → VK → Prop := fun xs H Q => (∃ i, xs = [.int i] ∧ Q (.int i) H) ∨ ∃ k, xs = [.bl k] ∧ Q (.int (if k then 1 else 0)) H
theorem kInt : CallR X (.type "int") rInt := call_int1
def rDivmod : List V → Hp → VK → Prop := fun xs H Q => ∃ i j, xs = [.int i, .int j] ∧ CDiv i j ∧ ∀ p, H p = none → Q (.ref p) (upd H p (.tup [.int (i / j), .int (i % j)]))
theorem kDivmod : CallR X (.builtin "divmod") rDivmod := call_divmod
theorem kIsi (h : X.K = K) : CallR X (.builtin "isinstance") (cOr (rIsi K) (rIsiT K)) := by subst h; exact call_or call_isi call_isiT
theorem kShow (h : X.K = K) (hg : X.A.guards = some []) (hu : X.A.units + 64 < cLine) : CallR X (.builtin "repr") (rShow K) := by subst h; exact call_show hg hu
theorem kIx (h : X.K = K) : IxR X (rIx K) := by subst h; exact ix_seq
theorem kSl (h : X.K = K) : SlR X (rSlL K) := by subst h; exact sl_list
theorem piList {tg l : Expr} {tl : TE} (h : X.K = K) (hl : PE X l tl) : PI X tg l (iList K tl) := by subst h; exact pi_list hl
theorem piTup {tg l : Expr} {tl : TE} (h : X.K = K) (hl : PE X l tl) : PI X tg l (iTup K tl) := by subst h; exact pi_tup hl
theorem piZip {e e2 : Expr} {ta : TA} {p pos tpos : Pos} {elts : List Expr} {kk : Nat} (h : X.K = K) (hg : Gl X "zip") (hm : X.mg "zip" = none) (ha : PA X [e, e2] ta)
    (hs : starEach [e, e2] X.env = (false, eval e X.env) :: starEach [e2] X.env := by rfl) (hpl : (backTo pos (starEach [e2] X.env)).any (·.1) = false := by rfl) :
    PI X (.Tuple elts kk tpos) (.Call (.Name "zip" p) [e, e2] [] pos) (iZipS K ta) := by subst h; exact pi_zipS hg hm ha hs hpl
theorem pgTup {es : List Expr} {k : Nat} {t : TGs} {n : Nat} {pos : Pos} (h : X.K = K) (hc : X.calm = true) (ht : PGs X es t) (hn : (assignEach es X.env).length = n := by rfl) (hst : (assignEach es X.env).findIdx? (·.1) = none := by rfl) :
    PG X (.Tuple es k pos) (gTup K n t) := by subst h; exact pg_tup hc ht hn hst
theorem ptTruth {a : Expr} {ta : TE} (h : X.K = K) (ha : PE X a ta) (he : ∀ whole, isTrue a X.env whole = (do let v ← whole; standAt a.pos; holding [v] (truthy v))) : PT X a (fun σ H Q => ta σ H fun x H' => ∃ k, TruV K x H' k ∧ Q k H') := by
  subst h; exact pt_truth ha he
end
theorem room_u {k : Nat} {A : Around} (h : Room k A) : A.units + 64 < cLine := h.units

/-! ### pots -/
section
variable {cls : Cl} {p : Addr → Prop} {ds ds' : Sts} {ta tb tc te : TE} {P PX PY PZ : D → Prop} {K : PySem.W.Frag} {nx bk ct : Sts → Prop} {rt : D → Prop}
theorem pot_at {H : Hp} {a : Addr} (h : IsPot H a) : ∃ x y : Int, H a = some (.lst [.int x, .int y]) ∧ 0 ≤ x ∧ 0 ≤ y ∧ y < 2147483648 := h
theorem ev_pot0 {i : Nat} {a : Addr} (e : ds[i]? = some (some (Slot.dat (.adr a)))) (hp : p a) : Ev cls p (tOp (rIx K) (tVar i) (tC (.int 0))) ds (fun d => ∃ x : Int, 0 ≤ x ∧ d = .int x) := fun pn N H0 ad σ H S Q q => by
  obtain ⟨v, h1, h2⟩ := S.dat i _ e
  cases h2
  obtain ⟨x, y, hx, h0, _⟩ := S.wf.pot a hp
  exact ⟨.ref a, h1, .inl ⟨a, _, 0, .int x, rfl, rfl, .inl (.inl hx), rfl, q _ H _ ⟨x, h0, rfl⟩ (Go.refl H) (.int _)⟩⟩
theorem ev_pot1 {i : Nat} {a : Addr} (e : ds[i]? = some (some (Slot.dat (.adr a)))) (hp : p a) : Ev cls p (tOp (rIx K) (tVar i) (tC (.int 1))) ds (fun d => ∃ x : Int, 0 ≤ x ∧ x < 2147483648 ∧ d = .int x) := fun pn N H0 ad σ H S Q q => by
  obtain ⟨v, h1, h2⟩ := S.dat i _ e
  cases h2
  obtain ⟨x, y, hx, _, h0, h3⟩ := S.wf.pot a hp
  exact ⟨.ref a, h1, .inl ⟨a, _, 1, .int y, rfl, rfl, .inl (.inl hx), rfl, q _ H _ ⟨y, h0, h3, rfl⟩ (Go.refl H) (.int _)⟩⟩
theorem Go.potSet {H : Hp} {a : Addr} {x y x' y' : Int} (hp : p a) (h : H a = some (.lst [.int x, .int y])) (hx : 0 ≤ x') (hy : 0 ≤ y') (hz : y' < 2147483648) : Go p H (upd H a (.lst [.int x', .int y'])) :=
  ⟨fun b o n e => by rw [upd_ne (fun z => n (by rw [z]; exact hp))]; exact e, fun b hb q => by
    by_cases z : b = a
    · subst z; exact ⟨x', y', upd_same, hx, hy, hz⟩
    · obtain ⟨u, v, e, r⟩ := q
      exact ⟨u, v, by rw [upd_ne z]; exact e, r⟩⟩
/-- pot[1] = e -/
theorem sv_pot1 {i : Nat} {a : Addr} (e : ds[i]? = some (some (Slot.dat (.adr a)))) (hp : p a) (h : Ev cls p te ds P) (hP : ∀ d, P d → ∃ y : Int, d = .int y ∧ 0 ≤ y ∧ y < 2147483648) (k : nx ds) :
    Sv cls p (tAsg te (gSub (tVar i) (tC (.int 1)) rSetL)) ds nx rt bk ct := fun pn N H0 ad σ H S Dn q1 _ _ _ =>
  h pn N H0 ad σ H S _ fun v H1 d pd g1 av => by
    obtain ⟨y', rfl, hy, hz⟩ := hP d pd
    cases av
    have S1 := S.mono g1
    obtain ⟨w, h1, h2⟩ := S1.dat i _ e
    cases h2
    obtain ⟨x, y, hx, h0, _⟩ := S1.wf.pot a hp
    exact ⟨.ref a, h1, a, _, 1, 1, rfl, rfl, hx, rfl, q1 ad σ _ ds k (S1.mono (Go.potSet hp hx h0 hy hz))⟩
/-- pot[0], x = e -/
theorem sv_pot0 {i j : Nat} {a : Addr} (e : ds[i]? = some (some (Slot.dat (.adr a)))) (hp : p a) (h : Ev cls p te ds P) (hP : ∀ d, P d → ∃ x r : Int, d = .tup [.int x, .int r] ∧ 0 ≤ x ∧ nx (ds.set j (some (Slot.dat (.int r))))) :
    Sv cls p (tAsg te (gTup K 2 (gCons (gSub (tVar i) (tC (.int 0)) rSetL) (gCons (gName j) gNil)))) ds nx rt bk ct := fun pn N H0 ad σ H S Dn q1 _ _ _ =>
  h pn N H0 ad σ H S _ fun v H1 d pd g1 av => by
    obtain ⟨x', r, rfl, hx', hn⟩ := hP d pd
    have S1 := S.mono g1
    cases av with
    | @tup T ws _ n hT hh =>
    cases hh with
    | cons b1 hh =>
    cases hh with
    | cons b2 hh =>
    cases hh
    cases b1
    cases b2
    obtain ⟨w, h1, h2⟩ := S1.dat i _ e
    cases h2
    obtain ⟨x, y, hx, h0, hy, hz⟩ := S1.wf.pot a hp
    refine ⟨T, _, rfl, .inl (.inl hT), rfl, _, _, rfl, .ref a, h1, a, _, 0, 0, rfl, rfl, hx, rfl, _, _, rfl, rfl, ?_⟩
    exact q1 ad _ _ _ hn ((S1.mono (Go.potSet hp hx hx' hy hz)).put (.int r))
/-- a drawing def: a pot and a size above 0, a number below it -/
def preDraw (p : Addr → Prop) (xs : List D) : Prop := ∃ a n, xs = [.adr a, .int n] ∧ p a ∧ 0 < n ∧ n < 1073741824
def isDraw (xs : List D) (d : D) : Prop := ∃ a n i, xs = [.adr a, .int n] ∧ 0 ≤ i ∧ i < n ∧ d = .int i
end

/-! ### the end -/
/-- the law's def: the script, then True -/
def preLaw (p : Addr → Prop) (xs : List D) : Prop := (∀ a, ¬ p a) ∧ ∃ ns : List Int, xs = [.scr ns] ∧ ns.length ≤ 63
def isTrue1 (_ : List D) (d : D) : Prop := d = .bl true
section
variable {P : Program} {w : World} {K : PySem.W.Frag} {mg mb : Str → Option Value} {k : Nat} {fa a : Addr} {fd : FuncData} {x : Str} {cls : Cl} {s1 : Shared} {vs : List Value} {ns : List Int}
theorem law_end (KX : K.In s1.heap) (hns : s1.heap.Ns mainGlobals mg) (hb : s1.heap.Ns builtinsNs mb) (hbb : ∀ x : Str, x ≠ "__name__" → mb x = bootBuiltins x) (hlim : s1.heap.NoLimit) (hgen : s1.gens = #[])
    (ha : s1.heap.get? a = some { cls := .type "list", data := .seq vs.toArray }) (hi : IntsAre vs ns) (hl : ns.length ≤ 63) (hr : Room k callerA) (hc : cls.K = K)
    (F : ∀ base : Heap, K.In base → base.Ns mainGlobals mg → GOk P w K mg base k fa fd [x] (spG cls 1 preLaw isTrue1)) (hbind : ∀ (s : Shared) (u : Value), BindsTo s fd ⟨[u], []⟩ [(x, u)]) :
    codeAny (model P w) callerA (.call (.ref fa) ⟨[.ref a], []⟩) (fun r s' => r = .ok (.ret (.bool true)) ∧ OldK s1.heap s'.heap ∧ s'.os = s1.os ∧ AllBare s'.gens) s1 := by
  have lv := hi.length
  have l63 : ns.length ≤ sizeLine := Nat.le_trans hl (by decide)
  -- one abstract heap: it knows of nothing but the script
  have main : ∀ H : Hp, (∀ b, H b ≠ none → b = a) → HOk P w H s1.heap → (∀ b u, H b = some u → ∃ o, u = .frz o (.lst (ns.map V.int))) → (H a ≠ none → K.lookup a = none) → (∀ N, (∀ b, ¬ N b) → At cls N H (.ref a) (.scr ns)) →
      codeAny (model P w) callerA (.call (.ref fa) ⟨[.ref a], []⟩) (fun r s' => r = .ok (.ret (.bool true)) ∧ OldK s1.heap s'.heap ∧ s'.os = s1.os ∧ AllBare s'.gens) s1 := by
    intro H only hok frz hK hA
    have keep : ∀ {b : Addr} {m : Str → Option Value}, s1.heap.Ns b m → (hidT s1.heap H).Ns b m := by
      rintro b m ⟨o, es, ep, e, dd, r⟩
      refine ⟨o, es, ep, hidT_get e ?_, dd, r⟩
      cases q : H b with
      | none => rfl
      | some u =>
        have z := only b (by rw [q]; exact fun z => nomatch z)
        subst z
        rw [ha] at e
        cases e
        cases (show Data.seq vs.toArray _ = Data.dict es ep from dd)
    have kin : K.In (hidT s1.heap H) := by
      intro b o e
      refine hidT_get (KX b o e) ?_
      cases q : H b with
      | none => rfl
      | some u =>
        have z := only b (by rw [q]; exact fun z => nomatch z)
        subst z
        rw [hK (by rw [q]; exact fun z => nomatch z)] at e
        cases e
    obtain ⟨ml, l1, l2⟩ := hlim
    have e0 : Env0 P w K mg (hidT s1.heap H) callerA [] s1 H := {
      frames := rfl
      mod := ⟨kin, keep hns, ⟨mb, keep hb, hbb⟩, ⟨ml, keep l1, l2⟩⟩
      bs := fun b o e => of_hidT e
      bsz := Nat.le_of_eq (hidT_size _ _)
      funs := trivial
      frf := fun b z => nomatch z
      hok := hok
      bare := .of_eq hgen }
    have promise : spG cls 1 preLaw isTrue1 [.ref a] H (fun v _ => v = .bl true) (fun _ _ _ => False) :=
      ⟨fun _ => False, fun _ => False, [.scr ns], ⟨fun _ z => z, fun _ z => z.elim, fun _ z => z.elim⟩, .cons (hA _ fun _ z => z) .nil, rfl, ⟨fun _ z => z, ns, rfl, hl⟩, fun v H' d fd g av => by
        cases (show d = D.bl true from fd)
        cases av
        rfl⟩
    refine codeAny_mono ((F _ kin (keep hns)).go callerA [] s1 H ⟨[.ref a], []⟩ [.ref a] [.ref a] _ _ rfl hr e0 (hbind s1 (.ref a)) (.cons rfl .nil) promise) fun r s' h => ?_
    match r, h with
    | .error _, h => exact h.elim
    | .ok .next, h => exact h.elim
    | .ok .brk, h => exact h.elim
    | .ok .cont, h => exact h.elim
    | .ok (.ret u), ⟨v, H', os, bare, un, hok', rv, q⟩ =>
      cases (show v = V.bl true from q)
      cases (show u = Value.bool true from rv)
      refine ⟨rfl, OldK.of_keep fun b o e => ?_, os, bare⟩
      cases q : H b with
      | none => exact un.keep b o e q (fun z => nomatch z) (fun z => nomatch z)
      | some u =>
        obtain ⟨ob, rfl⟩ := frz b u q
        have e1 := (hok b _ q).1
        rw [e] at e1
        cases e1
        exact (hok' b _ (un.frzs b _ _ q)).1
  cases hk : K.lookup a with
  | some o =>
    have e := KX a o hk
    rw [ha] at e
    cases e
    refine main (fun _ => none) (fun b z => absurd rfl z) (fun b u z => nomatch z) (fun b u z => nomatch z) (fun z => absurd rfl z) fun N _ => .scrK fun H' => .inr ⟨_, vs.toArray, _, by rw [hc]; exact hk, rfl, rfl, rfl, ?_, ?_⟩
    · rw [List.size_toArray, lv]; exact l63
    · simpa using vals_ints hi
  | none =>
    have one : ∀ {b : Addr} {u : HO}, (if b = a then some (HO.frz { cls := .type "list", data := .seq vs.toArray } (.lst (ns.map V.int))) else none) = some u → b = a ∧ u = HO.frz { cls := .type "list", data := .seq vs.toArray } (.lst (ns.map V.int)) := by
      intro b u e
      by_cases z : b = a
      · rw [if_pos z] at e; cases e; exact ⟨z, rfl⟩
      · rw [if_neg z] at e; cases e
    refine main (fun b => if b = a then some (.frz { cls := .type "list", data := .seq vs.toArray } (.lst (ns.map V.int))) else none) (fun b z => ?_) (fun b u z => ?_) (fun b u z => ⟨_, (one z).2⟩) (fun _ => hk) fun N n => .scr (n a) (.inr ⟨_, if_pos rfl⟩)
    · by_cases y : b = a
      · exact y
      · exact absurd (if_neg y) z
    · obtain ⟨rfl, rfl⟩ := one z
      exact ⟨ha, by rw [List.length_map]; exact l63, vs, _, vals_ints hi, ha⟩
end
theorem walk_end {l : PySem.W.OpenLaw} {k : Nat} {q : Program} {loose : List Str} {XP : (Str → Option Value) → Heap → Prop} {YP : World → Heap → Prop} {d : DefRec} {K : Params → PySem.W.Frag} {x : Str} {cls : World → Cl}
    (hn : l.most = some 63) (hdf : d.params.defaults = []) (hr : Room k callerA) (hY : ∀ (w : World) (h : Heap), YP w h → (K w.params).In h) (hc : ∀ w, (cls w).K = K w.params)
    (F : ∀ (w : World) (mg : Str → Option Value) (fa : Addr) (h : Heap), (K w.params).In h → h.Ns mainGlobals mg → mg d.name = some (.ref fa) →
      ∃ fd : FuncData, (∀ (s : Shared) (u : Value), BindsTo s fd ⟨[u], []⟩ [(x, u)]) ∧
        ∀ base : Heap, (K w.params).In base → base.Ns mainGlobals mg → GOk l.prog w (K w.params) mg base k fa fd [x] (spG (cls w) 1 preLaw isTrue1)) :
    PySem.W.WalkO q loose XP YP l.row.toRowW d [] (fun f vs => PySem.call f vs) := by
  refine Att.attach_call hn hdf ?_
  intro w s0 s1 mg mb fa o pm cd doc a vs ns G Y ho hd hcd hmg hobj hints hlen hg
  obtain ⟨fd, hb, hF⟩ := F w mg fa _ (hY w _ Y) G.T.g hmg
  exact law_end (hY w _ Y) G.T.g G.T.b G.T.builtins G.T.nolimit hg hobj hints hlen hr (hc w) hF hb
/-! ### defs as the text's top has written them -/
structure Df (K : PySem.W.Frag) (x : Str) (st : Stmt) (f : Addr) (fd : FuncData) : Prop where
  F : Fun K x x st f fd
  a : PySem.W.nsIn K mainGlobals x = some (some (.ref f))
theorem df_mk {K : PySem.W.Frag} {x : Str} {st : Stmt} {f : Addr} {oc : Value} {od an : Option Addr} {sl : Array (Option Value)} {kV dc pm cd ct : Value} (a : PySem.W.nsIn K mainGlobals x = some (some (.ref f)))
    (l : K.lookup f = some ⟨oc, od, .func (PySem.W.fnOf x x (defArgs st) (defBody st) (defScope st) .none kV dc pm an cd ct), sl⟩) (c : PySem.W.codeIn K cd x = true) (k : PySem.W.keepIn K (.ref f) = true) : ∃ f fd, Df K x st f fd := ⟨f, _, fun_mk l c k, a⟩
theorem cal_mk {P : Program} {w : World} {K : PySem.W.Frag} {mg : Str → Option Value} {base h : Heap} {x : Str} {st : Stmt} {f : Addr} {fd : FuncData} {k : Nat} {ps : List Str} {kws : List (List Str × List Nat)} {sp : Sp} (D : Df K x st f fd) (X : K.In h) (G : h.Ns mainGlobals mg)
    (g : GOk P w K mg base k f fd ps sp) (hb : ∀ (kV doc pm : Value) (an : Option Addr) (cdv ct : Value) (us : List Value), us.length = ps.length → bindArgs (PySem.W.fnOf x x (defArgs st) (defBody st) (defScope st) .none kV doc pm an cdv ct) ⟨us, []⟩ = pure (ps.zip us))
    (hk : ∀ q ∈ kws, ∀ (kV doc pm : Value) (an : Option Addr) (cdv ct : Value) (ws : List Value), ws.length = q.1.length → bindArgs (PySem.W.fnOf x x (defArgs st) (defBody st) (defScope st) .none kV doc pm an cdv ct) ⟨[], q.1.zip ws⟩ = pure (ps.zip (perm q.2 ws))) : Cal P w K mg base x k ps kws sp := by
  refine ⟨f, fd, g, PySem.W.mg_of X G D.a, D.F.kp, D.F.binds hb, fun q hq s ws hl => ?_⟩
  obtain ⟨oc, od, kV, doc, pm, an, cdv, ct, osl, rfl, lk, hcd⟩ := D.F.ex
  exact .of_eq (hk q hq kV doc pm an cdv ct ws hl)
theorem bt_mk {K : PySem.W.Frag} {h : Heap} {mg : Str → Option Value} (X : K.In h) (G : h.Ns mainGlobals mg) (H : ∀ x ∈ (["len", "tuple", "list", "sum", "all", "any", "abs", "max", "min", "int", "bool", "divmod", "isinstance", "range", "zip", "repr", "enumerate", "sorted", "str", "dict"] : List Str), PySem.W.nsIn K mainGlobals x = some none) : Bt mg := by
  have z : ∀ x ∈ (["len", "tuple", "list", "sum", "all", "any", "abs", "max", "min", "int", "bool", "divmod", "isinstance", "range", "zip", "repr", "enumerate", "sorted", "str", "dict"] : List Str), mg x = none := fun x hx => PySem.W.mg_none_of X G (H x hx)
  constructor <;> exact z _ (by decide)
theorem gc_mk {K : PySem.W.Frag} {h : Heap} {mg : Str → Option Value} {x : Str} {i : Int} {t : Tok} (X : K.In h) (G : h.Ns mainGlobals mg) (e : PySem.W.nsIn K mainGlobals x = some (some (.int i t))) : ∃ t, mg x = some (.int i t) := ⟨t, PySem.W.mg_of X G e⟩
/-- the end of a law without objects -/
theorem walk_end0 {l : PySem.W.OpenLaw} {k : Nat} {q : Program} {loose : List Str} {XP : (Str → Option Value) → Heap → Prop} {YP : World → Heap → Prop} {d : DefRec} {K : Params → PySem.W.Frag} {x : Str}
    (hn : l.most = some 63) (hdf : d.params.defaults = []) (hr : Room k callerA) (hY : ∀ (w : World) (h : Heap), YP w h → (K w.params).In h)
    (F : ∀ (w : World) (mg : Str → Option Value) (fa : Addr) (h : Heap), (K w.params).In h → h.Ns mainGlobals mg → mg d.name = some (.ref fa) →
      ∃ fd : FuncData, (∀ (s : Shared) (u : Value), BindsTo s fd ⟨[u], []⟩ [(x, u)]) ∧
        ∀ base : Heap, (K w.params).In base → base.Ns mainGlobals mg → GOk l.prog w (K w.params) mg base k fa fd [x] (spG ⟨K w.params, fun _ => mainGlobals⟩ 1 preLaw isTrue1)) :
    PySem.W.WalkO q loose XP YP l.row.toRowW d [] (fun f vs => PySem.call f vs) := walk_end (cls := fun w => ⟨K w.params, fun _ => mainGlobals⟩) hn hdf hr hY (fun _ => rfl) F
end Lk

namespace Lk
open PySem PySem.Spec PyProof.Rows L2

section
variable {cls : Cl} {p : Addr → Prop} {ds ds' : Sts} {ta tb tc td te : TE} {P PX PY PZ PW : D → Prop} {t : TA} {PA PB : List D → Prop} {K : PySem.W.Frag}
theorem ea1 (h : Ev cls p ta ds PX) : EvA cls p (tCons ta tNil) ds (fun l => ∃ x, PX x ∧ l = [x]) := (ea_cons h ea_nil).mono fun l ⟨x, xs, h, e, z⟩ => ⟨x, h, by rw [z, e]⟩
theorem ea2 (h : Ev cls p ta ds PX) (k : Ev cls p tb ds PY) : EvA cls p (tCons ta (tCons tb tNil)) ds (fun l => ∃ x y, PX x ∧ PY y ∧ l = [x, y]) := (ea_cons h (ea1 k)).mono fun l ⟨x, xs, h, ⟨y, k, e⟩, z⟩ => ⟨x, y, h, k, by rw [z, e]⟩
theorem ea3 (h : Ev cls p ta ds PX) (k : Ev cls p tb ds PY) (m : Ev cls p tc ds PZ) : EvA cls p (tCons ta (tCons tb (tCons tc tNil))) ds (fun l => ∃ x y z, PX x ∧ PY y ∧ PZ z ∧ l = [x, y, z]) :=
  (ea_cons h (ea2 k m)).mono fun l ⟨x, xs, h, ⟨y, z, k, m, e⟩, q⟩ => ⟨x, y, z, h, k, m, by rw [q, e]⟩
theorem ea4 (h : Ev cls p ta ds PX) (k : Ev cls p tb ds PY) (m : Ev cls p tc ds PZ) (n : Ev cls p td ds PW) : EvA cls p (tCons ta (tCons tb (tCons tc (tCons td tNil)))) ds (fun l => ∃ x y z w, PX x ∧ PY y ∧ PZ z ∧ PW w ∧ l = [x, y, z, w]) :=
  (ea_cons h (ea3 k m n)).mono fun l ⟨x, xs, h, ⟨y, z, w, k, m, n, e⟩, q⟩ => ⟨x, y, z, w, h, k, m, n, by rw [q, e]⟩
/-- a call of a def of these texts with known arguments -/
theorem ev_call' {n : Nat} {pre : (Addr → Prop) → List D → Prop} {F : List D → D → Prop} (h : EvA cls p t ds PA) (hp : ∀ xs, PA xs → xs.length = n ∧ pre p xs ∧ ∀ d, F xs d → P d) : Ev cls p (tCall (spG cls n pre F) [] E0 t) ds P :=
  (ev_call h fun xs a => ⟨(hp xs a).1, (hp xs a).2.1⟩).mono fun d ⟨xs, a, f⟩ => (hp xs a).2.2 d f
theorem ev_key' {n m : Nat} {is : List Nat} {pre : (Addr → Prop) → List D → Prop} {F : List D → D → Prop} (h : EvA cls p t ds PA) (hp : ∀ xs, PA xs → xs.length = m ∧ (perm is xs).length = n ∧ pre p (perm is xs) ∧ ∀ d, F (perm is xs) d → P d) : Ev cls p (tKey (spG cls n pre F) is m t) ds P :=
  (ev_key h fun xs a => ⟨(hp xs a).1, (hp xs a).2.1, (hp xs a).2.2.1⟩).mono fun d ⟨xs, a, f⟩ => (hp xs a).2.2.2 d f

/-! ### what isinstance answers -/
def isInt : D → Bool
  | .int _ => true
  | _ => false
def isBl : D → Bool
  | .bl _ => true
  | _ => false
def isLst : D → Bool
  | .lst _ => true
  | _ => false
def isTup : D → Bool
  | .tup _ => true
  | _ => false
theorem isB_int : ∀ {d : D}, builtD d = true → isB (tyName d) "int" = some (isInt d || isBl d)
  | .non, _ => by decide +kernel
  | .bl _, _ => by show isB "bool" "int" = some true; decide +kernel
  | .int _, _ => by show isB "int" "int" = some true; decide +kernel
  | .str _, _ => by show isB "str" "int" = some false; decide +kernel
  | .lst _, _ => by show isB "list" "int" = some false; decide +kernel
  | .tup _, _ => by show isB "tuple" "int" = some false; decide +kernel
  | .dk _ _, _ => by show isB "dict" "int" = some false; decide +kernel
theorem isB_bool : ∀ {d : D}, builtD d = true → isB (tyName d) "bool" = some (isBl d)
  | .non, _ => by decide +kernel
  | .bl _, _ => by show isB "bool" "bool" = some true; decide +kernel
  | .int _, _ => by show isB "int" "bool" = some false; decide +kernel
  | .str _, _ => by show isB "str" "bool" = some false; decide +kernel
  | .lst _, _ => by show isB "list" "bool" = some false; decide +kernel
  | .tup _, _ => by show isB "tuple" "bool" = some false; decide +kernel
  | .dk _ _, _ => by show isB "dict" "bool" = some false; decide +kernel
theorem isB_list : ∀ {d : D}, builtD d = true → isB (tyName d) "list" = some (isLst d)
  | .non, _ => by decide +kernel
  | .bl _, _ => by show isB "bool" "list" = some false; decide +kernel
  | .int _, _ => by show isB "int" "list" = some false; decide +kernel
  | .str _, _ => by show isB "str" "list" = some false; decide +kernel
  | .lst _, _ => by show isB "list" "list" = some true; decide +kernel
  | .tup _, _ => by show isB "tuple" "list" = some false; decide +kernel
  | .dk _ _, _ => by show isB "dict" "list" = some false; decide +kernel
theorem isB_tuple : ∀ {d : D}, builtD d = true → isB (tyName d) "tuple" = some (isTup d)
  | .non, _ => by decide +kernel
  | .bl _, _ => by show isB "bool" "tuple" = some false; decide +kernel
  | .int _, _ => by show isB "int" "tuple" = some false; decide +kernel
  | .str _, _ => by show isB "str" "tuple" = some false; decide +kernel
  | .lst _, _ => by show isB "list" "tuple" = some false; decide +kernel
  | .tup _, _ => by show isB "tuple" "tuple" = some true; decide +kernel
  | .dk _ _, _ => by show isB "dict" "tuple" = some false; decide +kernel
/-- isinstance(x, int), .. as they stand -/
theorem ev_isI (h : Ev cls p ta ds PX) (hb : ∀ d, PX d → builtD d = true) : Ev cls p (tCB (cOr (rIsi K) (rIsiT K)) (tCons ta (tCons (tC (.ty "int")) tNil))) ds (fun r => ∃ d, PX d ∧ r = .bl (isInt d || isBl d)) :=
  (ev_cb (ea2 h ev_ty) (rc_l (rc_isi fun xs ⟨x, y, hx, hy, e⟩ => ⟨x, _, by rw [e, hy], hb x hx, isB_int (hb x hx)⟩))).mono fun r ⟨d, b, ⟨x, y, hx, hy, e⟩, h2, h3⟩ => by
    cases e
    rw [isB_int (hb d hx)] at h2
    cases h2
    exact ⟨d, hx, h3⟩
theorem ev_isBo (h : Ev cls p ta ds PX) (hb : ∀ d, PX d → builtD d = true) : Ev cls p (tCB (cOr (rIsi K) (rIsiT K)) (tCons ta (tCons (tC (.ty "bool")) tNil))) ds (fun r => ∃ d, PX d ∧ r = .bl (isBl d)) :=
  (ev_cb (ea2 h ev_ty) (rc_l (rc_isi fun xs ⟨x, y, hx, hy, e⟩ => ⟨x, _, by rw [e, hy], hb x hx, isB_bool (hb x hx)⟩))).mono fun r ⟨d, b, ⟨x, y, hx, hy, e⟩, h2, h3⟩ => by
    cases e
    rw [isB_bool (hb d hx)] at h2
    cases h2
    exact ⟨d, hx, h3⟩
theorem cb_r {r1 r2 : List V → Hp → VK → Prop} {t : TA} (h : Ev cls p (tCB r2 t) ds P) (mono : ∀ (σ : L2.St) (H : Hp) (Q Q' : List V → Hp → Prop), (∀ vs H', Q vs H' → Q' vs H') → t σ H Q → t σ H Q') : Ev cls p (tCB (cOr r1 r2) t) ds P := fun pn N H0 ad σ H S Q q =>
  mono σ H _ _ (fun vs H' z => .inr z) (h pn N H0 ad σ H S Q q)
theorem ev_isS {i : Nat} {d : D} (e : ds[i]? = some (some (Slot.dat d))) (hb : builtD d = true) : Ev cls p (tCB (cOr (rIsi K) (rIsiT K)) (tCons (tVar i) (tCons (tTup (tCons (tC (.ty "list")) (tCons (tC (.ty "tuple")) tNil))) tNil))) ds (· = .bl (isLst d || isTup d)) := by
  refine Ev.mono (P := fun r => ∃ d' b c, d' = d ∧ isB (tyName d') "list" = some b ∧ isB (tyName d') "tuple" = some c ∧ r = .bl (b || c)) (cb_r (ev_isi2 (ev_var e) fun d' e' => ?_) ?_) ?_
  · subst e'
    exact ⟨hb, _, _, isB_list hb, isB_tuple hb⟩
  · rintro σ H Q Q' k ⟨v, h1, h2, h3⟩
    exact ⟨v, h1, h2, fun l hl => k _ _ (h3 l hl)⟩
  · rintro r ⟨d', b, c, rfl, h1, h2, rfl⟩
    rw [isB_list hb] at h1
    rw [isB_tuple hb] at h2
    cases h1
    cases h2
    rfl

/-! ### comprehensions whose values are known -/
theorem paired_map {f : D → D} : ∀ {xs ys : List D}, Paired (fun x y => y = f x) xs ys → ys = xs.map f
  | _, _, .nil => rfl
  | _, _, .cons h t => by rw [h, paired_map t]; rfl
theorem filter_true' {xs : List D} : xs.filter (fun _ => true) = xs := by
  rw [List.filter_eq_self]
  exact fun _ _ => rfl
/-- over the things xs, no test: for each x the value is such -/
theorem ev_lcS {wi : TI} {g : TG} {vs js : List Nat} {xs : List D} {Pe : D → D → Prop} (hi : EI cls p wi ds (· = xs)) (hz : xs.length ≤ 100000) (hj : ∀ j ∈ js, j ∈ vs) (hw : (wipeD ds vs).map ownOf = ds.map ownOf)
    (h : ∀ x ∈ xs, ∃ ds', EvG cls p g js x (wipeD ds vs) ds' ∧ ds'.map ownOf = ds.map ownOf ∧ Ev cls p te ds' (Pe x)) :
    Ev cls p (tLc wi g tYes te vs) ds (fun d => ∃ ys, Paired Pe xs ys ∧ d = .lst ys) := by
  refine (ev_lc (b := fun _ => true) (Pe := Pe) hi (fun ys e => by rw [e]; exact hz) hj (fun ys e x hx => ?_) hw).mono ?_
  · subst e
    obtain ⟨ds', a, b, c⟩ := h x hx
    exact ⟨ds', a, b, et_yes, fun _ => c⟩
  · rintro d ⟨zs, ys, e, pp, z⟩
    subst e
    rw [filter_true'] at pp
    exact ⟨ys, pp, z⟩
theorem ev_lcF {wi : TI} {g : TG} {vs js : List Nat} {xs : List D} {f : D → D} (hi : EI cls p wi ds (· = xs)) (hz : xs.length ≤ 100000) (hj : ∀ j ∈ js, j ∈ vs) (hw : (wipeD ds vs).map ownOf = ds.map ownOf)
    (h : ∀ x ∈ xs, ∃ ds', EvG cls p g js x (wipeD ds vs) ds' ∧ ds'.map ownOf = ds.map ownOf ∧ Ev cls p te ds' (· = f x)) :
    Ev cls p (tLc wi g tYes te vs) ds (· = .lst (xs.map f)) := by
  refine (ev_lcS (Pe := fun x y => y = f x) hi hz hj hw h).mono ?_
  rintro d ⟨ys, pp, e⟩
  rw [e, paired_map pp]
theorem ei_row {k : Bool} {xs : List D} (h : Ev cls p te ds (· = sq k xs)) : EI cls p (iOr (iList K te) (iTup K te)) ds (· = xs) := by
  cases k with
  | true => exact ei_l ((ei_list h fun d e => ⟨xs, e⟩).mono fun ys e => by cases (show D.lst ys = D.lst xs from e); rfl)
  | false => exact ei_r ((ei_tup h fun d e => ⟨xs, e⟩).mono fun ys e => by cases (show D.tup ys = D.tup xs from e); rfl)
theorem sq_inj {k l : Bool} {xs ys : List D} (h : sq k xs = sq l ys) : xs = ys := by
  cases k <;> cases l <;> (first | (cases (show D.lst _ = D.lst _ from h); rfl) | (cases (show D.tup _ = D.tup _ from h); rfl) | cases (show D.lst _ = D.tup _ from h) | cases (show D.tup _ = D.lst _ from h))
theorem ei_zipR {k l : Bool} {xs ys : List D} (h : EvA cls p t ds (· = [sq k xs, sq l ys])) : EI cls p (iZipS K t) ds (· = zips xs ys) :=
  (ei_zip h fun zs e => ⟨k, l, xs, ys, e⟩).mono fun zs ⟨k', l', a, b, e, z⟩ => by
    have e := List.cons.inj e
    have e2 := List.cons.inj e.2
    rw [z, sq_inj e.1, sq_inj e2.1]
theorem ei_rng {n : Int} (h : EvA cls p t ds (· = [.int n])) (h0 : -100000 ≤ n) (h1 : n ≤ 100000) : EI cls p (iRng1 t) ds (· = irng 0 n.toNat) :=
  (ei_range1 h fun xs e => ⟨n, e, by omega, by omega⟩).mono fun xs ⟨m, e, z⟩ => by
    cases List.cons.inj e |>.1
    exact z

def row (k : Bool) (a : List Int) : D := sq k (a.map D.int)
theorem row_inj {k l : Bool} {a b : List Int} (h : row k a = row l b) : a = b := by
  have e := sq_inj h
  have inj : ∀ {a b : List Int}, a.map D.int = b.map D.int → a = b := by
    intro a
    induction a with
    | nil => intro b e; cases b with | nil => rfl | cons _ _ => cases e
    | cons x a ih =>
      intro b e
      cases b with
      | nil => cases e
      | cons y b =>
        have e := List.cons.inj e
        rw [D.int.inj e.1, ih e.2]
  exact inj e
/-- len(x) -/
theorem ev_len {k : Bool} {xs : List D} (h : Ev cls p te ds (· = sq k xs)) : Ev cls p (tCB (rLen K) (tCons te tNil)) ds (· = .int xs.length) := by
  refine (ev_cb (ea1 h) (rc_len ?_)).mono ?_
  · rintro _ ⟨_, rfl, rfl⟩
    exact ⟨k, xs, rfl⟩
  · rintro r ⟨l, ys, ⟨_, rfl, e⟩, e2⟩
    rw [e2, sq_inj (List.cons.inj e).1]
/-- tuple(x), list(x) -/
theorem ev_tupOf {k : Bool} {xs : List D} (h : Ev cls p te ds (· = sq k xs)) : Ev cls p (tCB (rTuple K) (tCons te tNil)) ds (· = .tup xs) := by
  refine (ev_cb (ea1 h) (rc_tuple ?_)).mono ?_
  · rintro _ ⟨_, rfl, rfl⟩
    exact ⟨k, xs, rfl⟩
  · rintro r ⟨l, ys, ⟨_, rfl, e⟩, e2⟩
    rw [e2, sq_inj (List.cons.inj e).1]
theorem ev_lstOf {k : Bool} {xs : List D} (h : Ev cls p te ds (· = sq k xs)) : Ev cls p (tCB (rList K) (tCons te tNil)) ds (· = .lst xs) := by
  refine (ev_cb (ea1 h) (rc_list ?_)).mono ?_
  · rintro _ ⟨_, rfl, rfl⟩
    exact ⟨k, xs, rfl⟩
  · rintro r ⟨l, ys, ⟨_, rfl, e⟩, e2⟩
    rw [e2, sq_inj (List.cons.inj e).1]
/-- sum of whole numbers, abs -/
theorem ev_sum {is : List Int} (h : Ev cls p te ds (· = .lst (is.map D.int))) : Ev cls p (tCB (rSum K) (tCons te tNil)) ds (· = .int is.sum) := by
  refine (ev_cb (ea1 h) (rc_sum ?_)).mono ?_
  · rintro _ ⟨_, rfl, rfl⟩
    exact ⟨is, rfl⟩
  · rintro r ⟨js, ⟨_, rfl, e⟩, e2⟩
    have e1 : row true js = row true is := (List.cons.inj e).1
    rw [e2, row_inj e1]
theorem ev_abs {i : Int} (h : Ev cls p te ds (· = .int i)) : Ev cls p (tCB rAbs (tCons te tNil)) ds (· = .int (if i < 0 then -i else i)) := by
  refine (ev_cb (ea1 h) (rc_abs ?_)).mono ?_
  · rintro _ ⟨_, rfl, rfl⟩
    exact ⟨i, rfl⟩
  · rintro r ⟨j, ⟨_, rfl, e⟩, e2⟩
    cases (List.cons.inj e).1
    exact e2
theorem ev_negI {i : Int} (h : Ev cls p te ds (· = .int i)) : Ev cls p (tUn (rU fun i => .int (-i)) te) ds (· = .int (-i)) := (ev_neg h intP).mono fun d ⟨j, hj, e⟩ => by cases hj; exact e
theorem bls_inj : ∀ {a b : List Bool}, a.map D.bl = b.map D.bl → a = b
  | [], [], _ => rfl
  | [], _ :: _, e => nomatch e
  | _ :: _, [], e => nomatch e
  | x :: a, y :: b, e => by
    have e := List.cons.inj e
    rw [D.bl.inj e.1, bls_inj e.2]
theorem ev_all {bs : List Bool} (h : Ev cls p te ds (· = .lst (bs.map D.bl))) : Ev cls p (tCB (rAll K) (tCons te tNil)) ds (· = .bl (bs.all id)) := by
  refine (ev_cb (ea1 h) (rc_all ?_)).mono ?_
  · rintro _ ⟨_, rfl, rfl⟩
    exact ⟨bs, rfl⟩
  · rintro r ⟨js, ⟨_, rfl, e⟩, e2⟩
    rw [e2, bls_inj (D.lst.inj (List.cons.inj e).1)]
/-! ### zips of rows -/
theorem zips_ints : ∀ (a b : List Int), zips (a.map D.int) (b.map D.int) = (a.zip b).map fun q => D.tup [.int q.1, .int q.2]
  | [], _ => rfl
  | _ :: _, [] => rfl
  | x :: a, y :: b => by
    show D.tup [.int x, .int y] :: zips (a.map D.int) (b.map D.int) = _
    rw [zips_ints a b]
    rfl
/-- [f(x, y) for x, y in zip(a, b)], a and b rows -/
theorem ev_lcZ {i j : Nat} {vs : List Nat} {k l : Bool} {a b : List Int} {f : Int → Int → D} (h : EvA cls p t ds (· = [row k a, row l b])) (hz : a.length ≤ 1000) (hv : i ∈ vs ∧ j ∈ vs) (hw : (wipeD ds vs).map ownOf = ds.map ownOf)
    (ho : ∀ x y, (((wipeD ds vs).set i (some (Slot.dat (.int x)))).set j (some (Slot.dat (.int y)))).map ownOf = ds.map ownOf)
    (he : ∀ x y, (x, y) ∈ a.zip b → Ev cls p te (((wipeD ds vs).set i (some (Slot.dat (.int x)))).set j (some (Slot.dat (.int y)))) (· = f x y)) :
    Ev cls p (tLc (iZipS K t) (gTup K 2 (gCons (gName i) (gCons (gName j) gNil))) tYes te vs) ds (· = .lst (List.zipWith f a b)) := by
  refine (ev_lcS (js := [i, j]) (Pe := fun d r => ∀ x y, d = .tup [.int x, .int y] → r = f x y) (ei_zipR h) ?_ ?_ hw ?_).mono ?_
  · rw [zips_len, List.length_map]; omega
  · intro z hz
    rcases List.mem_cons.mp hz with e | hz
    · rw [e]; exact hv.1
    · rw [List.mem_singleton.mp hz]; exact hv.2
  · intro d hd
    rw [zips_ints, List.mem_map] at hd
    obtain ⟨⟨x, y⟩, hq, rfl⟩ := hd
    exact ⟨_, eg_tup (egs_cons (egs_cons egs_nil)) rfl, ho x y, (he x y hq).mono fun r e x' y' z => by cases z; exact e⟩
  · rintro d ⟨ys, pp, rfl⟩
    have gen : ∀ (a b : List Int) (ys : List D), Paired (fun d r => ∀ x y, d = D.tup [.int x, .int y] → r = f x y) (zips (a.map D.int) (b.map D.int)) ys → ys = List.zipWith f a b := by
      intro a
      induction a with
      | nil => intro b ys pp; cases pp; rfl
      | cons x a ih =>
        intro b ys pp
        cases b with
        | nil => cases pp; rfl
        | cons y b =>
          cases (show Paired _ (D.tup [.int x, .int y] :: zips (a.map D.int) (b.map D.int)) ys from pp) with
          | cons h t => rw [h x y rfl, ih b _ t]; rfl
    rw [gen a b ys pp]
/-- [f(x) for x in a], a a row -/
theorem ev_lcR {i : Nat} {vs : List Nat} {k : Bool} {a : List Int} {f : Int → D} (h : Ev cls p ta ds (· = row k a)) (hz : a.length ≤ 1000) (hv : i ∈ vs) (hw : (wipeD ds vs).map ownOf = ds.map ownOf)
    (ho : ∀ x, ((wipeD ds vs).set i (some (Slot.dat (.int x)))).map ownOf = ds.map ownOf)
    (he : ∀ x ∈ a, Ev cls p te ((wipeD ds vs).set i (some (Slot.dat (.int x)))) (· = f x)) :
    Ev cls p (tLc (iOr (iList K ta) (iTup K ta)) (gName i) tYes te vs) ds (· = .lst (a.map f)) := by
  refine (ev_lcS (js := [i]) (Pe := fun d r => ∀ x, d = .int x → r = f x) (ei_row h) ?_ ?_ hw ?_).mono ?_
  · rw [List.length_map]; omega
  · intro z hz
    rw [List.mem_singleton.mp hz]; exact hv
  · intro d hd
    rw [List.mem_map] at hd
    obtain ⟨x, hx, rfl⟩ := hd
    exact ⟨_, eg_name, ho x, (he x hx).mono fun r e x' z => by cases z; exact e⟩
  · rintro d ⟨ys, pp, rfl⟩
    have gen : ∀ (a : List Int) (ys : List D), Paired (fun d r => ∀ x, d = D.int x → r = f x) (a.map D.int) ys → ys = a.map f := by
      intro a
      induction a with
      | nil => intro ys pp; cases pp; rfl
      | cons x a ih =>
        intro ys pp
        cases pp with
        | cons h t => rw [h x rfl, ih _ t]; rfl
    rw [gen a ys pp]
/-- whole numbers are put together -/
theorem ev_addI {x y : Int} (h : Ev cls p ta ds (· = .int x)) (k : Ev cls p tb ds (· = .int y)) : Ev cls p (tOp (rOr (rI0 fun i j => .int (i + j)) rCat) ta tb) ds (· = .int (x + y)) :=
  (ev_op h k (rv_l (rv_I0 intP intP))).mono fun d ⟨i, j, hi, hj, e⟩ => by cases hi; cases hj; exact e
theorem ev_subI {x y : Int} (h : Ev cls p ta ds (· = .int x)) (k : Ev cls p tb ds (· = .int y)) : Ev cls p (tOp (rI0 fun i j => .int (i - j)) ta tb) ds (· = .int (x - y)) :=
  (ev_op h k (rv_I0 intP intP)).mono fun d ⟨i, j, hi, hj, e⟩ => by cases hi; cases hj; exact e
theorem ev_mulI {x y : Int} (h : Ev cls p ta ds (· = .int x)) (k : Ev cls p tb ds (· = .int y)) (hc : CMulW x y) : Ev cls p (tOp (rOr (rI CMulW fun i j => .int (i * j)) (rOr rRep (rRepT K))) ta tb) ds (· = .int (x * y)) :=
  (ev_op h k (rv_l (rv_IC intP intP fun i j hi hj => by cases hi; cases hj; exact hc))).mono fun d ⟨i, j, hi, hj, e⟩ => by cases hi; cases hj; exact e
theorem mulW {x y : Int} (hx : x.natAbs < 2 ^ 400000) (hy : y.natAbs < 2 ^ 400000) : CMulW x y := wide_mul hx hy (by decide) (by decide) (by decide)
theorem pow_le {n : Nat} {a b : Nat} (h : n < 2 ^ a) (hab : a ≤ b) : n < 2 ^ b := Nat.lt_of_lt_of_le h (Nat.pow_le_pow_right (by decide) hab)

/-! ### tests that do not hold, values that are True -/
variable {nx bk ct : Sts → Prop} {rt : D → Prop} {ts : TS} {tl tr : TE} {tt tu : TT}
theorem sv_guard (h : ET cls p tt ds (· = false)) (k : nx ds) : Sv cls p (tIfS tt ts tNext) ds nx rt bk ct := sv_if h (fun e => nomatch e) fun _ => sv_next k
theorem ev_show {d : D} {n : Nat} (h : Ev cls p te ds (· = d)) (hn : n ≤ 20) (hs : shD n d = true) (hz : szD n d ≤ 10000000) : Ev cls p (tCB (rShow K) (tCons te tNil)) ds (· = .str (py d).shown) := by
  refine (ev_cb (ea1 h) (rc_show ?_)).mono ?_
  · rintro _ ⟨_, rfl, rfl⟩
    exact ⟨_, n, rfl, hn, hs, hz⟩
  · rintro r ⟨x, ⟨y, e1, e2⟩, e3⟩
    have e4 := (List.cons.inj e2).1
    rw [e3, e4, e1]
theorem et_neS {a : Str} (h : Ev cls p tl ds (· = .str a)) (k : Ev cls p tr ds (· = .str a)) : ET cls p (tTest (tOp (rOr rNe (rNeD K)) tl tr)) ds (· = false) := by
  refine (et_test (ev_op h k (rv_l (rv_neS fun dx dy hx hy => ⟨_, _, hx, hy⟩))) (fun d ⟨_, _, _, _, e⟩ => ⟨_, e⟩)).mono ?_
  rintro b ⟨x, y, hx, hy, e⟩
  have e1 := D.str.inj hx
  have e2 := D.str.inj hy
  rw [D.bl.inj e, e1, e2, decide_eq_true rfl]
  rfl
theorem ev_eqS {a : Str} (h : Ev cls p tl ds (· = .str a)) (k : Ev cls p tr ds (· = .str a)) : Ev cls p (tOp (rOr rEq (rEqD K)) tl tr) ds (· = .bl true) := by
  refine (ev_op h k (rv_l (rv_eqS fun dx dy hx hy => ⟨_, _, hx, hy⟩))).mono ?_
  rintro d ⟨x, y, hx, hy, e⟩
  have e1 := D.str.inj hx
  have e2 := D.str.inj hy
  rw [e, e1, e2, decide_eq_true rfl]
theorem et_neI {i : Int} (h : Ev cls p tl ds (· = .int i)) (k : Ev cls p tr ds (· = .int i)) : ET cls p (tTest (tOp (rOr rNe (rNeD K)) tl tr)) ds (· = false) := by
  refine (et_test (ev_op h k (rv_l (rv_neI intP intP))) blP_S).mono ?_
  rintro b ⟨x, y, hx, hy, e⟩
  have e1 := D.int.inj hx
  have e2 := D.int.inj hy
  rw [D.bl.inj e, e1, e2]
  show (!decide (i = i)) = false
  rw [decide_eq_true rfl]
  rfl
theorem ev_eqD {d : D} {n : Nat} (h : Ev cls p tl ds (· = d)) (k : Ev cls p tr ds (· = d)) (hn : n ≤ 64) (ho : okD n d = true) : Ev cls p (tOp (rOr rEq (rEqD K)) tl tr) ds (· = .bl true) := by
  refine (ev_op h k (rv_r (rv_eqD fun dx dy hx hy => ⟨n, hn, by rw [hx]; exact ho, by rw [hy]; exact ho⟩))).mono ?_
  rintro r ⟨x, y, hx, hy, e⟩
  rw [e, hx, hy, SeqAt.eqv_refl _ (okD_can n d ho).1]
theorem et_neD {d : D} {n : Nat} (h : Ev cls p tl ds (· = d)) (k : Ev cls p tr ds (· = d)) (hn : n ≤ 64) (ho : okD n d = true) : ET cls p (tTest (tOp (rOr rNe (rNeD K)) tl tr)) ds (· = false) := by
  refine (et_test (ev_op h k (rv_r (rv_neD fun dx dy hx hy => ⟨n, hn, by rw [hx]; exact ho, by rw [hy]; exact ho⟩))) (fun d ⟨_, _, _, _, e⟩ => ⟨_, e⟩)).mono ?_
  rintro b ⟨x, y, hx, hy, e⟩
  rw [D.bl.inj e, hx, hy, SeqAt.eqv_refl _ (okD_can n d ho).1]
  rfl
theorem et_orF (h : ET cls p tt ds (· = false)) (k : ET cls p tu ds (· = false)) : ET cls p (tOr tt tu) ds (· = false) := (et_or h fun _ => k).mono fun b h => h.elim (fun z => nomatch z.2) fun z => z.2
theorem ev_andT (h : Ev cls p ta ds (· = .bl true)) (k : Ev cls p tb ds (· = .bl true)) : Ev cls p (tAndV ta tb) ds (· = .bl true) := (ev_andV h blP fun _ => k).mono fun d h => h.elim (fun z => nomatch z.2) fun z => z.2
theorem et_notT (h : ET cls p tt ds (· = true)) : ET cls p (tNot tt) ds (· = false) := (et_not h).mono fun b e => by cases b with | false => rfl | true => cases e
theorem et_gtF {i j : Int} (h : Ev cls p tl ds (· = .int i)) (k : Ev cls p tr ds (· = .int j)) (hij : ¬ j < i) : ET cls p (tTest (tOp (rI0 fun i j => .bl (decide (j < i))) tl tr)) ds (· = false) := by
  refine (et_test (ev_op h k (rv_B0 intP intP)) blP_S).mono ?_
  rintro b ⟨x, y, hx, hy, e⟩
  cases hx; cases hy
  rw [D.bl.inj e]
  exact decide_eq_false hij
theorem ev_lst2 {x y : D} (h : Ev cls p ta ds (· = x)) (k : Ev cls p tb ds (· = y)) : Ev cls p (tLst (tCons ta (tCons tb tNil))) ds (· = .lst [x, y]) :=
  (ev_lst (ea2 h k) fun xs ⟨_, _, _, _, e⟩ => by rw [e]; exact (by decide : 2 ≤ 100000)).mono fun d ⟨xs, ⟨a, b, ha, hb, e⟩, e2⟩ => by rw [e2, e, ha, hb]
theorem ev_lst1 {x : D} (h : Ev cls p ta ds (· = x)) : Ev cls p (tLst (tCons ta tNil)) ds (· = .lst [x]) :=
  (ev_lst (ea1 h) fun xs ⟨_, _, e⟩ => by rw [e]; exact (by decide : 1 ≤ 100000)).mono fun d ⟨xs, ⟨a, ha, e⟩, e2⟩ => by rw [e2, e, ha]
theorem ev_lst0 : Ev cls p (tLst tNil) ds (· = .lst []) :=
  (ev_lst ea_nil fun xs e => by rw [e]; exact Nat.zero_le _).mono fun d ⟨xs, e, e2⟩ => by rw [e2, e]
theorem ev_lst3 {x y z : D} (h : Ev cls p ta ds (· = x)) (k : Ev cls p tb ds (· = y)) (m : Ev cls p tc ds (· = z)) : Ev cls p (tLst (tCons ta (tCons tb (tCons tc tNil)))) ds (· = .lst [x, y, z]) :=
  (ev_lst (ea3 h k m) fun xs ⟨_, _, _, _, _, _, e⟩ => by rw [e]; exact (by decide : 3 ≤ 100000)).mono fun d ⟨xs, ⟨a, b, c, ha, hb, hc, e⟩, e2⟩ => by rw [e2, e, ha, hb, hc]
theorem ev_lst4 {x y z w : D} (h : Ev cls p ta ds (· = x)) (k : Ev cls p tb ds (· = y)) (m : Ev cls p tc ds (· = z)) (n : Ev cls p td ds (· = w)) : Ev cls p (tLst (tCons ta (tCons tb (tCons tc (tCons td tNil))))) ds (· = .lst [x, y, z, w]) :=
  (ev_lst (ea4 h k m n) fun xs ⟨_, _, _, _, _, _, _, _, e⟩ => by rw [e]; exact (by decide : 4 ≤ 100000)).mono fun d ⟨xs, ⟨a, b, c, d', ha, hb, hc, hd, e⟩, e2⟩ => by rw [e2, e, ha, hb, hc, hd]
/-- what a row shows, how it is compared -/
theorem sh_row (n : Nat) (k : Bool) {a : List Int} (h : ∀ i ∈ a, i.natAbs < 2 ^ 1900) : shD (n + 1) (row k a) = true := by
  have e : (a.map D.int).all (shD n) = true := by
    rw [List.all_eq_true]
    intro d hd
    obtain ⟨i, hi, rfl⟩ := List.mem_map.mp hd
    cases n <;> exact decide_eq_true (h i hi)
  cases k <;> exact e
theorem sz_row (n : Nat) (k : Bool) (a : List Int) : szD (n + 1) (row k a) = 4 + 2002 * a.length := by
  have e : ((a.map D.int).map fun x => szD n x + 2).sum = 2002 * a.length := by
    induction a with
    | nil => rfl
    | cons i a ih =>
      rw [List.map_cons, List.map_cons, List.sum_cons, ih, List.length_cons]
      have : szD n (.int i) = 2000 := by cases n <;> rfl
      rw [this]
      omega
  cases k <;> (show 4 + _ = _; rw [e])
theorem ok_row (n : Nat) (k : Bool) (a : List Int) : okD (n + 1) (row k a) = true := by
  have e : (a.map D.int).all (okD n) = true := by
    rw [List.all_eq_true]
    intro d hd
    obtain ⟨i, hi, rfl⟩ := List.mem_map.mp hd
    cases n <;> rfl
  cases k <;> exact e
theorem mem_zipWith {f : Int → Int → Int} : ∀ {a b : List Int} {z : Int}, z ∈ List.zipWith f a b → ∃ x y, x ∈ a ∧ y ∈ b ∧ z = f x y
  | [], _, _, h => nomatch h
  | _ :: _, [], _, h => nomatch h
  | x :: a, y :: b, z, h => by
    rcases List.mem_cons.mp (show z ∈ f x y :: List.zipWith f a b from h) with e | h
    · exact ⟨x, y, List.mem_cons_self .., List.mem_cons_self .., e⟩
    · obtain ⟨u, v, h1, h2, e⟩ := mem_zipWith h
      exact ⟨u, v, List.mem_cons_of_mem _ h1, List.mem_cons_of_mem _ h2, e⟩
theorem sum_bound {B : Nat} : ∀ {a : List Int}, (∀ i ∈ a, i.natAbs < B) → a.sum.natAbs ≤ a.length * B
  | [], _ => by simp
  | x :: a, h => by
    have h1 := h x (List.mem_cons_self ..)
    have h2 := sum_bound (a := a) fun i hi => h i (List.mem_cons_of_mem _ hi)
    rw [List.sum_cons, List.length_cons, Nat.add_mul]
    omega

/-- tuple([f(x, y) for x, y in zip(a, b)]), tuple([f(x) for x in a]): rows -/
theorem ev_rowZ {i j : Nat} {vs : List Nat} {k l : Bool} {a b : List Int} (f : Int → Int → Int) (h : Ev cls p ta ds (· = row k a)) (g : Ev cls p tb ds (· = row l b)) (hz : a.length ≤ 1000) (hv : i ∈ vs ∧ j ∈ vs) (hw : (wipeD ds vs).map ownOf = ds.map ownOf)
    (ho : ∀ x y, (((wipeD ds vs).set i (some (Slot.dat (.int x)))).set j (some (Slot.dat (.int y)))).map ownOf = ds.map ownOf)
    (he : ∀ x y, (x, y) ∈ a.zip b → Ev cls p te (((wipeD ds vs).set i (some (Slot.dat (.int x)))).set j (some (Slot.dat (.int y)))) (· = .int (f x y))) :
    Ev cls p (tLc (iZipS K (tCons ta (tCons tb tNil))) (gTup K 2 (gCons (gName i) (gCons (gName j) gNil))) tYes te vs) ds (· = row true (List.zipWith f a b)) :=
  (ev_lcZ (f := fun x y => .int (f x y)) ((ea2 h g).mono fun xs ⟨x, y, ex, ey, e⟩ => by rw [e, ex, ey]) hz hv hw ho he).mono fun d e => by rw [e]; show _ = D.lst _; rw [List.map_zipWith]
theorem ev_rowR {i : Nat} {vs : List Nat} {k : Bool} {a : List Int} (f : Int → Int) (h : Ev cls p ta ds (· = row k a)) (hz : a.length ≤ 1000) (hv : i ∈ vs) (hw : (wipeD ds vs).map ownOf = ds.map ownOf)
    (ho : ∀ x, ((wipeD ds vs).set i (some (Slot.dat (.int x)))).map ownOf = ds.map ownOf)
    (he : ∀ x ∈ a, Ev cls p te ((wipeD ds vs).set i (some (Slot.dat (.int x)))) (· = .int (f x))) :
    Ev cls p (tLc (iOr (iList K ta) (iTup K ta)) (gName i) tYes te vs) ds (· = row true (a.map f)) :=
  (ev_lcR (f := fun x => .int (f x)) h hz hv hw ho he).mono fun d e => by rw [e]; show _ = D.lst _; rw [List.map_map]; rfl
theorem ev_rowT {k : Bool} {a : List Int} (h : Ev cls p te ds (· = row k a)) : Ev cls p (tCB (rTuple K) (tCons te tNil)) ds (· = row false a) := ev_tupOf h
theorem ev_rowL {k : Bool} {a : List Int} (h : Ev cls p te ds (· = row k a)) : Ev cls p (tCB (rList K) (tCons te tNil)) ds (· = row true a) := ev_lstOf h
/-- a call with two (one) known arguments, by position and by names -/
theorem ev_c2 {pre : (Addr → Prop) → List D → Prop} {F : List D → D → Prop} {x y z : D} (h : Ev cls p ta ds (· = x)) (g : Ev cls p tb ds (· = y)) (hp : pre p [x, y]) (hF : ∀ d, F [x, y] d → d = z) : Ev cls p (tCall (spG cls 2 pre F) [] E0 (tCons ta (tCons tb tNil))) ds (· = z) :=
  ev_call' (ea2 h g) fun xs ⟨_, _, ex, ey, e⟩ => by rw [e, ex, ey]; exact ⟨rfl, hp, hF⟩
theorem ev_k2 {pre : (Addr → Prop) → List D → Prop} {F : List D → D → Prop} {x y z : D} (h : Ev cls p ta ds (· = x)) (g : Ev cls p tb ds (· = y)) (hp : pre p [x, y]) (hF : ∀ d, F [x, y] d → d = z) : Ev cls p (tKey (spG cls 2 pre F) [1, 0] 2 (tCons tb (tCons ta tNil))) ds (· = z) :=
  ev_key' (ea2 g h) fun xs ⟨_, _, ey, ex, e⟩ => by rw [e, ex, ey]; exact ⟨rfl, rfl, hp, hF⟩
theorem ev_c1 {pre : (Addr → Prop) → List D → Prop} {F : List D → D → Prop} {x z : D} (h : Ev cls p ta ds (· = x)) (hp : pre p [x]) (hF : ∀ d, F [x] d → d = z) : Ev cls p (tCall (spG cls 1 pre F) [] E0 (tCons ta tNil)) ds (· = z) :=
  ev_call' (ea1 h) fun xs ⟨_, ex, e⟩ => by rw [e, ex]; exact ⟨rfl, hp, hF⟩
theorem ev_k1 {pre : (Addr → Prop) → List D → Prop} {F : List D → D → Prop} {x z : D} (h : Ev cls p ta ds (· = x)) (hp : pre p [x]) (hF : ∀ d, F [x] d → d = z) : Ev cls p (tKey (spG cls 1 pre F) [0] 1 (tCons ta tNil)) ds (· = z) :=
  ev_key' (ea1 h) fun xs ⟨_, ex, e⟩ => by rw [e, ex]; exact ⟨rfl, rfl, hp, hF⟩

/-! ### written lists, what is known of them -/
theorem ea_nilE : EvA cls p tNil ds (· = []) := ea_nil
theorem ea_consE {t : TA} {x : D} {xs : List D} (h : Ev cls p ta ds (· = x)) (k : EvA cls p t ds (· = xs)) : EvA cls p (tCons ta t) ds (· = x :: xs) := (ea_cons h k).mono fun l ⟨_, _, hx, hy, e⟩ => by rw [e, hx, hy]
theorem ev_lstE {t : TA} {xs : List D} (h : EvA cls p t ds (· = xs)) (hl : xs.length ≤ 100000) : Ev cls p (tLst t) ds (· = .lst xs) := (ev_lst h fun ys e => by rw [e]; exact hl).mono fun d ⟨ys, e, e2⟩ => by rw [e2, e]
theorem ev_tupE {t : TA} {xs : List D} (h : EvA cls p t ds (· = xs)) (hl : xs.length ≤ 100000) : Ev cls p (tTup t) ds (· = .tup xs) := (ev_tup h fun ys e => by rw [e]; exact hl).mono fun d ⟨ys, e, e2⟩ => by rw [e2, e]
theorem ev_repE {xs : List D} {n : Int} (h : Ev cls p ta ds (· = .lst xs)) (k : Ev cls p tb ds (· = .int n)) (h0 : -(2 ^ 63) ≤ n) (h1 : n < 2 ^ 63) (hz : xs.length * n.toNat ≤ 100000) : Ev cls p (tOp (rOr (rI CMulW fun i j => .int (i * j)) (rOr rRep (rRepT K))) ta tb) ds (· = .lst (reps n.toNat xs)) :=
  (ev_op h k (rv_r (rv_l (rv_rep fun dx dy hx hy => ⟨xs, n, hx, hy, h0, h1, hz⟩)))).mono fun d ⟨ys, m, e1, e2, e⟩ => by rw [e, D.lst.inj e1, D.int.inj e2]
theorem ev_repTE {xs : List D} {n : Int} (h : Ev cls p ta ds (· = .tup xs)) (k : Ev cls p tb ds (· = .int n)) (h0 : xs ≠ []) (h1 : 2 ≤ n) (h2 : n ≤ 1000) (hz : xs.length ≤ 1000) : Ev cls p (tOp (rOr (rI CMulW fun i j => .int (i * j)) (rOr rRep (rRepT K))) ta tb) ds (· = .tup (reps n.toNat xs)) :=
  (ev_op h k (rv_r (rv_r (rv_repT fun dx dy hx hy => ⟨xs, n, hx, hy, h0, h1, h2, hz⟩)))).mono fun d ⟨ys, m, e1, e2, e⟩ => by rw [e, D.tup.inj e1, D.int.inj e2]
theorem ev_catE {xs ys : List D} (h : Ev cls p ta ds (· = .lst xs)) (k : Ev cls p tb ds (· = .lst ys)) (hz : xs.length + ys.length ≤ 100000) : Ev cls p (tOp (rOr (rI0 fun i j => .int (i + j)) rCat) ta tb) ds (· = .lst (xs ++ ys)) :=
  (ev_op h k (rv_r (rv_cat fun dx dy hx hy => ⟨xs, ys, hx, hy, hz⟩))).mono fun d ⟨x, y, e1, e2, e⟩ => by rw [e, D.lst.inj e1, D.lst.inj e2]
theorem et_Bt {b : Bool} (h : Ev cls p te ds (· = .bl b)) : ET cls p (tB te) ds (· = b) := (et_B h blP).mono fun c e => D.bl.inj e
/-- [x for x in xs if b(x)], b known -/
theorem ev_lcY {tu : TT} {wi : TI} {g : TG} {vs js : List Nat} {xs : List D} {b : D → Bool} {Pe : D → D → Prop} (hi : EI cls p wi ds (· = xs)) (hz : xs.length ≤ 100000) (hj : ∀ j ∈ js, j ∈ vs) (hw : (wipeD ds vs).map ownOf = ds.map ownOf)
    (h : ∀ x ∈ xs, ∃ ds', EvG cls p g js x (wipeD ds vs) ds' ∧ ds'.map ownOf = ds.map ownOf ∧ ET cls p tu ds' (· = b x) ∧ (b x = true → Ev cls p te ds' (Pe x))) :
    Ev cls p (tLc wi g tu te vs) ds (fun d => ∃ ys, Paired Pe (xs.filter b) ys ∧ d = .lst ys) :=
  (ev_lc (b := b) (Pe := Pe) hi (fun ys e => by rw [e]; exact hz) hj (fun ys e x hx => by subst e; exact h x hx) hw).mono fun d ⟨zs, ys, e, pp, z⟩ => by subst e; exact ⟨ys, pp, z⟩
theorem none_of {Pe : D → D → Prop} {xs ys : List D} {b : D → Bool} (h : Paired Pe (xs.filter b) ys) (e : xs.filter b = []) : ys = [] := by
  rw [e] at h
  cases h
  rfl

/-! ### what is known of numbers and truths, without a choice -/
theorem et_iE {f : Int → Int → Bool} {i j : Int} (h : Ev cls p tl ds (· = .int i)) (k : Ev cls p tr ds (· = .int j)) : ET cls p (tTest (tOp (rI0 fun i j => .bl (f i j)) tl tr)) ds (· = f i j) :=
  (et_test (ev_op h k (rv_B0 intP intP)) blP_S).mono fun b ⟨x, y, hx, hy, e⟩ => by cases hx; cases hy; exact D.bl.inj e
theorem ev_iE {f : Int → Int → Bool} {i j : Int} (h : Ev cls p tl ds (· = .int i)) (k : Ev cls p tr ds (· = .int j)) : Ev cls p (tOp (rI0 fun i j => .bl (f i j)) tl tr) ds (· = .bl (f i j)) :=
  (ev_op h k (rv_B0 intP intP)).mono fun b ⟨x, y, hx, hy, e⟩ => by cases hx; cases hy; exact e
theorem ev_eqIE {i j : Int} (h : Ev cls p tl ds (· = .int i)) (k : Ev cls p tr ds (· = .int j)) : Ev cls p (tOp (rOr rEq (rEqD K)) tl tr) ds (· = .bl (decide (i = j))) :=
  (ev_op h k (rv_l (rv_eqI intP intP))).mono fun b ⟨x, y, hx, hy, e⟩ => by cases hx; cases hy; exact e
theorem et_eqIE {i j : Int} (h : Ev cls p tl ds (· = .int i)) (k : Ev cls p tr ds (· = .int j)) : ET cls p (tTest (tOp (rOr rEq (rEqD K)) tl tr)) ds (· = decide (i = j)) :=
  (et_test (ev_eqIE h k) blP).mono fun b e => D.bl.inj e
theorem et_chE {f f' : Int → Int → Bool} {i j k : Int} (ha : Ev cls p ta ds (· = .int i)) (hb : Ev cls p tb ds (· = .int j)) (hc : Ev cls p tc ds (· = .int k)) : ET cls p (tTest (tChain (rI0 fun i j => .bl (f i j)) (rI0 fun i j => .bl (f' i j)) ta tb tc)) ds (· = (f i j && f' j k)) := by
  refine (et_test (ev_chain ha hb hc intP intP intP) ?_).mono ?_
  · rintro d ⟨i', j', e1, e2, h⟩
    rcases h with ⟨_, e⟩ | ⟨_, _, _, e⟩ <;> exact ⟨_, e⟩
  · rintro b ⟨i', j', e1, e2, h⟩
    cases e1; cases e2
    rcases h with ⟨h, e⟩ | ⟨h, k', e3, e⟩
    · rw [h, D.bl.inj e]; rfl
    · cases e3; rw [h, D.bl.inj e]; rfl
theorem ev_andB {a b : Bool} (h : Ev cls p ta ds (· = .bl a)) (k : a = true → Ev cls p tb ds (· = .bl b)) : Ev cls p (tAndV ta tb) ds (· = .bl (a && b)) :=
  (ev_andV h blP fun e => k (D.bl.inj e).symm).mono fun d z => z.elim (fun ⟨e, f⟩ => by rw [e, ← D.bl.inj f]; rfl) fun ⟨e, f⟩ => by rw [f, ← D.bl.inj e]; rfl
theorem ev_orB {a b : Bool} (h : Ev cls p ta ds (· = .bl a)) (k : a = false → Ev cls p tb ds (· = .bl b)) : Ev cls p (tOrV ta tb) ds (· = .bl (a || b)) :=
  (ev_orV h blP fun e => k (D.bl.inj e).symm).mono fun d z => z.elim (fun ⟨e, f⟩ => by rw [e, ← D.bl.inj f]; rfl) fun ⟨e, f⟩ => by rw [f, ← D.bl.inj e]; rfl
theorem et_andE {a b : Bool} (h : ET cls p tt ds (· = a)) (k : a = true → ET cls p tu ds (· = b)) : ET cls p (tAnd tt tu) ds (· = (a && b)) :=
  (et_and h fun e => k e.symm).mono fun d z => z.elim (fun ⟨e, f⟩ => by rw [e, ← f]; rfl) fun ⟨e, f⟩ => by rw [f, ← e]; rfl
theorem et_orE {a b : Bool} (h : ET cls p tt ds (· = a)) (k : a = false → ET cls p tu ds (· = b)) : ET cls p (tOr tt tu) ds (· = (a || b)) :=
  (et_or h fun e => k e.symm).mono fun d z => z.elim (fun ⟨e, f⟩ => by rw [e, ← f]; rfl) fun ⟨e, f⟩ => by rw [f, ← e]; rfl
theorem et_notE {a : Bool} (h : ET cls p tt ds (· = a)) : ET cls p (tNot tt) ds (· = !a) := (et_not h).mono fun b e => by rw [← e, Bool.not_not]
theorem ev_ifE {b : Bool} {x y : D} (h : ET cls p tt ds (· = b)) (k : b = true → Ev cls p ta ds (· = x)) (k' : b = false → Ev cls p tb ds (· = y)) : Ev cls p (tIf tt ta tb) ds (· = if b = true then x else y) :=
  (ev_if h (fun e => k e.symm) fun e => k' e.symm).mono fun d z => z.elim (fun ⟨e, f⟩ => by rw [f, ← e]; rfl) fun ⟨e, f⟩ => by rw [f, ← e]; rfl
theorem sv_ifE {b : Bool} {tu' : TS} (h : ET cls p tt ds (· = b)) (k : b = true → Sv cls p ts ds nx rt bk ct) (k' : b = false → Sv cls p tu' ds nx rt bk ct) : Sv cls p (tIfS tt ts tu') ds nx rt bk ct := sv_if h (fun e => k e.symm) fun e => k' e.symm
theorem sv_par3 {i j l : Nat} {t : TA} (h : EvA cls p t ds PA) (k : ∀ xs, PA xs → ∃ a b c, xs = [a, b, c] ∧ nx (((ds.set i (some (Slot.dat a))).set j (some (Slot.dat b))).set l (some (Slot.dat c)))) : Sv cls p (tPar3 i j l t) ds nx rt bk ct := fun pn N H0 ad σ H S Dn q1 _ _ _ =>
  h pn N H0 ad σ H S _ fun vs H1 xs ps g1 a => by
    obtain ⟨x, y, z, rfl, hn⟩ := k xs ps
    cases a with
    | cons a b =>
    cases b with
    | cons b c =>
    cases c with
    | cons c d =>
      cases d
      exact ⟨_, _, _, rfl, q1 ad _ H1 _ hn ((((S.mono g1).put a).put (b.less hid_set)).put ((c.less hid_set).less hid_set))⟩
/-- an item of an own list -/
theorem ev_ownIx {i : Nat} {xs : List D} {k : Int} {d : D} (e : ds[i]? = some (some (Slot.own xs))) (hi : Ev cls p tb ds (· = .int k)) (hd : atI xs k = some d) : Ev cls p (tOp (rIx K) (tVar i) tb) ds (· = d) := fun pn N H0 ad σ H S Q q => by
  obtain ⟨h1, h2, h3, vs, h4, h5⟩ := S.own i xs e
  refine ⟨.ref (ad i), h1, hi pn N H0 ad σ H S _ fun w H1 dj pj g a => ?_⟩
  subst pj
  cases a
  have e4 : H1 (ad i) = some (.lst vs) := g.ext _ _ (fun z => h2 (S.wf.sub _ z)) h4
  have h6 := h5.mono S.hsub g
  unfold atI at hd
  cases q1 : ixN xs.length k with
  | none => rw [q1] at hd; cases hd
  | some j =>
    rw [q1] at hd
    obtain ⟨v, hv, av⟩ := h6.get hd
    refine .inl ⟨ad i, vs, k, v, rfl, rfl, .inl (.inl e4), ?_, q v H1 d rfl g av⟩
    unfold atI
    rw [h6.length, q1]
    exact hv
theorem zw_zip {α : Type} (f : Int → Int → α) : ∀ a b : List Int, List.zipWith f a b = (a.zip b).map fun q => f q.1 q.2
  | [], _ => rfl
  | _ :: _, [] => rfl
  | x :: a, y :: b => by
    show f x y :: List.zipWith f a b = f x y :: (a.zip b).map fun q => f q.1 q.2
    rw [zw_zip f a b]
theorem zips_at {a b : List Int} {n : Nat} {d : D} (h : (zips (a.map D.int) (b.map D.int))[n]? = some d) : ∃ x y, d = .tup [.int x, .int y] ∧ (a.zip b)[n]? = some (x, y) := by
  rw [zips_ints, List.getElem?_map] at h
  cases q : (a.zip b)[n]? with
  | none => rw [q] at h; cases h
  | some z => rw [q] at h; exact ⟨z.1, z.2, (Option.some.inj h).symm, rfl⟩
theorem take_zw {α : Type} {f : Int → Int → α} {a b : List Int} {n : Nat} {x y : Int} (h : (a.zip b)[n]? = some (x, y)) : (List.zipWith f a b).take (n + 1) = (List.zipWith f a b).take n ++ [f x y] := by
  rw [List.take_add_one, zw_zip, List.getElem?_map, h]
  rfl
theorem ints_at {a : List Int} {n : Nat} {d : D} (h : (a.map D.int)[n]? = some d) : ∃ x, d = .int x ∧ a[n]? = some x ∧ x ∈ a := by
  rw [List.getElem?_map] at h
  cases q : a[n]? with
  | none => rw [q] at h; cases h
  | some z => rw [q] at h; exact ⟨z, (Option.some.inj h).symm, rfl, List.mem_of_getElem? q⟩

/-- rows that are compared -/
theorem eqv_ints : ∀ a b : List Int, PyData.eqvAll (pyAll (a.map D.int)) (pyAll (b.map D.int)) = decide (a = b)
  | [], [] => by simp [pyAll, PyData.eqvAll]
  | [], _ :: _ => by simp [pyAll, PyData.eqvAll]
  | _ :: _, [] => by simp [pyAll, PyData.eqvAll]
  | x :: a, y :: b => by
    rw [List.map_cons, List.map_cons]
    show PyData.eqvAll (PyData.int x :: pyAll (a.map D.int)) (PyData.int y :: pyAll (b.map D.int)) = _
    rw [PyData.eqvAll, eqv_ints a b, Bool.eq_iff_iff, Bool.and_eq_true, decide_eq_true_iff, decide_eq_true_iff, PyData.eqv, List.cons.injEq]
    simp
theorem eqv_row (k : Bool) (a b : List Int) : (py (row k a)).eqv (py (row k b)) = decide (a = b) := by
  cases k
  · show PyData.eqv (.tuple (pyAll (a.map D.int))) (.tuple (pyAll (b.map D.int))) = _
    rw [PyData.eqv, eqv_ints]
  · show PyData.eqv (.list (pyAll (a.map D.int))) (.list (pyAll (b.map D.int))) = _
    rw [PyData.eqv, eqv_ints]
theorem ev_eqR {k : Bool} {a b : List Int} (h : Ev cls p tl ds (· = row k a)) (g : Ev cls p tr ds (· = row k b)) : Ev cls p (tOp (rOr rEq (rEqD K)) tl tr) ds (· = .bl (decide (a = b))) := by
  refine (ev_op h g (rv_r (rv_eqD fun dx dy hx hy => ⟨2, by decide, by rw [hx]; exact ok_row 1 _ _, by rw [hy]; exact ok_row 1 _ _⟩))).mono ?_
  rintro d ⟨x, y, hx, hy, e⟩
  rw [e, hx, hy, eqv_row]
/-- repr of two truths -/
theorem ev_showB2 {b c : Bool} (h : Ev cls p te ds (· = .lst [.bl b, .bl c])) : Ev cls p (tCB (rShow K) (tCons te tNil)) ds (· = .str (py (.lst [.bl b, .bl c])).shown) := ev_show (n := 2) h (by decide) rfl (by show 4 + (2002 + (2002 + 0)) ≤ 10000000; decide)

/-! ### draws -/
theorem intDraw {lo hi : Int} : IntP (fun d => ∃ x : Int, lo ≤ x ∧ x < hi ∧ d = .int x) := fun d ⟨x, _, _, e⟩ => ⟨x, e⟩
theorem ev_draw {i : Nat} {a : Addr} {n : Int} (e : ds[i]? = some (some (Slot.dat (.adr a)))) (hp : p a) (h : Ev cls p tb ds (· = .int n)) (h0 : 0 < n) (h1 : n < 1073741824) :
    Ev cls p (tCall (spG cls 2 preDraw isDraw) [] E0 (tCons (tVar i) (tCons tb tNil))) ds (fun d => ∃ x : Int, 0 ≤ x ∧ x < n ∧ d = .int x) := by
  refine ev_call' (ea2 (ev_var e) h) ?_
  rintro _ ⟨x, y, ex, ey, rfl⟩
  rw [ex, ey]
  refine ⟨rfl, ⟨a, n, rfl, hp, h0, h1⟩, ?_⟩
  rintro d ⟨a', n', i', e, l1, l2, e2⟩
  cases (List.cons.inj (List.cons.inj e).2).1
  exact ⟨i', l1, l2, e2⟩
theorem ev_powI {x y : Int} (h : Ev cls p ta ds (· = .int x)) (k : Ev cls p tb ds (· = .int y)) (hc : CPow x y) : Ev cls p (tOp (rI CPow fun i j => .int (i ^ j.toNat)) ta tb) ds (· = .int (x ^ y.toNat)) :=
  (ev_op h k (rv_IC intP intP fun i j hi hj => by cases hi; cases hj; exact hc)).mono fun d ⟨i, j, hi, hj, e⟩ => by cases hi; cases hj; exact e
/-- an item of a list by a place that is drawn -/
theorem rv_ixs (h : ∀ dx dy, PX dx → PY dy → ∃ k xs i d, dx = sq k xs ∧ dy = .int i ∧ atI xs i = some d ∧ P d) : Rv cls p (rIx K) PX PY P := fun N H x y dx dy W ax ay px py Q q => by
  obtain ⟨k, xs, i, d, e1, e2, e3, pd⟩ := h dx dy px py
  cases k with
  | true => exact .inl (rv_ixL (K := K) (cls := cls) (p := p) (PX := (· = dx)) (PY := (· = dy)) (P := P) (fun dx' dy' hx hy => ⟨xs, i, d, hx.trans e1, hy.trans e2, e3, pd⟩) N H x y dx dy W ax ay rfl rfl Q q)
  | false => exact .inr (.inl (rv_ixT (K := K) (cls := cls) (p := p) (PX := (· = dx)) (PY := (· = dy)) (P := P) (fun dx' dy' hx hy => ⟨xs, i, d, hx.trans e1, hy.trans e2, e3, pd⟩) N H x y dx dy W ax ay rfl rfl Q q))
theorem ev_ixI {k : Bool} {xs : List D} {i : Int} {d : D} (h : Ev cls p ta ds (· = sq k xs)) (g : Ev cls p tb ds (· = .int i)) (e : atI xs i = some d) : Ev cls p (tOp (rIx K) ta tb) ds (· = d) :=
  ev_op h g (rv_ixs fun dx dy hx hy => ⟨k, xs, i, d, hx, hy, e, rfl⟩)
theorem atI_of {α : Type} {xs : List α} {i : Int} (h0 : 0 ≤ i) (h1 : i < xs.length) : ∃ d, atI xs i = some d ∧ d ∈ xs := by
  have hi : i.toNat < xs.length := by omega
  refine ⟨xs[i.toNat], ?_, List.getElem_mem hi⟩
  unfold atI ixN
  rw [if_pos h0, if_pos h1]
  exact List.getElem?_eq_getElem hi
/-- the script -/
theorem ev_lenS {ns : List Int} (h : Ev cls p te ds (· = .scr ns)) (hK : cls.K = K) : Ev cls p (tCB (rLen K) (tCons te tNil)) ds (· = .int ns.length) := fun pn N H0 ad σ H S Q q =>
  h pn N H0 ad σ H S _ fun v H1 d pd g a => by
    subst pd hK
    have key : ∃ r, v = .ref r ∧ SqL cls.K H1 r (ns.map V.int) := by
      cases a with
      | scr n r => exact ⟨_, rfl, .inl r⟩
      | scrK r => exact ⟨_, rfl, r H1⟩
    obtain ⟨r, rfl, hr⟩ := key
    exact ⟨r, _, rfl, .inl hr, by rw [List.length_map]; exact q _ H1 _ rfl g (.int _)⟩
theorem ev_ixS {ns : List Int} {i x : Int} (h : Ev cls p ta ds (· = .scr ns)) (g : Ev cls p tb ds (· = .int i)) (e : atI ns i = some x) (hK : cls.K = K) : Ev cls p (tOp (rIx K) ta tb) ds (· = .int x) := fun pn N H0 ad σ H S Q q =>
  h pn N H0 ad σ H S _ fun v H1 d pd g1 a => g pn N H0 ad σ H1 (S.mono g1) _ fun w H2 d2 pd2 g2 a2 => by
    subst pd hK pd2
    cases a2
    have key : ∃ r, v = .ref r ∧ SqL cls.K H2 r (ns.map V.int) := by
      cases a.mono S.hsub g2 with
      | scr n r => exact ⟨_, rfl, .inl r⟩
      | scrK r => exact ⟨_, rfl, r H2⟩
    obtain ⟨r, rfl, hr⟩ := key
    have e2 : atI (ns.map V.int) i = some (.int x) := by
      unfold atI at e ⊢
      rw [List.length_map]
      cases q : ixN ns.length i with
      | none => rw [q] at e; cases e
      | some j =>
        rw [q] at e
        show (ns.map V.int)[j]? = _
        rw [List.getElem?_map, show ns[j]? = some x from e]
        rfl
    exact .inl ⟨r, _, i, _, rfl, rfl, hr, e2, q _ H2 _ rfl (g1.trans g2) (.int x)⟩
theorem ev_max {i j : Int} (h : Ev cls p ta ds (· = .int i)) (k : Ev cls p tb ds (· = .int j)) : Ev cls p (tCB rMax (tCons ta (tCons tb tNil))) ds (· = .int (if j > i then j else i)) := by
  refine (ev_cb (ea2 h k) (rc_max2 ?_)).mono ?_
  · rintro _ ⟨_, _, rfl, rfl, rfl⟩
    exact ⟨i, j, rfl⟩
  · rintro r ⟨i', j', ⟨_, _, rfl, rfl, e⟩, e2⟩
    cases (List.cons.inj e).1
    cases (List.cons.inj (List.cons.inj e).2).1
    exact e2
theorem ev_min {i j : Int} (h : Ev cls p ta ds (· = .int i)) (k : Ev cls p tb ds (· = .int j)) : Ev cls p (tCB rMin (tCons ta (tCons tb tNil))) ds (· = .int (if j < i then j else i)) := by
  refine (ev_cb (ea2 h k) (rc_min2 ?_)).mono ?_
  · rintro _ ⟨_, _, rfl, rfl, rfl⟩
    exact ⟨i, j, rfl⟩
  · rintro r ⟨i', j', ⟨_, _, rfl, rfl, e⟩, e2⟩
    cases (List.cons.inj e).1
    cases (List.cons.inj (List.cons.inj e).2).1
    exact e2
/-- int(x), x a whole number of such a kind -/
theorem ev_intP (h : Ev cls p ta ds P) (hi : IntP P) : Ev cls p (tCB rInt (tCons ta tNil)) ds P := by
  refine (ev_cb (ea1 h) (rc_int ?_)).mono ?_
  · rintro _ ⟨x, hx, rfl⟩
    obtain ⟨i, rfl⟩ := hi x hx
    exact ⟨i, rfl⟩
  · rintro r ⟨i', ⟨x, hx, e⟩, rfl⟩
    cases (List.cons.inj e).1
    exact hx
/-- e % n for a written n above 0: a rest -/
theorem ev_modP {n : Int} (h : Ev cls p ta ds P) (hi : IntP P) (k : Ev cls p tb ds (· = .int n)) (hn : 0 < n) : Ev cls p (tOp (rI (fun _ j => 0 < j) fun i j => .int (i % j)) ta tb) ds (fun d => ∃ x : Int, 0 ≤ x ∧ x < n ∧ d = .int x) :=
  (ev_op h k (rv_IC hi intP fun i j _ e => by cases e; exact hn)).mono fun d ⟨i, j, hi, hj, e⟩ => by
    cases hj
    exact ⟨i % n, Int.emod_nonneg _ (by omega), Int.emod_lt_of_pos _ hn, e⟩

theorem mulW64 {x y : Int} (hx : x.natAbs < 2 ^ 64) (hy : y.natAbs < 2 ^ 64) : CMulW x y := mulW (pow_le hx (by decide)) (pow_le hy (by decide))
theorem ev_addP (h : Ev cls p ta ds PX) (k : Ev cls p tb ds PY) (hx : IntP PX) (hy : IntP PY) : Ev cls p (tOp (rOr (rI0 fun i j => .int (i + j)) rCat) ta tb) ds (SInt (fun i j => i + j) PX PY) := ev_op h k (rv_l (rv_I0 hx hy))
theorem ev_subP (h : Ev cls p ta ds PX) (k : Ev cls p tb ds PY) (hx : IntP PX) (hy : IntP PY) : Ev cls p (tOp (rI0 fun i j => .int (i - j)) ta tb) ds (SInt (fun i j => i - j) PX PY) := ev_op h k (rv_I0 hx hy)
theorem ev_mulP (h : Ev cls p ta ds PX) (k : Ev cls p tb ds PY) (hx : IntP PX) (hy : IntP PY) (hc : ∀ i j, PX (.int i) → PY (.int j) → CMulW i j) : Ev cls p (tOp (rOr (rI CMulW fun i j => .int (i * j)) (rOr rRep (rRepT K))) ta tb) ds (SInt (fun i j => i * j) PX PY) :=
  ev_op h k (rv_l (rv_IC hx hy hc))
theorem ev_fdivP {n : Int} (h : Ev cls p ta ds P) (hi : IntP P) (k : Ev cls p tb ds (· = .int n)) (hn : 0 < n) (hs : n.natAbs < 2 ^ 30) : Ev cls p (tOp (rI CDivW fun i j => .int (i / j)) ta tb) ds (SInt (fun i j => i / j) P (· = .int n)) :=
  ev_op h k (rv_IC hi intP fun i j _ e => by cases e; exact wide_div hn hs (by decide) (by decide))
/-! ### the first def of a law: a new pot -/
def spPot (cls : Cl) : Sp := fun vs H Q _ => ∃ (N : Addr → Prop) (ns : List Int) (k : Int), Wf (fun _ => False) N H ∧ AtAll cls N H vs [.scr ns, .int k] ∧ 0 ≤ k ∧ k < 1000 ∧
  ∀ (a : Addr) (H' : Hp) (x y : Int), H a = none → Go (fun _ => False) H H' → H' a = some (.lst [.int x, .int y]) → 0 ≤ x → 0 ≤ y → y < 2147483648 → Q (.ref a) H'
theorem pot_ret {te1 te2 : TE} {Dn : Ends} (h1 : Ev cls (fun _ => False) te1 ds (fun d => ∃ x : Int, 0 ≤ x ∧ d = .int x)) (h2 : Ev cls (fun _ => False) te2 ds (fun d => ∃ x : Int, 0 ≤ x ∧ x < 2147483648 ∧ d = .int x))
    {pn : List (V × D)} {N : Addr → Prop} {H0 H : Hp} {ad : Nat → Addr} {σ : L2.St} (S : Sta cls (fun _ => False) pn N H0 ad H σ ds)
    (q : ∀ (a : Addr) (H' : Hp) (x y : Int), H0 a = none → Go (fun _ => False) H0 H' → H' a = some (.lst [.int x, .int y]) → 0 ≤ x → 0 ≤ y → y < 2147483648 → Dn.rt (.ref a) H') : tRet (tLst (tCons te1 (tCons te2 tNil))) Dn σ H := by
  refine h1 pn N H0 ad σ H S _ fun v H1 d ⟨x, hx, e⟩ g1 a1 => ?_
  refine h2 pn N H0 ad σ H1 (S.mono g1) _ fun w H2 d' ⟨y, hy, hz, e'⟩ g2 a2 => ?_
  subst e e'
  cases a1
  cases a2
  refine ⟨by show 2 ≤ sizeLine; decide, fun l hl => q l _ x y ?_ ((S.go.trans (g1.trans g2)).trans (Go.new hl)) upd_same hx hy hz⟩
  cases e : H0 l with
  | none => rfl
  | some o => rw [(S.go.trans (g1.trans g2)).ext l o (fun z => z) e] at hl; cases hl
/-- f(pot(..)): the pot is handed on -/
theorem ev_potCall {t : TA} {ns : List Int} {kk : Int} {P : D → Prop} {pre : (Addr → Prop) → List D → Prop} {F : List D → D → Prop} (h : EvA cls (fun _ => False) t ds (· = [.scr ns, .int kk])) (h0 : 0 ≤ kk) (h1 : kk < 1000)
    (hp : ∀ (a : Addr) (p : Addr → Prop), p a → pre p [.adr a]) (hF : ∀ a d, F [.adr a] d → P d) (hfl : ∀ d, P d → ∃ b, d = .bl b) : Ev cls (fun _ => False) (tCall (spG cls 1 pre F) [] E0 (tCons (tCall (spPot cls) [] E0 t) tNil)) ds P := by
  intro pn N H0 ad σ H S Q q
  refine h pn N H0 ad σ H S _ fun vs H1 xs e g1 a1 => ?_
  subst e
  have S1 := S.mono g1
  refine ⟨hid N ad ds, ns, kk, S1.hwf, by rw [List.append_nil]; exact a1, h0, h1, fun a H2 x y ha g2 e2 hx hy hz => ?_⟩
  refine ⟨fun b => b = a, fun b => b = a, [.adr a], ⟨fun _ z => z, fun b z => ?_, fun b z => ?_⟩, .cons (.adr a) .nil, rfl, hp a _ rfl, fun v H3 d fd g3 av => ?_⟩
  · rw [z, e2]; exact fun z => nomatch z
  · rw [z]; exact ⟨x, y, e2, hx, hy, hz⟩
  · obtain ⟨b, rfl⟩ := hfl d (hF a d fd)
    cases av
    refine q _ H3 _ (hF a _ fd) (g1.trans ⟨fun c o _ e => ?_, fun c z => z.elim⟩) (.bl b)
    have ne : c ≠ a := fun z => by rw [z, ha] at e; cases e
    exact g3.ext c o ne (g2.ext c o (fun z => z) e)
end
end Lk

namespace Lk
open PySem PySem.Spec PyProof.Rows L2

/-! ### a class of these texts is called -/
theorem guards_make {A : Around} {C : Addr} {us : List Value} {kw : List (Str × Value)} (h : A.guards = some []) : (A.under (.builtin "type.__call__" ⟨.ref C :: us, kw⟩)).guards = some [] := by
  have e : (Code.builtin "type.__call__" ⟨.ref C :: us, kw⟩).isGuard = false := by
    show guardIds.contains "type.__call__" = false
    decide +kernel
  unfold Around.under
  dsimp only
  unfold Code.guards
  rw [h, e]
  rfl
section
variable {X : Cx} {k : Nat} {f C : Addr} {fd : FuncData} {ps : List Str} {sp : Sp} {x : Str} {p pos : Pos} {e : Expr} {es : List Expr} {t tk : TA}
theorem run_makeG {pins : List (Addr × Obj)} {σ : L2.St} {H : Hp} {s : Shared} {Q : VK} {us ws : List Value} {zs : List V} {kw : List (Str × Value)} (M : Mk X.K C f) (F : GOk X.prog X.w X.K X.mg X.base k f fd ps sp) (hg : X.A.guards = some [])
    (hr : Room (k + 1) X.A) (hb : ∀ (s' : Shared) (u : Value), BindsTo s' fd ⟨u :: us, kw⟩ (ps.zip (u :: ws))) (I : Inv X pins σ H s) (r : Vals zs ws)
    (h : ∀ x dx, H x = none → H dx = none → dx ≠ x → sp (.ref x :: zs) (upd (upd H dx (.own x)) x (.ins C dx [])) (fun v H2 => v = .non ∧ Q (.ref x) H2) E0) :
    wpAny (model X.prog X.w) X.A (call (.ref C) us kw) (EP X pins σ Q) X.xe s := by
  let n := s.heap.objs.size
  have f0 : H n = none := I.hok.fresh (Nat.le_refl _)
  have f1 : H (n + 1) = none := I.hok.fresh (Nat.le_succ _)
  have q := h (n + 1) n f1 f0 (Nat.ne_of_lt (Nat.lt_succ_self n))
  have J := Inv.made (C := C) I
  have rr : Vals (V.ref (n + 1) :: zs) (Value.ref (n + 1) :: ws) := .cons rfl r
  refine wpAny_call (make_map (f := f) I.kIn M.makes M.init (beq_iff_eq.mp M.fn) ?_)
  refine codeAny_mono (F.go _ X.stack _ _ ⟨.ref (n + 1) :: us, kw⟩ (.ref (n + 1) :: ws) _ _ E0 (guards_make hg) (hr.make C us kw) (J.env0.make C us kw) (hb _ _) rr q) ?_
  intro fl s' hs
  match fl, hs with
  | .error _, hs => exact hs.elim
  | .ok .next, hs => exact hs.elim
  | .ok .brk, hs => exact hs.elim
  | .ok .cont, hs => exact hs.elim
  | .ok (.ret u), hs =>
    obtain ⟨v, H3, I3, rv, ev, q3⟩ := J.after hs
    subst ev
    exact ⟨rv, .ref (n + 1), H3, I3, rfl, q3⟩
/-- what may be made -/
def Mkr (P : Program) (w : World) (K : PySem.W.Frag) (mg : Str → Option Value) (base : Heap) (x : Str) (C : Addr) (k : Nat) (ps : List Str) (kws : List (List Str × List Nat)) (sp : Sp) : Prop :=
  ∃ (f : Addr) (fd : FuncData), GOk P w K mg base k f fd (("self" : Str) :: ps) sp ∧ mg x = some (.ref C) ∧ Mk K C f ∧ (∀ (s : Shared) (u : Value) (us : List Value), us.length = ps.length → BindsTo s fd ⟨u :: us, []⟩ ((("self" : Str) :: ps).zip (u :: us))) ∧
    ∀ q ∈ kws, ∀ (s : Shared) (u : Value) (ws : List Value), ws.length = q.1.length → BindsTo s fd ⟨[u], q.1.zip ws⟩ ((("self" : Str) :: ps).zip (u :: perm q.2 ws))
def tMk (C : Addr) (sp : Sp) (n : Nat) (t : TA) : TE := fun σ H Q => t σ H fun vs H1 => vs.length = n ∧ ∀ x dx, H1 x = none → H1 dx = none → dx ≠ x → sp (.ref x :: vs) (upd (upd H1 dx (.own x)) x (.ins C dx [])) (fun v H2 => v = .non ∧ Q (.ref x) H2) E0
/-- C(e, ..) -/
theorem pe_makeC {kws : List (List Str × List Nat)} (W : Mkr X.prog X.w X.K X.mg X.base x C k ps kws sp) (hg : X.A.guards = some []) (hr : Room (k + 1) X.A) (gl : Gl X x) (ha : PA X (e :: es) t) (hdb : (x == ("__debug__" : Str)) = false := by decide)
    (he : starEach (e :: es) X.env = (false, eval e X.env) :: starEach es X.env := by rfl) (hpl : (backTo pos (starEach es X.env)).any (·.1) = false := by rfl) : PE X (.Call (.Name x p) (e :: es) [] pos) (tMk C sp ps.length t) := by
  obtain ⟨f, fd, G, hm, M, hb, _⟩ := W
  refine ⟨fun pins s σ H Q I h => wpAny_Call_Name_kw (ld_glob I gl hm (PySem.W.callWith_K (h₀ := X.base) I.ok.mod.kin M.kp (thn (ha.run pos pins s σ H _ I h) fun us s1 ⟨vs, H1, I1, r, l, q⟩ => ⟨I1.kIn, ?_⟩) he hpl) hdb)⟩
  exact run_makeG M G hg hr (fun s' u => hb s' u us (r.length.symm.trans l)) I1 r q
def tMkK (C : Addr) (sp : Sp) (is : List Nat) (n : Nat) (t : TA) : TE := fun σ H Q => t σ H fun vs H1 => vs.length = n ∧ ∀ x dx, H1 x = none → H1 dx = none → dx ≠ x → sp (.ref x :: perm is vs) (upd (upd H1 dx (.own x)) x (.ins C dx [])) (fun v H2 => v = .non ∧ Q (.ref x) H2) E0
/-- C(k = v, ..) -/
theorem pe_makeKC {kws : List (List Str × List Nat)} {ks : List Str} {is : List Nat} {kw : List Keyword} (W : Mkr X.prog X.w X.K X.mg X.base x C k ps kws sp) (hin : (ks, is) ∈ kws) (hg : X.A.guards = some []) (hr : Room (k + 1) X.A) (gl : Gl X x) (hkw : PK X kw tk)
    (hall : (backToKw pos (keywordEach kw X.env)).all (·.1.isSome) = true := by rfl) (hks : (backToKw pos (keywordEach kw X.env)).filterMap (·.1) = ks := by rfl) (hdb : (x == ("__debug__" : Str)) = false := by decide)
    (hpl : ((backTo pos (starEach [] X.env)).any (·.1) || (backToKw pos (keywordEach kw X.env)).any (·.1.isNone)) = false := by rfl) : PE X (.Call (.Name x p) [] kw pos) (tMkK C sp is ks.length tk) := by
  obtain ⟨f, fd, G, hm, M, _, hb⟩ := W
  refine ⟨fun pins s σ H Q I h => wpAny_Call_Name_kw (ld_glob I gl hm (PySem.W.callWith_KW0 (h₀ := X.base) I.ok.mod.kin M.kp hall (thn (hkw.run pos pins s σ H _ I h) fun ws s2 ⟨zs, H2, I2, rz, l, q⟩ => ⟨I2.kIn, ?_⟩) hpl) hdb)⟩
  rw [hks]
  exact run_makeG (us := []) M G hg hr (fun s' u => hb _ hin s' u ws (rz.length.symm.trans l)) I2 (Vals.perm rz is) q
end

/-! ### what __init__ promises: the attributes, one behind the other -/
structure GoX (p : Addr → Prop) (a : Addr) (H H' : Hp) : Prop where
  ext : ∀ b o, ¬ p b → b ≠ a → H b = some o → H' b = some o
  pot : ∀ b, p b → IsPot H b → IsPot H' b
def spInit (cls : Cl) (c n : Nat) (ns : List Str) (pre : List D → Prop) (G : List D → List D → Prop) : Sp := fun vs H Q _ => ∃ (p N : Addr → Prop) (a dx : Addr) (vs' : List V) (xs : List D),
  vs = .ref a :: vs' ∧ N a ∧ ¬ p a ∧ H a = some (.ins (cls.C c) dx []) ∧ Wf p N H ∧ AtAll cls N H vs' xs ∧ xs.length = n ∧ pre xs ∧
    ∀ (H' : Hp) (ts : List V) (ys : List D), GoX p a H H' → H' a = some (.ins (cls.C c) dx (ns.zip ts)) → ns.length = ts.length → AtAll cls N H' ts ys → G xs ys → Q .non H'
section
variable {cls : Cl} {p : Addr → Prop} {ds ds' : Sts} {ta tb tc te : TE} {P PX PY : D → Prop} {t : TA} {PA : List D → Prop} {K : PySem.W.Frag} {c n : Nat} {ns : List Str} {pre : List D → Prop} {G : List D → List D → Prop}
theorem make_at {N : Addr → Prop} {H : Hp} {vs : List V} {xs : List D} {Q : VK} (W : Wf p N H) (a : AtAll cls N H vs xs) (hl : xs.length = n) (hp : pre xs)
    (q : ∀ v H' ys, G xs ys → Go p H H' → At cls N H' v (.obj c ns ys) → Q v H') {x dx : Addr} (hx : H x = none) (hd : H dx = none) (hne : dx ≠ x) :
    spInit cls c n ns pre G (.ref x :: vs) (upd (upd H dx (.own x)) x (.ins (cls.C c) dx [])) (fun v H2 => v = .non ∧ Q (.ref x) H2) E0 := by
  have keepH : ∀ b o, H b = some o → (upd (upd H dx (.own x)) x (.ins (cls.C c) dx [])) b = some o := fun b o e => by
    rw [upd_ne (ne_of_none e hx), upd_ne (ne_of_none e hd)]; exact e
  have nN : ¬ N x := fun z => W.dom x z hx
  have npx : ¬ p x := fun z => nN (W.sub x z)
  refine ⟨p, fun b => N b ∨ b = x, x, dx, vs, xs, rfl, .inr rfl, npx, upd_same, ⟨fun b hb => .inl (W.sub b hb), fun b hb => ?_, fun b hb => ?_⟩, a.keep (fun b hb hn z => ?_) (fun b o _ e => keepH b o e), hl, hp, fun H' ts ys g e l at_ gg => ⟨rfl, ?_⟩⟩
  · rcases hb with hb | rfl
    · obtain ⟨o, e⟩ := some_of (W.dom b hb)
      rw [keepH b o e]; exact fun z => nomatch z
    · rw [upd_same]; exact fun z => nomatch z
  · obtain ⟨i, j, e, r⟩ := W.pot b hb
    exact ⟨i, j, keepH _ _ e, r⟩
  · rcases z with z | z
    · exact hn z
    · exact hb (by rw [z]; exact hx)
  · refine q (.ref x) H' ys gg ⟨fun b o n e => g.ext b o n (fun z => by rw [z, hx] at e; cases e) (keepH b o e), fun b hb hpot => g.pot b hb (by obtain ⟨i, j, e, r⟩ := hpot; exact ⟨i, j, keepH _ _ e, r⟩)⟩ (.obj nN e l (at_.less fun _ z => .inl z))
/-- a new object -/
theorem ev_make (h : EvA cls p t ds PA) (hp : ∀ xs, PA xs → xs.length = n ∧ pre xs) : Ev cls p (tMk (cls.C c) (spInit cls c n ns pre G) n t) ds (fun d => ∃ xs ys, PA xs ∧ G xs ys ∧ d = .obj c ns ys) := fun pn N H0 ad σ H S Q q =>
  h pn N H0 ad σ H S _ fun vs H1 xs ps g1 a1 => ⟨a1.length.trans (hp xs ps).1, fun x dx hx hd hne =>
    make_at (S.mono g1).hwf a1 (hp xs ps).1 (hp xs ps).2 (fun v H' ys gg g2 av => q v H' _ ⟨xs, ys, ps, gg, rfl⟩ (g1.trans g2) av) hx hd hne⟩
theorem ev_makeK {m : Nat} {is : List Nat} (h : EvA cls p t ds PA) (hp : ∀ xs, PA xs → xs.length = m ∧ (perm is xs).length = n ∧ pre (perm is xs)) : Ev cls p (tMkK (cls.C c) (spInit cls c n ns pre G) is m t) ds (fun d => ∃ xs ys, PA xs ∧ G (perm is xs) ys ∧ d = .obj c ns ys) := fun pn N H0 ad σ H S Q q =>
  h pn N H0 ad σ H S _ fun vs H1 xs ps g1 a1 => ⟨a1.length.trans (hp xs ps).1, fun x dx hx hd hne =>
    make_at (S.mono g1).hwf (a1.perm is) (hp xs ps).2.1 (hp xs ps).2.2 (fun v H' ys gg g2 av => q v H' _ ⟨xs, ys, ps, gg, rfl⟩ (g1.trans g2) av) hx hd hne⟩
/-- an attribute of an object -/
def Fdc (K : PySem.W.Frag) (C : Addr) (f : Str) : Prop := Cls K C ∧ NoAttr K C f
theorem ev_fld {f : Str} {xs : List D} {d : D} (h : Ev cls p te ds (· = .obj c ns xs)) (hc : Fdc K (cls.C c) f) (e : (ns.zip xs).lookup f = some d) : Ev cls p (tFld K te f) ds (· = d) := fun pn N H0 ad σ H S Q q =>
  h pn N H0 ad σ H S _ fun v H1 d' e' g a => by
    subst e'
    cases a with
    | @obj a dx _ _ vs _ n r l at_ =>
      have key : ∀ (ns : List Str) (vs : List V) (xs : List D), AtAll cls (hid N ad ds) H1 vs xs → (ns.zip xs).lookup f = some d → ∃ w, (ns.zip vs).lookup f = some w ∧ At cls (hid N ad ds) H1 w d := by
        intro ns
        induction ns with
        | nil => intro vs xs _ e; cases e
        | cons m ns ih =>
          intro vs xs a e
          cases a with
          | nil => cases e
          | cons av at_ =>
            rw [List.zip_cons_cons] at e ⊢
            rw [List.lookup_cons] at e ⊢
            cases q : (f == m) with
            | true => rw [q] at e; cases (Option.some.inj e); exact ⟨_, rfl, av⟩
            | false => rw [q] at e; exact ih _ _ at_ e
      obtain ⟨w, h1, h2⟩ := key ns vs xs at_ e
      exact ⟨a, _, dx, _, w, rfl, r, hc.1, hc.2, h1, q w H1 d rfl g h2⟩
end

/-! ### defs that need nothing of what is being shown: properties -/
theorem fok_ev {P : Program} {w : World} {K : PySem.W.Frag} {mg : Str → Option Value} {base : Heap} {k : Nat} {f : Addr} {fd : FuncData} {ps Nm : List Str} {cls : Cl} {n m : Nat} {pre : (Addr → Prop) → List D → Prop} {FF : List D → D → Prop} {x qual : Str} {st : Stmt}
    (F : Fun K x qual st f fd) (S : FnScope Nm ps (defScope st)) (hn : ps.length = n) (hm : Nm.length - n = m)
    (hb : ∀ (cdv : Value) (A : Around) (out : List Env) (s : Shared) (H : Hp) (E : XK), Room k (A.deeper (envOfC qual (defScope st) s.heap.objs.size f cdv)) →
      ∃ t, PSs (cxOf CX0 P w K mg base Nm qual (defScope st) f cdv A out s H E).nox (defBody st) t ∧ ∀ p xs, xs.length = n → pre p xs → Sv cls p t (entry m xs) (fun _ => FF xs .non) (FF xs) noSt noSt) :
    FnOk P w K mg base CX0 (k + 1) f fd ps (spG cls n pre FF) := by
  refine F.ok S (fun vs H Q E ⟨p, N, xs, _, a, l, _⟩ => by rw [a.length, l, hn]) fun cdv A out s H vs Q E hr hs => ?_
  obtain ⟨t, ht, hv⟩ := hb cdv A out s H E hr
  obtain ⟨p, N, xs, W, a, l, hp, q⟩ := hs
  refine ⟨t, ht, ?_⟩
  have S0 := sta_entry (Nm := Nm) W a
  rw [a.length, l, hm] at S0
  exact hv p xs l hp [] N H _ _ H S0 _ (fun ad' σ' H' ds' z S' => q .non H' .non z S'.go .non) (fun v H' d z g b => q v H' d z g b) (fun _ _ _ _ z => z.elim) (fun _ _ _ _ z => z.elim)
def Prp (P : Program) (w : World) (K : PySem.W.Frag) (mg : Str → Option Value) (base : Heap) (C : Addr) (f : Str) (k : Nat) (sp : Sp) : Prop :=
  ∃ (pa g : Addr) (fd : FuncData) (ps : List Str), Cls K C ∧ PropOf K C f pa g ∧ FnOk P w K mg base CX0 k g fd ps sp ∧ Binds K fd ps []
theorem pe_propC {X : Cx} {C : Addr} {f : Str} {k : Nat} {sp : Sp} {e : Expr} {pos : Pos} {ta : TE} (W : Prp X.prog X.w X.K X.mg X.base C f k sp) (hr : Room (k + 1) X.A) (he : PE X e ta) (hab : attributeBase e f X.env (eval e X.env) = eval e X.env := by rfl) :
    PE X (.Attribute e f pos) (tProp C sp [] E0 ta) := by
  obtain ⟨pa, g, fd, ps, c, hp, F, hb⟩ := W
  exact pe_prop he c hp F hr hb .nil pass0 hab
section
variable {cls : Cl} {p : Addr → Prop} {ds ds' : Sts} {ta tb tc te : TE} {P PX PY : D → Prop} {t : TA} {PA : List D → Prop} {K : PySem.W.Frag} {c n : Nat} {ns : List Str} {pre : (Addr → Prop) → List D → Prop} {F : List D → D → Prop}
theorem ev_prop {xs : List D} (h : Ev cls p te ds (· = .obj c ns xs)) (hp : pre p [.obj c ns xs]) (hF : ∀ d, F [.obj c ns xs] d → P d) : Ev cls p (tProp (cls.C c) (spG cls 1 pre F) [] E0 te) ds P := fun pn N H0 ad σ H S Q q =>
  h pn N H0 ad σ H S _ fun v H1 d' e' g a => by
    subst e'
    cases a with
    | @obj a dx _ _ vs _ n r l at_ =>
      exact ⟨a, dx, _, rfl, r, p, hid N ad ds, [_], (S.mono g).hwf, .cons (.obj n r l at_) .nil, rfl, hp, fun v H' d f g2 av => q v H' d (hF d f) (g.trans g2) av⟩
/-- a class as a value -/
theorem ev_cls {a : Addr} : Ev cls p (tC (.ref a)) ds (· = .adr a) := fun _ _ _ _ _ H _ Q q => q _ H _ rfl (Go.refl H) (.adr a)
/-- what is known of a class, for isinstance -/
structure ClF (K : PySem.W.Frag) (C : Addr) : Prop where
  cl : Cls K C
  ha : PySem.W.findIn K (.ref C) "__class__" = some (some (.builtin "object.__class__"))
  hn : PySem.W.specialIn K (.builtin "object.__class__") "__get__" = some (some (.builtin "getset_descriptor.__get__"))
  htk : PySem.W.takesIn K (.builtin "object.__class__") = some true
  hm : PySem.W.mroIn K C (.type "object") = some true
  me : PySem.W.kitOne K (.ref C) (.ref C) = some true
  no : ∀ n ∈ ["NoneType", "bool", "int", "str", "list", "tuple", "dict"], PySem.W.kitOne K (.type n) (.ref C) = some false
theorem ty_in : ∀ {d : D}, builtD d = true → tyName d ∈ (["NoneType", "bool", "int", "str", "list", "tuple", "dict"] : List String)
  | .non, _ => by show "NoneType" ∈ (["NoneType", "bool", "int", "str", "list", "tuple", "dict"] : List String); decide
  | .bl _, _ => by show "bool" ∈ (["NoneType", "bool", "int", "str", "list", "tuple", "dict"] : List String); decide
  | .int _, _ => by show "int" ∈ (["NoneType", "bool", "int", "str", "list", "tuple", "dict"] : List String); decide
  | .str _, _ => by show "str" ∈ (["NoneType", "bool", "int", "str", "list", "tuple", "dict"] : List String); decide
  | .lst _, _ => by show "list" ∈ (["NoneType", "bool", "int", "str", "list", "tuple", "dict"] : List String); decide
  | .tup _, _ => by show "tuple" ∈ (["NoneType", "bool", "int", "str", "list", "tuple", "dict"] : List String); decide
  | .dk _ _, _ => by show "dict" ∈ (["NoneType", "bool", "int", "str", "list", "tuple", "dict"] : List String); decide
def isObj (c : Nat) : D → Bool
  | .obj c' _ _ => c == c'
  | _ => false
theorem ev_isObj {d : D} (h : Ev cls p te ds (· = d)) (hc : ClF K (cls.C c)) (hd : builtD d = true ∨ ∃ ns xs, d = .obj c ns xs) : Ev cls p (tCB (cOr (rIsi K) (rIsiT K)) (tCons te (tCons (tC (.ref (cls.C c))) tNil))) ds (· = .bl (isObj c d)) := by
  refine ev_cb (ea2 h ev_cls) (rc_l ?_)
  rintro N H vs xs W a ⟨x, y, rfl, rfl, rfl⟩ Q q
  cases a with | cons a1 a2 => cases a2 with | cons a2 a3 =>
    cases a3
    cases a2
    rcases hd with hb | ⟨ns, xs, rfl⟩
    · refine ⟨_, _, _, _, false, rfl, .own _, tyX_of a1 hb, hc.no _ (ty_in hb), q _ H _ ?_ (Go.refl H) (.bl _)⟩
      cases x <;> first | exact absurd hb Bool.false_ne_true | rfl
    · cases a1 with
      | obj n r l at_ =>
        refine ⟨_, _, _, _, true, rfl, .own _, .base (.ins r hc.cl hc.ha hc.hn hc.htk hc.hm), hc.me, q _ H _ ?_ (Go.refl H) (.bl _)⟩
        show D.bl true = D.bl (c == c)
        rw [beq_self_eq_true]
end

/-! ### an object's attributes are stored -/
theorem Sta.nomut {cls : Cl} {p N : Addr → Prop} {pn : List (V × D)} {H : Hp} {ad : Nat → Addr} {σ : L2.St} {ds : Sts} (S : Sta cls p pn N H ad H σ ds) : ∀ (i : Nat) (c : Con), ds[i]? ≠ some (some (Slot.mut c)) := fun i c e => by
  obtain ⟨_, _, _, _, h, k⟩ := S.mt i c e
  exact k.ne h
theorem Sta.store {cls : Cl} {p N : Addr → Prop} {H0 H : Hp} {ad : Nat → Addr} {σ : L2.St} {ds : Sts} {a : Addr} {o : HO} (S : Sta cls p [] N H0 ad H σ ds) (no : ∀ (i : Nat) (ys : List D), ds[i]? ≠ some (some (Slot.own ys))) (nm : ∀ (i : Nat) (c : Con), ds[i]? ≠ some (some (Slot.mut c))) (ha : N a) (hp : ¬ p a) :
    Sta cls p [] N (upd H a o) ad (upd H a o) σ ds := by
  have S0 : Sta cls p [] N (fun b => if b = a then none else H b) ad H σ ds := ⟨S.wf, ⟨fun b u _ e => by
      by_cases z : b = a
      · rw [if_pos z] at e; cases e
      · rw [if_neg z] at e; exact e, fun b hb ⟨i, j, e, r⟩ => S.wf.pot b hb⟩, S.len, S.dat, fun i ys e => absurd e (no i ys), S.pin, fun i j xs ys e => absurd e (no i xs), fun i c e => absurd e (nm i c), fun i j c c' e => absurd e (nm i c)⟩
  have S1 := S0.turn (o := o) ha hp (if_pos rfl) fun i c e => absurd e (nm i c)
  exact ⟨S1.wf, Go.refl _, S1.len, S1.dat, fun i ys e => absurd e (no i ys), S1.pin, fun i j xs ys e => absurd e (no i xs), fun i c e => absurd e (nm i c), fun i j c c' e => absurd e (nm i c)⟩
structure Ini (cls : Cl) (p N : Addr → Prop) (a dx C : Addr) (ns : List Str) (xs : List D) (H : Hp) (σ : L2.St) (ds : Sts) : Prop where
  sta : ∃ ad, Sta cls p [] N H ad H σ ds
  no : ∀ (i : Nat) (ys : List D), ds[i]? ≠ some (some (Slot.own ys))
  obj : ∃ vs, H a = some (.ins C dx (ns.zip vs)) ∧ ns.length = vs.length ∧ AtAll cls N H vs xs
/-- a block of __init__ -/
def SvI (cls : Cl) (c : Nat) (p : Addr → Prop) (a : Addr) (t : TS) (ds : Sts) (ns : List Str) (xs : List D) (post : Sts → List Str → List D → Prop) : Prop := ∀ (N : Addr → Prop) (dx : Addr) (H : Hp) (σ : L2.St), N a → ¬ p a → ds[0]? = some (some (Slot.dat (.adr a))) →
  Ini cls p N a dx (cls.C c) ns xs H σ ds → ∀ Dn : Ends, (∀ σ' H' ds' ns' xs', GoX p a H H' → ds'[0]? = some (some (Slot.dat (.adr a))) → Ini cls p N a dx (cls.C c) ns' xs' H' σ' ds' → post ds' ns' xs' → Dn.nx σ' H') → t Dn σ H
section
variable {cls : Cl} {p : Addr → Prop} {ds : Sts} {te : TE} {P : D → Prop} {K : PySem.W.Frag} {c : Nat} {a : Addr} {ns : List Str} {xs : List D} {t u : TS} {mid post : Sts → List Str → List D → Prop} {nx : Sts → Prop}
theorem GoX.trans {H H1 H2 : Hp} (g : GoX p a H H1) (h : GoX p a H1 H2) : GoX p a H H2 := ⟨fun b o n m e => h.ext b o n m (g.ext b o n m e), fun b q r => h.pot b q (g.pot b q r)⟩
theorem GoX.of {H H1 : Hp} (g : Go p H H1) : GoX p a H H1 := ⟨fun b o n _ e => g.ext b o n e, g.pot⟩
theorem svi_seq (h : SvI cls c p a t ds ns xs mid) (k : ∀ ds' ns' xs', mid ds' ns' xs' → SvI cls c p a u ds' ns' xs' post) : SvI cls c p a (tSeq t u) ds ns xs post := fun N dx H σ ha hp h0 I Dn q =>
  h N dx H σ ha hp h0 I { Dn with nx := u Dn } fun σ1 H1 ds1 ns1 xs1 g z I1 m => k ds1 ns1 xs1 m N dx H1 σ1 ha hp z I1 Dn fun σ' H' ds' ns' xs' g' z' I' po => q σ' H' ds' ns' xs' (g.trans g') z' I' po
theorem svi_next (h : post ds ns xs) : SvI cls c p a tNext ds ns xs post := fun N dx H σ ha hp h0 I Dn q => q σ H ds ns xs (GoX.of (Go.refl H)) h0 I h
/-- statements that store nothing in the object -/
theorem svi_sv (h : Sv cls p t ds nx (fun _ => False) noSt noSt) (hn : ∀ ds', nx ds' → (∀ (i : Nat) (ys : List D), ds'[i]? ≠ some (some (Slot.own ys))) ∧ ds'[0]? = some (some (Slot.dat (.adr a))) ∧ ∀ (i : Nat) (c : Con), ds'[i]? ≠ some (some (Slot.mut c))) : SvI cls c p a t ds ns xs (fun ds' ns' xs' => nx ds' ∧ ns' = ns ∧ xs' = xs) := fun N dx H σ ha hp h0 I Dn q => by
  obtain ⟨⟨ad, S⟩, no, vs, e, l, at_⟩ := I
  refine h [] N H ad σ H S Dn (fun ad' σ' H' ds' z S' => ?_) (fun _ _ _ z => z.elim) (fun _ _ _ _ z => z.elim) (fun _ _ _ _ z => z.elim)
  obtain ⟨n1, n2, n3⟩ := hn ds' z
  exact q σ' H' ds' ns xs (GoX.of S'.go) n2 ⟨⟨ad', S'.wf, Go.refl _, S'.len, S'.dat, fun i ys e => absurd e (n1 i ys), S'.pin, fun i j xs ys e => absurd e (n1 i xs), fun i c e => absurd e (n3 i c), fun i j c c' e => absurd e (n3 i c)⟩, n1, vs, S'.go.ext a _ hp e, l, at_.mono S.wf.sub S'.go⟩ ⟨z, rfl, rfl⟩
theorem putF_zip {f : Str} {y : V} : ∀ {ns : List Str} {vs : List V}, f ∉ ns → ns.length = vs.length → putF f y (ns.zip vs) = (ns ++ [f]).zip (vs ++ [y])
  | [], [], _, _ => rfl
  | [], _ :: _, _, l => by cases l
  | _ :: _, [], _, l => by cases l
  | m :: ns, v :: vs, h, l => by
    show (if m = f then _ else (m, v) :: putF f y (ns.zip vs)) = (m, v) :: (ns ++ [f]).zip (vs ++ [y])
    rw [if_neg (fun z => h (by rw [z]; exact List.mem_cons_self ..)), putF_zip (fun z => h (List.mem_cons_of_mem _ z)) (Nat.succ.inj l)]
/-- self.f = e -/
theorem svi_fld {f : Str} (h : Ev cls p te ds P) (hc : Fdc K (cls.C c) f) (hf : f ∉ ns) (hl : ns.length < 1000) : SvI cls c p a (sFld K (tVar 0) te f) ds ns xs (fun ds' ns' xs' => ds' = ds ∧ ns' = ns ++ [f] ∧ ∃ d, P d ∧ xs' = xs ++ [d]) := fun N dx H σ ha hp h0 I Dn q => by
  obtain ⟨⟨ad, S⟩, no, vs, e, l, at_⟩ := I
  have hh : ∀ b, hid N ad ds b → N b := fun b z => z.elim id fun ⟨i, ys, e, _⟩ => absurd e (no i ys)
  refine h [] N H ad σ H S _ fun y H1 d pd g1 a1 => ?_
  have S1 := S.mono g1
  obtain ⟨v, h1, h2⟩ := S1.dat 0 _ h0
  cases h2
  have e1 : H1 a = some (.ins (cls.C c) dx (ns.zip vs)) := g1.ext a _ hp e
  refine ⟨.ref a, h1, a, _, dx, _, rfl, e1, hc.1, hc.2, ?_, ?_⟩
  · rw [List.length_zip]; omega
  have kp : ∀ b o, ¬ N b → H1 b = some o → (upd H1 a (.ins (cls.C c) dx (putF f y (ns.zip vs)))) b = some o := fun b o n eb => by
    rw [upd_ne (fun z => n (by rw [z]; exact ha))]; exact eb
  refine q σ _ ds (ns ++ [f]) (xs ++ [d]) ⟨fun b o n m eb => by rw [upd_ne m]; exact g1.ext b o n eb, fun b hb hpot => ?_⟩ h0 ⟨⟨ad, S1.store no S.nomut ha hp⟩, no, vs ++ [y], ?_, ?_, ?_⟩ ⟨rfl, rfl, d, pd, rfl⟩
  · obtain ⟨i, j, ei, r⟩ := g1.pot b hb hpot
    exact ⟨i, j, by rw [upd_ne (fun z => hp (by rw [← z]; exact hb))]; exact ei, r⟩
  · rw [upd_same, putF_zip hf l]
  · rw [List.length_append, List.length_append, l]; rfl
  · exact AtAll.append ((at_.mono S.wf.sub g1).keep (fun _ _ n => n) kp) (.cons ((a1.keep (fun b _ n z => n (.inl z)) (fun _ _ _ e => e)).keep (fun _ _ n => n) kp) .nil)
theorem gok_init {Pg : Program} {w : World} {mg : Str → Option Value} {base : Heap} {k : Nat} {f : Addr} {fd : FuncData} {ps Nm : List Str} {n m : Nat} {pre : List D → Prop} {G : List D → List D → Prop} {x qual : Str} {st : Stmt}
    (F : Fun K x qual st f fd) (S : FnScope Nm ps (defScope st)) (hn : ps.length = n + 1) (hm : Nm.length - (n + 1) = m)
    (hb : ∀ (cdv : Value) (A : Around) (out : List Env) (s : Shared) (H : Hp) (E : XK), A.guards = some [] → Room k (A.deeper (envOfC qual (defScope st) s.heap.objs.size f cdv)) →
      ∃ t, PSs (cxOf CX0 Pg w K mg base Nm qual (defScope st) f cdv A out s H E).nox (defBody st) t ∧ ∀ p a xs, xs.length = n → pre xs → SvI cls c p a t (entry m (.adr a :: xs)) [] [] (fun _ ns' ys => ns' = ns ∧ G xs ys)) :
    GOk Pg w K mg base (k + 1) f fd ps (spInit cls c n ns pre G) := by
  refine gok_of F S (fun vs H Q E ⟨p, N, a, dx, vs', xs, e, _, _, _, _, at_, l, _⟩ => by rw [e, List.length_cons, at_.length, l, hn]) fun cdv A out s H vs Q E hg hr hs => ?_
  obtain ⟨t, ht, hv⟩ := hb cdv A out s H E hg hr
  obtain ⟨p, N, a, dx, vs', xs, rfl, ha, hp, e, W, at_, l, hpre, q⟩ := hs
  refine ⟨t, ht, ?_⟩
  have S0 := sta_entry (Nm := Nm) W (AtAll.cons (.adr a) at_)
  have no : ∀ (i : Nat) (ys : List D), (entry m (.adr a :: xs))[i]? ≠ some (some (Slot.own ys)) := fun i ys e => by
    have : ∀ (l : Sts), (∀ o ∈ l, ∀ ys, o ≠ some (Slot.own ys)) → l[i]? ≠ some (some (Slot.own ys)) := fun l h e => h _ (List.mem_of_getElem? e) ys rfl
    refine this _ ?_ e
    intro o ho ys z
    subst z
    unfold entry at ho
    rcases List.mem_append.mp ho with ho | ho
    · obtain ⟨d, _, e⟩ := List.mem_map.mp ho
      cases e
    · have := List.eq_of_mem_replicate ho
      cases this
  rw [List.length_cons, at_.length, l, hm] at S0
  exact hv p a xs l hpre N dx H _ ha hp rfl ⟨⟨_, S0⟩, no, [], e, rfl, .nil⟩ _ fun σ' H' ds' ns' ys g z I po => by
    obtain ⟨rfl, gg⟩ := po
    obtain ⟨_, _, ts, e', l', at'⟩ := I
    exact q H' ts ys g e' l' at' gg
end
def notOwn : Option Slot → Bool
  | some (Slot.own _) => false
  | _ => true
theorem noOwn_of {l : Sts} (h : l.all notOwn = true) : ∀ (i : Nat) (ys : List D), l[i]? ≠ some (some (Slot.own ys)) := fun i ys e => by
  have := List.all_eq_true.mp h _ (List.mem_of_getElem? e)
  cases this
def notMut : Option Slot → Bool
  | some (Slot.mut _) => false
  | _ => true
theorem noMut_of {l : Sts} (h : l.all notMut = true) : ∀ (i : Nat) (c : Con), l[i]? ≠ some (some (Slot.mut c)) := fun i c e => by
  have := List.all_eq_true.mp h _ (List.mem_of_getElem? e)
  cases this
end Lk

namespace Lk
open PySem PySem.Spec PyProof.Rows L2

/-! ### ==, repr of objects by their own defs; parts of texts -/
section
variable {X : Cx} {k : Nat} {f C : Addr} {fd : FuncData} {ps : List Str} {sp : Sp}
theorem looks_of {pins : List (Addr × Obj)} {σ : L2.St} {H : Hp} {s : Shared} {y : V} {u t : Value} (I : Inv X pins σ H s) (r : RelV y u) (ty : TyX X.K H y t) : PySem.W.Looks (model X.prog X.w) s.heap (typeOf u) t := by
  obtain ⟨P, Z, hp, _⟩ := kit_of I r ty
  exact Z.ty _ _ I.kIn hp
/-- x == y, x of the class C with an own == -/
def rEqO (K : PySem.W.Frag) (C : Addr) (sp : Sp) : R2 := fun x y H Q => ∃ a dx fs t, x = .ref a ∧ H a = some (.ins C dx fs) ∧ TyX K H y t ∧ PySem.W.notFirst K C t = true ∧ sp [.ref a, y] H (fun v H' => (∃ b, v = .bl b) ∧ Q v H') E0
theorem op_eqO (F : GOk X.prog X.w X.K X.mg X.base k f fd ps sp) (hg : X.A.guards = some []) (hr : Room k X.A) (hs : PySem.W.findIn X.K (.ref C) "__eq__" = some (some (.ref f))) (hf : PySem.W.isFn X.K (.ref f) = true) (hb : Binds X.K fd ps []) : OpR X (compareOp .Eq) (rEqO X.K C sp) := by
  intro pins s σ H x y v u Q I rx ry h
  obtain ⟨a, dx, fs, t, rfl, ha, ty, nf, q⟩ := h
  cases rx
  obtain ⟨mA, J, _⟩ := ins_get I.hok ha
  obtain ⟨od, J, _⟩ := J.look
  obtain ⟨m, hF⟩ := I.fr
  show wpAny (model X.prog X.w) X.A (richCompare .Eq (.ref a) u) (EP X pins σ Q) X.xe s
  refine PySem.W.cmp_K (op := .Eq) (tb := t) (by have := hr.units; omega) hF I.ok.mod.kin J (looks_of I ry ty) nf hs hf ?_
  have hl := F.len _ _ _ _ q
  have hb1 := hb s [.ref a, u] I.kIn (by rw [List.append_nil]; exact hl)
  rw [List.append_nil] at hb1
  refine wpAny_call (codeAny_mono (F.go X.A X.stack s H ⟨[.ref a, u], []⟩ [.ref a, u] [.ref a, y] _ E0 hg hr I.env0 hb1 (.cons rfl (.cons ry .nil)) q) ?_)
  intro r s' hq
  match r, hq with
  | .error _, hq => exact hq.elim
  | .ok .next, hq => exact hq.elim
  | .ok .brk, hq => exact hq.elim
  | .ok .cont, hq => exact hq.elim
  | .ok (.ret w), hq =>
    obtain ⟨z, H', I', rz, ⟨b, ez⟩, q'⟩ := I.after hq
    subst ez
    cases rz
    exact ⟨.bl b, H', I', rfl, q'⟩
/-- repr(x), x of the class C with an own repr -/
def rShO (C : Addr) (sp : Sp) : List V → Hp → VK → Prop := fun xs H Q => ∃ a dx fs, xs = [.ref a] ∧ H a = some (.ins C dx fs) ∧ sp [.ref a] H (fun v H' => (∃ y, v = .str y) ∧ Q v H') E0
theorem call_shO (F : GOk X.prog X.w X.K X.mg X.base k f fd ps sp) (hg : X.A.guards = some []) (hr : Room (k + 1) X.A) (hs : PySem.W.findIn X.K (.ref C) "__repr__" = some (some (.ref f))) (hf : PySem.W.isFn X.K (.ref f) = true) (hb : Binds X.K fd ps []) : CallR X (.builtin "repr") (rShO C sp) := by
  intro pins s σ H xs us Q I r h
  obtain ⟨a, dx, fs, rfl, ha, q⟩ := h
  obtain ⟨u, rfl, ru⟩ := L2.vals1 r
  cases ru
  obtain ⟨mA, J, _⟩ := ins_get I.hok ha
  obtain ⟨od, J, _⟩ := J.look
  obtain ⟨m, hF⟩ := I.fr
  refine PySem.W.repr_K (by have := hr.units; show X.A.units + 1 < cLine; omega) hF I.ok.mod.kin J hs hf ?_
  have hl := F.len _ _ _ _ q
  have hb1 := hb s [.ref a] I.kIn (by rw [List.append_nil]; exact hl)
  rw [List.append_nil] at hb1
  refine wpAny_call (codeAny_mono (F.go X.A.in1 X.stack s H ⟨[.ref a], []⟩ [.ref a] [.ref a] _ E0 hg hr.in1 I.env0.in1 hb1 (.cons rfl .nil) q) ?_)
  intro r s' hq
  match r, hq with
  | .error _, hq => exact hq.elim
  | .ok .next, hq => exact hq.elim
  | .ok .brk, hq => exact hq.elim
  | .ok .cont, hq => exact hq.elim
  | .ok (.ret w), hq =>
    obtain ⟨z, H', I', rz, ⟨b, ez⟩, q'⟩ := I.after hq
    subst ez
    obtain ⟨t, rfl⟩ := rz
    exact ⟨.str b, H', I', ⟨t, rfl⟩, q'⟩
/-- {x!r}, x a list or tuple of data -/
def tFmtD (K : PySem.W.Frag) (te : TE) : TE := fun σ H Q => te σ H fun v H1 => ∃ (a : Addr) (d : PyData), v = .ref a ∧ Dp K H1 v d ∧ d.showable = true ∧ d.hasDict = false ∧ d.depth ≤ 20 ∧ d.shown.length ≤ sizeLine ∧ Q (.str d.shown) H1
theorem pe_fmtD {e : Expr} {te : TE} {pos : Pos} (hg : X.A.guards = some []) (hu : X.A.units + 64 < cLine) (he : PE X e te) : PE X (.FormattedValue e 114 none pos) (tFmtD X.K te) := by
  refine ⟨fun pins s σ H Q I h => ?_⟩
  refine wpAny_FormattedValue_repr (thn (he.run pins s σ H _ I h) fun v s1 hv => ?_)
  obtain ⟨x, H1, I1, r1, a, d, rfl, dp, h1, h2, h3, h4, q⟩ := hv
  cases r1
  obtain ⟨as, rd⟩ := Dp.reads I1 d (.ref a) (.ref a) dp rfl
  refine pyReprObj_of_reads rd h1 (fun z => by rw [h2] at z; cases z) hg (by omega) (fun _ _ e => e) (fun h' u tk k => ?_) h4
  exact wpAny_formatField_str ⟨.str d.shown, H1, I1.kept k, ⟨_, rfl⟩, q⟩ ⟨.str d.shown, H1, (I1.kept k).tok _, ⟨_, rfl⟩, q⟩ h4

def Eqr (P : Program) (w : World) (K : PySem.W.Frag) (mg : Str → Option Value) (base : Heap) (C : Addr) (k : Nat) (sp : Sp) : Prop :=
  ∃ (f : Addr) (fd : FuncData) (ps : List Str), GOk P w K mg base k f fd ps sp ∧ PySem.W.findIn K (.ref C) "__eq__" = some (some (.ref f)) ∧ PySem.W.isFn K (.ref f) = true ∧ Binds K fd ps []
def Rpr (P : Program) (w : World) (K : PySem.W.Frag) (mg : Str → Option Value) (base : Heap) (C : Addr) (k : Nat) (sp : Sp) : Prop :=
  ∃ (f : Addr) (fd : FuncData) (ps : List Str), GOk P w K mg base k f fd ps sp ∧ PySem.W.findIn K (.ref C) "__repr__" = some (some (.ref f)) ∧ PySem.W.isFn K (.ref f) = true ∧ Binds K fd ps []
variable {K : PySem.W.Frag}
theorem opEqC (W : Eqr X.prog X.w X.K X.mg X.base C k sp) (hg : X.A.guards = some []) (hr : Room k X.A) (h : X.K = K) (hu : X.A.units + 64 < cLine) : OpR X (compareOp .Eq) (rOr (rOr rEq (rEqD K)) (rEqO K C sp)) := by
  obtain ⟨f, fd, ps, F, hs, hf, hb⟩ := W
  subst h
  exact op_or (opEq rfl hu) (op_eqO F hg hr hs hf hb)
theorem kShowC (W : Rpr X.prog X.w X.K X.mg X.base C k sp) (hg : X.A.guards = some []) (hr : Room (k + 1) X.A) (h : X.K = K) (hu : X.A.units + 64 < cLine) : CallR X (.builtin "repr") (cOr (rShow K) (rShO C sp)) := by
  obtain ⟨f, fd, ps, F, hs, hf, hb⟩ := W
  exact call_or (kShow h hg hu) (call_shO F hg hr hs hf hb)
theorem pe_fldK {e : Expr} {f : Str} {pos : Pos} {ta : TE} (h : X.K = K) (he : PE X e ta) (hb : attributeBase e f X.env (eval e X.env) = eval e X.env := by rfl) : PE X (.Attribute e f pos) (tFld K ta f) := by subst h; exact pe_fld he hb
theorem ps_fldK {o value : Expr} {f : Str} {pos pos' : Pos} {ta tv : TE} (h : X.K = K) (ha : PE X o ta) (hv : PE X value tv) (hs : swapsWith value (some (.Attribute o f pos')) pos.line X.env = pure false := by rfl) : PS X (.Assign [.Attribute o f pos'] value pos) (sFld K ta tv f) := by subst h; exact ps_fld ha hv hs
theorem pe_fmtDK {e : Expr} {te : TE} {pos : Pos} (h : X.K = K) (hg : X.A.guards = some []) (hu : X.A.units + 64 < cLine) (he : PE X e te) : PE X (.FormattedValue e 114 none pos) (tFmtD K te) := by subst h; exact pe_fmtD hg hu he
end
section
variable {cls : Cl} {p : Addr → Prop} {ds : Sts} {te : TE} {P PX PY : D → Prop} {PA : List D → Prop} {K : PySem.W.Frag} {c : Nat} {F : List D → D → Prop} {pre : (Addr → Prop) → List D → Prop}
theorem rv_eqO (hc : ClF K (cls.C c)) (nf : ∀ n ∈ (["NoneType", "bool", "int", "str", "list", "tuple", "dict"] : List String), PySem.W.notFirst K (cls.C c) (.type n) = true)
    (h : ∀ dx dy, PX dx → PY dy → ∃ ns xs, dx = .obj c ns xs ∧ (builtD dy = true ∨ ∃ ns ys, dy = .obj c ns ys) ∧ pre p [dx, dy] ∧ ∀ r, F [dx, dy] r → ∃ b, r = .bl b ∧ P (.bl b)) :
    Rv cls p (rEqO K (cls.C c) (spG cls 2 pre F)) PX PY P := fun N H x y dx dy W ax ay px py' Q q => by
  obtain ⟨ns, xs, rfl, hy, hp, hF⟩ := h dx dy px py'
  have prom : ∀ a, x = .ref a → spG cls 2 pre F [.ref a, y] H (fun v H' => (∃ b, v = .bl b) ∧ Q v H') E0 := fun a e => ⟨p, N, [_, dy], W, .cons (e ▸ ax) (.cons ay .nil), rfl, hp, fun v H' d f g av => by
    obtain ⟨b, rfl, pb⟩ := hF d f
    cases av
    exact ⟨⟨b, rfl⟩, q _ H' _ pb g (.bl b)⟩⟩
  rcases hy with hb | ⟨ms, ys, rfl⟩
  · cases ax with
    | @obj a dx _ _ vs _ n r l at_ => exact ⟨a, dx, _, _, rfl, r, tyX_of ay hb, nf _ (ty_in hb), prom a rfl⟩
  · cases ax with
    | @obj a dx _ _ vs _ n r l at_ =>
      have ay' := ay
      cases ay with
      | @obj b dy _ _ ws _ n2 r2 l2 at2 =>
        refine ⟨a, dx, _, _, rfl, r, .base (.ins r2 hc.cl hc.ha hc.hn hc.htk hc.hm), ?_, prom a rfl⟩
        unfold PySem.W.notFirst
        rw [beq_self_eq_true, Bool.true_or]
theorem rc_shO (h : ∀ xs, PA xs → ∃ ns ys, xs = [.obj c ns ys] ∧ pre p xs ∧ ∀ r, F xs r → ∃ s, r = .str s ∧ P (.str s)) : Rc cls p (rShO (cls.C c) (spG cls 1 pre F)) PA P := fun N H vs xs W a ps Q q => by
  obtain ⟨ns, ys, rfl, hp, hF⟩ := h xs ps
  have a' := a
  cases a with
  | cons a b =>
    cases b
    cases a with
    | @obj a dx _ _ vs _ n r l at_ =>
      refine ⟨a, dx, _, rfl, r, p, N, _, W, a', rfl, hp, fun v H' d f g av => ?_⟩
      obtain ⟨s, rfl, ps'⟩ := hF d f
      cases av
      exact ⟨⟨s, rfl⟩, q _ H' _ ps' g (.str s)⟩
theorem ev_fmtD {k : Bool} {xs : List D} {n : Nat} (h : Ev cls p te ds (· = sq k xs)) (hn : n ≤ 20) (hs : shD n (sq k xs) = true) (hz : szD n (sq k xs) ≤ 10000000) : Ev cls p (tFmtD K te) ds (· = .str (py (sq k xs)).shown) := fun pn N H0 ad σ H S Q q =>
  h pn N H0 ad σ H S _ fun v H1 d e g a => by
    subst e
    obtain ⟨h1, h2, h3, h4⟩ := shD_show n _ hs
    have key : ∃ b, v = .ref b := by
      cases k with
      | true => cases a with | lst n r at_ => exact ⟨_, rfl⟩
      | false => cases a with | tup n r at_ => exact ⟨_, rfl⟩
    obtain ⟨b, rfl⟩ := key
    exact ⟨b, _, rfl, dp_of n _ _ (.inr hs) a, h1, h2, Nat.le_trans h3 hn, Nat.le_trans (Nat.le_trans h4 hz) (by decide), q _ H1 _ rfl g (.str _)⟩
/-- the parts of a text -/
theorem ev_tjs : ∀ {ts : List TE} {ys : List Str}, Paired (fun t y => Ev cls p t ds (· = .str y)) ts ys → ∀ acc : Str, (∀ n : Nat, ((ys.take n).foldl (· ++ ·) acc).length ≤ sizeLine) → ∀ (pn : List (V × D)) (N : Addr → Prop) (H0 : Hp) (ad : Nat → Addr) (σ : L2.St) (H : Hp), Sta cls p pn N H0 ad H σ ds →
    ∀ Q : Str → Hp → Prop, (∀ H', Go p H H' → Q (ys.foldl (· ++ ·) acc) H') → tJs ts acc σ H Q
  | _, _, .nil, acc, hl, pn, N, H0, ad, σ, H, S, Q, q => q H (Go.refl H)
  | _, _, .cons (b := y) (l₂ := ys) h t, acc, hl, pn, N, H0, ad, σ, H, S, Q, q => h pn N H0 ad σ H S _ fun v H1 d e g a => by
    subst e
    cases a
    exact ⟨y, rfl, hl 1, ev_tjs t (acc ++ y) (fun n => hl (n + 1)) pn N H0 ad σ H1 (S.mono g) Q fun H' g' => q H' (g.trans g')⟩
theorem ev_joined {ts : List TE} {ys : List Str} (h : Paired (fun t y => Ev cls p t ds (· = .str y)) ts ys) (hl : ∀ n : Nat, ((ys.take n).foldl (· ++ ·) Str.empty).length ≤ sizeLine) : Ev cls p (fun σ H Q => tJs ts Str.empty σ H fun out H1 => Q (.str out) H1) ds (· = .str (ys.foldl (· ++ ·) Str.empty)) := fun pn N H0 ad σ H S Q q =>
  ev_tjs h Str.empty hl pn N H0 ad σ H S _ fun H' g => q _ H' _ rfl g (.str _)
end
theorem fold_len : ∀ (ys : List Str) (acc : Str) (n : Nat), ((ys.take n).foldl (· ++ ·) acc).length ≤ acc.length + (ys.map Str.length).sum
  | [], acc, n => by rw [List.take_nil]; exact Nat.le_add_right _ _
  | y :: ys, acc, 0 => Nat.le_add_right _ _
  | y :: ys, acc, n + 1 => by
    have h := fold_len ys (acc ++ y) n
    rw [Str.length_append] at h
    rw [List.take_succ_cons, List.foldl_cons, List.map_cons, List.sum_cons]
    omega
end Lk

namespace Lk
open PySem PySem.Spec PyProof.Rows L2

/-! ### a list that nobody else has becomes an own one -/
section
variable {cls : Cl} {p N : Addr → Prop} {pn : List (V × D)} {H0 H H' : Hp} {ad : Nat → Addr} {σ : L2.St} {ds : Sts}
theorem Sta.adopt {i : Nat} {l : Addr} {vs : List V} {xs : List D} (E0 : Sta cls p pn N H0 ad H σ ds) (g : Go p H H') (hl : H l = none) (e : H' l = some (.lst vs)) (h : AtAll cls (fun a => hid N ad ds a ∨ a = l) H' vs xs) (hi : i < ds.length) :
    Sta cls p pn N H0 (fun j => if j = i then l else ad j) H' (σ.set i (some (.ref l))) (ds.set i (some (Slot.own xs))) := by
  have E := E0.mono g
  have old : ∀ a, hid N ad ds a → a ≠ l := fun a h z => E0.hwf.dom a h (by rw [z]; exact hl)
  have hd : ∀ a, hid N (fun j => if j = i then l else ad j) (ds.set i (some (Slot.own xs))) a → hid N ad ds a ∨ a = l := by
    intro a h
    rcases h with h | ⟨j, ys, e, q⟩
    · exact .inl (.inl h)
    · rcases get_set e with ⟨z, _, _⟩ | ⟨ne, e⟩
      · right
        rw [← q]
        simp only [z, if_true]
      · left
        refine .inr ⟨j, ys, e, ?_⟩
        simpa only [if_neg (Ne.symm ne)] using q
  have kp : ∀ {v : V} {d : D}, At cls (hid N ad ds) H v d → At cls (hid N (fun j => if j = i then l else ad j) (ds.set i (some (Slot.own xs)))) H' v d := fun h =>
    (h.keep (N' := fun a => hid N ad ds a ∨ a = l) (H' := H) (fun a hs n z => z.elim n fun z => hs (by rw [z]; exact hl)) fun a o _ e => e).keep (fun a hs n z => n (hd a z)) fun a o n e => g.ext a o (fun z => n (.inl (E0.hsub a z))) e
  have kpA : ∀ {v : List V} {d : List D}, AtAll cls (hid N ad ds) H v d → AtAll cls (hid N (fun j => if j = i then l else ad j) (ds.set i (some (Slot.own xs)))) H' v d := fun h =>
    (h.keep (N' := fun a => hid N ad ds a ∨ a = l) (H' := H) (fun a hs n z => z.elim n fun z => hs (by rw [z]; exact hl)) fun a o _ e => e).keep (fun a hs n z => n (hd a z)) fun a o n e => g.ext a o (fun z => n (.inl (E0.hsub a z))) e
  refine ⟨E.wf, E.go, by rw [List.length_set, List.length_set]; exact E.len, fun j x e => ?_, fun j ys e' => ?_, fun q hq => kp (E0.pin q hq), fun a b ys zs e1 e2 q => ?_, fun j c e' => ?_, fun a b c c' e1 e2 q => ?_⟩
  · rcases get_set e with ⟨rfl, z, _⟩ | ⟨ne, e⟩
    · cases z
    · obtain ⟨w, h1, h2⟩ := E0.dat j x e
      exact ⟨w, by rw [List.getElem?_set_ne ne]; exact h1, kp h2⟩
  · rcases get_set e' with ⟨rfl, z, _⟩ | ⟨ne, e'⟩
    · cases z
      simp only [if_true]
      refine ⟨by rw [List.getElem?_set_self (by rw [E.len]; exact hi)], fun z => E0.wf.dom _ z hl, ?_, vs, e, h.less hd⟩
      cases q : H0 l with
      | none => rfl
      | some o =>
        by_cases hp : p l
        · exact absurd hl (E0.wf.pot l hp).some
        · rw [E0.go.ext l o hp q] at hl; cases hl
    · obtain ⟨h1, h2, h3, ws, h4, h5⟩ := E0.own j ys e'
      simp only [if_neg (Ne.symm ne)]
      exact ⟨by rw [List.getElem?_set_ne ne]; exact h1, h2, h3, ws, g.ext _ _ (fun z => h2 (E0.wf.sub _ z)) h4, kpA h5⟩
  · rcases get_set e1 with ⟨rfl, z, _⟩ | ⟨n1, e1⟩
    · rcases get_set e2 with ⟨rfl, _, _⟩ | ⟨n2, e2⟩
      · rfl
      · simp only [if_true, if_neg (Ne.symm n2)] at q
        obtain ⟨_, _, _, ws, h4, _⟩ := E0.own b zs e2
        rw [← q, hl] at h4; cases h4
    · rcases get_set e2 with ⟨rfl, _, _⟩ | ⟨n2, e2⟩
      · simp only [if_true, if_neg (Ne.symm n1)] at q
        obtain ⟨_, _, _, ws, h4, _⟩ := E0.own a ys e1
        rw [q, hl] at h4; cases h4
      · simp only [if_neg (Ne.symm n1), if_neg (Ne.symm n2)] at q
        exact E0.inj a b ys zs e1 e2 q
  · rcases get_set e' with ⟨_, z, _⟩ | ⟨ne, e'⟩
    · cases z
    · obtain ⟨w, h1, h2, h3, h4, h5⟩ := E0.mt j c e'
      simp only [if_neg (Ne.symm ne)]
      exact ⟨w, by rw [List.getElem?_set_ne ne]; exact h1, h2, h3, h4, h5.keep (fun a hs n z => (hd a z).elim n fun z => hs (by rw [z]; exact hl)) (fun a o n e => g.ext a o (fun z => n (E0.hsub a z)) e) fun o e => g.ext _ o h3 e⟩
  · rcases get_set e1 with ⟨_, z, _⟩ | ⟨n1, e1⟩
    · cases z
    · rcases get_set e2 with ⟨_, z, _⟩ | ⟨n2, e2⟩
      · cases z
      · simp only [if_neg (Ne.symm n1), if_neg (Ne.symm n2)] at q
        exact E0.minj a b c c' e1 e2 q
end
/-- an expression that answers a list that nobody else has -/
def EvF (cls : Cl) (p : Addr → Prop) (t : TE) (ds : Sts) (P : List D → Prop) : Prop := ∀ (pn : List (V × D)) (N : Addr → Prop) (H0 : Hp) (ad : Nat → Addr) (σ : L2.St) (H : Hp), Sta cls p pn N H0 ad H σ ds → ∀ Q : VK,
  (∀ l H' vs xs, P xs → Go p H H' → H l = none → H' l = some (.lst vs) → AtAll cls (fun a => hid N ad ds a ∨ a = l) H' vs xs → Q (.ref l) H') → t σ H Q
section
variable {cls : Cl} {p : Addr → Prop} {ds : Sts} {ta tb te : TE} {P PX : D → Prop} {PA : List D → Prop} {t : TA} {ts tu' : TS} {nx bk ct : Sts → Prop} {rt : D → Prop} {K : PySem.W.Frag}
theorem EvF.mono {P Q : List D → Prop} (h : EvF cls p te ds P) (k : ∀ xs, P xs → Q xs) : EvF cls p te ds Q := fun pn N H0 ad σ H S R q => h pn N H0 ad σ H S R fun l H' vs xs px => q l H' vs xs (k xs px)
/-- name = such an expression -/
theorem sv_setF {i : Nat} {P : List D → Prop} (hi : i < ds.length) (h : EvF cls p te ds P) (k : ∀ xs, P xs → nx (ds.set i (some (Slot.own xs)))) : Sv cls p (tAsg te (gName i)) ds nx rt bk ct := fun pn N H0 ad σ H S Dn q1 _ _ _ =>
  h pn N H0 ad σ H S _ fun l H' vs xs px g hl e a => q1 _ _ H' _ (k xs px) (S.adopt g hl e a hi)
theorem fresh_of {N : Addr → Prop} {H H1 : Hp} {l : Addr} (W : Wf p N H) (g : Go p H H1) (h : H1 l = none) : H l = none := by
  cases q : H l with
  | none => rfl
  | some o =>
    by_cases hp : p l
    · exact absurd h (g.pot l hp (W.pot l hp)).some
    · rw [g.ext l o hp q] at h; cases h
theorem out_of {N : Addr → Prop} {H : Hp} {l : Addr} {o : HO} {vs : List V} {xs : List D} (a : AtAll cls N H vs xs) (h : H l = none) : AtAll cls (fun b => N b ∨ b = l) (upd H l o) vs xs :=
  a.keep (fun b hs n z => z.elim n fun z => hs (by rw [z]; exact h)) fun b u _ e => by rw [upd_ne (ne_of_none e h)]; exact e
/-- a written list -/
theorem ef_lst (h : EvA cls p t ds PA) (hl : ∀ xs, PA xs → xs.length ≤ 100000) : EvF cls p (tLst t) ds PA := fun pn N H0 ad σ H S Q q =>
  h pn N H0 ad σ H S _ fun vs H1 xs ps g1 a1 => ⟨by rw [a1.length]; exact Nat.le_trans (hl xs ps) (by decide), fun l e => q l _ vs xs ps (g1.trans (Go.new e)) (fresh_of S.wf g1 e) upd_same (out_of a1 e)⟩
/-- list(x), x a list or tuple -/
theorem ef_list {k : Bool} {xs : List D} (h : Ev cls p te ds (· = sq k xs)) : EvF cls p (tCB (rList K) (tCons te tNil)) ds (· = xs) := fun pn N H0 ad σ H S Q q => by
  refine (ea1 h) pn N H0 ad σ H S _ fun vs H1 ys ⟨x, ex, ey⟩ g1 a1 => ?_
  subst ex ey
  cases a1 with
  | cons a b =>
    cases b
    have W1 := (S.mono g1).hwf
    obtain ⟨r, rfl⟩ := ref_sq a
    obtain ⟨ws, rq, aa⟩ := at_sq (K := K) a
    refine ⟨r, ws, rfl, ?_, fun l e => q l _ ws xs rfl (g1.trans (Go.new e)) (fresh_of S.wf g1 e) upd_same (out_of aa e)⟩
    cases k with
    | true => exact .inl rq
    | false => exact .inr rq
/-- own.extend(e) -/
theorem sv_ext {i : Nat} {xs : List D} {PI : List D → Prop} (e : ds[i]? = some (some (Slot.own xs))) (h : Ev cls p te ds (fun d => ∃ ys, PI ys ∧ d = .lst ys)) (hz : ∀ ys, PI ys → xs.length + ys.length ≤ 100000) (k : ∀ ys, PI ys → nx (ds.set i (some (Slot.own (xs ++ ys))))) :
    Sv cls p (tDrop (tBM K "list" rExtend (tVar i) (tCons te tNil))) ds nx rt bk ct := fun pn N H0 ad σ H S Dn q1 _ _ _ => by
  obtain ⟨h1, h2, h3, vs, h4, h5⟩ := S.own i xs e
  refine ⟨.ref (ad i), h1, .inl ⟨rfl, _, .inl (.inl h4)⟩, h pn N H0 ad σ H S _ fun v H1 d pd g1 a => ?_⟩
  obtain ⟨ys, py', rfl⟩ := pd
  have S1 := S.mono g1
  have e4 : H1 (ad i) = some (.lst vs) := g1.ext _ _ (fun z => h2 (S.wf.sub _ z)) h4
  have h6 := h5.mono S.hsub g1
  cases a with
  | @lst b ws _ n r at_ =>
    refine ⟨ad i, b, vs, ws, rfl, rfl, e4, r, ?_, q1 ad σ _ _ (k ys py') (S1.change e (h6.append at_))⟩
    rw [h6.length, at_.length]
    exact Nat.le_trans (hz ys py') (by decide)
variable {tt : TT}
/-- a comprehension -/
theorem ef_lc {wi : TI} {g : TG} {vs : List Nat} {js : List Nat} {PI : List D → Prop} {b : D → Bool} {Pe : D → D → Prop} (hi : EI cls p wi ds PI) (hz : ∀ xs, PI xs → xs.length ≤ 100000) (hj : ∀ j ∈ js, j ∈ vs)
    (h : ∀ xs, PI xs → ∀ x ∈ xs, ∃ ds', EvG cls p g js x (wipeD ds vs) ds' ∧ ds'.map ownOf = ds.map ownOf ∧ ET cls p tt ds' (· = b x) ∧ (b x = true → Ev cls p te ds' (Pe x)))
    (hw : (wipeD ds vs).map ownOf = ds.map ownOf) :
    EvF cls p (tLc wi g tt te vs) ds (fun ys => ∃ xs, PI xs ∧ Paired Pe (xs.filter b) ys) := by
  intro pn N H0 ad σ H S Q q
  refine hi pn N H0 ad σ H S _ fun J H1 xs qs px g1 hq wk => ?_
  intro DD hD
  have S1 := S.mono g1
  have hNl : ¬ hid N ad ds DD := fresh_hid S1.hwf hD
  have hpD : ¬ p DD := fun z => hNl (S1.hsub _ z)
  have h0D : H0 DD = none := by
    cases e : H0 DD with
    | none => rfl
    | some o => rw [S1.go.ext _ _ hpD e] at hD; cases hD
  have hp1 : ∀ a, p a → H1 a ≠ none := fun a z => S1.wf.dom a (S1.wf.sub a z)
  let N2 : Addr → Prop := fun a => N a ∨ a = DD
  have hmD : ∀ (i : Nat) (c : Con), ds[i]? = some (some (Slot.mut c)) → ad i ≠ DD := fun i c e z => by
    obtain ⟨_, _, _, _, _, hc⟩ := S1.mt i c e
    exact hc.ne (by rw [z]; exact hD)
  have SL : Sta cls p (qs ++ pn) N2 H0 ad (upd H1 DD (.lst [])) σ ds := (S1.pins hq).lay hD
  refine ⟨fun i m H' => m = xs.length - i ∧ i ≤ xs.length ∧ (∃ acc ys, H' DD = some (.lst acc) ∧ AtAll cls (hid N2 ad ds) H' acc ys ∧ Paired Pe ((xs.take i).filter b) ys) ∧ Sta cls p (qs ++ pn) N2 H0 ad H' σ ds ∧ Go p H1 H',
    ⟨xs.length, by rw [Nat.sub_zero], Nat.zero_le _, ⟨[], [], upd_same, .nil, .nil⟩, SL, (Go.refl H1).chg (H1 := H1) hD hp1⟩, ?_⟩
  rintro i m H' ⟨rfl, hi2, ⟨acc, ys, e, aa, pp⟩, S2, g2⟩
  have wki := wk _ H' S2.hwf (fun x hx => S2.pin x (List.mem_append_left _ hx)) i
  by_cases hlt : i < xs.length
  · refine .inr ?_
    have ei : xs[i]? = some xs[i] := List.getElem?_eq_getElem hlt
    obtain ⟨k1, k2⟩ := wki.1 _ ei
    refine ⟨k1, fun H' => (∃ acc ys, H' DD = some (.lst acc) ∧ AtAll cls (hid N2 ad ds) H' acc ys ∧ Paired Pe ((xs.take (i + 1)).filter b) ys) ∧ Sta cls p (qs ++ pn) N2 H0 ad H' σ ds ∧ Go p H1 H',
      fun H3 ⟨z1, z2, z3⟩ => ⟨xs.length - (i + 1), by omega, rfl, hlt, z1, z2, z3⟩, fun x H3 y => ?_⟩
    obtain ⟨g3, a3⟩ := k2 x H3 y
    have S3 := S2.mono g3
    obtain ⟨ds', hg, ho, ht, he⟩ := h xs px xs[i] (List.getElem_mem hlt)
    have ew : hid N2 ad (wipeD ds vs) = hid N2 ad ds := hid_congr hw
    have ed : hid N2 ad ds' = hid N2 ad ds := hid_congr ho
    refine hg _ N2 H0 ad _ H3 (S3.wipe vs) x (by rw [ew]; exact a3) _ fun σ' S4 w => ⟨?_, ?_⟩
    · rw [w vs hj, wipe_wipe]
    refine ht _ N2 H0 ad σ' H3 S4 _ fun c H4 ec g4 => ?_
    have S5 := S3.mono g4
    have tk : xs.take (i + 1) = xs.take i ++ [xs[i]] := by rw [List.take_add_one, ei]; rfl
    subst ec
    cases hb : b xs[i] with
    | true =>
      rw [if_pos rfl]
      refine he hb _ N2 H0 ad σ' H4 (S4.mono g4) _ fun v H5 d pd g5 a5 => ?_
      rw [ed] at a5
      have S6 := S5.mono g5
      have e5 : H5 DD = some (.lst acc) := ((g3.trans g4).trans g5).ext _ _ hpD e
      have a6 : AtAll cls (hid N2 ad ds) H5 acc ys := aa.mono S2.hsub ((g3.trans g4).trans g5)
      refine ⟨acc, e5, ?_, ⟨_, ys ++ [d], upd_same, (a6.append (.cons a5 .nil)).keep (fun _ _ n => n) (fun a o n e => by rw [upd_ne (fun z => n (by rw [z]; exact .inl (.inr rfl)))]; exact e), ?_⟩, S6.turn (.inr rfl) hpD h0D hmD, (((g2.trans g3).trans g4).trans g5).chg (H1 := H1) hD hp1⟩
      · have l1 : acc.length = ys.length := aa.length
        have l2 : ys.length = ((xs.take i).filter b).length := pp.length.symm
        have l3 : ((xs.take i).filter b).length ≤ xs.length := Nat.le_trans (List.length_filter_le _ _) (by rw [List.length_take]; exact Nat.min_le_right _ _)
        have := hz xs px
        exact Nat.lt_of_le_of_lt (show acc.length ≤ 100000 by omega) (by decide)
      · rw [tk, List.filter_append, List.filter_cons, hb]
        simp only [if_true, List.filter_nil]
        exact Paired.snoc pp pd
    | false =>
      rw [if_neg Bool.false_ne_true]
      have e4 : H4 DD = some (.lst acc) := (g3.trans g4).ext _ _ hpD e
      refine ⟨⟨acc, ys, e4, aa.mono S2.hsub (g3.trans g4), ?_⟩, S5, (g2.trans g3).trans g4⟩
      rw [tk, List.filter_append, List.filter_cons, hb]
      simp only [Bool.false_eq_true, if_false, List.filter_nil, List.append_nil]
      exact pp
  · have ei : i = xs.length := by omega
    subst ei
    refine .inl ⟨wki.2 rfl, q DD H' acc ys ⟨xs, px, ?_⟩ (g1.trans g2) (fresh_of S.wf g1 hD) e (aa.less fun a z => z.elim (fun z => z.elim (fun y => .inl (.inl y)) .inr) fun z => .inl (.inr z))⟩
    rw [List.take_length] at pp
    exact pp
theorem ef_lcS {wi : TI} {g : TG} {vs js : List Nat} {xs : List D} {Pe : D → D → Prop} (hi : EI cls p wi ds (· = xs)) (hz : xs.length ≤ 100000) (hj : ∀ j ∈ js, j ∈ vs) (hw : (wipeD ds vs).map ownOf = ds.map ownOf)
    (h : ∀ x ∈ xs, ∃ ds', EvG cls p g js x (wipeD ds vs) ds' ∧ ds'.map ownOf = ds.map ownOf ∧ Ev cls p te ds' (Pe x)) : EvF cls p (tLc wi g tYes te vs) ds (fun ys => Paired Pe xs ys) :=
  (ef_lc (b := fun _ => true) (Pe := Pe) hi (fun ys e => by rw [e]; exact hz) hj (fun ys e x hx => by
    subst e
    obtain ⟨ds', a, b, c⟩ := h x hx
    exact ⟨ds', a, b, et_yes, fun _ => c⟩) hw).mono fun ys ⟨zs, e, pp⟩ => by
      subst e
      rw [filter_true'] at pp
      exact pp
/-- [..] * n -/
theorem ef_rep {xs : List D} {n : Int} (h : Ev cls p ta ds (· = .lst xs)) (k : Ev cls p tb ds (· = .int n)) (h0 : -(2 ^ 63) ≤ n) (h1 : n < 2 ^ 63) (hz : xs.length * n.toNat ≤ 100000) : EvF cls p (tOp (rOr (rI CMulW fun i j => .int (i * j)) (rOr rRep (rRepT K))) ta tb) ds (· = reps n.toNat xs) := fun pn N H0 ad σ H S Q q =>
  h pn N H0 ad σ H S _ fun v H1 d e g1 a1 => k pn N H0 ad σ H1 (S.mono g1) _ fun w H2 d' e' g2 a2 => by
    subst e e'
    cases a2
    cases a1.mono S.hsub g2 with
    | @lst l vs _ n r at_ =>
      refine .inr (.inl ⟨l, _, vs, rfl, rfl, r, h0, h1, ?_, fun l' e => q l' _ _ _ rfl ((g1.trans g2).trans (Go.new e)) (fresh_of S.wf (g1.trans g2) e) upd_same (out_of (at_.reps _) e)⟩)
      rw [at_.length]
      exact Nat.le_trans hz (by decide)
/-- own.append(other.pop(e)) -/
theorem sv_appPop {i j : Nat} {xs ys : List D} {PI : D → Prop} (ei : ds[i]? = some (some (Slot.own xs))) (ej : ds[j]? = some (some (Slot.own ys))) (hij : i ≠ j) (hz : xs.length < 100000) (h : Ev cls p te ds PI)
    (k : ∀ dj, PI dj → ∃ (z : Int) (m : Nat) (d : D), dj = .int z ∧ -(2 ^ 63) ≤ z ∧ z < 2 ^ 63 ∧ seqIndex? z ys.length = some m ∧ ys[m]? = some d ∧ nx ((ds.set j (some (Slot.own (ys.eraseIdx m)))).set i (some (Slot.own (xs ++ [d]))))) :
    Sv cls p (tDrop (tBM K "list" rAppend (tVar i) (tCons (tBM K "list" rPopAt (tVar j) (tCons te tNil)) tNil))) ds nx rt bk ct := fun pn N H0 ad σ H S Dn q1 _ _ _ => by
  obtain ⟨h1, h2, h3, vs, h4, h5⟩ := S.own i xs ei
  obtain ⟨k1, k2, k3, ws, k4, k5⟩ := S.own j ys ej
  refine ⟨.ref (ad i), h1, .inl ⟨rfl, _, .inl (.inl h4)⟩, .ref (ad j), k1, .inl ⟨rfl, _, .inl (.inl k4)⟩, h pn N H0 ad σ H S _ fun v H1 dj pj g1 a1 => ?_⟩
  obtain ⟨z, m, d, rfl, z0, z1, sm, dm, hn⟩ := k dj pj
  cases a1
  have S1 := S.mono g1
  have e4 : H1 (ad i) = some (.lst vs) := g1.ext _ _ (fun z => h2 (S.wf.sub _ z)) h4
  have f4 : H1 (ad j) = some (.lst ws) := g1.ext _ _ (fun z => k2 (S.wf.sub _ z)) k4
  have e5 := h5.mono S.hsub g1
  have f5 := k5.mono S.hsub g1
  obtain ⟨y, hy, ay⟩ := f5.get dm
  have nad : ad i ≠ ad j := fun z => hij (S.inj i j xs ys ei ej z)
  have er : AtAll cls (hid N ad ds) H1 (ws.eraseIdx m) (ys.eraseIdx m) := by
    have gen : ∀ (ys : List D) (ws : List V), AtAll cls (hid N ad ds) H1 ws ys → ∀ m : Nat, AtAll cls (hid N ad ds) H1 (ws.eraseIdx m) (ys.eraseIdx m) := by
      intro ys
      induction ys with
      | nil => intro ws a m; cases a; exact .nil
      | cons d ys ih =>
        intro ws a m
        cases a with
        | cons a b =>
          cases m with
          | zero => exact b
          | succ m => exact .cons a (ih _ b m)
    exact gen _ _ f5 m
  have S2 := S1.change ej er
  have hh : ∀ b, hid N ad (ds.set j (some (Slot.own (ys.eraseIdx m)))) b ↔ hid N ad ds b := fun b => ⟨fun z => z.elim .inl fun ⟨q, zs, e, r⟩ => by
      rcases get_set e with ⟨rfl, _, _⟩ | ⟨ne, e⟩
      · exact .inr ⟨_, ys, ej, r⟩
      · exact .inr ⟨q, zs, e, r⟩, fun z => z.elim .inl fun ⟨q, zs, e, r⟩ => by
      by_cases w : q = j
      · subst w
        exact .inr ⟨q, _, List.getElem?_set_self (List.getElem?_eq_some_iff.mp ej).1, r⟩
      · exact .inr ⟨q, zs, by rw [List.getElem?_set_ne (Ne.symm w)]; exact e, r⟩⟩
  have ei2 : (ds.set j (some (Slot.own (ys.eraseIdx m))))[i]? = some (some (Slot.own xs)) := by rw [List.getElem?_set_ne (Ne.symm hij)]; exact ei
  have up : ∀ b o, ¬ hid N ad ds b → H1 b = some o → (upd H1 (ad j) (.lst (ws.eraseIdx m))) b = some o := fun b o n e => by
    rw [upd_ne (fun z => n (.inr ⟨j, ys, ej, z.symm⟩))]; exact e
  refine ⟨ad j, ws, z, m, y, rfl, rfl, f4, z0, z1, by rw [f5.length]; exact sm, hy, ad i, vs, y, rfl, rfl, ?_, ?_, ?_⟩
  · show (upd H1 (ad j) _) (ad i) = _
    rw [upd_ne nad]; exact e4
  · rw [e5.length]; exact Nat.lt_of_lt_of_le hz (by decide)
  · refine q1 ad σ _ _ hn (S2.change ei2 ((e5.append (.cons ay .nil)).keep (fun b _ n z => n ((hh b).mp z)) up))
end

/-! ### slices of lists and tuples, tuples put together -/
def slOr (r r' : V → Option Int → Option Int → Hp → VK → Prop) : V → Option Int → Option Int → Hp → VK → Prop := fun x lo hi H Q => r x lo hi H Q ∨ r' x lo hi H Q
theorem kSl2 {X : Cx} {K : PySem.W.Frag} (h : X.K = K) : SlR X (slOr (rSlL K) (rSlA K)) := by subst h; exact SlR.or sl_list sl_tupA
theorem opAddT {X : Cx} {K : PySem.W.Frag} (h : X.K = K) : OpR X (binaryOp .Add) (rOr (rI0 fun i j => .int (i + j)) (rOr rCat (rCatA K))) := by subst h; exact op_or op_add (op_or op_cat op_catA)
section
variable {cls : Cl} {p : Addr → Prop} {ds : Sts} {ta tb te : TE} {tl th : TO} {K : PySem.W.Frag}
theorem cut_whole {α : Type} {xs : List α} {lo hi : Option Int} (h : HT.sIx xs.length 0 lo = 0 ∧ HT.sIx xs.length xs.length hi = xs.length) : (xs.drop (HT.sIx xs.length 0 lo)).take (HT.sIx xs.length xs.length hi - HT.sIx xs.length 0 lo) = xs := by
  rw [h.1, h.2, List.drop_zero, Nat.sub_zero, List.take_length]
theorem ev_slS {k : Bool} {xs : List D} {lo hi : Option Int} (h : Ev cls p te ds (· = sq k xs)) (hl : EvO cls p tl ds (· = lo)) (hh : EvO cls p th ds (· = hi)) : Ev cls p (tSl (slOr (rSlL K) (rSlA K)) te tl th) ds (· = sq k (cut xs lo hi)) := fun pn N H0 ad σ H S Q q =>
  h pn N H0 ad σ H S _ fun v H1 d pd g1 a => hl pn N H0 ad σ H1 (S.mono g1) _ fun lo' H2 pl g2 => hh pn N H0 ad σ H2 (S.mono (g1.trans g2)) _ fun hi' H3 ph g3 => by
    subst pd pl ph
    have g := g1.trans (g2.trans g3)
    have a3 := a.mono S.hsub (g2.trans g3)
    cases k with
    | true =>
      cases a3 with
      | @lst l0 vs _ n r hh =>
        exact .inl ⟨l0, vs, rfl, .inl (.inl r), fun l e => q _ _ _ rfl (g.trans (Go.new e)) (.lst (fresh_hid (S.mono g).hwf e) upd_same ((hh.cut lo' hi').mono S.hsub (Go.new e)))⟩
    | false =>
      cases a3 with
      | @tup l0 vs _ n r hh =>
        refine .inr ⟨l0, vs, rfl, .inl (.inl r), fun w => ?_, fun _ l e => q _ _ _ rfl (g.trans (Go.new e)) (.tup (fresh_hid (S.mono g).hwf e) upd_same ((hh.cut lo' hi').mono S.hsub (Go.new e)))⟩
        have e1 : cut xs lo' hi' = xs := by
          rw [hh.length] at w
          exact cut_whole w
        refine q _ _ _ rfl g ?_
        show At cls (hid N ad ds) H3 (.ref l0) (.tup (cut xs lo' hi'))
        rw [e1]
        exact .tup n r hh
theorem ev_catT {xs ys : List D} (h : Ev cls p ta ds (· = .tup xs)) (g : Ev cls p tb ds (· = .tup ys)) (hz : xs.length + ys.length ≤ 100000) : Ev cls p (tOp (rOr (rI0 fun i j => .int (i + j)) (rOr rCat (rCatA K))) ta tb) ds (· = .tup (xs ++ ys)) := fun pn N H0 ad σ H S Q q =>
  h pn N H0 ad σ H S _ fun v H1 d e g1 a1 => g pn N H0 ad σ H1 (S.mono g1) _ fun w H2 d' e' g2 a2 => by
    subst e e'
    cases a1.mono S.hsub g2 with
    | @tup l vs _ n r at_ =>
      cases a2 with
      | @tup l' ws _ n' r' at' =>
        refine .inr (.inr ⟨l, l', vs, ws, rfl, rfl, .inl (.inl r), .inl (.inl r'), ?_, ?_, ?_, ?_⟩)
        · rw [at_.length, at'.length]; exact Nat.le_trans hz (by decide)
        · rintro rfl
          cases at_
          exact q _ _ _ rfl (g1.trans g2) (.tup n' r' at')
        · rintro _ rfl
          cases at'
          refine q _ _ _ rfl (g1.trans g2) ?_
          show At cls (hid N ad ds) H2 (.ref l) (.tup (xs ++ []))
          rw [List.append_nil]
          exact .tup n r at_
        · rintro _ _ l2 e
          exact q _ _ _ rfl ((g1.trans g2).trans (Go.new e)) (.tup (fresh_hid (S.mono (g1.trans g2)).hwf e) upd_same ((at_.append at').mono S.hsub (Go.new e)))
/-- whole numbers, lists are put together where tuples may be, too -/
theorem ev_addT {x y : Int} (h : Ev cls p ta ds (· = .int x)) (k : Ev cls p tb ds (· = .int y)) : Ev cls p (tOp (rOr (rI0 fun i j => .int (i + j)) (rOr rCat (rCatA K))) ta tb) ds (· = .int (x + y)) :=
  (ev_op h k (rv_l (rv_I0 intP intP))).mono fun d ⟨i, j, hi, hj, e⟩ => by cases hi; cases hj; exact e
theorem ev_catL {xs ys : List D} (h : Ev cls p ta ds (· = .lst xs)) (k : Ev cls p tb ds (· = .lst ys)) (hz : xs.length + ys.length ≤ 100000) : Ev cls p (tOp (rOr (rI0 fun i j => .int (i + j)) (rOr rCat (rCatA K))) ta tb) ds (· = .lst (xs ++ ys)) :=
  (ev_op h k (rv_r (rv_l (rv_cat fun dx dy hx hy => ⟨xs, ys, hx, hy, hz⟩)))).mono fun d ⟨x, y, e1, e2, e⟩ => by rw [e, D.lst.inj e1, D.lst.inj e2]
theorem eo_int {i : Int} (h : Ev cls p te ds (· = .int i)) : EvO cls p (tPart te) ds (· = some i) := fun pn N H0 ad σ H S Q q => (eo_some h intP) pn N H0 ad σ H S Q fun o H' ⟨j, hj, e⟩ g => q o H' (by cases hj; exact e) g
end
theorem cut_take {xs : List D} {i : Int} (h0 : 0 ≤ i) : cut xs none (some i) = xs.take i.toNat := by
  unfold cut
  obtain ⟨n, rfl⟩ : ∃ n : Nat, i = n := ⟨i.toNat, by omega⟩
  rw [HT.sIx_none, HT.sIx_nat, List.drop_zero, Nat.sub_zero, Int.toNat_natCast]
  by_cases z : n ≤ xs.length
  · rw [Nat.min_eq_left z]
  · rw [Nat.min_eq_right (by omega), List.take_length, List.take_of_length_le (by omega)]
theorem cut_drop {xs : List D} {i : Int} (h0 : 0 ≤ i) : cut xs (some i) none = xs.drop i.toNat := by
  unfold cut
  obtain ⟨n, rfl⟩ : ∃ n : Nat, i = n := ⟨i.toNat, by omega⟩
  rw [HT.sIx_none, HT.sIx_nat, Int.toNat_natCast]
  by_cases z : n ≤ xs.length
  · rw [Nat.min_eq_left z, List.take_of_length_le (by rw [List.length_drop]; exact Nat.le_refl _)]
  · rw [Nat.min_eq_right (by omega), List.drop_length, List.drop_eq_nil_of_le (by omega), List.take_nil]

/-! ### a class as the text's top has written it -/
theorem dm_mk {K : PySem.W.Frag} {x qual : Str} {st : Stmt} {f : Addr} {oc : Value} {od an : Option Addr} {sl : Array (Option Value)} {kV dc pm cd ct : Value}
    (l : K.lookup f = some ⟨oc, od, .func (PySem.W.fnOf x qual (defArgs st) (defBody st) (defScope st) .none kV dc pm an cd ct), sl⟩) (c : PySem.W.codeIn K cd qual = true) (k : PySem.W.keepIn K (.ref f) = true) : ∃ fd, Fun K x qual st f fd := ⟨_, fun_mk l c k⟩
theorem seven {Pr : String → Prop} (h1 : Pr "NoneType") (h2 : Pr "bool") (h3 : Pr "int") (h4 : Pr "str") (h5 : Pr "list") (h6 : Pr "tuple") (h7 : Pr "dict") : ∀ n ∈ (["NoneType", "bool", "int", "str", "list", "tuple", "dict"] : List String), Pr n := by
  intro n hn
  simp only [List.mem_cons, List.not_mem_nil, or_false] at hn
  rcases hn with rfl | rfl | rfl | rfl | rfl | rfl | rfl <;> assumption
/-- a property: where it stands, and its getter -/
def PrA (K : PySem.W.Frag) (C : Addr) (x qual : Str) (st : Stmt) : Prop := ∃ pa g fd, PropOf K C x pa g ∧ Fun K x qual st g fd
theorem pr_mk {K : PySem.W.Frag} {C : Addr} {x qual : Str} {st : Stmt} {pa f : Addr} {rest : List Value} {oc : Value} {od an : Option Addr} {sl : Array (Option Value)} {kV dc pm cd ct : Value}
    (a : PySem.W.findIn K (.ref C) x = some (some (.ref pa))) (g : PySem.W.specialIn K (.ref pa) "__get__" = some (some (.builtin "property.__get__"))) (t : PySem.W.takesIn K (.ref pa) = some true) (r : PySem.W.recIn K pa "property" = some (.ref f :: rest))
    (l : K.lookup f = some ⟨oc, od, .func (PySem.W.fnOf x qual (defArgs st) (defBody st) (defScope st) .none kV dc pm an cd ct), sl⟩) (c : PySem.W.codeIn K cd qual = true) (k : PySem.W.keepIn K (.ref f) = true) : PrA K C x qual st := by
  obtain ⟨fd, F⟩ := dm_mk l c k
  exact ⟨pa, f, fd, ⟨a, g, t, rest, r⟩, F⟩
/-- a method that is called by the language -/
def MeA (K : PySem.W.Frag) (C : Addr) (x qual : Str) (st : Stmt) : Prop := ∃ f fd, PySem.W.findIn K (.ref C) x = some (some (.ref f)) ∧ PySem.W.isFn K (.ref f) = true ∧ Fun K x qual st f fd
theorem me_mk {K : PySem.W.Frag} {C : Addr} {x qual : Str} {st : Stmt} {f : Addr} {oc : Value} {od an : Option Addr} {sl : Array (Option Value)} {kV dc pm cd ct : Value}
    (a : PySem.W.findIn K (.ref C) x = some (some (.ref f))) (n : PySem.W.isFn K (.ref f) = true)
    (l : K.lookup f = some ⟨oc, od, .func (PySem.W.fnOf x qual (defArgs st) (defBody st) (defScope st) .none kV dc pm an cd ct), sl⟩) (c : PySem.W.codeIn K cd qual = true) (k : PySem.W.keepIn K (.ref f) = true) : MeA K C x qual st := by
  obtain ⟨fd, F⟩ := dm_mk l c k
  exact ⟨f, fd, a, n, F⟩
/-- what stands of a class -/
structure ClA (K : PySem.W.Frag) (x : Str) (C : Addr) : Prop where
  ns : PySem.W.nsIn K mainGlobals x = some (some (.ref C))
  cl : ClF K C
  nf : ∀ n ∈ (["NoneType", "bool", "int", "str", "list", "tuple", "dict"] : List String), PySem.W.notFirst K C (.type n) = true
  mks : PySem.W.makesIn K C = true
  kp : PySem.W.keepIn K (.ref C) = true
  ne : PySem.W.findIn K (.ref C) "__ne__" = some (some (.builtin "object.__ne__"))
theorem ca_mk {K : PySem.W.Frag} {x : Str} {C : Addr} (ns : PySem.W.nsIn K mainGlobals x = some (some (.ref C))) (pg : PySem.W.plainGet K C Str.empty = true) (hd : PySem.W.hasDictIn K C = true) (po : PySem.W.plainOver K C = true)
    (sa : PySem.W.findIn K (.ref C) "__setattr__" = some (some (.builtin "object.__setattr__"))) (ha : PySem.W.findIn K (.ref C) "__class__" = some (some (.builtin "object.__class__")))
    (hn : PySem.W.specialIn K (.builtin "object.__class__") "__get__" = some (some (.builtin "getset_descriptor.__get__"))) (ht : PySem.W.takesIn K (.builtin "object.__class__") = some true) (hm : PySem.W.mroIn K C (.type "object") = some true)
    (me : PySem.W.kitOne K (.ref C) (.ref C) = some true)
    (n1 : PySem.W.kitOne K (.type "NoneType") (.ref C) = some false) (n2 : PySem.W.kitOne K (.type "bool") (.ref C) = some false) (n3 : PySem.W.kitOne K (.type "int") (.ref C) = some false) (n4 : PySem.W.kitOne K (.type "str") (.ref C) = some false)
    (n5 : PySem.W.kitOne K (.type "list") (.ref C) = some false) (n6 : PySem.W.kitOne K (.type "tuple") (.ref C) = some false) (n7 : PySem.W.kitOne K (.type "dict") (.ref C) = some false)
    (m1 : PySem.W.notFirst K C (.type "NoneType") = true) (m2 : PySem.W.notFirst K C (.type "bool") = true) (m3 : PySem.W.notFirst K C (.type "int") = true) (m4 : PySem.W.notFirst K C (.type "str") = true)
    (m5 : PySem.W.notFirst K C (.type "list") = true) (m6 : PySem.W.notFirst K C (.type "tuple") = true) (m7 : PySem.W.notFirst K C (.type "dict") = true)
    (mk : PySem.W.makesIn K C = true) (kp : PySem.W.keepIn K (.ref C) = true) (ne : PySem.W.findIn K (.ref C) "__ne__" = some (some (.builtin "object.__ne__"))) : ClA K x C :=
  ⟨ns, ⟨⟨pg, hd, po, sa⟩, ha, hn, ht, hm, me, seven n1 n2 n3 n4 n5 n6 n7⟩, seven (Pr := fun n => PySem.W.notFirst K C (.type n) = true) m1 m2 m3 m4 m5 m6 m7, mk, kp, ne⟩
theorem mkr_mk {P : Program} {w : World} {K : PySem.W.Frag} {mg : Str → Option Value} {base h : Heap} {x qual : Str} {C f : Addr} {st : Stmt} {fd : FuncData} {k : Nat} {ps : List Str} {kws : List (List Str × List Nat)} {sp : Sp} (F : Fun K "__init__" qual st f fd) (A : ClA K x C)
    (fi : PySem.W.findIn K (.ref C) "__init__" = some (some (.ref f))) (fn : PySem.W.isFn K (.ref f) = true) (X : K.In h) (G : h.Ns mainGlobals mg) (g : GOk P w K mg base k f fd (("self" : Str) :: ps) sp)
    (hb : ∀ (kV doc pm : Value) (an : Option Addr) (cdv ct : Value) (u : Value) (us : List Value), us.length = ps.length → bindArgs (PySem.W.fnOf "__init__" qual (defArgs st) (defBody st) (defScope st) .none kV doc pm an cdv ct) ⟨u :: us, []⟩ = pure ((("self" : Str) :: ps).zip (u :: us)))
    (hk : ∀ q ∈ kws, ∀ (kV doc pm : Value) (an : Option Addr) (cdv ct : Value) (u : Value) (ws : List Value), ws.length = q.1.length → bindArgs (PySem.W.fnOf "__init__" qual (defArgs st) (defBody st) (defScope st) .none kV doc pm an cdv ct) ⟨[u], q.1.zip ws⟩ = pure ((("self" : Str) :: ps).zip (u :: perm q.2 ws))) :
    Mkr P w K mg base x C k ps kws sp := by
  refine ⟨f, fd, g, PySem.W.mg_of X G A.ns, ⟨A.mks, fi, fn, A.kp⟩, fun s u us hl => ?_, fun q hq s u ws hl => ?_⟩
  · obtain ⟨oc, od, kV, doc, pm, an, cdv, ct, osl, rfl, lk, hcd⟩ := F.ex
    exact .of_eq (hb kV doc pm an cdv ct u us hl)
  · obtain ⟨oc, od, kV, doc, pm, an, cdv, ct, osl, rfl, lk, hcd⟩ := F.ex
    exact .of_eq (hk q hq kV doc pm an cdv ct u ws hl)
/-- the end of a law with objects -/
theorem walk_endC {l : PySem.W.OpenLaw} {k : Nat} {q : Program} {loose : List Str} {XP : (Str → Option Value) → Heap → Prop} {YP : World → Heap → Prop} {d : DefRec} {K : Params → PySem.W.Frag} {x : Str}
    (hn : l.most = some 63) (hdf : d.params.defaults = []) (hr : Room k callerA) (hY : ∀ (w : World) (h : Heap), YP w h → (K w.params).In h)
    (F : ∀ (w : World) (mg : Str → Option Value) (fa : Addr) (h : Heap), (K w.params).In h → h.Ns mainGlobals mg → mg d.name = some (.ref fa) →
      ∃ (Cs : Nat → Addr) (fd : FuncData), (∀ (s : Shared) (u : Value), BindsTo s fd ⟨[u], []⟩ [(x, u)]) ∧
        ∀ base : Heap, (K w.params).In base → base.Ns mainGlobals mg → GOk l.prog w (K w.params) mg base k fa fd [x] (spG ⟨K w.params, Cs⟩ 1 preLaw isTrue1)) :
    PySem.W.WalkO q loose XP YP l.row.toRowW d [] (fun f vs => PySem.call f vs) := by
  refine Att.attach_call hn hdf ?_
  intro w s0 s1 mg mb fa o pm cd doc a vs ns G Y ho hd hcd hmg hobj hints hlen hg
  obtain ⟨Cs, fd, hb, hF⟩ := F w mg fa _ (hY w _ Y) G.T.g hmg
  exact law_end (cls := ⟨K w.params, Cs⟩) (hY w _ Y) G.T.g G.T.b G.T.builtins G.T.nolimit hg hobj hints hlen hr rfl hF hb
end Lk

namespace Lk
open PySem PySem.Spec PyProof.Rows L2

/-! ### sorted of a tuple of whole numbers -/
section
variable {prog : Program} {w : World} {A : Around} {E : Value → Shared → Prop} {s : Shared}
theorem collect_tup {l : Addr} {o : Obj} {vs : List Value} {n : Nat} {Q : List Value → Shared → Prop} (ho : s.heap.get? l = some o) (hc : o.cls = .type "tuple") (hd : o.data = .seq vs.toArray n) (hz : vs.length ≤ sizeLine)
    (h : Q vs { s with heap := (s.heap.push (seqObj "list" #[] 0)).update s.heap.objs.size (Obj.mapSeq (· ++ vs.toArray)) }) : wpAny (model prog w) A (collect (.ref l)) Q E s := by
  have p0 : (s.heap.push (seqObj "list" #[] 0)).get? s.heap.objs.size = some (seqObj "list" #[] 0) := Heap.get?_push_size _ rfl
  have p1 : (s.heap.push (seqObj "list" #[] 0)).get? l = some o := Heap.get?_push_of_some _ ho
  have tail : wpAny (model prog w) A (do let o ← load s.heap.objs.size; match o.data with | .seq xs _ => pure xs.toList | _ => unsupported "internal:collect") Q E
      { s with heap := (s.heap.push (seqObj "list" #[] 0)).update s.heap.objs.size (Obj.mapSeq (· ++ vs.toArray)) } := by
    refine wpAny_bind (wpAny_load (get?_update_seq p0 _) ?_)
    show wpAny _ _ (pure ((#[] : Array Value) ++ vs.toArray).toList) Q E _; rw [show ((#[] : Array Value) ++ vs.toArray).toList = vs by simp]; exact wpAny_pure h
  unfold collect
  refine wpAny_bind (wpAny_runValue (codeAny_builtin entry_proto_collect' ?_)); show wpAny _ _ (do again (.builtin "list.__iadd__" ⟨[← newList [], .ref l], []⟩)) _ _ s
  refine wpAny_bind (wpAny_newList (wpAny_pure ⟨Code.quiet_builtin _ (by decide +kernel), codeAny_builtin entry_list_iadd' (?_ : wpAny _ _ (Builtin.List.listExtendWith (.ref s.heap.objs.size) (.ref l) (.ref s.heap.objs.size)) _ _ { s with heap := s.heap.push (seqObj "list" #[] 0) })⟩))
  unfold Builtin.List.listExtendWith
  refine wpAny_bind (wpAny_typeOf (T := "tuple") ⟨o, p1, hc⟩ (?_ : wpAny _ _ _ _ _ _)); rw [if_pos (by rw [show (Value.type "tuple" == Value.type "tuple") = true by rfl]; simp)]
  refine wpAny_bind (listItems_at p1 hd (wpAny_bind (listItems_at (xs := #[]) (n := 0) p0 rfl ?_))); rw [if_neg (by simp)]
  exact wpAny_bind (listUpdate_at (xs := #[]) (n := 0) p0 rfl (wpAny_pure tail) (Nat.zero_le _) (by show (#[] ++ vs.toArray).size ≤ sizeLine + 1; simp only [Array.size_append, List.size_toArray, List.length_nil]; omega))
theorem sorted_tup {l : Addr} {o : Obj} {vs : List Value} {ns : List Int} {n : Nat} {Q : Value → Shared → Prop} (ho : s.heap.get? l = some o) (hc : o.cls = .type "tuple") (hd : o.data = .seq vs.toArray n) (hI : IntsAre vs ns) (h64 : vs.length < 64)
    (h : ∀ (out : Array Value) (ns' : List Int), IntsAre out.toList ns' → ns'.Perm ns → ns'.Pairwise (· ≤ ·) → Q (.ref (s.heap.objs.size + 1)) { s with heap := sortedAll s.heap vs out }) :
    wpAny (model prog w) A (call (.builtin "sorted") [.ref l]) Q E s := by
  have sz : ((s.heap.push (seqObj "list" #[] 0)).update s.heap.objs.size (Obj.mapSeq (· ++ vs.toArray))).objs.size = s.heap.objs.size + 1 := by rw [Heap.size_update, size_push']
  have hL : (((s.heap.push (seqObj "list" #[] 0)).update s.heap.objs.size (Obj.mapSeq (· ++ vs.toArray))).push (seqObj "list" vs.toArray 0)).get? (s.heap.objs.size + 1) = some (seqObj "list" vs.toArray 0) := by rw [← sz]; exact Heap.get?_push_size _ rfl
  refine Calls.call_function_entry kind_sorted plain_sorted entry_sorted (args_sorted1 _) ?_; unfold Builtin.«sorted»
  refine wpAny_bind (m := checkCount "sorted" 1 1 _) (wpAny_pure (wpAny_bind (collect_tup ho hc hd (by rw [sizeLine_eq]; omega) (wpAny_bind (wpAny_newList ?_)))))
  show wpAny _ _ _ _ _ { s with heap := ((s.heap.push (seqObj "list" #[] 0)).update s.heap.objs.size (Obj.mapSeq (· ++ vs.toArray))).push (seqObj "list" vs.toArray 0) }; rw [sz]
  exact wpAny_bind (wpAny_holding (wpAny_call_entry slot_list_sort ⟨_, hL, rfl⟩ entry_list_sort (list_sort_tree hL hI h64 fun out ns' a1 a2 a3 => ⟨_, rfl, wpAny_pure ⟨_, rfl, h out ns' a1 a2 a3⟩⟩) (args_list_sort _)))
end
def rSortedQ (K : PySem.W.Frag) : List V → Hp → VK → Prop := fun vs H Q => ∃ (a : Addr) (ns : List Int), vs = [V.ref a] ∧ (SqL K H a (ns.map V.int) ∨ SqT K H a (ns.map V.int)) ∧ ns.length < 64 ∧
  ∀ (ns' : List Int) (p : Addr), ns'.Perm ns → ns'.Pairwise (· ≤ ·) → H p = none → Q (.ref p) (upd H p (.lst (ns'.map V.int)))
theorem kSortedQ {X : Cx} {K : PySem.W.Frag} (hX : X.K = K) : CallR X (.builtin "sorted") (rSortedQ K) := by
  subst hX
  intro pins s σ H vs us Q I r h
  obtain ⟨a, ns, rfl, hs, h64, q⟩ := h
  rcases hs with hs | ht
  · exact cr_sorted pins s σ H _ us Q I r ⟨a, ns, rfl, hs, h64, q⟩
  · obtain ⟨its, rv, ⟨o, ho, hcl, n, hd⟩, _⟩ := I.tuple ht
    rw [Vals.ref1 r]
    have hi := rv.ints
    refine sorted_tup ho hcl hd hi (by rw [hi.length]; exact h64) fun out ns' h1 h2 h3 => ?_
    obtain ⟨ep, he'⟩ := sortedAll_at s.heap its out
    have hz : (ns'.map V.int).length ≤ sizeLine := by rw [List.length_map, h2.length_eq]; exact Nat.le_trans (Nat.le_of_lt h64) (by decide)
    exact ⟨.ref _, upd H (s.heap.objs.size + 1) (.lst (ns'.map V.int)), I.laid (t' := s.toks) (fun _ _ e => sortedAll_old e) (Nat.le_succ _) ⟨hz, out.toList, ep, vals_of_ints h1, he'⟩, rfl, q ns' _ h2 h3 (I.hok.fresh (Nat.le_succ _))⟩
section
variable {cls : Cl} {p : Addr → Prop} {ds : Sts} {te : TE} {K : PySem.W.Frag}
/-- sorted of a list or tuple of whole numbers -/
theorem ev_sorted {k : Bool} {a : List Int} (h : Ev cls p te ds (· = row k a)) (hl : a.length < 64) : Ev cls p (tCB (rSortedQ K) (tCons te tNil)) ds (fun d => ∃ b : List Int, b.Perm a ∧ b.Pairwise (· ≤ ·) ∧ d = row true b) := fun pn N H0 ad σ H S Q q => by
  refine (ea1 h) pn N H0 ad σ H S _ fun vs H1 ys ⟨x, ex, ey⟩ g1 a1 => ?_
  subst ex ey
  cases a1 with
  | cons av b =>
    cases b
    obtain ⟨r, rfl⟩ := ref_sq av
    obtain ⟨ws, rq, aa⟩ := at_sq (K := K) av
    have ew : ws = a.map V.int := by
      have gen : ∀ (a : List Int) (ws : List V), AtAll cls (hid N ad ds) H1 ws (a.map D.int) → ws = a.map V.int := by
        intro a
        induction a with
        | nil => intro ws z; cases z; rfl
        | cons i a ih => intro ws z; cases z with | cons u v => cases u; rw [ih _ v]; rfl
      exact gen a ws aa
    subst ew
    refine ⟨r, a, rfl, ?_, hl, fun ns' l pm pw e => q _ _ _ ⟨ns', pm, pw, rfl⟩ (g1.trans (Go.new e)) (.lst (fresh_hid (S.mono g1).hwf e) upd_same ?_)⟩
    · cases k with
      | true => exact .inl rq
      | false => exact .inr rq
    · have gen : ∀ (a : List Int) (N : Addr → Prop) (H : Hp), AtAll cls N H (a.map V.int) (a.map D.int) := by
        intro a
        induction a with
        | nil => intro N H; exact .nil
        | cons i a ih => intro N H; exact .cons (.int i) (ih N H)
      exact gen _ _ _
end

/-! ### x != y by the own == of x's class -/
section
variable {prog : Program} {w : World} {A : Around} {E : Value → Shared → Prop} {s : Shared} {K : PySem.W.Frag} {x C f : Addr} {ox : Obj} {od : Option Obj} {b : Value}
theorem slot_ne : PySem.Slot "object" "__ne__" "object.__ne__" := .of (owner := "object") (n := "__ne__") (by rw [typeLookup_type, builtinLookup_eq_fast]; kernel_rfl) (by decide +kernel) (by decide +kernel) (by decide +kernel) (by first | exact .inl (by decide +kernel) | exact .inr (by decide +kernel)) (by rw [isSubtype_type]; kernel_rfl)
theorem ifBound_bi {M : Model} {name : Str} {id : String} {args : List Value} {Q : Option Value → Shared → Prop} (X : K.In s.heap) (I : PySem.W.InstAt s.heap x ox C od) (hs : PySem.W.findIn K (.ref C) name = some (some (.builtin id)))
    (hb : ∀ self, bindSpecial (.builtin id) self = pure (.builtin id, [self])) (h : wpAny M A (call (.builtin id) (.ref x :: args)) (fun v => Q (some v)) E s) : wpAny M A (callSpecialIfBound? (.ref x) name args) Q E s := by
  have L := PySem.W.Looks.of_pure (M := M) (h := s.heap) (hb (.ref x))
  have fin : wpAny M A (call (.builtin id) ([.ref x] ++ args) >>= fun v => pure (some v)) Q E s := wpAny_bind (wpAny_mono h (fun _ _ z => wpAny_pure z) fun _ _ z => z)
  simp only [callSpecialIfBound?, bindSpecialIfBound?]; refine wpAny_holding (wpAny_bind (wpAny_bind (wpAny_bind (I.type.here ((PySem.W.looks_findIn X hs).here (wpAny_bind (wpAny_askSetting (wpAny_ite ?_))))))))
  split
  · exact wpAny_bind (L.here (wpAny_pure (by exact fin)))
  · exact wpAny_tryCatch (wpAny_bind (L.here (wpAny_pure (by exact fin))))
theorem ne_call {Q : Value → Shared → Prop} (hu : A.in1.units < cLine) (X : K.In s.heap) (I : PySem.W.InstAt s.heap x ox C od) (hm : PySem.W.mroIn K C (.type "object") = some true) (hs : PySem.W.findIn K (.ref C) "__eq__" = some (some (.ref f))) (hf : PySem.W.isFn K (.ref f) = true)
    (h : wpAny (model prog w) A.in1 (call (.ref f) [.ref x, b]) (fun v s' => ∃ c, v = .bool c ∧ Q (.bool (!c)) s') E s) : wpAny (model prog w) A (call (.builtin "object.__ne__") [.ref x, b]) Q E s := by
  refine wpAny_call (codeAny_call_builtin slot_ne.plain PySem.F.cmpEntry_ne (PySem.W.check_slot (i := "object.__ne__") (owner := "object") (n := "__ne__") (by decide +kernel) (by decide +kernel) (I.type.andThen (PySem.W.looks_mroIn X hm)) (PySem.F.cmpArgs_ne _ _) ?_))
  unfold Builtin.«object.__ne__»
  refine wpAny_bind (m := slotArgs "__ne__" 1 _) (wpAny_pure (wpAny_bind (m := cRoomFor _ _) (wpAny_cRoomFor hu (wpAny_bind (m := callSpecialIfBound? (.ref x) (Str.ofString "__eq__") _) (PySem.W.ifBound_K X I hs hf (wpAny_mono h (fun r s' hq => ?_) fun _ _ y => y))))))
  obtain ⟨c, rfl, hq⟩ := hq
  exact wpAny_bind (wpAny_truthy_bool (wpAny_pure hq))
theorem cmp_ne {Q : Value → Shared → Prop} (hu : A.units + 1 < cLine) (X : K.In s.heap) (I : PySem.W.InstAt s.heap x ox C od) (ty : PySem.W.Looks (model prog w) s.heap (typeOf b) (.ref C)) (hm : PySem.W.mroIn K C (.type "object") = some true)
    (hn : PySem.W.findIn K (.ref C) "__ne__" = some (some (.builtin "object.__ne__"))) (hs : PySem.W.findIn K (.ref C) "__eq__" = some (some (.ref f))) (hf : PySem.W.isFn K (.ref f) = true)
    (h : wpAny (model prog w) A.in1 (call (.ref f) [.ref x, b]) (fun v s' => ∃ c, v = .bool c ∧ Q (.bool (!c)) s') E s) : wpAny (model prog w) A (richCompare .NotEq (.ref x) b) Q E s := by
  have one : wpAny (model prog w) A (tryCompare (.ref x) "__ne__" b) (fun r s' => ∃ v, r = some v ∧ Q v s') E s := by
    unfold tryCompare
    refine wpAny_bind (ifBound_bi X I hn slot_ne.bind (wpAny_mono (ne_call (Q := fun v s' => ∃ c, v = .bool c ∧ Q (.bool c) s') hu X I hm hs hf (wpAny_mono h (fun v s' hv => ?_) fun _ _ e => e)) (fun v s' hv => ?_) fun _ _ e => e))
    · obtain ⟨c, rfl, q⟩ := hv; exact ⟨c, rfl, _, rfl, q⟩
    · obtain ⟨c, rfl, q⟩ := hv; exact wpAny_pure ⟨_, rfl, q⟩
  unfold richCompare
  simp only [oneThing_ref]; refine wpAny_holding (wpAny_bind (wpAny_cRoomFor (Nat.lt_of_succ_lt hu) (wpAny_bind (I.type.here (wpAny_bind (ty.here ?_))))))
  split
  · rename_i q
    simp at q
  · refine wpAny_bind (wpAny_pure ?_); simp only [Bool.false_eq_true, if_false]
    refine wpAny_bind (wpAny_mono one (fun r s' z => ?_) fun _ _ e => e)
    obtain ⟨v, rfl, hq⟩ := z; exact wpAny_pure hq
end
section
variable {X : Cx} {k : Nat} {f C : Addr} {fd : FuncData} {ps : List Str} {sp : Sp}
/-- x != y, both of the class C with an own == -/
def rNeO (K : PySem.W.Frag) (C : Addr) (sp : Sp) : R2 := fun x y H Q => ∃ a dx fs, x = .ref a ∧ H a = some (.ins C dx fs) ∧ TyX K H y (.ref C) ∧ sp [.ref a, y] H (fun v H' => ∃ b, v = .bl b ∧ Q (.bl (!b)) H') E0
theorem op_neO (F : GOk X.prog X.w X.K X.mg X.base k f fd ps sp) (hg : X.A.guards = some []) (hr : Room (k + 1) X.A) (hm : PySem.W.mroIn X.K C (.type "object") = some true) (hn : PySem.W.findIn X.K (.ref C) "__ne__" = some (some (.builtin "object.__ne__")))
    (hs : PySem.W.findIn X.K (.ref C) "__eq__" = some (some (.ref f))) (hf : PySem.W.isFn X.K (.ref f) = true) (hb : Binds X.K fd ps []) : OpR X (compareOp .NotEq) (rNeO X.K C sp) := by
  intro pins s σ H x y v u Q I rx ry h
  obtain ⟨a, dx, fs, rfl, ha, ty, q⟩ := h
  cases rx
  obtain ⟨mA, J, _⟩ := ins_get I.hok ha
  obtain ⟨od, J, _⟩ := J.look
  show wpAny (model X.prog X.w) X.A (richCompare .NotEq (.ref a) u) (EP X pins σ Q) X.xe s
  refine cmp_ne (by have := hr.units; omega) I.kIn J (looks_of I ry ty) hm hn hs hf ?_
  have hl := F.len _ _ _ _ q
  have hb1 := hb s [.ref a, u] I.kIn (by rw [List.append_nil]; exact hl)
  rw [List.append_nil] at hb1
  refine wpAny_call (codeAny_mono (F.go X.A.in1 X.stack s H ⟨[.ref a, u], []⟩ [.ref a, u] [.ref a, y] _ E0 hg hr.in1 I.env0.in1 hb1 (.cons rfl (.cons ry .nil)) q) ?_)
  intro r s' hq
  match r, hq with
  | .error _, hq => exact hq.elim
  | .ok .next, hq => exact hq.elim
  | .ok .brk, hq => exact hq.elim
  | .ok .cont, hq => exact hq.elim
  | .ok (.ret w), hq =>
    obtain ⟨z, H', I', rz, b, ez, q'⟩ := I.after hq
    subst ez
    cases rz
    exact ⟨b, rfl, .bl (!b), H', I', rfl, q'⟩
def Ner (P : Program) (w : World) (K : PySem.W.Frag) (mg : Str → Option Value) (base : Heap) (C : Addr) (k : Nat) (sp : Sp) : Prop := Eqr P w K mg base C k sp ∧ PySem.W.findIn K (.ref C) "__ne__" = some (some (.builtin "object.__ne__")) ∧ PySem.W.mroIn K C (.type "object") = some true
theorem opNeC {K : PySem.W.Frag} (W : Ner X.prog X.w X.K X.mg X.base C k sp) (hg : X.A.guards = some []) (hr : Room (k + 1) X.A) (h : X.K = K) (hu : X.A.units + 64 < cLine) : OpR X (compareOp .NotEq) (rOr (rOr rNe (rNeD K)) (rNeO K C sp)) := by
  obtain ⟨⟨f, fd, ps, F, hs, hf, hb⟩, hn, hm⟩ := W
  subst h
  exact op_or (opNe rfl hu) (op_neO F hg hr hm hn hs hf hb)
end
section
variable {cls : Cl} {p : Addr → Prop} {ds : Sts} {tl tr : TE} {P PX PY : D → Prop} {K : PySem.W.Frag} {c : Nat} {F : List D → D → Prop} {pre : (Addr → Prop) → List D → Prop}
theorem rv_neO (hc : ClF K (cls.C c)) (h : ∀ dx dy, PX dx → PY dy → ∃ ns xs ms ys, dx = .obj c ns xs ∧ dy = .obj c ms ys ∧ pre p [dx, dy] ∧ ∀ r, F [dx, dy] r → ∃ b, r = .bl b ∧ P (.bl (!b))) :
    Rv cls p (rNeO K (cls.C c) (spG cls 2 pre F)) PX PY P := fun N H x y dx dy W ax ay px py' Q q => by
  obtain ⟨ns, xs, ms, ys, rfl, rfl, hp, hF⟩ := h dx dy px py'
  have ax' := ax
  have ay' := ay
  cases ax with
  | @obj a dx _ _ vs _ n r l at_ =>
    cases ay with
    | @obj b dy _ _ ws _ n2 r2 l2 at2 =>
      refine ⟨a, dx, _, rfl, r, .base (.ins r2 hc.cl hc.ha hc.hn hc.htk hc.hm), p, N, [_, _], W, .cons ax' (.cons ay' .nil), rfl, hp, fun v H' d f g av => ?_⟩
      obtain ⟨b, rfl, pb⟩ := hF d f
      cases av
      exact ⟨b, rfl, q _ H' _ pb g (.bl (!b))⟩
end
end Lk

namespace Lk
open PySem PySem.Spec PyProof.Rows L2

/-! ### enumerate -/
def enums : Nat → List D → List D
  | _, [] => []
  | n, x :: xs => .tup [.int n, x] :: enums (n + 1) xs
theorem enums_get : ∀ {xs : List D} {n i : Nat} {d : D}, (enums n xs)[i]? = some d → ∃ x, xs[i]? = some x ∧ d = .tup [.int (n + i : Nat), x]
  | [], _, _, _, e => nomatch e
  | x :: xs, n, 0, d, e => by
    have e : some (D.tup [.int n, x]) = some d := e
    cases e
    exact ⟨x, rfl, rfl⟩
  | _ :: xs, n, i + 1, d, e => by
    obtain ⟨x, h, z⟩ := enums_get (xs := xs) (n := n + 1) (i := i) e
    exact ⟨x, h, by rw [z]; congr 4; omega⟩
theorem enums_len : ∀ {xs : List D} {n : Nat}, (enums n xs).length = xs.length
  | [], _ => rfl
  | _ :: xs, n => by show (enums (n + 1) xs).length + 1 = xs.length + 1; rw [enums_len]
theorem piEnum {X : Cx} {K : PySem.W.Frag} {e : Expr} {ta : TA} {p pos tpos : Pos} {elts : List Expr} {kk : Nat} (h : X.K = K) (hg : Gl X "enumerate") (hm : X.mg "enumerate" = none) (ha : PA X [e] ta) (hs : starEach [e] X.env = [(false, eval e X.env)] := by rfl) :
    PI X (.Tuple elts kk tpos) (.Call (.Name "enumerate" p) [e] [] pos) (iEnum K ta) := by subst h; exact pi_enum hg hm ha hs
section
variable {cls : Cl} {p : Addr → Prop} {ds : Sts} {ta tb tc td te : TE} {P PX PY : D → Prop} {PA : List D → Prop} {t : TA} {ts : TS} {nx bk ct : Sts → Prop} {rt : D → Prop} {K : PySem.W.Frag}
theorem ei_enum {xs : List D} (h : EvA cls p t ds (· = [.lst xs])) : EI cls p (iEnum K t) ds (· = enums 0 xs) := fun pn N H0 ad σ H S R q =>
  h pn N H0 ad σ H S _ fun vs H1 ys e g a => by
    subst e
    cases a with
    | cons a b =>
      cases b
      have a' := a
      cases a with
      | @lst r ws _ n rr at_ =>
        refine ⟨r, ws, rfl, .inl (.inl rr), q _ H1 _ [(.ref r, .lst xs)] rfl g (fun x hx => by rw [List.mem_singleton.mp hx]; exact a') ?_⟩
        intro N2 H2 W h2 i
        have a2 := h2 _ (List.mem_cons_self ..)
        cases a2 with
        | @lst _ us _ n2 r2 hh =>
          refine ⟨fun d e => ?_, fun e => ⟨us, .inl (.inl r2), ?_⟩⟩
          · obtain ⟨x, ex, rfl⟩ := enums_get e
            obtain ⟨v, hv, av⟩ := hh.get ex
            refine ⟨⟨us, v, .inl (.inl r2), hv⟩, fun u H' z => ?_⟩
            obtain ⟨T, y, rfl, hT, rfl, zz⟩ := z
            have e1 := zz us (.inl (.inl r2))
            rw [hv] at e1
            cases e1
            have g2 : Go p H2 (upd H2 T (.tup [.int (i : Nat), v])) := Go.new hT
            refine ⟨g2, .tup (fresh_hid W hT) upd_same (.cons ?_ (.cons (av.mono W.sub g2) .nil))⟩
            rw [Nat.zero_add]
            exact .int _
          · rw [enums_len] at e
            rw [hh.length]
            exact Nat.le_of_eq e.symm
def emap {α : Type} (f : Nat → Int → α) : Nat → List Int → List α
  | _, [] => []
  | n, x :: a => f n x :: emap f (n + 1) a
/-- [f(i, x) for i, x in enumerate(a)], a a list of whole numbers -/
theorem ev_lcE {i j : Nat} {vs : List Nat} {a : List Int} {f : Nat → Int → D} (h : Ev cls p ta ds (· = row true a)) (hz : a.length ≤ 1000) (hv : i ∈ vs ∧ j ∈ vs) (hw : (wipeD ds vs).map ownOf = ds.map ownOf)
    (ho : ∀ x y, (((wipeD ds vs).set i (some (Slot.dat (.int x)))).set j (some (Slot.dat (.int y)))).map ownOf = ds.map ownOf)
    (he : ∀ (n : Nat) (x : Int), Ev cls p te (((wipeD ds vs).set i (some (Slot.dat (.int n)))).set j (some (Slot.dat (.int x)))) (· = f n x)) :
    Ev cls p (tLc (iEnum K (tCons ta tNil)) (gTup K 2 (gCons (gName i) (gCons (gName j) gNil))) tYes te vs) ds (· = .lst (emap f 0 a)) := by
  refine (ev_lcS (js := [i, j]) (Pe := fun d r => ∀ (n : Nat) (x : Int), d = .tup [.int n, .int x] → r = f n x) (ei_enum (xs := a.map D.int) ((ea1 h).mono fun xs ⟨x, ex, e⟩ => by rw [e, ex]; rfl)) ?_ ?_ hw ?_).mono ?_
  · rw [enums_len, List.length_map]; omega
  · intro z hz
    rcases List.mem_cons.mp hz with e | hz
    · rw [e]; exact hv.1
    · rw [List.mem_singleton.mp hz]; exact hv.2
  · intro d hd
    obtain ⟨k, hk⟩ := List.getElem?_of_mem hd
    obtain ⟨x, hx, rfl⟩ := enums_get hk
    obtain ⟨y, rfl, _⟩ := ints_at hx
    exact ⟨_, eg_tup (egs_cons (egs_cons egs_nil)) rfl, ho _ y, (he _ y).mono fun r e n' x' z => by cases z; exact e⟩
  · rintro d ⟨ys, pp, rfl⟩
    have gen : ∀ (a : List Int) (n : Nat) (ys : List D), Paired (fun d r => ∀ (n : Nat) (x : Int), d = D.tup [.int n, .int x] → r = f n x) (enums n (a.map D.int)) ys → ys = emap f n a := by
      intro a
      induction a with
      | nil => intro n ys pp; cases pp; rfl
      | cons x a ih =>
        intro n ys pp
        cases (show Paired _ (D.tup [.int n, .int x] :: enums (n + 1) (a.map D.int)) ys from pp) with
        | cons h t => rw [h n x rfl, ih _ _ t]; rfl
    rw [gen a 0 ys pp]

/-! ### own lists, more -/
theorem ev_lenOwn {i : Nat} {xs : List D} (e : ds[i]? = some (some (Slot.own xs))) : Ev cls p (tCB (rLen K) (tCons (tVar i) tNil)) ds (· = .int xs.length) := fun pn N H0 ad σ H S Q q => by
  obtain ⟨h1, h2, h3, vs, h4, h5⟩ := S.own i xs e
  exact ⟨.ref (ad i), h1, ad i, vs, rfl, .inl (.inl (.inl h4)), by rw [h5.length]; exact q _ H _ rfl (Go.refl H) (.int _)⟩
/-- list(range(n)) -/
theorem ef_rng {n : Int} (h : Ev cls p te ds (· = .int n)) (h0 : 0 ≤ n) (h1 : n ≤ 100000) : EvF cls p (tLstRg (tRg1 te)) ds (· = irng 0 n.toNat) := fun pn N H0 ad σ H S Q q =>
  h pn N H0 ad σ H S _ fun v H1 d e g a => by
    subst e
    cases a
    refine ⟨n, rfl, RgOk.of_le (Int.le_refl 0) (by omega) (by decide) h0, fun l e => q l _ _ _ rfl (g.trans (Go.new e)) (fresh_of S.wf g e) upd_same ?_⟩
    have gen : ∀ (xs : List Nat) (N : Addr → Prop) (H : Hp), AtAll cls N H (xs.map fun i => V.int (0 + (i : Nat))) (xs.map fun i => D.int (0 + (i : Nat))) := by
      intro xs
      induction xs with
      | nil => intro N H; exact .nil
      | cons x xs ih => intro N H; exact .cons (.int _) (ih N H)
    unfold rgV
    rw [show n - 0 = n by omega]
    exact gen (List.range n.toNat) _ _
/-- a, b = such a list, [] -/
theorem sv_parN {i j : Nat} {P : List D → Prop} (hi : i < ds.length) (hj : j < ds.length) (h : EvF cls p ta ds P) (k : ∀ xs, P xs → nx ((ds.set i (some (Slot.own xs))).set j (some (Slot.own [])))) : Sv cls p (tPar i j (tCons ta (tCons (tLst tNil) tNil))) ds nx rt bk ct := fun pn N H0 ad σ H S Dn q1 _ _ _ =>
  h pn N H0 ad σ H S _ fun l H' vs xs px g hl e a => ⟨Nat.zero_le _, fun l2 h2 => ⟨_, _, rfl, q1 _ _ _ _ (k xs px) ((S.adopt g hl e a hi).fresh h2 (by rw [List.length_set]; exact hj))⟩⟩
/-- own[k], own[l] = x, y -/
theorem sv_item2 {i : Nat} {xs : List D} {k l : Int} {x y : D} {m n : Nat} (e : ds[i]? = some (some (Slot.own xs))) (hx : Ev cls p ta ds (· = x)) (hy : Ev cls p tb ds (· = y)) (hk : ∀ ds' : Sts, ds'.length = ds.length → (∀ r, r ≠ i → ds'[r]? = ds[r]?) → Ev cls p tc ds' (· = .int k)) (hl : ∀ ds' : Sts, ds'.length = ds.length → (∀ r, r ≠ i → ds'[r]? = ds[r]?) → Ev cls p td ds' (· = .int l))
    (hm : ixN xs.length k = some m) (hn : ixN xs.length l = some n) (kk : nx (ds.set i (some (Slot.own ((xs.set m x).set n y))))) :
    Sv cls p (tAsg (tTup (tCons ta (tCons tb tNil))) (gTup K 2 (gCons (gSub (tVar i) tc rSetL) (gCons (gSub (tVar i) td rSetL) gNil)))) ds nx rt bk ct := fun pn N H0 ad σ H S Dn q1 _ _ _ => by
  refine hx pn N H0 ad σ H S _ fun v H1 d e1 g1 a1 => hy pn N H0 ad σ H1 (S.mono g1) _ fun w H2 d' e2 g2 a2 => ⟨by show 2 ≤ sizeLine; decide, fun T hT => ?_⟩
  subst e1 e2
  have g3 : Go p H2 (upd H2 T (.tup [v, w])) := Go.new hT
  have S3 := ((S.mono g1).mono g2).mono g3
  have b1 := a1.mono S.hsub (g2.trans g3)
  have b2 := a2.mono S.hsub g3
  obtain ⟨h1, h2, h3, vs, h4, h5⟩ := S3.own i xs e
  refine ⟨T, [v, w], rfl, .inl (.inl upd_same), rfl, v, [w], rfl, .ref (ad i), h1, hk ds rfl (fun _ _ => rfl) pn N H0 ad σ _ S3 _ fun kv H4 dk ek g4 a4 => ?_⟩
  subst ek
  cases a4
  have S4 := S3.mono g4
  have e4 : H4 (ad i) = some (.lst vs) := g4.ext _ _ (fun z => h2 (S3.wf.sub _ z)) h4
  have c5 := h5.mono S3.hsub g4
  have S5 := S4.change e (c5.set (i := m) (b1.mono S.hsub g4))
  have hlen : (ds.set i (some (Slot.own (xs.set m d)))).length = ds.length := List.length_set
  have e5 : (ds.set i (some (Slot.own (xs.set m d))))[i]? = some (some (Slot.own (xs.set m d))) := List.getElem?_set_self (List.getElem?_eq_some_iff.mp e).1
  have hh : ∀ b, hid N ad (ds.set i (some (Slot.own (xs.set m d)))) b ↔ hid N ad ds b := fun b => ⟨fun z => z.elim .inl fun ⟨q, zs, ez, r⟩ => by
      rcases get_set ez with ⟨rfl, _, _⟩ | ⟨ne, ez⟩
      · exact .inr ⟨_, xs, e, r⟩
      · exact .inr ⟨q, zs, ez, r⟩, fun z => z.elim .inl fun ⟨q, zs, ez, r⟩ => by
      by_cases w : q = i
      · subst w
        exact .inr ⟨q, _, e5, r⟩
      · exact .inr ⟨q, zs, by rw [List.getElem?_set_ne (Ne.symm w)]; exact ez, r⟩⟩
  have up : ∀ b o, ¬ hid N ad ds b → H4 b = some o → (upd H4 (ad i) (.lst (vs.set m v))) b = some o := fun b o n ez => by
    rw [upd_ne (fun z => n (.inr ⟨i, xs, e, z.symm⟩))]; exact ez
  obtain ⟨k1, k2, k3, us, k4, k5⟩ := S5.own i _ e5
  have eu : us = vs.set m v := by
    have z : (upd H4 (ad i) (.lst (vs.set m v))) (ad i) = some (.lst (vs.set m v)) := upd_same
    rw [z] at k4
    cases k4
    rfl
  subst eu
  refine ⟨ad i, vs, k, m, rfl, rfl, e4, by rw [c5.length]; exact hm, w, [], rfl, .ref (ad i), k1, hl _ hlen (fun r hr => List.getElem?_set_ne (Ne.symm hr)) pn N H0 ad σ _ S5 _ fun lv H6 dl el g6 a6 => ?_⟩
  subst el
  cases a6
  have S6 := S5.mono g6
  have e6 : H6 (ad i) = some (.lst (vs.set m v)) := g6.ext _ _ (fun z => k2 (S5.wf.sub _ z)) upd_same
  have c6 := k5.mono S5.hsub g6
  have b3 : At cls (hid N ad (ds.set i (some (Slot.own (xs.set m d))))) H6 w d' := ((b2.mono S.hsub g4).keep (fun b _ n z => n ((hh b).mp z)) up).mono S5.hsub g6
  have S7 := S6.change e5 (c6.set (i := n) b3)
  refine ⟨ad i, _, l, n, rfl, rfl, e6, by rw [List.length_set, c5.length]; exact hn, rfl, q1 ad σ _ _ kk ?_⟩
  rw [List.set_set] at S7
  exact S7
/-- a.index(x), a a list of whole numbers -/
theorem ev_index {i : Nat} {a : List Int} {x : Int} {j : Nat} (h : Ev cls p ta ds (· = row true a)) (g : Ev cls p tb ds (· = .int x)) (hj : a[j]? = some x) (hb : ∀ m, m < j → a[m]? ≠ some x) : Ev cls p (tBM K "list" (rIndex K) ta (tCons tb tNil)) ds (· = .int j) := fun pn N H0 ad σ H S Q q =>
  h pn N H0 ad σ H S _ fun v H1 d e g1 a1 => by
    subst e
    have a1' := a1
    cases a1 with
    | @lst r ws _ n rr at_ =>
      refine ⟨.inl ⟨rfl, _, .inl (.inl rr)⟩, (ea1 g) pn N H0 ad σ H1 (S.mono g1) _ fun vs H2 ys ⟨y, ey, el⟩ g2 a2 => ?_⟩
      subst ey el
      cases a2 with
      | cons c b =>
        cases b
        cases c
        cases a1'.mono S.hsub g2 with
        | @lst _ us _ n2 r2 at2 =>
          have eu : us = a.map V.int := by
            have gen : ∀ (a : List Int) (ws : List V), AtAll cls (hid N ad ds) H2 ws (a.map D.int) → ws = a.map V.int := by
              intro a
              induction a with
              | nil => intro ws z; cases z; rfl
              | cons i a ih => intro ws z; cases z with | cons u v => cases u; rw [ih _ v]; rfl
            exact gen a us at2
          subst eu
          refine ⟨r, a.map V.int, .int x, j, .int x, rfl, rfl, .inl (.inl r2), rfl, ?_, ?_, ?_, fun m z hm hz => ?_, q _ H2 _ rfl (g1.trans g2) (.int _)⟩
          · rw [List.all_map]; exact List.all_eq_true.mpr fun _ _ => rfl
          · rw [List.getElem?_map, hj]; rfl
          · show (x == x) = true; exact beq_self_eq_true x
          · rw [List.getElem?_map] at hz
            cases w : a[m]? with
            | none => rw [w] at hz; cases hz
            | some u =>
              rw [w] at hz
              cases hz
              show (u == x) = false
              exact beq_eq_false_iff_ne.mpr fun z => hb m hm (by rw [w, z])
end
theorem kIndex {X : Cx} {K : PySem.W.Frag} (h : X.K = K) : MtR X "list.index" (rIndex K) := by subst h; exact mt_index
theorem pe_bmK {X : Cx} {K : PySem.W.Frag} {e : Expr} {T : String} {r : V → List V → Hp → VK → Prop} {to : TE} {t : TA} (h : X.K = K) (b : PE X e (tBM X.K T r to t)) : PE X e (tBM K T r to t) := by subst h; exact b
section
variable {cls : Cl} {p : Addr → Prop} {ds : Sts} {tl tr : TE} {K : PySem.W.Frag} {r2 : R2}
/-- whole numbers, truths, data compared where objects may be, too -/
theorem et_neIC {i : Int} (h : Ev cls p tl ds (· = .int i)) (k : Ev cls p tr ds (· = .int i)) : ET cls p (tTest (tOp (rOr (rOr rNe (rNeD K)) r2) tl tr)) ds (· = false) := by
  refine (et_test (ev_op h k (rv_l (rv_l (rv_neI intP intP)))) blP_S).mono ?_
  rintro b ⟨x, y, hx, hy, e⟩
  have e1 := D.int.inj hx
  have e2 := D.int.inj hy
  rw [D.bl.inj e, e1, e2]
  show (!decide (i = i)) = false
  rw [decide_eq_true rfl]
  rfl
theorem et_neDC {d : D} {n : Nat} (h : Ev cls p tl ds (· = d)) (k : Ev cls p tr ds (· = d)) (hn : n ≤ 64) (ho : okD n d = true) : ET cls p (tTest (tOp (rOr (rOr rNe (rNeD K)) r2) tl tr)) ds (· = false) := by
  refine (et_test (ev_op h k (rv_l (rv_r (rv_neD fun dx dy hx hy => ⟨n, hn, by rw [hx]; exact ho, by rw [hy]; exact ho⟩)))) (fun d ⟨_, _, _, _, e⟩ => ⟨_, e⟩)).mono ?_
  rintro b ⟨x, y, hx, hy, e⟩
  rw [D.bl.inj e, hx, hy, SeqAt.eqv_refl _ (okD_can n d ho).1]
  rfl
end
end Lk

namespace Lk
open PySem PySem.Spec PyProof.Rows L2

/-! ### xs[::-1] -/
def tRev (K : PySem.W.Frag) (te : TE) (tl th ts : TO) : TE := fun σ H Q => te σ H fun x H1 => tl σ H1 fun l H2 => th σ H2 fun u H3 => ts σ H3 fun st H4 =>
  l = none ∧ u = none ∧ st = some (-1) ∧ ∃ a xs, x = .ref a ∧ SqL K H4 a xs ∧ ∀ p, H4 p = none → Q (.ref p) (upd H4 p (.lst xs.reverse))
theorem pe_rev {X : Cx} {K : PySem.W.Frag} {e se : Expr} {lo hi : Option Expr} {p2 pos : Pos} {te : TE} {tl th ts : TO} (hK : X.K = K) (he : PE X e te) (hl : PO X lo tl) (hu : PO X hi th) (hs : PO X (some se) ts) :
    PE X (.Subscript e (.Slice lo hi (some se) p2) pos) (tRev K te tl th ts) := by
  subst hK
  refine ⟨fun pins s σ H Q I h => ?_⟩
  refine Subscript_ (thn (he.run pins s σ H _ I h) fun v s1 ⟨x, H1, I1, r1, q1⟩ => ?_)
  refine wpAny_Slice (thn (hl.run pins s1 σ H1 _ I1 q1) fun vl s2 ⟨l, H2, I2, pl, q2⟩ => thn (hu.run pins s2 σ H2 _ I2 q2) fun vu s3 ⟨u, H3, I3, pu, q3⟩ => thn (hs.run pins s3 σ H3 _ I3 q3) fun vs s4 ⟨st, H4, I4, ps, q4⟩ => ?_)
  obtain ⟨rfl, rfl, rfl, a, xs, rfl, hx, q⟩ := q4
  cases r1
  have I5 : Inv X pins σ H4 { s4 with heap := s4.heap.push { cls := .type "slice", data := .fields #[vl, vu, vs] } } := I4.kept (t' := s4.toks) fun b ob q => Heap.get?_push_of_some _ q
  obtain ⟨its, r, ht, hz⟩ := I5.list hx
  have hlen := r.length
  show wpAny (model X.prog X.w) X.A (subscriptTail e (.Slice lo hi (some se) p2) (.ref a) (.ref s4.heap.objs.size)) (EP X pins σ Q) X.xe { s4 with heap := s4.heap.push { cls := .type "slice", data := .fields #[vl, vu, vs] } }
  refine tail_any (T := "list") (ops := [.ref a, .ref s4.heap.objs.size]) ht.isList.typeIs slot_list_getitem.lookup ?_ (by with_unfolding_all rfl)
  refine wpAny_getItem_list_slice ht.isList (Heap.IsSliceOf.new ..) pl pu ps (by decide) ?_ (by rw [List.size_toArray] <;> omega)
  rw [PySem.W.krv_pick]
  refine ⟨.ref _, _, I5.laid (t' := s4.toks) (o := .lst xs.reverse) (fun b ob q => Heap.get?_push_of_some _ q) (Nat.le_refl _) ?_, rfl, q _ (I5.hok.fresh (Nat.le_refl _))⟩
  exact ⟨by rw [List.length_reverse]; exact hz, _, 0, r.reverse, Heap.get?_push_size _ rfl⟩

/-! ### data with dicts as the library's data -/
def keyE : Key → Bool
  | .inl i => decide (i.natAbs < 2 ^ 1900)
  | .inr x => decide ((reprText x).length ≤ 30000)
/-- no objects, at most n deep, numbers of some five hundred digits at most -/
def shE : Nat → D → Bool
  | _, .non => true
  | _, .bl _ => true
  | _, .int i => decide (i.natAbs < 2 ^ 1900)
  | _, .str x => decide ((reprText x).length ≤ 30000)
  | n + 1, .lst xs => xs.all (shE n)
  | n + 1, .tup xs => xs.all (shE n)
  | n + 1, .dk ks ds => ks.all keyE && ds.all (shE n)
  | _, _ => false
def szE : Nat → D → Nat
  | n + 1, .lst xs => 4 + (xs.map fun x => szE n x + 2).sum
  | n + 1, .tup xs => 4 + (xs.map fun x => szE n x + 2).sum
  | n + 1, .dk _ ds => 4 + (ds.map fun x => szE n x + 30004).sum
  | _, _ => 30000
theorem dictText_le (ts : List Str) : (dictText ts).length ≤ 4 + piled ts := by
  unfold dictText
  rw [strLen_append, strLen_append]
  have e1 : (("{" : String) : Str).length = 1 := rfl
  have e2 : (("}" : String) : Str).length = 1 := rfl
  rw [e1, e2]
  by_cases h : ts = []
  · subst h
    have e4 : (Str.join ", " []).length = 0 := rfl
    omega
  · have := join_length_add ts h
    omega
theorem int_show (i : Int) (hi : i.natAbs < 2 ^ 1900) : (PyData.int i).showable = true ∧ (toString i : Str).length ≤ 2000 := by
  have l : i.natAbs.log2 < 1900 := PySem.Flt.log2_lt_of (by decide) hi
  refine ⟨by unfold PyData.showable; exact decide_eq_true (by omega), ?_⟩
  have h2 := int_text_length_le (a := i) (by decide) l
  have e : (toString i : Str).length = (toString i).length := PySem.ofString_length _
  rw [e]
  omega
theorem key_show : ∀ (k : Key), keyE k = true → (keyP k).showable = true ∧ (keyP k).depth = 0 ∧ (keyP k).shown.length ≤ 30000
  | .inl i, h => by
    obtain ⟨a, b⟩ := int_show i (of_decide_eq_true h)
    exact ⟨a, rfl, by show (toString i : Str).length ≤ 30000; omega⟩
  | .inr x, h => ⟨rfl, rfl, of_decide_eq_true h⟩
theorem shE_show : ∀ (n : Nat) (d : D), shE n d = true → (py d).showable = true ∧ (py d).depth ≤ n ∧ (py d).shown.length ≤ szE n d := by
  have all : ∀ (n : Nat), (∀ d : D, shE n d = true → (py d).showable = true ∧ (py d).depth ≤ n ∧ (py d).shown.length ≤ szE n d) → ∀ xs : List D, xs.all (shE n) = true →
      PyData.showableAll (pyAll xs) = true ∧ PyData.depthAll (pyAll xs) ≤ n ∧ piled (PyData.shownAll (pyAll xs)) ≤ (xs.map fun x => szE n x + 2).sum := by
    intro n ih xs
    induction xs with
    | nil => intro _; exact ⟨rfl, Nat.zero_le _, Nat.le_refl _⟩
    | cons x xs ihx =>
      intro h
      rw [List.all_cons, Bool.and_eq_true] at h
      obtain ⟨a1, a3, a4⟩ := ih x h.1
      obtain ⟨b1, b3, b4⟩ := ihx h.2
      unfold pyAll PyData.showableAll PyData.depthAll PyData.shownAll
      refine ⟨by rw [a1, b1]; rfl, by omega, ?_⟩
      rw [piled_cons, List.map_cons, List.sum_cons]
      omega
  have kv : ∀ (n : Nat), (∀ d : D, shE n d = true → (py d).showable = true ∧ (py d).depth ≤ n ∧ (py d).shown.length ≤ szE n d) → ∀ (ks : List Key) (xs : List D), ks.all keyE = true → xs.all (shE n) = true →
      PyData.showableKv ((ks.map keyP).zip (pyAll xs)) = true ∧ PyData.depthKv ((ks.map keyP).zip (pyAll xs)) ≤ n ∧ piled (PyData.shownKv ((ks.map keyP).zip (pyAll xs))) ≤ (xs.map fun x => szE n x + 30004).sum := by
    intro n ih ks
    induction ks with
    | nil => intro xs _ _; exact ⟨rfl, Nat.zero_le _, Nat.zero_le _⟩
    | cons k ks ihk =>
      intro xs hk h
      cases xs with
      | nil => exact ⟨rfl, Nat.zero_le _, Nat.zero_le _⟩
      | cons x xs =>
        rw [List.all_cons, Bool.and_eq_true] at h hk
        obtain ⟨a1, a3, a4⟩ := ih x h.1
        obtain ⟨b1, b3, b4⟩ := ihk xs hk.2 h.2
        obtain ⟨c1, c3, c4⟩ := key_show k hk.1
        rw [List.map_cons]
        unfold pyAll
        rw [List.zip_cons_cons]
        unfold PyData.showableKv PyData.depthKv PyData.shownKv
        refine ⟨by rw [a1, b1, c1]; rfl, by omega, ?_⟩
        rw [piled_cons, List.map_cons, List.sum_cons, strLen_append, strLen_append]
        have e : ((": " : String) : Str).length = 2 := rfl
        rw [e]
        omega
  have leaf : ∀ (n : Nat) (d : D), (d = .non ∨ (∃ b, d = .bl b) ∨ (∃ i, d = .int i ∧ i.natAbs < 2 ^ 1900) ∨ ∃ x, d = .str x ∧ (reprText x).length ≤ 30000) → (py d).showable = true ∧ (py d).depth ≤ n ∧ (py d).shown.length ≤ 30000 := by
    rintro n d (rfl | ⟨b, rfl⟩ | ⟨i, rfl, hi⟩ | ⟨x, rfl, hx⟩)
    · exact ⟨rfl, Nat.zero_le _, by show (("None" : String) : Str).length ≤ 30000; decide⟩
    · cases b <;> exact ⟨rfl, Nat.zero_le _, by first | (show (("True" : String) : Str).length ≤ 30000; decide) | (show (("False" : String) : Str).length ≤ 30000; decide)⟩
    · obtain ⟨a, b⟩ := int_show i hi
      exact ⟨a, Nat.zero_le _, by show (toString i : Str).length ≤ 30000; omega⟩
    · exact ⟨rfl, Nat.zero_le _, hx⟩
  intro n
  induction n with
  | zero =>
    intro d h
    cases d with
    | non => exact leaf 0 _ (.inl rfl)
    | bl b => exact leaf 0 _ (.inr (.inl ⟨b, rfl⟩))
    | int i => exact leaf 0 _ (.inr (.inr (.inl ⟨i, rfl, of_decide_eq_true h⟩)))
    | str x => exact leaf 0 _ (.inr (.inr (.inr ⟨x, rfl, of_decide_eq_true h⟩)))
    | _ => cases h
  | succ n ih =>
    intro d h
    cases d with
    | non => exact leaf (n + 1) _ (.inl rfl)
    | bl b => exact leaf (n + 1) _ (.inr (.inl ⟨b, rfl⟩))
    | int i => exact leaf (n + 1) _ (.inr (.inr (.inl ⟨i, rfl, of_decide_eq_true h⟩)))
    | str x => exact leaf (n + 1) _ (.inr (.inr (.inr ⟨x, rfl, of_decide_eq_true h⟩)))
    | lst xs =>
      obtain ⟨a, c, e⟩ := all n ih xs h
      refine ⟨by unfold py PyData.showable; exact a, by unfold py PyData.depth; omega, ?_⟩
      have := listText_le (PyData.shownAll (pyAll xs))
      unfold py PyData.shown szE
      omega
    | tup xs =>
      obtain ⟨a, c, e⟩ := all n ih xs h
      refine ⟨by unfold py PyData.showable; exact a, by unfold py PyData.depth; omega, ?_⟩
      have := tupleText_le (PyData.shownAll (pyAll xs))
      unfold py PyData.shown szE
      omega
    | dk ks xs =>
      have h : (ks.all keyE && xs.all (shE n)) = true := h
      rw [Bool.and_eq_true] at h
      obtain ⟨a, c, e⟩ := kv n ih ks xs h.1 h.2
      refine ⟨by unfold py PyData.showable; exact a, by unfold py PyData.depth; omega, ?_⟩
      have := dictText_le (PyData.shownKv ((ks.map keyP).zip (pyAll xs)))
      unfold py PyData.shown szE
      omega
    | _ => cases h

/-- no list is in it -/
def noL : Nat → D → Bool
  | _, .lst _ => false
  | n + 1, .tup xs => xs.all (noL n)
  | n + 1, .dk _ xs => xs.all (noL n)
  | _, _ => true
section
variable {X : Cx} {pins : List (Addr × Obj)} {σ : L2.St} {H : Hp} {s : Shared} {cls : Cl} {N : Addr → Prop}
theorem kv_reads (I : Inv X pins σ H s) {n : Nat} (ih : ∀ (d : D) (v : V) (u : Value), shE n d = true → At cls N H v d → RelV v u → ∃ as, Reads s.heap u (py d) as ∧ (noL n d = true → sysModules ∉ as)) :
    ∀ (ks : List Key) (vals : List V) (xs : List D) (vs : List (Key × Value)) (es : List DictEntry), ks.length = vals.length → AtAll cls N H vals xs → xs.all (shE n) = true → KV (ks.zip vals) vs → Pairs (mixKind X.prog X.w) es vs →
    ∃ as bs, ReadsAll s.heap (es.map (·.key)) (((ks.map keyP).zip (pyAll xs)).map (·.1)) as ∧ ReadsAll s.heap (es.map (·.val)) (((ks.map keyP).zip (pyAll xs)).map (·.2)) bs ∧ sysModules ∉ as ∧ (xs.all (noL n) = true → sysModules ∉ bs) := by
  intro ks
  induction ks with
  | nil =>
    intro vals xs vs es hl ha hs kv pr
    cases kv
    cases pr
    exact ⟨[], [], .nil, .nil, List.not_mem_nil, fun _ => List.not_mem_nil⟩
  | cons k ks ihk =>
    intro vals xs vs es hl ha hs kv pr
    cases ha with
    | nil => cases hl
    | @cons v vals d xs a1 a2 =>
      rw [List.zip_cons_cons] at kv
      cases kv with
      | @cons _ q _ qs hq kv =>
        cases pr with
        | @cons e _ es _ h1 h2 pr =>
          rw [List.all_cons, Bool.and_eq_true] at hs
          obtain ⟨as, bs, r1, r2, n1, n2⟩ := ihk vals xs qs es (Nat.succ.inj hl) a2 hs.2 kv pr
          obtain ⟨cs, r3, n3⟩ := ih d v q.2 hs.1 a1 hq.2
          have rk : Reads s.heap e.key (keyP k) [] := by
            have hk : k = q.1 := hq.1
            rcases keyIs_shape (show keyIs q.1 e.key = true from h1) with ⟨i, t, e1, e2⟩ | ⟨x, t, e1, e2⟩
            · rw [hk, e1, e2]; exact Reads.int i t
            · rw [hk, e1, e2]; exact Reads.str x t
          rw [← h2] at r3
          refine ⟨[] ++ as, cs ++ bs, ?_, ?_, ?_, ?_⟩
          · rw [List.map_cons, List.map_cons]
            exact .cons rk r1
          · rw [List.map_cons, List.map_cons]
            unfold pyAll
            exact .cons r3 r2
          · exact n1
          · intro hn
            rw [List.all_cons, Bool.and_eq_true] at hn
            rw [List.mem_append]
            rintro (z | z)
            · exact n3 hn.1 z
            · exact n2 hn.2 z
theorem at_reads (I : Inv X pins σ H s) : ∀ (n : Nat) (d : D) (v : V) (u : Value), shE n d = true → At cls N H v d → RelV v u → ∃ as, Reads s.heap u (py d) as ∧ (noL n d = true → sysModules ∉ as) := by
  have all : ∀ (n : Nat), (∀ (d : D) (v : V) (u : Value), shE n d = true → At cls N H v d → RelV v u → ∃ as, Reads s.heap u (py d) as ∧ (noL n d = true → sysModules ∉ as)) →
      ∀ (xs : List D) (vs : List V) (us : List Value), xs.all (shE n) = true → AtAll cls N H vs xs → Vals vs us → ∃ as, ReadsAll s.heap us (pyAll xs) as ∧ (xs.all (noL n) = true → sysModules ∉ as) := by
    intro n ih xs
    induction xs with
    | nil => intro vs us _ a r; cases a; cases r; exact ⟨[], .nil, fun _ => List.not_mem_nil⟩
    | cons x xs ihx =>
      intro vs us h a r
      rw [List.all_cons, Bool.and_eq_true] at h
      cases a with
      | cons a1 a2 =>
        cases r with
        | cons r1 r2 =>
          obtain ⟨as, q1, n1⟩ := ih x _ _ h.1 a1 r1
          obtain ⟨bs, q2, n2⟩ := ihx _ _ h.2 a2 r2
          refine ⟨as ++ bs, .cons q1 q2, fun hn => ?_⟩
          rw [List.all_cons, Bool.and_eq_true] at hn
          rw [List.mem_append]
          rintro (z | z)
          · exact n1 hn.1 z
          · exact n2 hn.2 z
  intro n
  induction n with
  | zero =>
    intro d v u h a r
    cases a with
    | non => cases r; exact ⟨_, Reads.none, fun _ => List.not_mem_nil⟩
    | bl b => cases r; exact ⟨_, Reads.bool b, fun _ => List.not_mem_nil⟩
    | int i => obtain ⟨t, rfl⟩ := r; exact ⟨_, Reads.int i t, fun _ => List.not_mem_nil⟩
    | str x => obtain ⟨t, rfl⟩ := r; exact ⟨_, Reads.str x t, fun _ => List.not_mem_nil⟩
    | _ => cases h
  | succ n ih =>
    intro d v u h a r
    cases a with
    | non => cases r; exact ⟨_, Reads.none, fun _ => List.not_mem_nil⟩
    | bl b => cases r; exact ⟨_, Reads.bool b, fun _ => List.not_mem_nil⟩
    | int i => obtain ⟨t, rfl⟩ := r; exact ⟨_, Reads.int i t, fun _ => List.not_mem_nil⟩
    | str x => obtain ⟨t, rfl⟩ := r; exact ⟨_, Reads.str x t, fun _ => List.not_mem_nil⟩
    | @lst a vs ds nn e hh =>
      cases r
      obtain ⟨its, rv, ⟨o, k, ho, hc, _, hd⟩, _⟩ := I.list (show SqL X.K H a vs from .inl (.inl e))
      obtain ⟨as, q, ns⟩ := all n ih _ _ _ h hh rv
      exact ⟨a :: as, Reads.list ho hc hd q, fun z => nomatch z⟩
    | @tup a vs ds nn e hh =>
      cases r
      obtain ⟨its, rv, ⟨o, ho, hc, k, hd⟩, _⟩ := I.tuple (show SqT X.K H a vs from .inl (.inl e))
      obtain ⟨as, q, ns⟩ := all n ih _ _ _ h hh rv
      exact ⟨as, Reads.tuple ho hc hd q, ns⟩
    | @dk a ks vs ds nn e hl hh =>
      cases r
      have h : (ks.all keyE && ds.all (shE n)) = true := h
      rw [Bool.and_eq_true] at h
      obtain ⟨hz, hsys, us, kv, o, es, ep, ho, ex, hd, _, pr, _⟩ := dk_of I.hok e
      obtain ⟨as, bs, r1, r2, n1, n2⟩ := kv_reads I ih ks vs ds us es.toList hl hh h.2 kv pr
      refine ⟨a :: as ++ bs, Reads.dict ho ex.1 hd r1 r2, fun hn => ?_⟩
      rw [List.mem_append, List.mem_cons]
      rintro ((z | z) | z)
      · exact beq_eq_false_iff_ne.mp hsys z.symm
      · exact n1 z
      · exact n2 hn z
    | _ => cases h
end

/-! ### repr of such data -/
def keysB : ∀ ks : List Key, PyData.hasDictAll (ks.map keyP) = false
  | [] => rfl
  | .inl _ :: ks => by rw [List.map_cons]; unfold PyData.hasDictAll; rw [keysB ks]; rfl
  | .inr _ :: ks => by rw [List.map_cons]; unfold PyData.hasDictAll; rw [keysB ks]; rfl
theorem dictAll_take : ∀ (n : Nat) (ds : List PyData), PyData.hasDictAll ds = false → PyData.hasDictAll (ds.take n) = false
  | 0, _, _ => rfl
  | _ + 1, [], _ => rfl
  | n + 1, d :: ds, h => by
    unfold PyData.hasDictAll at h
    rw [Bool.or_eq_false_iff] at h
    rw [List.take_succ_cons]
    unfold PyData.hasDictAll
    rw [h.1, dictAll_take n ds h.2]
    rfl
theorem fst_zip : ∀ (as bs : List PyData), (as.zip bs).map (·.1) = as.take bs.length
  | [], _ => by rw [List.zip_nil_left, List.take_nil]; rfl
  | _ :: _, [] => rfl
  | a :: as, b :: bs => by rw [List.zip_cons_cons, List.map_cons, List.length_cons, List.take_succ_cons, fst_zip as bs]
theorem snd_zip : ∀ (as bs : List PyData), (as.zip bs).map (·.2) = bs.take as.length
  | [], bs => rfl
  | _ :: _, [] => rfl
  | a :: as, b :: bs => by rw [List.zip_cons_cons, List.map_cons, List.length_cons, List.take_succ_cons, snd_zip as bs]
/-- a dict is shown in which no further dict is -/
theorem repr_flat {P : Program} {w : World} {A : Around} {E : Value → Shared → Prop} {s : Shared} {Q : Value → Shared → Prop} {a : Addr} {o : Obj} {es : Array DictEntry} {n : Nat} {kvs : List (PyData × PyData)} {as bs : List Addr}
    (h1 : s.heap.get? a = some o) (h2 : o.cls = .type "dict") (h3 : o.data = .dict es n) (h4 : ReadsAll s.heap (es.toList.map (·.key)) (kvs.map (·.1)) as) (h5 : ReadsAll s.heap (es.toList.map (·.val)) (kvs.map (·.2)) bs)
    (hsys : (a == sysModules) = false) (hs : PyData.showableKv kvs = true) (d1 : PyData.hasDictAll (kvs.map (·.1)) = false) (d2 : PyData.hasDictAll (kvs.map (·.2)) = false) (hg : A.guards = some []) (hu : A.units + (PyData.depthKv kvs + 3) < cLine)
    (hQ : ∀ h' u tk, (∀ b o, s.heap.get? b = some o → h'.get? b = some o) → Q (.str (dictText (PyData.shownKv kvs)) u) { s with heap := h', toks := tk }) (hz : (dictText (PyData.shownKv kvs)).length ≤ sizeLine) :
    wpAny (model P w) A (call (.builtin "repr") [.ref a]) Q E s := by
  obtain ⟨s1, s2⟩ := PyData.showableKv_split kvs hs
  obtain ⟨b1, hb1, k1⟩ := ReprAllK.of_readsAll (prog := P) (w := w) h4 s1 (fun z => by rw [d1] at z; cases z) (fun t ht => let ⟨q, hq, hl⟩ := PyData.shownKv_key_le kvs t ht; Nat.le_trans hl (Nat.le_trans (dictText_mem_le hq) hz))
  obtain ⟨b2, hb2, k2⟩ := ReprAllK.of_readsAll (prog := P) (w := w) h5 s2 (fun z => by rw [d2] at z; cases z) (fun t ht => let ⟨q, hq, hl⟩ := PyData.shownKv_val_le kvs t ht; Nat.le_trans hl (Nat.le_trans (dictText_mem_le hq) hz))
  have low := (hb1.mono (PyData.depthAll_keys_le kvs)).append (hb2.mono (PyData.depthAll_vals_le kvs))
  have out : a ∉ b1 ++ b2 := not_mem_of_deeper (.dict h1 h2 h3 h4 h5) (by unfold PyData.depth; omega) low
  refine call_repr_slot (by omega) (show s.TypeIs (.ref a) "dict" from ⟨o, h1, h2⟩) F.slot_dict_repr ?_
  have each := ReprEntriesK.of_two es.toList _ _ (k1.more_le (fun b hb => List.mem_append_left b2 hb) (PyData.depthAll_keys_le kvs)) (k2.more_le (fun b hb => List.mem_append_right b1 hb) (PyData.depthAll_vals_le kvs))
  rw [← PyData.shownKv_eq] at each
  exact call_dict_reprK h1 h2 h3 hsys out each hg (fun b _ => Clear.nil b) (show A.units + 1 + (PyData.depthKv kvs + 1) < cLine by omega) (fun _ _ e => e) (fun h' u tk hk => ⟨_, _, rfl, hQ h' u tk hk⟩) hz
def rShE (cls : Cl) : List V → Hp → VK → Prop := fun vs H Q => ∃ (N : Addr → Prop) (v : V) (d : D) (n : Nat), vs = [v] ∧ At cls N H v d ∧ shE n d = true ∧ n ≤ 20 ∧ szE n d ≤ 10000000 ∧
  ((py d).hasDict = false ∨ noL n d = true ∨ ∃ ks xs, d = .dk ks xs ∧ PyData.hasDictAll (pyAll xs) = false) ∧ Q (.str (py d).shown) H
theorem kShE {X : Cx} (cls : Cl) (hg : X.A.guards = some []) (hu : X.A.units + 64 < cLine) : CallR X (.builtin "repr") (rShE cls) := by
  intro pins s σ H xs us Q I r h
  obtain ⟨N, v, d, n, rfl, at_, h1, h2, h3, hc, q⟩ := h
  obtain ⟨u, rfl, ru⟩ := L2.vals1 r
  obtain ⟨as, rd, ns⟩ := at_reads I n d v u h1 at_ ru
  obtain ⟨s1, s2, s3⟩ := shE_show n d h1
  have h4 : (py d).shown.length ≤ sizeLine := Nat.le_trans (Nat.le_trans s3 h3) (by decide)
  have go : ((py d).hasDict = false ∨ noL n d = true) → ∀ a, u = .ref a → wpAny (model X.prog X.w) X.A (call (.builtin "repr") [u]) (EP X pins σ Q) X.xe s := by
    rintro hc a rfl
    exact repr_of_reads' rd s1 (fun z => by rcases hc with hc | hc; (rw [hc] at z; cases z); exact ns hc) hg (by omega) (fun _ _ e => e) (fun h' u tk k => ⟨.str _, H, I.kept k, ⟨_, rfl⟩, q⟩) h4
  cases at_ with
  | non => cases ru; exact PySem.P.repr_of_none ⟨.str _, H, I.tok _, ⟨_, rfl⟩, q⟩
  | bl b => cases ru; exact PySem.P.repr_of_bool ⟨.str _, H, I.tok _, ⟨_, rfl⟩, q⟩
  | int i =>
    obtain ⟨t, rfl⟩ := ru
    exact PySem.P.repr_of_int (of_decide_eq_true s1) ⟨.str _, H, I.tok _, ⟨_, rfl⟩, q⟩
  | str x =>
    obtain ⟨t, rfl⟩ := ru
    exact PySem.P.repr_of_str ⟨.str _, H, I.tok _, ⟨_, rfl⟩, q⟩ h4
  | ty _ => cases n <;> cases h1
  | @dk a ks vs xs nn e hl hh =>
    cases ru
    rcases hc with hc | hc | ⟨_, _, e2, hc⟩
    · exact go (.inl hc) _ rfl
    · exact go (.inr hc) _ rfl
    · cases e2
      cases n with
      | zero => cases h1
      | succ n =>
        have h1 : (ks.all keyE && xs.all (shE n)) = true := h1
        rw [Bool.and_eq_true] at h1
        obtain ⟨hz, hsys, us, kv, o, es, ep, ho, ex, hd, _, pr, _⟩ := dk_of I.hok e
        obtain ⟨as, bs, r1, r2, _, _⟩ := kv_reads I (at_reads I n) ks vs xs us es.toList hl hh h1.2 kv pr
        have dp : PyData.depthKv ((ks.map keyP).zip (pyAll xs)) + 1 ≤ n + 1 := by unfold py PyData.depth at s2; exact s2
        unfold py PyData.showable at s1
        unfold py PyData.shown at h4
        refine repr_flat ho ex.1 hd r1 r2 hsys s1 (by rw [fst_zip]; exact dictAll_take _ _ (keysB ks)) (by rw [snd_zip]; exact dictAll_take _ _ hc) hg (by omega) (fun h' u tk k => ⟨.str _, H, I.kept k, ⟨_, rfl⟩, ?_⟩) h4
        unfold py PyData.shown at q
        exact q
  | _ => cases ru; exact go (by rcases hc with hc | hc | ⟨_, _, e2, hc⟩; (exact .inl hc); (exact .inr hc); cases e2) _ rfl

section
variable {cls : Cl} {p : Addr → Prop} {ds ds' : Sts} {ta tb tc te tk tv : TE} {P PX PY PZ : D → Prop} {t : TA} {K : PySem.W.Frag}
theorem AtAll.rev {N : Addr → Prop} {H : Hp} : ∀ {vs : List V} {xs : List D}, AtAll cls N H vs xs → AtAll cls N H vs.reverse xs.reverse
  | _, [], .nil => .nil
  | _, _ :: _, .cons a t => by
    rw [List.reverse_cons, List.reverse_cons]
    exact (AtAll.rev t).append (.cons a .nil)
theorem ev_shE {d : D} {n : Nat} (h : Ev cls p te ds (· = d)) (hn : n ≤ 20) (hs : shE n d = true) (hz : szE n d ≤ 10000000) (hc : (py d).hasDict = false ∨ noL n d = true ∨ ∃ ks xs, d = .dk ks xs ∧ PyData.hasDictAll (pyAll xs) = false) : Ev cls p (tCB (rShE cls) (tCons te tNil)) ds (· = .str (py d).shown) :=
  ev_cb (ea1 h) fun N H vs xs W a ⟨x, ex, e⟩ Q q => by
    subst e
    subst ex
    cases a with
    | cons a b =>
      cases b
      exact ⟨N, _, _, n, rfl, a, hs, hn, hz, hc, q _ H _ rfl (Go.refl H) (.str _)⟩
theorem ev_rev {xs : List D} {tl th ts : TO} (h : Ev cls p te ds (· = .lst xs)) (hl : EvO cls p tl ds (· = none)) (hh : EvO cls p th ds (· = none)) (hs : EvO cls p ts ds (· = some (-1))) :
    Ev cls p (tRev K te tl th ts) ds (· = .lst xs.reverse) := fun pn N H0 ad σ H S Q q =>
  h pn N H0 ad σ H S _ fun x H1 d pd g1 a1 => hl pn N H0 ad σ H1 (S.mono g1) _ fun l H2 pl g2 => hh pn N H0 ad σ H2 (S.mono (g1.trans g2)) _ fun u H3 pu g3 => hs pn N H0 ad σ H3 (S.mono ((g1.trans g2).trans g3)) _ fun st H4 ps g4 => by
    subst pd
    have g := ((g1.trans g2).trans g3).trans g4
    have S4 := S.mono g
    have a4 := a1.mono S.hsub ((g2.trans g3).trans g4)
    cases a4 with
    | @lst a vs _ nn e hh =>
      refine ⟨pl, pu, ps, a, vs, rfl, .inl (.inl e), fun l hl => q _ _ _ rfl (g.trans (Go.new hl)) (.lst (fresh_hid S4.hwf hl) upd_same (AtAll.mono ?_ S4.hsub (Go.new hl)))⟩
      exact AtAll.rev hh
def rStr : List V → Hp → VK → Prop := fun xs H Q => ∃ i, xs = [V.int i] ∧ i.natAbs.log2 < 1920 ∧ Q (.str (toString i)) H
theorem kStr {X : Cx} : CallR X (.type "str") rStr := call_str_int
theorem ev_strI {i : Int} (h : Ev cls p te ds (· = .int i)) (hi : i.natAbs < 2 ^ 1900) : Ev cls p (tCB rStr (tCons te tNil)) ds (· = .str (toString i)) :=
  ev_cb (ea1 h) fun N H vs xs W a ⟨x, ex, e⟩ Q q => by
    subst e
    subst ex
    cases a with
    | cons a b =>
      cases b
      cases a
      exact ⟨i, rfl, Nat.lt_trans (PySem.Flt.log2_lt_of (by decide) hi) (by decide), q _ H _ rfl (Go.refl H) (.str _)⟩
theorem pe_disp1 {X : Cx} {pos : Pos} {k v : Expr} (hk : PE X k tk) (hv : PE X v tv) : PE X (.Dict [some k] [v] pos) (tDisp [(tk, tv)]) :=
  pe_disp (pps_cons hk hv pps_nil) (by rfl) (by rfl) (fun z => by cases z) (show 1 ≤ 15 by decide)
theorem ev_disp1 {i : Int} {d : D} (hk : Ev cls p tk ds (· = .int i)) (hv : Ev cls p tv ds (· = d)) : Ev cls p (tDisp [(tk, tv)]) ds (· = .dk [.inl i] [d]) := fun pn N H0 ad σ H S Q q => fun l hl => by
  have S1 := S.lay (o := .dK []) hl
  have npl : ¬ p l := fun z => (S.wf.pot l z).some hl
  refine hk pn _ H0 ad σ _ S1 _ fun x H1 dx px g1 a1 => ?_
  refine hv pn _ H0 ad σ H1 (S1.mono g1) _ fun y H2 dy py g2 a2 => ?_
  subst px
  subst py
  cases a1
  have e2 : H2 l = some (.dK []) := g2.ext l _ npl (g1.ext l _ npl upd_same)
  show H2 l = some (.dK []) ∧ _
  refine ⟨e2, [(.inl i, y)], rfl, (show 1 ≤ 15 by decide), q _ _ _ rfl (Go.chg (H1 := H) ((Go.new hl).trans (g1.trans g2)) hl fun a pa => (S.wf.pot a pa).some) ?_⟩
  refine .dk (vs := [y]) (fresh_hid S.hwf hl) upd_same rfl (.cons (a2.keep (fun a _ n z => n ?_) fun a o n e => ?_) .nil)
  · rcases z with z | z
    · exact .inl (.inl z)
    · exact .inr z
  · rw [upd_ne (fun z => n (.inl (.inr z)))]; exact e
end
end Lk

namespace Lk
open PySem PySem.Spec PyProof.Rows L2

/-! ### texts put together; i == j == k -/
def rTxt : R2 := fun v w H Q => ∃ a b, v = .str a ∧ w = .str b ∧ a.length + b.length ≤ sizeLine ∧ Q (.str (a ++ b)) H
theorem opAddS {X : Cx} : OpR X (binaryOp .Add) rTxt := op_add_str
section
variable {cls : Cl} {p : Addr → Prop} {ds ds' : Sts} {ta tb tc te : TE} {P PX PY PZ : D → Prop} {t : TA} {tt : TT} {B : Bool → Prop} {K : PySem.W.Frag} {ts : TS} {nx bk ct : Sts → Prop} {rt : D → Prop}
theorem ev_txt {a b : Str} (h : Ev cls p ta ds (· = .str a)) (k : Ev cls p tb ds (· = .str b)) (hz : a.length + b.length ≤ 1000000) : Ev cls p (tOp rTxt ta tb) ds (· = .str (a ++ b)) :=
  (ev_op (P := (· = .str (a ++ b))) h k fun N H x y dx dy W ax ay px py Q q => by
    subst px py
    cases ax; cases ay
    exact ⟨a, b, rfl, rfl, Nat.le_trans hz (by decide), q _ H _ rfl (Go.refl H) (.str _)⟩)
theorem ev_chEq {i j k : Int} (ha : Ev cls p ta ds (· = .int i)) (hb : Ev cls p tb ds (· = .int j)) (hc : Ev cls p tc ds (· = .int k)) :
    Ev cls p (tChain (rOr rEq (rEqD K)) (rOr rEq (rEqD K)) ta tb tc) ds (· = .bl (decide (i = j) && decide (j = k))) := by
  intro pn N H0 ad σ H S Q q
  refine ha pn N H0 ad σ H S _ fun x H1 dx px g1 a1 => ?_
  refine hb pn N H0 ad σ H1 (S.mono g1) _ fun y H2 dy py g2 a2 => ?_
  refine (rv_l (rv_eqI (PX := (· = .int i)) (PY := (· = .int j)) intP intP)) (hid N ad ds) H2 x y dx dy (S.mono (g1.trans g2)).hwf (a1.mono S.hsub g2) a2 px py _ fun z H3 d hd g3 a3 => ?_
  obtain ⟨i', j', e1, e2, e⟩ := hd
  cases e1; cases e2
  subst e
  cases a3
  refine ⟨_, rfl, ?_⟩
  have gg := (g1.trans g2).trans g3
  by_cases h : i = j
  · rw [if_pos (decide_eq_true h)]
    refine hc pn N H0 ad σ H3 (S.mono gg) _ fun w H4 dw pw g4 a4 => ?_
    refine (rv_l (rv_eqI (PX := (· = .int j)) (PY := (· = .int k)) intP intP)) (hid N ad ds) H4 y w dy dw (S.mono (gg.trans g4)).hwf (a2.mono S.hsub (g3.trans g4)) a4 py pw _ fun z H5 d hd g5 a5 => ?_
    obtain ⟨j', k', e1, e2, e⟩ := hd
    cases e1; cases e2
    subst e
    rw [decide_eq_true h, Bool.true_and] at q
    exact q _ H5 _ rfl ((gg.trans g4).trans g5) a5
  · rw [if_neg (show ¬ decide (i = j) = true by rw [decide_eq_false h]; exact Bool.false_ne_true)]
    rw [decide_eq_false h, Bool.false_and] at q
    exact q _ H3 _ rfl gg (.bl false)

/-! ### an own list is read as data -/
/-- no lists in it -/
def nlD : Nat → D → Bool
  | _, .non => true
  | _, .bl _ => true
  | _, .int _ => true
  | _, .str _ => true
  | _, .ty _ => true
  | n + 1, .tup xs => xs.all (nlD n)
  | n + 1, .dk _ xs => xs.all (nlD n)
  | n + 1, .obj _ _ xs => xs.all (nlD n)
  | _, _ => false
theorem nl_keep {N M : Addr → Prop} {H : Hp} (hM : ∀ a, M a → N a ∨ ∃ vs, H a = some (.lst vs)) : ∀ (n : Nat) (d : D) (v : V), nlD n d = true → At cls N H v d → At cls M H v d := by
  have out : ∀ {a : Addr} {o : HO}, ¬ N a → H a = some o → (∀ vs, o ≠ .lst vs) → ¬ M a := fun {a o} hn e ho hm => (hM a hm).elim hn fun ⟨vs, z⟩ => by
    rw [e] at z
    exact ho vs (Option.some.inj z)
  have all : ∀ (n : Nat), (∀ (d : D) (v : V), nlD n d = true → At cls N H v d → At cls M H v d) → ∀ (xs : List D) (vs : List V), xs.all (nlD n) = true → AtAll cls N H vs xs → AtAll cls M H vs xs := by
    intro n ih xs
    induction xs with
    | nil => intro vs _ a; cases a; exact .nil
    | cons x xs ihx =>
      intro vs h a
      rw [List.all_cons, Bool.and_eq_true] at h
      cases a with
      | cons a1 a2 => exact .cons (ih x _ h.1 a1) (ihx _ h.2 a2)
  intro n
  induction n with
  | zero =>
    intro d v h a
    cases a with
    | non => exact .non
    | bl b => exact .bl b
    | int i => exact .int i
    | str x => exact .str x
    | ty x => exact .ty x
    | _ => cases h
  | succ n ih =>
    intro d v h a
    cases a with
    | non => exact .non
    | bl b => exact .bl b
    | int i => exact .int i
    | str x => exact .str x
    | ty x => exact .ty x
    | tup hn e hh => exact .tup (out hn e fun _ z => by cases z) e (all n ih _ _ h hh)
    | dk hn e hl hh => exact .dk (out hn e fun _ z => by cases z) e hl (all n ih _ _ h hh)
    | obj hn e hl hh => exact .obj (out hn e fun _ z => by cases z) e hl (all n ih _ _ h hh)
    | _ => cases h
theorem et_view {i : Nat} {xs : List D} (e : ds[i]? = some (some (Slot.own xs))) (h : ET cls p tt (ds.set i (some (Slot.dat (.lst xs)))) B) : ET cls p tt ds B := fun pn N H0 ad σ H S Q q =>
  h pn N H0 ad σ H (S.freeze e) Q q
theorem ev_view {i : Nat} {xs : List D} (n : Nat) (e : ds[i]? = some (some (Slot.own xs))) (h : Ev cls p te (ds.set i (some (Slot.dat (.lst xs)))) P) (hn : ∀ d, P d → nlD n d = true) : Ev cls p te ds P := fun pn N H0 ad σ H S Q q =>
  h pn N H0 ad σ H (S.freeze e) Q fun v H' d pd g a => q v H' d pd g (nl_keep (fun b hb => by
    rcases hb with z | ⟨j, ys, ej, rfl⟩
    · exact .inl (.inl z)
    · obtain ⟨_, h2, _, vs, h4, _⟩ := S.own j ys ej
      exact .inr ⟨vs, g.ext _ _ (fun z => h2 (S.wf.sub _ z)) h4⟩) n d v (hn d pd) a)

/-! ### a def that passes a row on as a new list, or as a tuple -/
def spPas (cls : Cl) : Sp := fun vs H Q _ => ∃ (p N : Addr → Prop) (a : Addr) (k : Bool) (ys : List D), Wf p N H ∧ AtAll cls N H vs [.adr a, sq k ys] ∧ p a ∧
  (∀ l H' ws, Go p H H' → H l = none → H' l = some (.lst ws) → AtAll cls (fun b => N b ∨ b = l) H' ws ys → Q (.ref l) H') ∧ ∀ v H', Go p H H' → At cls N H' v (.tup ys) → Q v H'
theorem sv_pas {ip i : Nat} {a : Addr} {k : Bool} {ys : List D} (e0 : ds[ip]? = some (some (Slot.dat (.adr a)))) (hp : p a) (h : Ev cls p te ds (· = sq k ys)) (hi : i < ds.length) (k1 : nx (ds.set i (some (Slot.own ys)))) (k2 : nx (ds.set i (some (Slot.dat (.tup ys))))) :
    Sv cls p (tAsg (tCall (spPas cls) [] E0 (tCons (tVar ip) (tCons te tNil))) (gName i)) ds nx rt bk ct := fun pn N H0 ad σ H S Dn n1 _ _ _ => by
    show (tCons (tVar ip) (tCons te tNil)) σ H fun vs H1 => spPas cls (vs ++ []) H1 (fun x H2 => Dn.nx (σ.set i (some x)) H2) E0
    refine (ea2 (ev_var e0) h) pn N H0 ad σ H S _ fun vs H1 xs ⟨x, y, ex, ey, exs⟩ g1 a1 => ?_
    subst ex ey exs
    show spPas cls (vs ++ []) H1 _ E0
    rw [List.append_nil]
    exact ⟨p, hid N ad ds, a, k, ys, (S.mono g1).hwf, a1, hp, fun l H2 ws g2 hl hv av => n1 _ _ H2 _ k1 (S.adopt (g1.trans g2) (fresh_of S.wf g1 hl) hv av hi), fun v H2 g2 av => n1 ad _ H2 _ k2 ((S.mono (g1.trans g2)).put av)⟩
theorem ev_pas {ip : Nat} {a : Addr} {k : Bool} {ys : List D} (e0 : ds[ip]? = some (some (Slot.dat (.adr a)))) (hp : p a) (h : Ev cls p te ds (· = sq k ys)) :
    Ev cls p (tCall (spPas cls) [] E0 (tCons (tVar ip) (tCons te tNil))) ds (fun d => ∃ l, d = sq l ys) := fun pn N H0 ad σ H S Q q => by
    refine (ea2 (ev_var e0) h) pn N H0 ad σ H S _ fun vs H1 xs ⟨x, y, ex, ey, exs⟩ g1 a1 => ?_
    subst ex ey exs
    show spPas cls (vs ++ []) H1 _ E0
    rw [List.append_nil]
    have S1 := S.mono g1
    exact ⟨p, hid N ad ds, a, k, ys, S1.hwf, a1, hp, fun l H2 ws g2 hl hv av => q _ H2 _ ⟨true, rfl⟩ (g1.trans g2) (.lst (fresh_hid S1.hwf hl) hv (av.less fun b z => .inl z)), fun v H2 g2 av => q _ H2 _ ⟨false, rfl⟩ (g1.trans g2) av⟩
theorem ev_isTu {d : D} (h : Ev cls p ta ds (· = d)) (hb : builtD d = true) : Ev cls p (tCB (cOr (rIsi K) (rIsiT K)) (tCons ta (tCons (tC (.ty "tuple")) tNil))) ds (· = .bl (isTup d)) :=
  (ev_cb (ea2 h ev_ty) (rc_l (rc_isi fun xs ⟨x, y, hx, hy, e⟩ => ⟨x, _, by rw [e, hy], by rw [hx]; exact hb, isB_tuple (by rw [hx]; exact hb)⟩))).mono fun r ⟨d', b, ⟨x, y, hx, hy, e⟩, h2, h3⟩ => by
    cases e
    subst hx
    rw [isB_tuple hb] at h2
    cases h2
    exact h3
theorem et_neIE {i j : Int} (h : Ev cls p tl ds (· = .int i)) (k : Ev cls p tr ds (· = .int j)) : ET cls p (tTest (tOp (rOr rNe (rNeD K)) tl tr)) ds (· = !decide (i = j)) :=
  (et_test (ev_op h k (rv_l (rv_neI intP intP))) blP_S).mono fun b ⟨i', j', e1, e2, e⟩ => by cases e1; cases e2; exact D.bl.inj e
theorem ev_iI {f : Int → Int → Int} {i j : Int} (h : Ev cls p tl ds (· = .int i)) (k : Ev cls p tr ds (· = .int j)) : Ev cls p (tOp (rI0 fun i j => .int (f i j)) tl tr) ds (· = .int (f i j)) :=
  (ev_op h k (rv_I0 intP intP)).mono fun d ⟨x, y, e1, e2, e⟩ => by cases e1; cases e2; exact e
theorem e_ins {PQ : D → Prop} {xs ys : List D} (h1 : Ev cls p ta ds (· = .lst xs)) (hq : Ev cls p te ds PQ) (h2 : Ev cls p tb ds (· = .lst ys)) (l1 : xs.length ≤ 1000) (l2 : ys.length ≤ 1000) :
    Ev cls p (tOp (rOr (rI0 fun i j => .int (i + j)) rCat) (tOp (rOr (rI0 fun i j => .int (i + j)) rCat) ta (tLst (tCons te tNil))) tb) ds (fun d => ∃ q, PQ q ∧ d = .lst (xs ++ [q] ++ ys)) :=
  (ev_op (PX := fun d => ∃ q, PQ q ∧ d = .lst (xs ++ [q])) ((ev_op h1 (ev_lst (ea1 hq) fun zs ⟨q, _, e⟩ => by rw [e]; show 1 ≤ 100000; decide) (rv_r (rv_cat fun dx dy hx ⟨zs, ⟨q, _, e⟩, hy⟩ => ⟨xs, zs, hx, hy, by rw [e]; show xs.length + 1 ≤ 100000; omega⟩))).mono fun d ⟨as, bs, e1, ⟨zs, ⟨q, pq, e2⟩, e3⟩, e⟩ => ⟨q, pq, by rw [e, ← D.lst.inj e1, D.lst.inj e3, e2]⟩) h2
    (rv_r (rv_cat fun dx dy ⟨q, _, hx⟩ hy => ⟨_, ys, hx, hy, by rw [List.length_append]; show xs.length + 1 + _ ≤ 100000; omega⟩))).mono fun d ⟨as, bs, ⟨q, pq, e1⟩, e2, e⟩ => ⟨q, pq, by rw [e, D.lst.inj e1, ← D.lst.inj e2]⟩
theorem EvO.mono {to : TO} {O O' : Option Int → Prop} (h : EvO cls p to ds O) (k : ∀ o, O o → O' o) : EvO cls p to ds O' := fun pn N H0 ad σ H S Q q => h pn N H0 ad σ H S Q fun o H' ho => q o H' (k o ho)
theorem e_take {xs : List D} {i : Int} (h : Ev cls p ta ds (· = .lst xs)) (hi : Ev cls p tb ds (· = .int i)) (h0 : 0 ≤ i) : Ev cls p (tSl (rSlL K) ta tNoPart (tPart tb)) ds (· = .lst (xs.take i.toNat)) :=
  (ev_slL h eo_none (eo_int hi) fun d e => ⟨xs, e⟩).mono fun d ⟨ys, lo, hi, e1, e2, e3, e⟩ => by
    subst e2 e3
    rw [e, D.lst.inj e1, cut_take h0]
theorem e_drop {xs : List D} {i : Int} (h : Ev cls p ta ds (· = .lst xs)) (hi : Ev cls p tb ds (· = .int i)) (h0 : 0 ≤ i) : Ev cls p (tSl (rSlL K) ta (tPart tb) tNoPart) ds (· = .lst (xs.drop i.toNat)) :=
  (ev_slL h (eo_int hi) eo_none fun d e => ⟨xs, e⟩).mono fun d ⟨ys, lo, hi, e1, e2, e3, e⟩ => by
    subst e2 e3
    rw [e, D.lst.inj e1, cut_drop h0]
/-- a + b, a new list -/
theorem ef_cat {xs ys : List D} (h : Ev cls p ta ds (· = .lst xs)) (k : Ev cls p tb ds (· = .lst ys)) (hz : xs.length + ys.length ≤ 100000) : EvF cls p (tOp (rOr (rI0 fun i j => .int (i + j)) rCat) ta tb) ds (· = xs ++ ys) := fun pn N H0 ad σ H S Q q =>
  h pn N H0 ad σ H S _ fun v H1 d e g1 a1 => k pn N H0 ad σ H1 (S.mono g1) _ fun w H2 d' e' g2 a2 => by
    subst e e'
    cases a1.mono S.hsub g2 with
    | @lst l vs _ n r at_ =>
      cases a2 with
      | @lst m ws _ n2 r2 at2 =>
        refine .inr ⟨l, m, vs, ws, rfl, rfl, r, r2, ?_, fun l' e => q l' _ _ _ rfl ((g1.trans g2).trans (Go.new e)) (fresh_of S.wf (g1.trans g2) e) upd_same (out_of (at_.append at2) e)⟩
        rw [at_.length, at2.length]
        exact Nat.le_trans hz (by decide)
/-- sorted of whole numbers that are not known -/
theorem ev_sortedP {PA : List Int → Prop} (h : Ev cls p te ds (fun d => ∃ a, PA a ∧ d = row true a)) (hl : ∀ a, PA a → a.length < 64) : Ev cls p (tCB (rSortedQ K) (tCons te tNil)) ds (fun d => ∃ a b : List Int, PA a ∧ b.Perm a ∧ b.Pairwise (· ≤ ·) ∧ d = row true b) := fun pn N H0 ad σ H S Q q => by
  refine (ea1 h) pn N H0 ad σ H S _ fun vs H1 ys ⟨x, ⟨a, pa, ex⟩, ey⟩ g1 a1 => ?_
  subst ex ey
  cases a1 with
  | cons av b =>
    cases b
    cases av with
    | @lst r ws _ nn e aa =>
      have ew : ws = a.map V.int := aa.ints
      subst ew
      exact ⟨r, a, rfl, .inl (.inl (.inl e)), hl a pa, fun ns' l pm pw e => q _ _ _ ⟨a, ns', pa, pm, pw, rfl⟩ (g1.trans (Go.new e)) (.lst (fresh_hid (S.mono g1).hwf e) upd_same (atAll_ints ns'))⟩
theorem ev_t1 {x : D} (h : Ev cls p ta ds (· = x)) : Ev cls p (tTup (tCons ta tNil)) ds (· = .tup [x]) := ev_tupE (ea_consE h ea_nilE) (show 1 ≤ 100000 by decide)
theorem ev_t2 {x y : D} (h : Ev cls p ta ds (· = x)) (k : Ev cls p tb ds (· = y)) : Ev cls p (tTup (tCons ta (tCons tb tNil))) ds (· = .tup [x, y]) := ev_tupE (ea_consE h (ea_consE k ea_nilE)) (show 2 ≤ 100000 by decide)
theorem ev_t3 {x y z : D} (h : Ev cls p ta ds (· = x)) (k : Ev cls p tb ds (· = y)) (l : Ev cls p te ds (· = z)) : Ev cls p (tTup (tCons ta (tCons tb (tCons te tNil)))) ds (· = .tup [x, y, z]) := ev_tupE (ea_consE h (ea_consE k (ea_consE l ea_nilE))) (show 3 ≤ 100000 by decide)
end
/-! ### data that can be shown, with its size -/
def gd (n B : Nat) (d : D) : Prop := shE n d = true ∧ szE n d ≤ B ∧ (py d).hasDict = false
theorem gd.mono {n B B' : Nat} {d : D} (h : gd n B d) (hb : B ≤ B') : gd n B' d := ⟨h.1, Nat.le_trans h.2.1 hb, h.2.2⟩
theorem gdI (n : Nat) {i : Int} (h : i.natAbs < 2 ^ 1900) : gd n 30000 (.int i) := by
  cases n <;> exact ⟨decide_eq_true h, Nat.le_refl _, rfl⟩
theorem gdS (n : Nat) {x : Str} (h : (reprText x).length ≤ 30000) : gd n 30000 (.str x) := by
  cases n <;> exact ⟨decide_eq_true h, Nat.le_refl _, rfl⟩
theorem gdN (n : Nat) : gd n 30000 .non := by cases n <;> exact ⟨rfl, Nat.le_refl _, rfl⟩
theorem gdB (n : Nat) (b : Bool) : gd n 30000 (.bl b) := by cases n <;> exact ⟨rfl, Nat.le_refl _, rfl⟩
theorem dict_all : ∀ xs : List D, (∀ x ∈ xs, (py x).hasDict = false) → PyData.hasDictAll (pyAll xs) = false
  | [], _ => rfl
  | x :: xs, h => by
    unfold pyAll PyData.hasDictAll
    rw [h x (List.mem_cons_self ..), dict_all xs fun y hy => h y (List.mem_cons_of_mem _ hy)]
    rfl
theorem sum_le : ∀ (n B : Nat) (xs : List D), (∀ x ∈ xs, szE n x ≤ B) → (xs.map fun x => szE n x + 2).sum ≤ xs.length * (B + 2)
  | _, _, [], _ => by rw [List.map_nil, List.sum_nil]; exact Nat.zero_le _
  | n, B, x :: xs, h => by
    have h1 := h x (List.mem_cons_self ..)
    have h2 := sum_le n B xs fun y hy => h y (List.mem_cons_of_mem _ hy)
    rw [List.map_cons, List.sum_cons, List.length_cons, Nat.succ_mul]
    omega
theorem gd_sq {n B m : Nat} {xs : List D} (k : Bool) (hx : ∀ x ∈ xs, gd n B x) (hl : xs.length ≤ m) : gd (n + 1) (4 + m * (B + 2)) (sq k xs) := by
  have hs := sum_le n B xs fun x h => (hx x h).2.1
  have hm : xs.length * (B + 2) ≤ m * (B + 2) := Nat.mul_le_mul_right _ hl
  have hd := dict_all xs fun x h => (hx x h).2.2
  cases k with
  | true => exact ⟨List.all_eq_true.mpr fun x h => (hx x h).1, by show 4 + _ ≤ _; omega, by show (py (.lst xs)).hasDict = false; unfold py PyData.hasDict; exact hd⟩
  | false => exact ⟨List.all_eq_true.mpr fun x h => (hx x h).1, by show 4 + _ ≤ _; omega, by show (py (.tup xs)).hasDict = false; unfold py PyData.hasDict; exact hd⟩
theorem mem1 {P : D → Prop} {a : D} (h : P a) : ∀ x ∈ [a], P x := fun x hx => by rw [List.mem_singleton.mp hx]; exact h
theorem mem2 {P : D → Prop} {a b : D} (h : P a) (k : P b) : ∀ x ∈ [a, b], P x := fun x hx => (List.mem_cons.mp hx).elim (fun e => by rw [e]; exact h) (mem1 k x)
theorem mem3 {P : D → Prop} {a b c : D} (h : P a) (k : P b) (l : P c) : ∀ x ∈ [a, b, c], P x := fun x hx => (List.mem_cons.mp hx).elim (fun e => by rw [e]; exact h) (mem2 k l x)
theorem mem_app {P : D → Prop} {xs ys : List D} (h : ∀ x ∈ xs, P x) (k : ∀ x ∈ ys, P x) : ∀ x ∈ xs ++ ys, P x := fun x hx => (List.mem_append.mp hx).elim (h x) (k x)
theorem toString_repr {i : Int} (h : i.natAbs < 2 ^ 1900) : (reprText (toString i : Str)).length ≤ 30000 := by
  have hl := (int_show i h).2
  have hc : ∀ c ∈ (toString i : Str).cps.toList, c < 16 ^ 8 := by
    intro c hc
    have e : (toString i : Str) = ⟨((toString i).toList.map Char.toNat).toArray⟩ := PySem.Str.ofString_eq_toList _
    rw [e] at hc
    obtain ⟨ch, _, rfl⟩ := List.mem_map.mp hc
    have := ch.val.toNat_lt
    show ch.val.toNat < 16 ^ 8
    omega
  have := PySem.StrLaws.reprText_len _ hc
  omega
end Lk

namespace Lk
open PySem PySem.Spec PyProof.Rows L2 LiI

/-! ### dicts of whole numbers -/
def kvI (kvs : List (Int × Int)) : List (Key × V) := kvs.map fun q => (Sum.inl q.1, V.int q.2)
def getI (kvs : List (Int × Int)) (k : Int) : Option Int := (kvs.find? fun q => decide (q.1 = k)).map (·.2)
def putI (kvs : List (Int × Int)) (k v : Int) : List (Int × Int) := if (kvs.any fun q => decide (q.1 = k)) = true then kvs.map (fun q => if q.1 = k then (q.1, v) else q) else kvs ++ [(k, v)]
theorem inl_dec (a b : Int) : decide ((Sum.inl a : Key) = Sum.inl b) = decide (a = b) := by
  by_cases e : a = b
  · rw [e, decide_eq_true rfl, decide_eq_true rfl]
  · rw [decide_eq_false e, decide_eq_false fun z => e (Sum.inl.inj z)]
theorem valV_kv (k : Int) : ∀ kvs : List (Int × Int), valV (kvI kvs) (Sum.inl k) = (getI kvs k).map V.int
  | [] => rfl
  | q :: kvs => by
    by_cases e : q.1 = k
    · have h1 : valV (kvI (q :: kvs)) (Sum.inl k) = some (V.int q.2) := valV_pos (p := (Sum.inl q.1, V.int q.2)) (r := kvI kvs) (show (Sum.inl q.1 : Key) = Sum.inl k by rw [e])
      have h2 : getI (q :: kvs) k = some q.2 := by
        unfold getI
        rw [List.find?_cons, decide_eq_true e]
        rfl
      rw [h1, h2]
      rfl
    · have h1 : valV (kvI (q :: kvs)) (Sum.inl k) = valV (kvI kvs) (Sum.inl k) := valV_neg (p := (Sum.inl q.1, V.int q.2)) (r := kvI kvs) (fun z => e (Sum.inl.inj z))
      have h2 : getI (q :: kvs) k = getI kvs k := by
        unfold getI
        rw [List.find?_cons, decide_eq_false e]
      rw [h1, h2, valV_kv k kvs]
theorem putK_kv (kvs : List (Int × Int)) (k v : Int) : putK (kvI kvs) (Sum.inl k) (V.int v) = kvI (putI kvs k v) := by
  have ha : ((kvI kvs).any fun kv => decide (kv.1 = (Sum.inl k : Key))) = kvs.any fun q => decide (q.1 = k) := by
    unfold kvI
    rw [List.any_map]
    congr 1
    funext q
    exact inl_dec q.1 k
  unfold putK putI
  rw [ha]
  by_cases h : (kvs.any fun q => decide (q.1 = k)) = true
  · rw [if_pos h, if_pos h]
    unfold kvI
    rw [List.map_map, List.map_map]
    refine List.map_congr_left fun q _ => ?_
    show (if (Sum.inl q.1 : Key) = Sum.inl k then ((Sum.inl q.1 : Key), V.int v) else (Sum.inl q.1, V.int q.2)) = (Sum.inl (if q.1 = k then (q.1, v) else q).1, V.int (if q.1 = k then (q.1, v) else q).2)
    by_cases e : q.1 = k
    · rw [if_pos (by rw [e]), if_pos e]
    · rw [if_neg (fun z => e (Sum.inl.inj z)), if_neg e]
  · rw [if_neg h, if_neg h]
    unfold kvI
    rw [List.map_append]
    rfl
theorem kvI_len (kvs : List (Int × Int)) : (kvI kvs).length = kvs.length := List.length_map _
theorem putI_len (kvs : List (Int × Int)) (k v : Int) : (putI kvs k v).length ≤ kvs.length + 1 := by
  unfold putI
  split
  · rw [List.length_map]; omega
  · rw [List.length_append]; exact Nat.le_refl _
def pairD (q : Int × Int) : D := .tup [.int q.1, .int q.2]

section
variable {cls : Cl} {p N : Addr → Prop} {pn : List (V × D)} {H0 H H' : Hp} {ad : Nat → Addr} {σ : L2.St} {ds : Sts} {ta tb te tk tx : TE} {P : D → Prop} {tt : TT} {B : Bool → Prop} {ts tu : TS} {nx nx' bk ct : Sts → Prop} {rt : D → Prop} {K : PySem.W.Frag}
theorem hid_mut {i : Nat} {l : Addr} {c : Con} : ∀ b, hid N (fun j => if j = i then l else ad j) (ds.set i (some (Slot.mut c))) b → hid N ad ds b := fun b h => by
  rcases h with h | ⟨j, xs, e, q⟩
  · exact .inl h
  · rcases get_set e with ⟨_, z, _⟩ | ⟨ne, e⟩
    · cases z
    · exact .inr ⟨j, xs, e, by simpa only [if_neg (Ne.symm ne)] using q⟩
theorem Sta.putMut {i : Nat} {l : Addr} {v : V} {c : Con} (E : Sta cls p pn N H0 ad H σ ds) (hi : i < ds.length) (hN : N l) (hp : ¬ p l) (h0 : H0 l = none) (hm : ∀ (j : Nat) (c' : Con), ds[j]? = some (some (Slot.mut c')) → j ≠ i → ad j ≠ l) (hc : ConAt cls (hid N ad ds) H v l c) :
    Sta cls p pn N H0 (fun j => if j = i then l else ad j) H (σ.set i (some v)) (ds.set i (some (Slot.mut c))) := by
  refine ⟨E.wf, E.go, by rw [List.length_set, List.length_set]; exact E.len, fun j x e => ?_, fun j xs e => ?_, fun q hq => (E.pin q hq).less hid_mut, fun a b xs ys e1 e2 q => ?_, fun j c' e => ?_, fun a b c1 c2 e1 e2 q => ?_⟩
  · rcases get_set e with ⟨rfl, z, _⟩ | ⟨ne, e⟩
    · cases z
    · obtain ⟨w, h1, h2⟩ := E.dat j x e
      exact ⟨w, by rw [List.getElem?_set_ne ne]; exact h1, h2.less hid_mut⟩
  · rcases get_set e with ⟨rfl, z, _⟩ | ⟨ne, e⟩
    · cases z
    · obtain ⟨h1, h2, h3, vs, h4, h5⟩ := E.own j xs e
      simp only [if_neg (Ne.symm ne)]
      exact ⟨by rw [List.getElem?_set_ne ne]; exact h1, h2, h3, vs, h4, h5.less hid_mut⟩
  · rcases get_set e1 with ⟨_, z, _⟩ | ⟨n1, e1⟩
    · cases z
    · rcases get_set e2 with ⟨_, z, _⟩ | ⟨n2, e2⟩
      · cases z
      · simp only [if_neg (Ne.symm n1), if_neg (Ne.symm n2)] at q
        exact E.inj a b xs ys e1 e2 q
  · rcases get_set e with ⟨rfl, z, _⟩ | ⟨ne, e⟩
    · cases z
      simp only [if_true]
      exact ⟨v, by rw [List.getElem?_set_self (by rw [E.len]; exact hi)], hN, hp, h0, hc.keep (fun b _ n z => n (hid_mut b z)) (fun _ _ _ e => e) fun _ e => e⟩
    · obtain ⟨w, h1, h2, h3, h4, h5⟩ := E.mt j c' e
      simp only [if_neg (Ne.symm ne)]
      exact ⟨w, by rw [List.getElem?_set_ne ne]; exact h1, h2, h3, h4, h5.keep (fun b _ n z => n (hid_mut b z)) (fun _ _ _ e => e) fun _ e => e⟩
  · rcases get_set e1 with ⟨rfl, _, _⟩ | ⟨n1, e1⟩
    · rcases get_set e2 with ⟨rfl, _, _⟩ | ⟨n2, e2⟩
      · rfl
      · simp only [if_true, if_neg (Ne.symm n2)] at q
        exact absurd q.symm (hm b c2 e2 (Ne.symm n2))
    · rcases get_set e2 with ⟨rfl, _, _⟩ | ⟨n2, e2⟩
      · simp only [if_true, if_neg (Ne.symm n1)] at q
        exact absurd q (hm a c1 e1 (Ne.symm n1))
      · simp only [if_neg (Ne.symm n1), if_neg (Ne.symm n2)] at q
        exact E.minj a b c1 c2 e1 e2 q
/-- what such a name holds changes -/
theorem Sta.chgMut {i : Nat} {c c' : Con} {o : HO} (E : Sta cls p pn N H0 ad H σ ds) (e : ds[i]? = some (some (Slot.mut c)))
    (hc : ∀ v, σ[i]? = some (some v) → ConAt cls (hid N ad ds) H v (ad i) c → ConAt cls (hid N ad (ds.set i none)) (upd H (ad i) o) v (ad i) c') :
    Sta cls p pn N H0 (fun j => if j = i then ad i else ad j) (upd H (ad i) o) σ (ds.set i (some (Slot.mut c'))) := by
  obtain ⟨v, h1, h2, h3, h4, h5⟩ := E.mt i c e
  have hi : i < ds.length := (List.getElem?_eq_some_iff.mp e).1
  have hs : i < σ.length := by rw [E.len]; exact hi
  have es : σ.set i (some v) = σ := by
    refine List.ext_getElem? fun j => ?_
    by_cases z : i = j
    · rw [← z, List.getElem?_set_self hs, h1]
    · rw [List.getElem?_set_ne z]
  have E1 := E.wipe1 (i := i) (o := some v)
  rw [es] at E1
  have nm : ∀ (j : Nat) (c' : Con), (ds.set i none)[j]? = some (some (Slot.mut c')) → ad j ≠ ad i := fun j c' ej z => by
    rcases get_set ej with ⟨_, z, _⟩ | ⟨ne, ej⟩
    · cases z
    · exact ne (E.minj j i c' c ej e z).symm
  have E2 := E1.turn (o := o) h2 h3 h4 nm
  have E3 := E2.putMut (i := i) (l := ad i) (v := v) (c := c') (by rw [List.length_set]; exact hi) h2 h3 h4 (fun j c' ej _ => nm j c' ej) (hc v h1 h5)
  rw [es, List.set_set] at E3
  exact E3
/-- name = {}: what follows works on it; at the end no name holds it -/
theorem sv_newTbl {i : Nat} (hi : i < ds.length) (h : Sv cls p tu (ds.set i (some (Slot.mut (.tbl [])))) nx rt noSt noSt) (hn : ∀ ds', nx ds' → ∀ (j : Nat) (c : Con), ds'[j]? ≠ some (some (Slot.mut c))) (h0 : ∀ (j : Nat) (c : Con), ds[j]? ≠ some (some (Slot.mut c))) :
    Sv cls p (tSeq (tAsg tDNewK (gName i)) tu) ds nx rt noSt noSt := fun pn N H0 ad σ H S Dn q1 q2 q3 q4 => fun l hl => by
  have SL := S.lay (o := .dK []) hl
  have npl : ¬ p l := fun z => (S.wf.pot l z).some hl
  have h0l : H0 l = none := by
    cases e : H0 l with
    | none => rfl
    | some o => rw [S.go.ext _ _ npl e] at hl; cases hl
  have SM := SL.putMut (i := i) (l := l) (v := .ref l) (c := .tbl []) hi (.inr rfl) npl h0l (fun j c e _ => absurd e (h0 j c)) ⟨rfl, upd_same⟩
  refine h pn _ H0 _ _ _ SM Dn (fun ad' σ' H' ds' z S' => ?_) (fun v H' d z g a => q2 v H' d z g (a.less fun b w => .inl w)) (fun _ _ _ _ z => z.elim) (fun _ _ _ _ z => z.elim)
  exact q1 ad' σ' H' ds' z (S'.lessN (fun b w => .inl w) S.wf.sub fun j c e => absurd e (hn ds' z j c))
/-- name[k] = v -/
theorem sv_dput {i : Nat} {kvs : List (Int × Int)} {k v : Int} (e : ds[i]? = some (some (Slot.mut (.tbl kvs)))) (hk : Ev cls p tk ds (· = .int k)) (hv : Ev cls p te ds (· = .int v)) (hz : kvs.length < 100000) (kn : nx (ds.set i (some (Slot.mut (.tbl (putI kvs k v)))))) :
    Sv cls p (sDPut (tVar i) tk te) ds nx rt bk ct := fun pn N H0 ad σ H S Dn q1 _ _ _ => by
  refine hv pn N H0 ad σ H S _ fun x H1 dx px g1 a1 => ?_
  have S1 := S.mono g1
  obtain ⟨v0, h1, _, hp, _, rfl, hH⟩ := S1.mt i _ e
  refine ⟨.ref (ad i), h1, hk pn N H0 ad σ H1 S1 _ fun y H2 dy py g2 a2 => ?_⟩
  subst px py
  cases a1; cases a2
  have hH2 : H2 (ad i) = some (.dK (kvI kvs)) := g2.ext _ _ hp hH
  refine ⟨ad i, _, rfl, DPut.k (k := Sum.inl k) (v := .int v) hH2 (by rw [kvI_len]; exact Nat.lt_of_lt_of_le hz (by decide)), q1 _ σ _ _ kn ((S1.mono g2).chgMut e fun w hw hc => ?_)⟩
  obtain ⟨e1, _⟩ := hc
  exact ⟨e1, by rw [upd_same, putK_kv]; rfl⟩
theorem ev_tget {i : Nat} {kvs : List (Int × Int)} {k d : Int} (e : ds[i]? = some (some (Slot.mut (.tbl kvs)))) (hk : Ev cls p tk ds (· = .int k)) (hx : Ev cls p tx ds (· = .int d)) : Ev cls p (tDGet2 (tVar i) tk tx) ds (· = .int ((getI kvs k).getD d)) := fun pn N H0 ad σ H S Q q => by
  obtain ⟨v, h1, _, hp, _, rfl, hH⟩ := S.mt i _ e
  refine ⟨.ref (ad i), h1, ad i, rfl, .inl ⟨_, .inl hH⟩, hk pn N H0 ad σ H S _ fun y H1 dy py g1 a1 => hx pn N H0 ad σ H1 (S.mono g1) _ fun z H2 dz pz g2 a2 => ?_⟩
  subst py pz
  cases a1; cases a2
  have hH2 : H2 (ad i) = some (.dK (kvI kvs)) := (g1.trans g2).ext _ _ hp hH
  refine ⟨_, DGet.k (k := Sum.inl k) hH2, ?_⟩
  rw [valV_kv]
  cases hg : getI kvs k with
  | none => exact q _ H2 _ (by rw [hg]; rfl) (g1.trans g2) (.int _)
  | some w => exact q _ H2 _ (by rw [hg]; rfl) (g1.trans g2) (.int _)
theorem ev_tsub {i : Nat} {kvs : List (Int × Int)} {k w : Int} (e : ds[i]? = some (some (Slot.mut (.tbl kvs)))) (hk : Ev cls p tk ds (· = .int k)) (hw : getI kvs k = some w) : Ev cls p (tDGet (tVar i) tk) ds (· = .int w) := fun pn N H0 ad σ H S Q q => by
  obtain ⟨v, h1, _, hp, _, rfl, hH⟩ := S.mt i _ e
  refine ⟨.ref (ad i), h1, hk pn N H0 ad σ H S _ fun y H1 dy py g1 a1 => ?_⟩
  subst py
  cases a1
  have hH1 : H1 (ad i) = some (.dK (kvI kvs)) := g1.ext _ _ hp hH
  refine ⟨ad i, .int w, rfl, ?_, q _ H1 _ rfl g1 (.int _)⟩
  have := DGet.k (k := Sum.inl k) hH1
  rw [valV_kv, hw] at this
  exact this
def rLenDct : List V → Hp → VK → Prop := fun vs H Q => ∃ b more, vs = [V.ref b] ∧ H b = some (.dK more) ∧ Q (.int more.length) H
theorem kLenDct {X : Cx} : CallR X (.builtin "len") rLenDct := call_lenD
theorem ev_tlen {i : Nat} {kvs : List (Int × Int)} (e : ds[i]? = some (some (Slot.mut (.tbl kvs)))) : Ev cls p (tCB rLenDct (tCons (tVar i) tNil)) ds (· = .int kvs.length) := fun pn N H0 ad σ H S Q q => by
  obtain ⟨v, h1, _, hp, _, rfl, hH⟩ := S.mt i _ e
  exact ⟨.ref (ad i), h1, ad i, kvI kvs, rfl, hH, by rw [kvI_len]; exact q _ H _ rfl (Go.refl H) (.int _)⟩
/-- list(name.items()) -/
theorem ef_items {i : Nat} {kvs : List (Int × Int)} (e : ds[i]? = some (some (Slot.mut (.tbl kvs)))) : EvF cls p (tListItems (tVar i)) ds (· = kvs.map pairD) := fun pn N H0 ad σ H S Q q => by
  obtain ⟨v, h1, _, hp, _, rfl, hH⟩ := S.mt i _ e
  refine ⟨.ref (ad i), h1, ad i, kvI kvs, rfl, hH, fun H' l ts hk hl ht hlt he hpp => ?_⟩
  refine q l H' _ _ rfl ⟨fun a o _ e => hk a o e, fun a _ ⟨x, y, e, r⟩ => ⟨x, y, hk a _ e, r⟩⟩ hl he ?_
  have gen : ∀ (ts : List Addr) (kvs : List (Int × Int)), (∀ t ∈ ts, H t = none) → l ∉ ts → Paired (fun (t : Addr) (q : Key × V) => H' t = some (.tup [kV q.1, q.2])) ts (kvI kvs) → AtAll cls (fun a => hid N ad ds a ∨ a = l) H' (ts.map V.ref) (kvs.map pairD) := by
    intro ts
    induction ts with
    | nil => intro kvs _ _ pp; cases kvs with
      | nil => exact .nil
      | cons _ _ => cases pp
    | cons t ts ih =>
      intro kvs h1 h2 pp
      cases kvs with
      | nil => cases pp
      | cons q kvs =>
        cases (show Paired _ (t :: ts) ((Sum.inl q.1, V.int q.2) :: kvI kvs) from pp) with
        | cons r rest =>
          refine .cons (.tup (vs := [.int q.1, .int q.2]) (fun z => ?_) r (.cons (.int _) (.cons (.int _) .nil))) (ih kvs (fun x hx => h1 x (List.mem_cons_of_mem _ hx)) (fun z => h2 (List.mem_cons_of_mem _ z)) rest)
          rcases z with z | z
          · exact S.hwf.dom t z (h1 t (List.mem_cons_self ..))
          · exact h2 (by rw [← z]; exact List.mem_cons_self ..)
  exact gen ts kvs ht hlt hpp
/-- sorted(name) -/
def rSortDct : List V → Hp → VK → Prop := fun vs H Q => ∃ (b : Addr) (more : List (Key × V)) (ns : List Int), vs = [.ref b] ∧ Rd H b (.dK more) ∧ more.map (·.1) = ns.map Sum.inl ∧ ns.length < 64 ∧
  ∀ (ms : List Int) (l : Addr), ms.Perm ns → ms.Pairwise (· ≤ ·) → H l = none → Q (.ref l) (upd H l (.lst (ms.map V.int)))
theorem kSortDct {X : Cx} (hc : X.calm = true) : CallR X (.builtin "sorted") rSortDct := call_sortedDI hc
theorem ev_tsort {i : Nat} {kvs : List (Int × Int)} (e : ds[i]? = some (some (Slot.mut (.tbl kvs)))) (hl : kvs.length < 64) : Ev cls p (tCB rSortDct (tCons (tVar i) tNil)) ds (fun d => ∃ ms : List Int, ms.Perm (kvs.map (·.1)) ∧ ms.Pairwise (· ≤ ·) ∧ d = row true ms) := fun pn N H0 ad σ H S Q q => by
  obtain ⟨v, h1, _, hp, _, rfl, hH⟩ := S.mt i _ e
  refine ⟨.ref (ad i), h1, ad i, kvI kvs, kvs.map (·.1), rfl, .inl hH, ?_, by rw [List.length_map]; exact hl, fun ms l pm pw hn => q _ _ _ ⟨ms, pm, pw, rfl⟩ (Go.new hn) (.lst (fresh_hid S.hwf hn) upd_same (atAll_ints ms))⟩
  unfold kvI
  rw [List.map_map, List.map_map]
  rfl

/-! ### sorted of a list of pairs; a dict of such a list -/
def rSortPr (K : PySem.W.Frag) : List V → Hp → VK → Prop := rSortedPO K
theorem kSortPr {X : Cx} {K : PySem.W.Frag} (h : X.K = K) : CallR X (.builtin "sorted") (rSortPr K) := by subst h; exact cr_sortedPO
theorem at_pairs {M : Addr → Prop} {H : Hp} : ∀ {bs : List (Int × Int)} {vs : List V}, AtAll cls M H vs (bs.map pairD) → ∀ x ∈ vs, ∃ t q, x = V.ref t ∧ ¬ M t ∧ H t = some (.tup [.int q.1, .int q.2]) ∧ q ∈ bs
  | [], _, .nil => fun x hx => nomatch hx
  | q :: bs, _, .cons a r => fun x hx => by
    rcases List.mem_cons.mp hx with rfl | hx
    · cases (show At cls M H x (.tup [.int q.1, .int q.2]) from a) with
      | tup n e hh =>
        cases hh with
        | cons a1 a2 =>
          cases a2 with
          | cons a2 a3 =>
            cases a1; cases a2; cases a3
            exact ⟨_, q, rfl, n, e, List.mem_cons_self ..⟩
    · obtain ⟨t, q', e1, n, e2, m⟩ := at_pairs r x hx
      exact ⟨t, q', e1, n, e2, List.mem_cons_of_mem _ m⟩
/-- the pair that stands at a value -/
def keyAt (H : Hp) : V → Int × Int
  | .ref t => match H t with
    | some (.tup [.int a, .int b]) => (a, b)
    | _ => (0, 0)
  | _ => (0, 0)
theorem keyAt_of {H : Hp} {t : Addr} {q : Int × Int} (e : H t = some (.tup [.int q.1, .int q.2])) : keyAt H (.ref t) = q := by
  show (match H t with | some (.tup [.int a, .int b]) => (a, b) | _ => ((0 : Int), (0 : Int))) = q
  rw [e]
theorem at_keys {M : Addr → Prop} {H : Hp} : ∀ {bs : List (Int × Int)} {vs : List V}, AtAll cls M H vs (bs.map pairD) → vs.map (keyAt H) = bs
  | [], _, .nil => rfl
  | q :: bs, _, .cons a r => by
    rw [List.map_cons, at_keys r]
    congr 1
    cases (show At cls M H _ (.tup [.int q.1, .int q.2]) from a) with
    | tup n e hh =>
      cases hh with
      | cons a1 a2 =>
        cases a2 with
        | cons a2 a3 =>
          cases a1; cases a2; cases a3
          exact keyAt_of e
theorem ef_sortPr {bs : List (Int × Int)} (h : Ev cls p te ds (· = .lst (bs.map pairD))) : EvF cls p (tCB (rSortPr K) (tCons te tNil)) ds (fun xs => ∃ zs : List (Int × Int), zs.Perm bs ∧ zs.Pairwise (fun a b => a.1 ≤ b.1) ∧ xs = zs.map pairD) := fun pn N H0 ad σ H S Q q => by
  refine (ea1 h) pn N H0 ad σ H S _ fun vs H1 xs ⟨x, ex, exs⟩ g1 a1 => ?_
  subst ex exs
  cases a1 with
  | cons av b =>
    cases b
    cases av with
    | @lst r ws _ nn e aa =>
      have ap := at_pairs aa
      have ak := at_keys aa
      refine ⟨r, ws, keyAt H1, rfl, .inl (.inl e), fun x hx => ?_, fun ys l hs hb hn => ?_⟩
      · obtain ⟨t, q', e1, _, e2, _⟩ := ap x hx
        exact ⟨t, e1, by rw [e1, keyAt_of e2]; exact e2⟩
      · have hpm : ys.Perm ws := hb.perm
        refine q l _ ys _ ⟨ys.map (keyAt H1), ?_, ?_, rfl⟩ (g1.trans (Go.new hn)) (fresh_of S.wf g1 hn) upd_same (out_of ?_ hn)
        · have := hpm.map (keyAt H1)
          rw [ak] at this
          exact this
        · refine List.pairwise_map.mpr (hs.imp fun {a b} hab => ?_)
          have := SrtO.lexB_no.mp hab
          omega
        · have gen : ∀ zs : List V, (∀ z ∈ zs, z ∈ ws) → AtAll cls (hid N ad ds) H1 zs ((zs.map (keyAt H1)).map pairD) := by
            intro zs
            induction zs with
            | nil => intro _; exact .nil
            | cons z zs ih =>
              intro hz
              obtain ⟨t, q', e1, n, e2, _⟩ := ap z (hz z (List.mem_cons_self ..))
              refine .cons ?_ (ih fun y hy => hz y (List.mem_cons_of_mem _ hy))
              rw [e1, keyAt_of e2]
              exact .tup (vs := [.int q'.1, .int q'.2]) n e2 (.cons (.int _) (.cons (.int _) .nil))
          exact gen ys fun z hz => hpm.mem_iff.mp hz
end
end Lk

namespace Lk
open PySem PySem.Spec PyProof.Rows L2 LiI

theorem room_1 {k : Nat} {A : Around} (h : Room k A) : A.units + 1 < cLine := by
  have := h.units
  omega
/-- [f(x) for x in xs if b(x)] -/
theorem ev_lcYF {cls : Cl} {p : Addr → Prop} {ds : Sts} {tu : TT} {wi : TI} {g : TG} {te : TE} {vs js : List Nat} {xs : List D} {b : D → Bool} {f : D → D} (hi : EI cls p wi ds (· = xs)) (hz : xs.length ≤ 100000) (hj : ∀ j ∈ js, j ∈ vs) (hw : (wipeD ds vs).map Lk.ownOf = ds.map Lk.ownOf)
    (h : ∀ x ∈ xs, ∃ ds', EvG cls p g js x (wipeD ds vs) ds' ∧ ds'.map Lk.ownOf = ds.map Lk.ownOf ∧ ET cls p tu ds' (· = b x) ∧ (b x = true → Ev cls p te ds' (· = f x))) :
    Ev cls p (tLc wi g tu te vs) ds (· = .lst ((xs.filter b).map f)) :=
  (ev_lcY (Pe := fun x y => y = f x) hi hz hj hw h).mono fun d ⟨ys, pp, e⟩ => by rw [e, paired_map pp]
section
variable {cls : Cl} {p N : Addr → Prop} {pn : List (V × D)} {H0 H H' : Hp} {ad : Nat → Addr} {σ : L2.St} {ds : Sts} {ta tb te tk tx : TE} {P : D → Prop} {tt : TT} {B : Bool → Prop} {ts tu : TS} {nx nx' bk ct : Sts → Prop} {rt : D → Prop} {K : PySem.W.Frag} {t : TA} {PA : List D → Prop}
/-! ### dict(pairs); what a dict that is data has -/
def rDctP (K : PySem.W.Frag) : List V → Hp → VK → Prop := fun vs H Q => ∃ (b : Addr) (qs : List Addr) (more : List (Key × V)), vs = [.ref b] ∧ SqL K H b (qs.map V.ref) ∧ Paired (fun c kv => SqT K H c [kV kv.1, kv.2]) qs more ∧ ∀ l, H l = none → Q (.ref l) (upd H l (.dK (mergeK [] more)))
theorem kDictP {X : Cx} {K : PySem.W.Frag} (h : X.K = K) (hc : X.calm = true) : CallR X (.type "dict") (rDctP K) := by subst h; exact call_dictP hc
theorem putK_new {kvs : List (Key × V)} {k : Key} {v : V} (h : k ∉ kvs.map (·.1)) : putK kvs k v = kvs ++ [(k, v)] := by
  unfold putK
  rw [if_neg]
  intro z
  obtain ⟨q, hq, e⟩ := List.any_eq_true.mp z
  exact h (by rw [← of_decide_eq_true e]; exact List.mem_map_of_mem hq)
theorem merge_new : ∀ (more acc : List (Key × V)), ((acc ++ more).map (·.1)).Nodup → mergeK acc more = acc ++ more
  | [], acc, _ => (List.append_nil acc).symm
  | q :: more, acc, h => by
    have h2 : q.1 ∉ acc.map (·.1) := fun z => by
      rw [List.map_append, List.nodup_append] at h
      exact h.2.2 _ z q.1 (by rw [List.map_cons]; exact List.mem_cons_self ..) rfl
    show mergeK (putK acc q.1 q.2) more = _
    rw [putK_new h2, merge_new more (acc ++ [q]) (by rw [List.append_assoc]; exact h), List.append_assoc]
    rfl
theorem kv_nodup {bs : List (Int × Int)} (h : (bs.map (·.1)).Nodup) : ((kvI bs).map (·.1)).Nodup := by
  unfold kvI
  rw [List.map_map]
  have : ((bs.map (·.1)).map (Sum.inl : Int → Key)).Nodup := List.Pairwise.map _ (fun a b hab z => hab (Sum.inl.inj z)) h
  rw [List.map_map] at this
  exact this
def dctD (bs : List (Int × Int)) : D := .dk (bs.map fun q => Sum.inl q.1) (bs.map fun q => .int q.2)
theorem ev_dictP {bs : List (Int × Int)} (h : Ev cls p te ds (· = .lst (bs.map pairD))) (nd : (bs.map (·.1)).Nodup) : Ev cls p (tCB (rDctP K) (tCons te tNil)) ds (· = dctD bs) := fun pn N H0 ad σ H S Q q => by
  refine (ea1 h) pn N H0 ad σ H S _ fun vs H1 xs ⟨x, ex, exs⟩ g1 a1 => ?_
  subst ex exs
  cases a1 with
  | cons av b =>
    cases b
    cases av with
    | @lst r ws _ nn e aa =>
      have gen : ∀ (bs : List (Int × Int)) (ws : List V), AtAll cls (hid N ad ds) H1 ws (bs.map pairD) → ∃ qs : List Addr, ws = qs.map V.ref ∧ Paired (fun c kv => SqT K H1 c [kV kv.1, kv.2]) qs (kvI bs) := by
        intro bs
        induction bs with
        | nil => intro ws a; cases a; exact ⟨[], rfl, .nil⟩
        | cons q bs ih =>
          intro ws a
          cases a with
          | cons a1 a2 =>
            obtain ⟨qs, e1, pp⟩ := ih _ a2
            cases (show At cls (hid N ad ds) H1 _ (.tup [.int q.1, .int q.2]) from a1) with
            | tup n e hh =>
              cases hh with
              | cons b1 b2 =>
                cases b2 with
                | cons b2 b3 =>
                  cases b1; cases b2; cases b3
                  exact ⟨_ :: qs, by rw [e1]; rfl, .cons (.inl (.inl e)) pp⟩
      obtain ⟨qs, e1, pp⟩ := gen bs ws aa
      refine ⟨r, qs, kvI bs, rfl, .inl (.inl (by rw [← e1]; exact e)), pp, fun l hl => q _ _ _ rfl (g1.trans (Go.new hl)) (.dk (vs := bs.map fun q => V.int q.2) (fresh_hid (S.mono g1).hwf hl) ?_ (by rw [List.length_map, List.length_map]) ?_)⟩
      · rw [upd_same, merge_new (kvI bs) [] (by rw [List.nil_append]; exact kv_nodup nd), List.nil_append]
        congr 2
        unfold kvI
        rw [List.zip_map']
      · have := atAll_ints (cls := cls) (N := hid N ad ds) (H := upd H1 l (.dK (mergeK [] (kvI bs)))) (bs.map (·.2))
        rw [List.map_map, List.map_map] at this
        exact this
theorem ev_dget2 {bs : List (Int × Int)} {k d : Int} (h : Ev cls p te ds (· = dctD bs)) (hk : Ev cls p tk ds (· = .int k)) (hx : Ev cls p tx ds (· = .int d)) : Ev cls p (tDGet2 te tk tx) ds (· = .int ((getI bs k).getD d)) := fun pn N H0 ad σ H S Q q => by
  refine h pn N H0 ad σ H S _ fun v H1 dv ev g1 a1 => ?_
  subst ev
  cases a1 with
  | @dk a ks vs _ nn e hl aa =>
    have ei : vs = (bs.map (·.2)).map V.int := by
      refine AtAll.ints (is := bs.map (·.2)) (cls := cls) (N := hid N ad ds) (H := H1) ?_
      rw [List.map_map]
      exact aa
    have ek : (bs.map fun q => (Sum.inl q.1 : Key)).zip vs = kvI bs := by
      rw [ei, List.map_map]
      unfold kvI
      rw [List.zip_map']
      rfl
    rw [ek] at e
    have np : ¬ p a := fun z => nn (S.hsub a z)
    refine ⟨a, rfl, .inl ⟨_, .inl e⟩, hk pn N H0 ad σ H1 (S.mono g1) _ fun y H2 dy py g2 a2 => hx pn N H0 ad σ H2 (S.mono (g1.trans g2)) _ fun z H3 dz pz g3 a3 => ?_⟩
    subst py pz
    cases a2; cases a3
    refine ⟨_, DGet.k (k := Sum.inl k) ((g2.trans g3).ext a _ np e), ?_⟩
    rw [valV_kv]
    cases hg : getI bs k with
    | none => exact q _ H3 _ (by rw [hg]; rfl) ((g1.trans g2).trans g3) (.int _)
    | some w => exact q _ H3 _ (by rw [hg]; rfl) ((g1.trans g2).trans g3) (.int _)

/-! ### list(range(a, b)) -/
theorem ev_rng2 {a b : Int} (h : Ev cls p ta ds (· = .int a)) (k : Ev cls p tb ds (· = .int b)) (ok : RgOk a b) : Ev cls p (tLstRg (tRg2 ta tb)) ds (· = row true ((List.range (b - a).toNat).map fun i : Nat => a + (i : Int))) := fun pn N H0 ad σ H S Q q =>
  h pn N H0 ad σ H S _ fun v H1 d e g1 a1 => k pn N H0 ad σ H1 (S.mono g1) _ fun w H2 d' e' g2 a2 => by
    subst e e'
    cases a1; cases a2
    refine ⟨a, b, rfl, rfl, ok, fun l hl => q _ _ _ rfl ((g1.trans g2).trans (Go.new hl)) (.lst (vs := ((List.range (b - a).toNat).map fun i : Nat => a + (i : Int)).map V.int) (fresh_hid (S.mono (g1.trans g2)).hwf hl) ?_ (atAll_ints _))⟩
    rw [upd_same]
    unfold rgV
    rw [List.map_map]
    rfl

/-! ### a tuple of a value and a list that nobody else has -/
def spBox (cls : Cl) (n : Nat) (pre : (Addr → Prop) → List D → Prop) (F : List D → D → List D → Prop) : Sp := fun vs H Q _ => ∃ (p N : Addr → Prop) (xs : List D), Wf p N H ∧ AtAll cls N H vs xs ∧ xs.length = n ∧ pre p xs ∧
  ∀ (a l : Addr) (H' : Hp) (v0 : V) (ws : List V) (s : D) (zs : List D), F xs s zs → Go p H H' → H a = none → H l = none → a ≠ l → H' a = some (.tup [v0, .ref l]) → At cls (fun b => N b ∨ b = l ∨ b = a) H' v0 s → H' l = some (.lst ws) → AtAll cls (fun b => N b ∨ b = l ∨ b = a) H' ws zs → Q (.ref a) H'
variable {n : Nat} {pre : (Addr → Prop) → List D → Prop} {F : List D → D → List D → Prop}
theorem ev_box (h : EvA cls p t ds PA) (hp : ∀ xs, PA xs → xs.length = n ∧ pre p xs) : Ev cls p (tCall (spBox cls n pre F) [] E0 t) ds (fun d => ∃ xs s zs, PA xs ∧ F xs s zs ∧ d = .tup [s, .lst zs]) := fun pn N H0 ad σ H S Q q => by
  refine h pn N H0 ad σ H S _ fun vs H1 xs px g1 a1 => ?_
  show spBox cls n pre F (vs ++ []) H1 _ E0
  rw [List.append_nil]
  have S1 := S.mono g1
  exact ⟨p, hid N ad ds, xs, S1.hwf, a1, (hp xs px).1, (hp xs px).2, fun a l H2 v0 ws s zs f g2 ha hl nl ea a0 el aa => q _ H2 _ ⟨xs, s, zs, px, f, rfl⟩ (g1.trans g2) (.tup (fresh_hid S1.hwf ha) ea (.cons (a0.less fun b z => .inl z) (.cons (.lst (fresh_hid S1.hwf hl) el (aa.less fun b z => .inl z)) .nil)))⟩
theorem ev_boxK {m : Nat} {is : List Nat} (h : EvA cls p t ds PA) (hp : ∀ xs, PA xs → xs.length = m ∧ (perm is xs).length = n ∧ pre p (perm is xs)) : Ev cls p (tKey (spBox cls n pre F) is m t) ds (fun d => ∃ xs s zs, PA xs ∧ F (perm is xs) s zs ∧ d = .tup [s, .lst zs]) := fun pn N H0 ad σ H S Q q => by
  refine h pn N H0 ad σ H S _ fun vs H1 xs px g1 a1 => ⟨a1.length.trans (hp xs px).1, ?_⟩
  have S1 := S.mono g1
  exact ⟨p, hid N ad ds, perm is xs, S1.hwf, AtAll.perm a1 is, (hp xs px).2.1, (hp xs px).2.2, fun a l H2 v0 ws s zs f g2 ha hl nl ea a0 el aa => q _ H2 _ ⟨xs, s, zs, px, f, rfl⟩ (g1.trans g2) (.tup (fresh_hid S1.hwf ha) ea (.cons (a0.less fun b z => .inl z) (.cons (.lst (fresh_hid S1.hwf hl) el (aa.less fun b z => .inl z)) .nil)))⟩
/-- something new is hidden -/
theorem Sta.hide {l : Addr} {o : HO} (E : Sta cls p pn N H0 ad H σ ds) (g : Go p H H') (hl : H l = none) (e : H' l = some o) : Sta cls p pn (fun b => N b ∨ b = l) H0 ad H' σ ds := by
  have nl : ∀ a, H a ≠ none → a ≠ l := fun a h z => h (by rw [z]; exact hl)
  have hd : ∀ a, H a ≠ none → ¬ hid N ad ds a → ¬ hid (fun a => N a ∨ a = l) ad ds a := fun a h n z => by
    rcases z with (z | z) | z
    · exact n (.inl z)
    · exact nl a h z
    · exact n (.inr z)
  have kk : ∀ a u, ¬ hid N ad ds a → H a = some u → H' a = some u := fun a u n e => g.ext a u (fun z => n (E.hsub a z)) e
  have E1 := E.mono g
  refine ⟨⟨fun a h => .inl (E.wf.sub a h), fun a h => ?_, E1.wf.pot⟩, E1.go, E.len, fun i d e => ?_, fun i xs e => ?_, fun q hq => (E.pin q hq).keep hd kk, E.inj, fun i c e => ?_, E.minj⟩
  · rcases h with h | h
    · exact E1.wf.dom a h
    · rw [h, e]; exact fun z => nomatch z
  · obtain ⟨v, h1, h2⟩ := E.dat i d e
    exact ⟨v, h1, h2.keep hd kk⟩
  · obtain ⟨h1, h2, h3, vs, h4, h5⟩ := E.own i xs e
    refine ⟨h1, fun z => ?_, h3, vs, g.ext _ _ (fun z => h2 (E.wf.sub _ z)) h4, h5.keep hd kk⟩
    rcases z with z | z
    · exact h2 z
    · exact nl _ (by rw [h4]; exact fun z => nomatch z) z
  · obtain ⟨v, h1, h2, h3, h4, h5⟩ := E.mt i c e
    exact ⟨v, h1, .inl h2, h3, h4, h5.keep hd kk fun u e => g.ext _ u h3 e⟩
/-- name = such a call: what follows works on it; at the end no name holds it -/
theorem sv_box {i : Nat} (hi : i < ds.length) (h : EvA cls p t ds PA) (hp : ∀ xs, PA xs → xs.length = n ∧ pre p xs) (k : ∀ xs s zs, PA xs → F xs s zs → Sv cls p tu (ds.set i (some (Slot.mut (.box s zs)))) nx rt noSt noSt)
    (hn : ∀ ds', nx ds' → ∀ (j : Nat) (c : Con), ds'[j]? ≠ some (some (Slot.mut c))) (h0 : ∀ (j : Nat) (c : Con), ds[j]? ≠ some (some (Slot.mut c))) : Sv cls p (tSeq (tAsg (tCall (spBox cls n pre F) [] E0 t) (gName i)) tu) ds nx rt noSt noSt := fun pn N H0 ad σ H S Dn q1 q2 q3 q4 => by
  show t σ H fun vs H1 => spBox cls n pre F (vs ++ []) H1 (fun x H2 => tu Dn (σ.set i (some x)) H2) E0
  refine h pn N H0 ad σ H S _ fun vs H1 xs px g1 a1 => ?_
  rw [List.append_nil]
  have S1 := S.mono g1
  refine ⟨p, hid N ad ds, xs, S1.hwf, a1, (hp xs px).1, (hp xs px).2, fun a l H2 v0 ws s zs f g2 ha hl nl ea a0 el aa => ?_⟩
  have hl0 := fresh_of S.wf g1 hl
  have npl : ¬ p l := fun z => (S.wf.pot l z).some hl0
  have h0l : H0 l = none := by
    cases e : H0 l with
    | none => rfl
    | some o => rw [S.go.ext _ _ npl e] at hl0; cases hl0
  have SH := S1.hide g2 hl el
  have out : ∀ b, hid (fun b => N b ∨ b = l) ad ds b → hid N ad ds b ∨ b = l := fun b z => by
    rcases z with (z | z) | z
    · exact .inl (.inl z)
    · exact .inr z
    · exact .inl (.inr z)
  have SM := SH.putMut (i := i) (l := l) (v := .ref a) (c := .box s zs) hi (.inr rfl) npl h0l (fun j c e _ => absurd e (h0 j c))
    ⟨a, v0, ws, rfl, fun z => (out a z).elim (fun z => S1.hwf.dom a z ha) nl, ea, a0.less fun b z => (out b z).elim .inl fun z => .inr (.inl z), el, aa.less fun b z => (out b z).elim .inl fun z => .inr (.inl z)⟩
  refine k xs s zs px f pn _ H0 _ _ _ SM Dn (fun ad' σ' H' ds' z S' => ?_) (fun v H' d z g a => q2 v H' d z g (a.less fun b w => .inl w)) (fun _ _ _ _ z => z.elim) (fun _ _ _ _ z => z.elim)
  exact q1 ad' σ' H' ds' z (S'.lessN (fun b w => .inl w) S.wf.sub fun j c e => absurd e (hn ds' z j c))
/-- such a thing read as data -/
theorem Sta.openBox {i : Nat} {s : D} {xs : List D} (E : Sta cls p pn N H0 ad H σ ds) (e : ds[i]? = some (some (Slot.mut (.box s xs)))) : Sta cls p pn (fun b => N b ∧ b ≠ ad i) H0 ad H σ (ds.set i (some (Slot.dat (.tup [s, .lst xs])))) := by
  obtain ⟨v, h1, h2, h3, h4, t, v0, vs, rfl, nt, et, a0, el, aa⟩ := E.mt i _ e
  have hi : i < ds.length := (List.getElem?_eq_some_iff.mp e).1
  have hd : ∀ b, hid (fun b => N b ∧ b ≠ ad i) ad (ds.set i (some (Slot.dat (.tup [s, .lst xs])))) b → hid N ad ds b := fun b z => by
    rcases z with z | ⟨j, ys, ej, q⟩
    · exact .inl z.1
    · rcases get_set ej with ⟨_, z, _⟩ | ⟨_, ej⟩
      · cases z
      · exact .inr ⟨j, ys, ej, q⟩
  have nl : ¬ hid (fun b => N b ∧ b ≠ ad i) ad (ds.set i (some (Slot.dat (.tup [s, .lst xs])))) (ad i) := fun z => by
    rcases z with z | ⟨j, ys, ej, q⟩
    · exact z.2 rfl
    · rcases get_set ej with ⟨_, z, _⟩ | ⟨_, ej⟩
      · cases z
      · obtain ⟨_, z, _⟩ := E.own j ys ej
        exact z (by rw [q]; exact h2)
  refine ⟨⟨fun a h => ⟨E.wf.sub a h, fun z => h3 (by rw [← z]; exact h)⟩, fun a h => E.wf.dom a h.1, E.wf.pot⟩, E.go, by rw [List.length_set]; exact E.len, fun j d ej => ?_, fun j ys ej => ?_, fun q hq => (E.pin q hq).less hd, fun a b us1 us2 e1 e2 q => ?_, fun j c ej => ?_, fun a b c c' e1 e2 q => ?_⟩
  · rcases get_set ej with ⟨rfl, z, _⟩ | ⟨_, ej⟩
    · cases z
      exact ⟨_, h1, .tup (fun z => nt (hd t z)) et (.cons (a0.less hd) (.cons (.lst nl el (aa.less hd)) .nil))⟩
    · obtain ⟨w, k1, k2⟩ := E.dat j d ej
      exact ⟨w, k1, k2.less hd⟩
  · rcases get_set ej with ⟨_, z, _⟩ | ⟨_, ej⟩
    · cases z
    · obtain ⟨k1, k2, k3, ws, k4, k5⟩ := E.own j ys ej
      exact ⟨k1, fun z => k2 z.1, k3, ws, k4, k5.less hd⟩
  · rcases get_set e1 with ⟨_, z, _⟩ | ⟨_, e1⟩
    · cases z
    · rcases get_set e2 with ⟨_, z, _⟩ | ⟨_, e2⟩
      · cases z
      · exact E.inj a b us1 us2 e1 e2 q
  · rcases get_set ej with ⟨_, z, _⟩ | ⟨ne, ej⟩
    · cases z
    · obtain ⟨w, k1, k2, k3, k4, k5⟩ := E.mt j c ej
      exact ⟨w, k1, ⟨k2, fun z => ne (E.minj j i c _ ej e z).symm⟩, k3, k4, k5.keep (fun b _ n z => n (hd b z)) (fun _ _ _ e => e) fun _ e => e⟩
  · rcases get_set e1 with ⟨_, z, _⟩ | ⟨_, e1⟩
    · cases z
    · rcases get_set e2 with ⟨_, z, _⟩ | ⟨_, e2⟩
      · cases z
      · exact E.minj a b c c' e1 e2 q
theorem et_viewB {i : Nat} {s : D} {xs : List D} (e : ds[i]? = some (some (Slot.mut (.box s xs)))) (h : ET cls p tt (ds.set i (some (Slot.dat (.tup [s, .lst xs])))) B) : ET cls p tt ds B := fun pn N H0 ad σ H S Q q =>
  h pn _ H0 ad σ H (S.openBox e) Q q
/-- name[1].append(e) -/
theorem sv_appBox {i : Nat} {s : D} {xs : List D} (e : ds[i]? = some (some (Slot.mut (.box s xs)))) (h : Ev cls p te ds P) (hz : xs.length < 100000) (k : ∀ d, P d → nx (ds.set i (some (Slot.mut (.box s (xs ++ [d])))))) :
    Sv cls p (tDrop (tBM K "list" rAppend (tOp (rIx K) (tVar i) (tC (.int 1))) (tCons te tNil))) ds nx rt bk ct := fun pn N H0 ad σ H S Dn q1 _ _ _ => by
  obtain ⟨v, h1, h2, h3, h4, t, v0, vs, rfl, nt, et, a0, el, aa⟩ := S.mt i _ e
  refine ⟨.ref t, h1, .inr (.inl ⟨t, [v0, .ref (ad i)], 1, .ref (ad i), rfl, rfl, .inl (.inl et), rfl, ?_⟩)⟩
  refine ⟨.inl ⟨rfl, _, .inl (.inl el)⟩, h pn N H0 ad σ H S _ fun w H1 d pd g1 a => ?_⟩
  have S1 := S.mono g1
  have e4 : H1 (ad i) = some (.lst vs) := g1.ext _ _ h3 el
  have hl : vs.length < sizeLine := by rw [aa.length]; exact Nat.lt_of_lt_of_le hz (by decide)
  refine ⟨ad i, vs, w, rfl, rfl, e4, hl, q1 _ σ _ _ (k d pd) (S1.chgMut e fun v' hv hc => ?_)⟩
  obtain ⟨t', v0', vs', rfl, nt', et', a0', el', aa'⟩ := hc
  have ev : vs' = vs := by rw [e4] at el'; exact (HO.lst.inj (Option.some.inj el')).symm
  subst ev
  have hs : ∀ b, hid N ad (ds.set i none) b → hid N ad ds b := hid_wipe1
  have kk : ∀ b o, ¬ hid N ad ds b → H1 b = some o → upd H1 (ad i) (.lst (vs' ++ [w])) b = some o := fun b o n eb => by rw [upd_ne (fun z => n (by rw [z]; exact .inl h2))]; exact eb
  exact ⟨t', v0', vs' ++ [w], rfl, fun z => nt' (hs _ z), kk _ _ nt' et', a0'.keep (fun b _ n z => n (hs b z)) kk, upd_same, (aa'.append (.cons a .nil)).keep (fun b _ n z => n (hs b z)) kk⟩
end
end Lk

namespace Lk
open PySem PySem.Spec PyProof.Rows L2 LiI

section
variable {cls : Cl} {p N : Addr → Prop} {pn : List (V × D)} {H0 H H' : Hp} {ad : Nat → Addr} {σ : L2.St} {ds : Sts} {ta tb te tk tx tl tr : TE} {P PX PY : D → Prop} {tt : TT} {B : Bool → Prop} {ts tu : TS} {nx nx' bk ct : Sts → Prop} {rt : D → Prop} {K : PySem.W.Frag} {t : TA} {PA : List D → Prop}
/-! ### a test of whether a value is not True -/
theorem rv_notBl (hx : ∀ d, PX d → ∃ b, d = .bl b) (hy : ∀ d, PY d → ∃ b, d = .bl b) : Rv cls p rNotB PX PY (fun d => ∃ a b : Bool, PX (.bl a) ∧ PY (.bl b) ∧ d = .bl (!decide (a = b))) := fun N H x y dx dy W ax ay px py' Q q => by
  obtain ⟨a, rfl⟩ := hx dx px
  obtain ⟨b, rfl⟩ := hy dy py'
  cases ax; cases ay
  exact ⟨a, b, rfl, rfl, q _ H _ ⟨a, b, px, py', rfl⟩ (Go.refl H) (.bl _)⟩
theorem et_isT (h : Ev cls p tl ds (· = .bl true)) : ET cls p (tTest (tOp rNotB tl (tC (.bl true)))) ds (· = false) :=
  (et_test (ev_op h ev_bl (rv_notBl (fun d e => ⟨_, e⟩) fun d e => ⟨_, e⟩)) fun d ⟨_, _, _, _, e⟩ => ⟨_, e⟩).mono fun b ⟨x, y, e1, e2, e⟩ => by
    rw [D.bl.inj e, D.bl.inj e1, D.bl.inj e2]
    rfl
/-! ### sums over pairs -/
def unpair : D → Int × Int
  | .tup [.int a, .int b] => (a, b)
  | _ => (0, 0)
theorem ev_bsum {i j : Nat} {vs : List Nat} {k : Bool} {bs : List (Int × Int)} {tu : TT} {b : Int × Int → Bool} {f : Int × Int → Int} (h : Ev cls p te ds (· = sq k (bs.map pairD))) (hl : bs.length ≤ 1000) (hv : i ∈ vs ∧ j ∈ vs) (hw : (wipeD ds vs).map ownOf = ds.map ownOf)
    (ho : ∀ q : Int × Int, (((wipeD ds vs).set i (some (Slot.dat (.int q.1)))).set j (some (Slot.dat (.int q.2)))).map ownOf = ds.map ownOf)
    (hb : ∀ q ∈ bs, ET cls p tu (((wipeD ds vs).set i (some (Slot.dat (.int q.1)))).set j (some (Slot.dat (.int q.2)))) (· = b q))
    (he : ∀ q ∈ bs, b q = true → Ev cls p tx (((wipeD ds vs).set i (some (Slot.dat (.int q.1)))).set j (some (Slot.dat (.int q.2)))) (· = .int (f q))) :
    Ev cls p (tCB (rSum K) (tCons (tLc (iOr (iList K te) (iTup K te)) (gTup K 2 (gCons (gName i) (gCons (gName j) gNil))) tu tx vs) tNil)) ds (· = .int ((bs.filter b).map f).sum) := by
  refine ev_sum ((ev_lcYF (js := [i, j]) (xs := bs.map pairD) (b := fun d => b (unpair d)) (f := fun d => .int (f (unpair d))) (ei_row h) (by rw [List.length_map]; omega) (fun x hx => ?_) hw fun x hx => ?_).mono fun d e => ?_)
  · rcases List.mem_cons.mp hx with rfl | hx
    · exact hv.1
    · rw [List.mem_singleton.mp hx]; exact hv.2
  · obtain ⟨q, hq, rfl⟩ := List.mem_map.mp hx
    exact ⟨_, eg_tup (xs := [.int q.1, .int q.2]) (egs_cons (egs_cons egs_nil)) rfl, ho q, hb q hq, he q hq⟩
  · rw [e, List.filter_map, List.map_map, List.map_map]
    rfl
theorem ev_F {PF : List D → Prop} (h : EvF cls p te ds PF) : Ev cls p te ds (fun d => ∃ xs, PF xs ∧ d = .lst xs) := fun pn N H0 ad σ H S Q q =>
  h pn N H0 ad σ H S Q fun l H' vs xs px g hl e aa => q _ H' _ ⟨xs, px, rfl⟩ g (.lst (fresh_hid S.hwf hl) e (aa.less fun b z => .inl z))
/-! ### a def that answers a tuple of a number and a new list -/
def SvB (cls : Cl) (p : Addr → Prop) (t : TS) (ds : Sts) (F : D → List D → Prop) : Prop := ∀ (N : Addr → Prop) (H0 : Hp) (ad : Nat → Addr) (σ : L2.St) (H : Hp), Sta cls p [] N H0 ad H σ ds → ∀ Dn : Ends,
  (∀ (a l : Addr) (H' : Hp) (v0 : V) (ws : List V) (s : D) (zs : List D), F s zs → Go p H0 H' → H0 a = none → H0 l = none → a ≠ l → H' a = some (.tup [v0, .ref l]) → At cls (fun b => N b ∨ b = l ∨ b = a) H' v0 s → H' l = some (.lst ws) → AtAll cls (fun b => N b ∨ b = l ∨ b = a) H' ws zs → Dn.rt (.ref a) H') → t Dn σ H
theorem old_none {l : Addr} (S : Sta cls p pn N H0 ad H σ ds) (hl : H l = none) : H0 l = none := by
  have npl : ¬ p l := fun z => (S.wf.pot l z).some hl
  cases e : H0 l with
  | none => rfl
  | some o => rw [S.go.ext _ _ npl e] at hl; cases hl
theorem svb_seq {F : D → List D → Prop} (h1 : Sv cls p ts ds nx' (fun _ => False) noSt noSt) (h2 : ∀ ds', nx' ds' → SvB cls p tu ds' F) : SvB cls p (tSeq ts tu) ds F := fun N H0 ad σ H S Dn q =>
  h1 [] N H0 ad σ H S { Dn with nx := tu Dn } (fun ad' σ' H' ds' z S' => h2 ds' z N H0 ad' σ' H' S' Dn q) (fun _ _ _ z => z.elim) (fun _ _ _ _ z => z.elim) (fun _ _ _ _ z => z.elim)
theorem svb_new {F : D → List D → Prop} {i : Nat} (hi : i < ds.length) (h : SvB cls p tu (ds.set i (some (Slot.mut (.tbl [])))) F) (h0 : ∀ (j : Nat) (c : Con), ds[j]? ≠ some (some (Slot.mut c))) :
    SvB cls p (tSeq (tAsg tDNewK (gName i)) tu) ds F := fun N H0 ad σ H S Dn q => fun l hl => by
  have SL := S.lay (o := .dK []) hl
  have npl : ¬ p l := fun z => (S.wf.pot l z).some hl
  have SM := SL.putMut (i := i) (l := l) (v := .ref l) (c := .tbl []) hi (.inr rfl) npl (old_none S hl) (fun j c e _ => absurd e (h0 j c)) ⟨rfl, upd_same⟩
  refine h _ H0 _ _ _ SM Dn fun a l' H' v0 ws s zs f g ha hl' ne ea a0 el aa => ?_
  exact q a l' H' v0 ws s zs f g ha hl' ne ea (a0.less fun b w => w.elim (fun w => .inl (.inl w)) .inr) el (aa.less fun b w => w.elim (fun w => .inl (.inl w)) .inr)
theorem svb_ret {i : Int} {PF : List D → Prop} (h1 : Ev cls p ta ds (· = .int i)) (h2 : EvF cls p tb ds PF) : SvB cls p (tRet (tTup (tCons ta (tCons tb tNil)))) ds (fun s zs => s = .int i ∧ PF zs) := fun N H0 ad σ H S Dn q => by
  refine h1 [] N H0 ad σ H S _ fun v H1 d e g1 a1 => ?_
  subst e
  cases a1
  have S1 := S.mono g1
  refine h2 [] N H0 ad σ H1 S1 _ fun l H2 ws zs pz g2 hl el aa => ?_
  refine ⟨by show 2 ≤ sizeLine; decide, fun a ha => ?_⟩
  have ne : a ≠ l := fun z => by rw [← z, ha] at el; cases el
  refine q a l _ (.int i) ws (.int i) zs ⟨rfl, pz⟩ ((S.go.trans (g1.trans g2)).trans (Go.new ha)) (old_none (S1.mono g2) ha) (old_none S1 hl) ne upd_same (.int _) (by rw [upd_ne (Ne.symm ne)]; exact el) ?_
  exact aa.keep (fun b hs n z => by
    rcases z with z | z | z
    · exact n (.inl (.inl z))
    · exact n (.inr z)
    · exact hs (by rw [z]; exact ha)) fun b u _ e => by rw [upd_ne (ne_of_none e ha)]; exact e
theorem SvB.mono {F F' : D → List D → Prop} (h : SvB cls p ts ds F) (k : ∀ s zs, F s zs → F' s zs) : SvB cls p ts ds F' := fun N H0 ad σ H S Dn q =>
  h N H0 ad σ H S Dn fun a l H' v0 ws s zs f => q a l H' v0 ws s zs (k s zs f)
end
theorem gok_box {P : Program} {w : World} {K : PySem.W.Frag} {mg : Str → Option Value} {base : Heap} {k : Nat} {f : Addr} {fd : FuncData} {ps Nm : List Str} {cls : Cl} {n m : Nat} {pre : (Addr → Prop) → List D → Prop} {FF : List D → D → List D → Prop} {x qual : Str} {st : Stmt}
    (F : Fun K x qual st f fd) (S : FnScope Nm ps (defScope st)) (hn : ps.length = n) (hm : Nm.length - n = m)
    (hb : ∀ (cdv : Value) (A : Around) (out : List Env) (s : Shared) (H : Hp) (E : XK), A.guards = some [] → Room k (A.deeper (envOfC qual (defScope st) s.heap.objs.size f cdv)) →
      ∃ t, PSs (cxOf CX0 P w K mg base Nm qual (defScope st) f cdv A out s H E).nox (defBody st) t ∧ ∀ p xs, xs.length = n → pre p xs → SvB cls p t (entry m xs) (FF xs)) :
    GOk P w K mg base (k + 1) f fd ps (spBox cls n pre FF) := by
  refine gok_of F S (fun vs H Q E ⟨p, N, xs, _, a, l, _⟩ => by rw [a.length, l, hn]) fun cdv A out s H vs Q E hg hr hs => ?_
  obtain ⟨t, ht, hv⟩ := hb cdv A out s H E hg hr
  obtain ⟨p, N, xs, W, a, l, hp, q⟩ := hs
  refine ⟨t, ht, ?_⟩
  have S0 := sta_entry (Nm := Nm) W a
  rw [a.length, l, hm] at S0
  exact hv p xs l hp N H _ _ H S0 _ q
end Lk

namespace Lk
open PySem PySem.Spec PyProof.Rows L2 LiI

/-! ### answers that reach no list that stood before -/
def oldL (H : Hp) (a : Addr) : Prop := ∃ vs, H a = some (.lst vs)
theorem oldL.go {p M : Addr → Prop} {H H' : Hp} (g : Go p H H') (sub : ∀ a, p a → M a) {a : Addr} (h : oldL H a) : M a ∨ oldL H' a := by
  by_cases hp : p a
  · exact .inl (sub a hp)
  · obtain ⟨vs, e⟩ := h
    exact .inr ⟨vs, g.ext a _ hp e⟩
theorem wf_old {p M : Addr → Prop} {H H' : Hp} (W : Wf p M H) (g : Go p H H') : Wf p (fun b => M b ∨ oldL H b) H' := by
  have W1 := W.mono g
  refine ⟨fun a h => .inl (W.sub a h), fun a h => ?_, W1.pot⟩
  rcases h with h | h
  · exact W1.dom a h
  · rcases h.go g W.sub with h | ⟨vs, e⟩
    · exact W1.dom a h
    · rw [e]; exact fun z => nomatch z
section
variable {cls : Cl} {p N : Addr → Prop} {pn : List (V × D)} {H0 H H' : Hp} {ad : Nat → Addr} {σ : L2.St} {ds : Sts} {ta tb te tk tx tl tr : TE} {P PX PY : D → Prop} {tt : TT} {B : Bool → Prop} {ts tu : TS} {nx nx' bk ct : Sts → Prop} {rt : D → Prop} {K : PySem.W.Frag} {t : TA} {PA : List D → Prop}
def EvN (cls : Cl) (p : Addr → Prop) (t : TE) (ds : Sts) (P : D → Prop) : Prop := ∀ (pn : List (V × D)) (N : Addr → Prop) (H0 : Hp) (ad : Nat → Addr) (σ : L2.St) (H : Hp), Sta cls p pn N H0 ad H σ ds → ∀ Q : VK,
  (∀ v H' d, P d → Go p H H' → At cls (fun b => hid N ad ds b ∨ oldL H b) H' v d → Q v H') → t σ H Q
theorem EvN.ev (h : EvN cls p te ds P) : Ev cls p te ds P := fun pn N H0 ad σ H S Q q => h pn N H0 ad σ H S Q fun v H' d pd g a => q v H' d pd g (a.less fun b z => .inl z)
theorem EvN.mono {P' : D → Prop} (h : EvN cls p te ds P) (k : ∀ d, P d → P' d) : EvN cls p te ds P' := fun pn N H0 ad σ H S Q q => h pn N H0 ad σ H S Q fun v H' d pd => q v H' d (k d pd)
theorem old_less {M : Addr → Prop} (g : Go p H H') (sub : ∀ a, p a → M a) : ∀ b, (M b ∨ oldL H b) → (M b ∨ oldL H' b) := fun b z => z.elim .inl fun z => z.go g sub
theorem evn_int {i : Int} (h : Ev cls p te ds (· = .int i)) : EvN cls p te ds (· = .int i) := fun pn N H0 ad σ H S Q q => h pn N H0 ad σ H S Q fun v H' d e g a => by
  subst e
  cases a
  exact q _ H' _ rfl g (.int i)
theorem evn_list {k : Bool} {xs : List D} {n : Nat} (h : Ev cls p te ds (· = sq k xs)) (hn : ∀ x ∈ xs, nlD n x = true) : EvN cls p (tCB (rList K) (tCons te tNil)) ds (· = .lst xs) := fun pn N H0 ad σ H S Q q =>
  ef_list h pn N H0 ad σ H S Q fun l H' vs ys e g hl el aa => by
    subst e
    have sub : ∀ a, p a → hid N ad ds a := S.hsub
    have all : ∀ (ys : List D) (vs : List V), (∀ x ∈ ys, nlD n x = true) → AtAll cls (fun a => hid N ad ds a ∨ a = l) H' vs ys → AtAll cls (fun b => hid N ad ds b ∨ oldL H b) H' vs ys := by
      intro ys
      induction ys with
      | nil => intro vs _ a; cases a; exact .nil
      | cons y ys ih =>
        intro vs hy a
        cases a with
        | cons a b =>
          exact .cons (nl_keep (N := hid N ad ds) (fun a z => z.elim .inl fun z => z.go g sub) n y _ (hy y (List.mem_cons_self ..)) (a.less fun b z => .inl z)) (ih _ (fun x hx => hy x (List.mem_cons_of_mem _ hx)) b)
    refine q _ H' _ rfl g (.lst (fun z => ?_) el (all ys vs hn aa))
    rcases z with z | ⟨ws, z⟩
    · exact S.hwf.dom l z hl
    · rw [hl] at z; cases z
theorem evn_t2 (h : EvN cls p ta ds PX) (k : EvN cls p tb ds PY) : EvN cls p (tTup (tCons ta (tCons tb tNil))) ds (fun d => ∃ x y, PX x ∧ PY y ∧ d = .tup [x, y]) := fun pn N H0 ad σ H S Q q => by
  refine h pn N H0 ad σ H S _ fun v H1 dx px g1 a1 => k pn N H0 ad σ H1 (S.mono g1) _ fun w H2 dy py g2 a2 => ⟨by show 2 ≤ sizeLine; decide, fun l hl => ?_⟩
  have g := g1.trans g2
  refine q _ _ _ ⟨dx, dy, px, py, rfl⟩ (g.trans (Go.new hl)) (.tup (fun z => ?_) upd_same (AtAll.mono (p := p) (.cons (a1.mono (fun a z => .inl (S.hsub a z)) g2) (.cons (a2.less (old_less g1 S.hsub)) .nil)) (fun a z => .inl (S.hsub a z)) (Go.new hl)))
  rcases (z.elim .inl fun z => z.go g S.hsub : hid N ad ds l ∨ oldL H2 l) with z | ⟨ws, z⟩
  · exact (S.mono g).hwf.dom l z hl
  · rw [hl] at z; cases z
theorem evn_op {r : R2} (ha : EvN cls p ta ds PX) (hb : EvN cls p tb ds PY) (hr : Rv cls p r PX PY P) : EvN cls p (tOp r ta tb) ds P := fun pn N H0 ad σ H S Q q =>
  ha pn N H0 ad σ H S _ fun x H1 dx px g1 a1 => hb pn N H0 ad σ H1 (S.mono g1) _ fun y H2 dy py g2 a2 =>
    hr _ H2 x y dx dy (wf_old S.hwf (g1.trans g2)) (a1.mono (fun a z => .inl (S.hsub a z)) g2) (a2.less (old_less g1 S.hsub)) px py Q fun v H3 d pd g3 a3 => q v H3 d pd ((g1.trans g2).trans g3) a3
/-- [f(x) for x in xs], each answer new -/
theorem evn_lc {wi : TI} {g : TG} {vs js : List Nat} {xs : List D} {f : D → D} (hi : EI cls p wi ds (· = xs)) (hz : xs.length ≤ 100000) (hj : ∀ j ∈ js, j ∈ vs) (hw : (wipeD ds vs).map ownOf = ds.map ownOf)
    (h : ∀ x ∈ xs, ∃ ds', EvG cls p g js x (wipeD ds vs) ds' ∧ ds'.map ownOf = ds.map ownOf ∧ EvN cls p te ds' (· = f x)) :
    EvN cls p (tLc wi g tYes te vs) ds (· = .lst (xs.map f)) := by
  intro pn N H0 ad σ H S Q q
  refine hi pn N H0 ad σ H S _ fun J H1 xs' qs px g1 hq wk => ?_
  subst px
  intro DD hD
  have S1 := S.mono g1
  have hNl : ¬ hid N ad ds DD := fresh_hid S1.hwf hD
  have hpD : ¬ p DD := fun z => hNl (S1.hsub _ z)
  have h0D : H0 DD = none := old_none S1 hD
  have hp1 : ∀ a, p a → H1 a ≠ none := fun a z => S1.wf.dom a (S1.wf.sub a z)
  let N2 : Addr → Prop := fun a => N a ∨ a = DD
  have hmD : ∀ (i : Nat) (c : Con), ds[i]? = some (some (Slot.mut c)) → ad i ≠ DD := fun i c e z => by
    obtain ⟨_, _, _, _, _, hc⟩ := S1.mt i c e
    exact hc.ne (by rw [z]; exact hD)
  have SL : Sta cls p (qs ++ pn) N2 H0 ad (upd H1 DD (.lst [])) σ ds := (S1.pins hq).lay hD
  let M : Addr → Prop := fun b => hid N2 ad ds b ∨ oldL H1 b
  refine ⟨fun i m H' => m = xs'.length - i ∧ i ≤ xs'.length ∧ (∃ acc, H' DD = some (.lst acc) ∧ AtAll cls M H' acc ((xs'.take i).map f)) ∧ Sta cls p (qs ++ pn) N2 H0 ad H' σ ds ∧ Go p H1 H',
    ⟨xs'.length, by rw [Nat.sub_zero], Nat.zero_le _, ⟨[], upd_same, .nil⟩, SL, (Go.refl H1).chg (H1 := H1) hD hp1⟩, ?_⟩
  rintro i m H' ⟨rfl, hi2, ⟨acc, e, aa⟩, S2, g2⟩
  have wki := wk _ H' S2.hwf (fun x hx => S2.pin x (List.mem_append_left _ hx)) i
  by_cases hlt : i < xs'.length
  · refine .inr ?_
    have ei : xs'[i]? = some xs'[i] := List.getElem?_eq_getElem hlt
    obtain ⟨k1, k2⟩ := wki.1 _ ei
    refine ⟨k1, fun H' => (∃ acc, H' DD = some (.lst acc) ∧ AtAll cls M H' acc ((xs'.take (i + 1)).map f)) ∧ Sta cls p (qs ++ pn) N2 H0 ad H' σ ds ∧ Go p H1 H',
      fun H3 ⟨z1, z2, z3⟩ => ⟨xs'.length - (i + 1), by omega, rfl, hlt, z1, z2, z3⟩, fun x H3 y => ?_⟩
    obtain ⟨g3, a3⟩ := k2 x H3 y
    have S3 := S2.mono g3
    obtain ⟨ds', hg, ho, he⟩ := h xs'[i] (List.getElem_mem hlt)
    have ew : hid N2 ad (wipeD ds vs) = hid N2 ad ds := hid_congr hw
    have ed : hid N2 ad ds' = hid N2 ad ds := hid_congr ho
    refine hg _ N2 H0 ad _ H3 (S3.wipe vs) x (by rw [ew]; exact a3) _ fun σ' S4 w => ⟨?_, ?_⟩
    · rw [w vs hj, wipe_wipe]
    refine (et_yes (cls := cls) (p := p) (ds := ds')) _ N2 H0 ad σ' H3 S4 _ fun c H4 ec g4 => ?_
    have S5 := S3.mono g4
    have tk : xs'.take (i + 1) = xs'.take i ++ [xs'[i]] := by rw [List.take_add_one, ei]; rfl
    subst ec
    rw [if_pos rfl]
    refine he _ N2 H0 ad σ' H4 (S4.mono g4) _ fun v H5 d pd g5 a5 => ?_
    rw [ed] at a5
    subst pd
    have S6 := S5.mono g5
    have gg := ((g3.trans g4).trans g5)
    have e5 : H5 DD = some (.lst acc) := gg.ext _ _ hpD e
    have subM : ∀ a, p a → M a := fun a z => .inl (S2.hsub a z)
    have a6 : AtAll cls M H5 acc ((xs'.take i).map f) := aa.mono subM gg
    have a7 : At cls M H5 v (f xs'[i]) := a5.less (old_less ((g2.trans g3).trans g4) S2.hsub)
    refine ⟨acc, e5, ?_, ⟨_, upd_same, ?_⟩, S6.turn (.inr rfl) hpD h0D hmD, (((g2.trans g3).trans g4).trans g5).chg (H1 := H1) hD hp1⟩
    · have l1 : acc.length = ((xs'.take i).map f).length := aa.length
      rw [List.length_map, List.length_take] at l1
      exact Nat.lt_of_le_of_lt (show acc.length ≤ 100000 by omega) (by decide)
    · rw [tk, List.map_append]
      exact (a6.append (.cons a7 .nil)).keep (fun _ _ n => n) (fun a o n e => by rw [upd_ne (fun z => n (by rw [z]; exact .inl (.inl (.inr rfl))))]; exact e)
  · have ei : i = xs'.length := by omega
    subst ei
    rw [List.take_length] at aa
    refine .inl ⟨wki.2 rfl, q _ H' _ rfl (g1.trans g2) (.lst (fun z => ?_) e (aa.less fun a z => ?_))⟩
    · rcases (z.elim .inl fun z => z.go g1 S.hsub : hid N ad ds DD ∨ oldL H1 DD) with z | ⟨ws, z⟩
      · exact hNl z
      · rw [hD] at z; cases z
    · rcases z with z | z
      · exact z.elim (fun z => .inl (.inl (.inl z))) fun z => .inl (.inr z)
      · exact (z.go g1 S.hsub).elim (fun z => .inl (z.elim (fun z => .inl (.inl z)) .inr)) .inr
/-! ### defs that promise it -/
def spN (cls : Cl) (n : Nat) (pre : (Addr → Prop) → List D → Prop) (F : List D → D → Prop) : Sp := fun vs H Q _ => ∃ (p N : Addr → Prop) (xs : List D), Wf p N H ∧ AtAll cls N H vs xs ∧ xs.length = n ∧ pre p xs ∧
  ∀ v H' d, F xs d → Go p H H' → At cls (fun b => N b ∨ oldL H b) H' v d → Q v H'
variable {n : Nat} {pre : (Addr → Prop) → List D → Prop} {F : List D → D → Prop}
theorem evn_call (h : EvA cls p t ds PA) (hp : ∀ xs, PA xs → xs.length = n ∧ pre p xs ∧ ∀ d, F xs d → P d) : EvN cls p (tCall (spN cls n pre F) [] E0 t) ds P := fun pn N H0 ad σ H S Q q => by
  refine h pn N H0 ad σ H S _ fun vs H1 xs px g1 a1 => ?_
  show spN cls n pre F (vs ++ []) H1 _ E0
  rw [List.append_nil]
  exact ⟨p, hid N ad ds, xs, (S.mono g1).hwf, a1, (hp xs px).1, (hp xs px).2.1, fun v H' d f g2 a2 => q v H' d ((hp xs px).2.2 d f) (g1.trans g2) (a2.less (old_less g1 S.hsub))⟩
/-- o.m() of an object -/
theorem evn_meth {m : Str} {c : Nat} {ns : List Str} {ys : List D} (h : Ev cls p te ds (· = .obj c ns ys)) (hm : m ∉ ns) (hp : n = 1 ∧ pre p [.obj c ns ys]) (hF : ∀ d, F [.obj c ns ys] d → P d) : EvN cls p (tMeth (cls.C c) m (spN cls n pre F) [] E0 te tNil) ds P := fun pn N H0 ad σ H S Q q =>
  h pn N H0 ad σ H S _ fun v H1 d' e' g a => by
    subst e'
    cases a with
    | @obj a dx _ _ vs _ nn r l at_ =>
      have key : ∀ (ns : List Str) (vs : List V), m ∉ ns → (ns.zip vs).lookup m = none := by
        intro ns
        induction ns with
        | nil => intro vs _; rfl
        | cons x ns ih =>
          intro vs hx
          cases vs with
          | nil => rfl
          | cons w vs =>
            rw [List.zip_cons_cons, List.lookup_cons]
            cases e : (m == x) with
            | true => exact absurd (beq_iff_eq.mp e) fun z => hx (by rw [z]; exact List.mem_cons_self ..)
            | false => exact ih vs fun z => hx (List.mem_cons_of_mem _ z)
      exact ⟨a, dx, _, rfl, r, key ns vs hm, p, hid N ad ds, [_], (S.mono g).hwf, .cons (.obj nn r l at_) .nil, hp.1.symm, hp.2, fun v H' d f g2 av => q v H' d (hF d f) (g.trans g2) (av.less (old_less g S.hsub))⟩
theorem ev_meth1 {m : Str} {c : Nat} {ns : List Str} {ys : List D} {x : D} (h : Ev cls p te ds (· = .obj c ns ys)) (k : Ev cls p tx ds (· = x)) (hm : m ∉ ns) (hp : pre p [.obj c ns ys, x]) (hF : ∀ d, F [.obj c ns ys, x] d → P d) : Ev cls p (tMeth (cls.C c) m (spG cls 2 pre F) [] E0 te (tCons tx tNil)) ds P := fun pn N H0 ad σ H S Q q =>
  h pn N H0 ad σ H S _ fun v H1 d' e' g a => by
    subst e'
    have a0 := a
    cases a with
    | @obj a dx _ _ vs _ nn r l at_ =>
      have key : ∀ (ns : List Str) (vs : List V), m ∉ ns → (ns.zip vs).lookup m = none := by
        intro ns
        induction ns with
        | nil => intro vs _; rfl
        | cons x ns ih =>
          intro vs hx
          cases vs with
          | nil => rfl
          | cons w vs =>
            rw [List.zip_cons_cons, List.lookup_cons]
            cases e : (m == x) with
            | true => exact absurd (beq_iff_eq.mp e) fun z => hx (by rw [z]; exact List.mem_cons_self ..)
            | false => exact ih vs fun z => hx (List.mem_cons_of_mem _ z)
      refine ⟨a, dx, _, rfl, r, key ns vs hm, k pn N H0 ad σ H1 (S.mono g) _ fun w H2 dy e2 g2 a2 => ?_⟩
      subst e2
      exact ⟨p, hid N ad ds, [_, _], (S.mono (g.trans g2)).hwf, .cons (a0.mono S.hsub g2) (.cons a2 .nil), rfl, hp, fun v H' d f g3 av => q v H' d (hF d f) ((g.trans g2).trans g3) av⟩
def SvN (cls : Cl) (p : Addr → Prop) (t : TS) (ds : Sts) (F : D → Prop) : Prop := ∀ (N : Addr → Prop) (H0 : Hp) (ad : Nat → Addr) (σ : L2.St) (H : Hp), Sta cls p [] N H0 ad H σ ds → ∀ Dn : Ends,
  (∀ v H' d, F d → Go p H0 H' → At cls (fun b => N b ∨ oldL H0 b) H' v d → Dn.rt v H') → t Dn σ H
theorem svn_seq {F : D → Prop} (h1 : Sv cls p ts ds nx' (fun _ => False) noSt noSt) (h2 : ∀ ds', nx' ds' → SvN cls p tu ds' F) : SvN cls p (tSeq ts tu) ds F := fun N H0 ad σ H S Dn q =>
  h1 [] N H0 ad σ H S { Dn with nx := tu Dn } (fun ad' σ' H' ds' z S' => h2 ds' z N H0 ad' σ' H' S' Dn q) (fun _ _ _ z => z.elim) (fun _ _ _ _ z => z.elim) (fun _ _ _ _ z => z.elim)
theorem svn_ret {F : D → Prop} (h : EvN cls p te ds F) : SvN cls p (tRet te) ds F := fun N H0 ad σ H S Dn q =>
  h [] N H0 ad σ H S _ fun v H1 d pd g a => q v H1 d pd (S.go.trans g) (a.less fun b z => z.elim (fun z => .inl (.inl z)) fun z => (z.go S.go S.wf.sub).elim (fun z => .inl (.inl z)) .inr)
end
theorem gok_n {P : Program} {w : World} {K : PySem.W.Frag} {mg : Str → Option Value} {base : Heap} {k : Nat} {f : Addr} {fd : FuncData} {ps Nm : List Str} {cls : Cl} {n m : Nat} {pre : (Addr → Prop) → List D → Prop} {FF : List D → D → Prop} {x qual : Str} {st : Stmt}
    (F : Fun K x qual st f fd) (S : FnScope Nm ps (defScope st)) (hn : ps.length = n) (hm : Nm.length - n = m)
    (hb : ∀ (cdv : Value) (A : Around) (out : List Env) (s : Shared) (H : Hp) (E : XK), A.guards = some [] → Room k (A.deeper (envOfC qual (defScope st) s.heap.objs.size f cdv)) →
      ∃ t, PSs (cxOf CX0 P w K mg base Nm qual (defScope st) f cdv A out s H E).nox (defBody st) t ∧ ∀ p xs, xs.length = n → pre p xs → SvN cls p t (entry m xs) (FF xs)) :
    GOk P w K mg base (k + 1) f fd ps (spN cls n pre FF) := by
  refine gok_of F S (fun vs H Q E ⟨p, N, xs, _, a, l, _⟩ => by rw [a.length, l, hn]) fun cdv A out s H vs Q E hg hr hs => ?_
  obtain ⟨t, ht, hv⟩ := hb cdv A out s H E hg hr
  obtain ⟨p, N, xs, W, a, l, hp, q⟩ := hs
  refine ⟨t, ht, ?_⟩
  have S0 := sta_entry (Nm := Nm) W a
  rw [a.length, l, hm] at S0
  exact hv p xs l hp N H _ _ H S0 _ q
/-- a method is called -/
def Mth (P : Program) (w : World) (K : PySem.W.Frag) (mg : Str → Option Value) (base : Heap) (C : Addr) (m : Str) (k : Nat) (kws : List (List Str × List Nat)) (ps : List Str) (sp : Sp) : Prop :=
  ∃ (f : Addr) (fd : FuncData), GOk P w K mg base k f fd ps sp ∧ Cls K C ∧ Meth K C m f ∧ Binds K fd ps [] ∧
    ∀ q ∈ kws, ∀ (s : Shared) (u : Value) (ws : List Value), ws.length = q.1.length → BindsTo s fd ⟨[u], q.1.zip ws⟩ (ps.zip (u :: perm q.2 ws))
section
variable {X : Cx} {k : Nat} {C : Addr} {m : Str} {ps : List Str} {kws : List (List Str × List Nat)} {sp : Sp} {ta : TE} {t : TA} {o e : Expr} {es : List Expr} {apos pos : Pos}
theorem pe_methC0 {pl : Sem Bool} (W : Mth X.prog X.w X.K X.mg X.base C m k kws ps sp) (hg : X.A.guards = some []) (hr : Room k X.A) (he : PE X o ta)
    (ht : eval (.Call (.Attribute o m apos) [] [] pos) X.env = (do
      let ov ← eval o X.env
      standAt apos.atName
      let (f, first) ← holding [ov] (getMethod ov m pl)
      callWith pos f first (backTo pos (starEach [] X.env)) (backToKw pos (keywordEach [] X.env))) := by rfl) :
    PE X (.Call (.Attribute o m apos) [] [] pos) (tMeth C m sp [] E0 ta tNil) := by
  obtain ⟨f, fd, F, c, hm, hb, _⟩ := W
  refine ⟨fun pins s σ H Q I h => ?_⟩
  refine PySem.W.methodCall_KW (pl := pl) (thn (he.run pins s σ H _ I h) fun u s1 ⟨x, H1, I1, rx, a, dx, fs, ex, ea, l, q⟩ => ?_) ht
  subst ex
  obtain rfl : u = Value.ref a := rx
  refine getmeth_ok I1 ea c hm l ?_
  exact PySem.W.callWith_K0 (first := [.ref a]) I1.kIn hm.kp (run_g (us := [.ref a]) (vs := [.ref a]) F hg hr hb .nil I1 (.cons rfl .nil) q)
theorem pe_methC {pl : Sem Bool} (W : Mth X.prog X.w X.K X.mg X.base C m k kws ps sp) (hg : X.A.guards = some []) (hr : Room k X.A) (he : PE X o ta) (ha : PA X (e :: es) t)
    (hst : starEach (e :: es) X.env = (false, eval e X.env) :: starEach es X.env := by rfl) (hpl : (backTo pos (starEach es X.env)).any (·.1) = false := by rfl)
    (ht : eval (.Call (.Attribute o m apos) (e :: es) [] pos) X.env = (do
      let ov ← eval o X.env
      standAt apos.atName
      let (f, first) ← holding [ov] (getMethod ov m pl)
      callWith pos f first (backTo pos (starEach (e :: es) X.env)) (backToKw pos (keywordEach [] X.env))) := by rfl) :
    PE X (.Call (.Attribute o m apos) (e :: es) [] pos) (tMeth C m sp [] E0 ta t) := by
  obtain ⟨f, fd, F, c, hm, hb, _⟩ := W
  refine ⟨fun pins s σ H Q I h => ?_⟩
  refine PySem.W.methodCall_KW (pl := pl) (thn (he.run pins s σ H _ I h) fun u s1 ⟨x, H1, I1, rx, a, dx, fs, ex, ea, l, q⟩ => ?_) ht
  subst ex
  obtain rfl : u = Value.ref a := rx
  refine getmeth_ok I1 ea c hm l ?_
  refine PySem.W.callWith_K (first := [.ref a]) (h₀ := X.base) I1.ok.mod.kin hm.kp (thn (ha.run pos pins s1 σ H1 _ I1 q) fun us s2 ⟨vs, H2, I2, r, q2⟩ => ⟨I2.kIn, ?_⟩) hst hpl
  exact run_g (us := .ref a :: us) (vs := .ref a :: vs) F hg hr hb .nil I2 (.cons rfl r) q2
end
end Lk

namespace Lk
open PySem PySem.Spec PyProof.Rows L2 LiI

/-! ### o.m(k = v, ..) -/
def tMethK (C : Addr) (m : Str) (sp : Sp) (is : List Nat) (n : Nat) (ta : TE) (tk : TA) : TE := fun σ H Q => ta σ H fun x H1 => ∃ a dx fs, x = .ref a ∧ H1 a = some (.ins C dx fs) ∧ fs.lookup m = none ∧
  tk σ H1 fun zs H2 => zs.length = n ∧ sp (x :: perm is zs) H2 Q E0
section
variable {X : Cx} {k : Nat} {C : Addr} {m : Str} {ps : List Str} {kws : List (List Str × List Nat)} {sp : Sp} {ta : TE} {tk : TA} {o : Expr} {apos pos : Pos}
theorem pe_methKC {pl : Sem Bool} {ks : List Str} {is : List Nat} {kw : List Keyword} (W : Mth X.prog X.w X.K X.mg X.base C m k kws ps sp) (hin : (ks, is) ∈ kws) (hg : X.A.guards = some []) (hr : Room k X.A) (he : PE X o ta) (hkw : PK X kw tk)
    (hall : (backToKw pos (keywordEach kw X.env)).all (·.1.isSome) = true := by rfl) (hks : (backToKw pos (keywordEach kw X.env)).filterMap (·.1) = ks := by rfl)
    (hpl : ((backTo pos (starEach [] X.env)).any (·.1) || (backToKw pos (keywordEach kw X.env)).any (·.1.isNone)) = false := by rfl)
    (ht : eval (.Call (.Attribute o m apos) [] kw pos) X.env = (do
      let ov ← eval o X.env
      standAt apos.atName
      let (f, first) ← holding [ov] (getMethod ov m pl)
      callWith pos f first (backTo pos (starEach [] X.env)) (backToKw pos (keywordEach kw X.env))) := by rfl) :
    PE X (.Call (.Attribute o m apos) [] kw pos) (tMethK C m sp is ks.length ta tk) := by
  obtain ⟨f, fd, F, c, hm, _, hb⟩ := W
  refine ⟨fun pins s σ H Q I h => ?_⟩
  refine PySem.W.methodCall_KW (pl := pl) (thn (he.run pins s σ H _ I h) fun u s1 ⟨x, H1, I1, rx, a, dx, fs, ex, ea, l, q⟩ => ?_) ht
  subst ex
  obtain rfl : u = Value.ref a := rx
  refine getmeth_ok I1 ea c hm l ?_
  refine PySem.W.callWith_KW0 (first := [.ref a]) (h₀ := X.base) I1.ok.mod.kin hm.kp hall (thn (hkw.run pos pins s1 σ H1 _ I1 q) fun ws s2 ⟨zs, H2, I2, rz, l1, q2⟩ => ⟨I2.kIn, ?_⟩) hpl
  rw [hks]
  have r2 : Vals (V.ref a :: perm is zs) (Value.ref a :: perm is ws) := .cons rfl (Vals.perm rz is)
  refine wpAny_call (codeAny_mono (F.go X.A X.stack s2 H2 ⟨[.ref a], ks.zip ws⟩ (.ref a :: perm is ws) (.ref a :: perm is zs) Q E0 hg hr I2.env0 (hb _ hin s2 (.ref a) ws (rz.length.symm.trans l1)) r2 q2) ?_)
  intro r s' hq
  match r, hq with
  | .error _, hq => exact hq.elim
  | .ok (.ret u), hq => exact I2.after hq
  | .ok .next, hq => exact hq.elim
  | .ok .brk, hq => exact hq.elim
  | .ok .cont, hq => exact hq.elim
end
theorem mth_mk {P : Program} {w : World} {K : PySem.W.Frag} {mg : Str → Option Value} {base : Heap} {x m qual : Str} {C f : Addr} {st : Stmt} {fd : FuncData} {k : Nat} {ps : List Str} {kws : List (List Str × List Nat)} {sp : Sp} (F : Fun K m qual st f fd) (A : ClA K x C)
    (fi : PySem.W.findIn K (.ref C) m = some (some (.ref f))) (fn : PySem.W.isFn K (.ref f) = true) (g : GOk P w K mg base k f fd ps sp) (hb : Binds K fd ps [])
    (hk : ∀ q ∈ kws, ∀ (kV doc pm : Value) (an : Option Addr) (cdv ct : Value) (u : Value) (ws : List Value), ws.length = q.1.length → bindArgs (PySem.W.fnOf m qual (defArgs st) (defBody st) (defScope st) .none kV doc pm an cdv ct) ⟨[u], q.1.zip ws⟩ = pure (ps.zip (u :: perm q.2 ws))) :
    Mth P w K mg base C m k kws ps sp := by
  refine ⟨f, fd, g, A.cl.cl, ⟨fi, fn, F.kp⟩, hb, fun q hq s u ws hl => ?_⟩
  obtain ⟨oc, od, kV, doc, pm, an, cdv, ct, osl, rfl, lk, hcd⟩ := F.ex
  exact .of_eq (hk q hq kV doc pm an cdv ct u ws hl)
theorem lookup_none {m : Str} : ∀ {ns : List Str} {vs : List V}, m ∉ ns → (ns.zip vs).lookup m = none
  | [], _, _ => rfl
  | _ :: _, [], _ => rfl
  | x :: ns, w :: vs, hx => by
    rw [List.zip_cons_cons, List.lookup_cons]
    cases e : (m == x) with
    | true => exact absurd (beq_iff_eq.mp e) fun z => hx (by rw [z]; exact List.mem_cons_self ..)
    | false => exact lookup_none fun z => hx (List.mem_cons_of_mem _ z)
section
variable {cls : Cl} {p : Addr → Prop} {ds : Sts} {te tx : TE} {P : D → Prop} {pre : (Addr → Prop) → List D → Prop} {F : List D → D → Prop}
theorem ev_fmtI {i : Int} (h : Ev cls p te ds (· = .int i)) (hi : i.natAbs < 2 ^ 1900) : Ev cls p (tFmt te) ds (· = .str (toString i)) := fun pn N H0 ad σ H S Q q =>
  h pn N H0 ad σ H S _ fun v H1 d e g a => by
    subst e
    cases a
    refine .inr ⟨i, rfl, ?_, q _ H1 _ rfl g (.str _)⟩
    by_cases z : i.natAbs = 0
    · rw [z]; decide
    · exact Nat.lt_of_lt_of_le ((Nat.log2_lt z).mpr hi) (by decide)
theorem ev_methK1 {m : Str} {c : Nat} {ns : List Str} {ys : List D} {x : D} (h : Ev cls p te ds (· = .obj c ns ys)) (k : Ev cls p tx ds (· = x)) (hm : m ∉ ns) (hp : pre p [.obj c ns ys, x]) (hF : ∀ d, F [.obj c ns ys, x] d → P d) : Ev cls p (tMethK (cls.C c) m (spG cls 2 pre F) [0] 1 te (tCons tx tNil)) ds P := fun pn N H0 ad σ H S Q q =>
  h pn N H0 ad σ H S _ fun v H1 d' e' g a => by
    subst e'
    have a0 := a
    cases a with
    | @obj a dx _ _ vs _ nn r l at_ =>
      refine ⟨a, dx, _, rfl, r, lookup_none hm, k pn N H0 ad σ H1 (S.mono g) _ fun w H2 dy e2 g2 a2 => ⟨rfl, ?_⟩⟩
      subst e2
      exact ⟨p, hid N ad ds, [_, _], (S.mono (g.trans g2)).hwf, .cons (a0.mono S.hsub g2) (.cons a2 .nil), rfl, hp, fun v H' d f g3 av => q v H' d (hF d f) ((g.trans g2).trans g3) av⟩
end

/-! ### objects that reach no list that stood before -/
def spInitN (cls : Cl) (c n : Nat) (ns : List Str) (pre : List D → Prop) (G : List D → List D → Prop) : Sp := fun vs H Q _ => ∃ (p N : Addr → Prop) (a dx : Addr) (vs' : List V) (xs : List D),
  vs = .ref a :: vs' ∧ N a ∧ ¬ p a ∧ H a = some (.ins (cls.C c) dx []) ∧ Wf p N H ∧ AtAll cls N H vs' xs ∧ xs.length = n ∧ pre xs ∧
    ∀ (H' : Hp) (ts : List V) (ys : List D), GoX p a H H' → H' a = some (.ins (cls.C c) dx (ns.zip ts)) → ns.length = ts.length → AtAll cls (fun b => N b ∨ oldL H b) H' ts ys → G xs ys → Q .non H'
section
variable {cls : Cl} {p : Addr → Prop} {ds ds' : Sts} {ta tb tc te : TE} {P PX PY : D → Prop} {t : TA} {PA : List D → Prop} {K : PySem.W.Frag} {c n : Nat} {ns : List Str} {pre : List D → Prop} {G : List D → List D → Prop}
theorem make_atN {N : Addr → Prop} {H : Hp} {vs : List V} {xs : List D} {Q : VK} (W : Wf p N H) (a : AtAll cls N H vs xs) (hl : xs.length = n) (hp : pre xs)
    (q : ∀ v H' ys, G xs ys → Go p H H' → At cls (fun b => N b ∨ oldL H b) H' v (.obj c ns ys) → Q v H') {x dx : Addr} (hx : H x = none) (hd : H dx = none) (hne : dx ≠ x) :
    spInitN cls c n ns pre G (.ref x :: vs) (upd (upd H dx (.own x)) x (.ins (cls.C c) dx [])) (fun v H2 => v = .non ∧ Q (.ref x) H2) E0 := by
  have keepH : ∀ b o, H b = some o → (upd (upd H dx (.own x)) x (.ins (cls.C c) dx [])) b = some o := fun b o e => by
    rw [upd_ne (ne_of_none e hx), upd_ne (ne_of_none e hd)]; exact e
  have nN : ¬ N x := fun z => W.dom x z hx
  have npx : ¬ p x := fun z => nN (W.sub x z)
  refine ⟨p, fun b => N b ∨ b = x, x, dx, vs, xs, rfl, .inr rfl, npx, upd_same, ⟨fun b hb => .inl (W.sub b hb), fun b hb => ?_, fun b hb => ?_⟩, a.keep (fun b hb hn z => ?_) (fun b o _ e => keepH b o e), hl, hp, fun H' ts ys g e l at_ gg => ⟨rfl, ?_⟩⟩
  · rcases hb with hb | rfl
    · obtain ⟨o, e⟩ := some_of (W.dom b hb)
      rw [keepH b o e]; exact fun z => nomatch z
    · rw [upd_same]; exact fun z => nomatch z
  · obtain ⟨i, j, e, r⟩ := W.pot b hb
    exact ⟨i, j, keepH _ _ e, r⟩
  · rcases z with z | z
    · exact hn z
    · exact hb (by rw [z]; exact hx)
  · refine q (.ref x) H' ys gg ⟨fun b o n e => g.ext b o n (fun z => by rw [z, hx] at e; cases e) (keepH b o e), fun b hb hpot => g.pot b hb (by obtain ⟨i, j, e, r⟩ := hpot; exact ⟨i, j, keepH _ _ e, r⟩)⟩ (.obj (fun z => ?_) e l (at_.less fun b z => z.elim (fun z => .inl (.inl z)) fun ⟨ws, z⟩ => .inr ⟨ws, keepH _ _ z⟩))
    rcases z with z | ⟨ws, z⟩
    · exact nN z
    · rw [hx] at z; cases z
theorem evn_make (h : EvA cls p t ds PA) (hp : ∀ xs, PA xs → xs.length = n ∧ pre xs ∧ ∀ ys, G xs ys → P (.obj c ns ys)) : EvN cls p (tMk (cls.C c) (spInitN cls c n ns pre G) n t) ds P := fun pn N H0 ad σ H S Q q =>
  h pn N H0 ad σ H S _ fun vs H1 xs ps g1 a1 => ⟨a1.length.trans (hp xs ps).1, fun x dx hx hd hne =>
    make_atN (S.mono g1).hwf a1 (hp xs ps).1 (hp xs ps).2.1 (fun v H' ys gg g2 av => q v H' _ ((hp xs ps).2.2 ys gg) (g1.trans g2) (av.less (old_less g1 S.hsub))) hx hd hne⟩
theorem evn_makeK {m : Nat} {is : List Nat} (h : EvA cls p t ds PA) (hp : ∀ xs, PA xs → xs.length = m ∧ (perm is xs).length = n ∧ pre (perm is xs) ∧ ∀ ys, G (perm is xs) ys → P (.obj c ns ys)) : EvN cls p (tMkK (cls.C c) (spInitN cls c n ns pre G) is m t) ds P := fun pn N H0 ad σ H S Q q =>
  h pn N H0 ad σ H S _ fun vs H1 xs ps g1 a1 => ⟨a1.length.trans (hp xs ps).1, fun x dx hx hd hne =>
    make_atN (S.mono g1).hwf (a1.perm is) (hp xs ps).2.1 (hp xs ps).2.2.1 (fun v H' ys gg g2 av => q v H' _ ((hp xs ps).2.2.2 ys gg) (g1.trans g2) (av.less (old_less g1 S.hsub))) hx hd hne⟩
structure IniM (cls : Cl) (p N M : Addr → Prop) (a dx C : Addr) (ns : List Str) (xs : List D) (H : Hp) (σ : L2.St) (ds : Sts) : Prop where
  sta : ∃ ad, Sta cls p [] N H ad H σ ds
  no : ∀ (i : Nat) (ys : List D), ds[i]? ≠ some (some (Slot.own ys))
  obj : ∃ vs, H a = some (.ins C dx (ns.zip vs)) ∧ ns.length = vs.length ∧ AtAll cls M H vs xs
def SvJ (cls : Cl) (c : Nat) (p : Addr → Prop) (a : Addr) (t : TS) (ds : Sts) (ns : List Str) (xs : List D) (post : Sts → List Str → List D → Prop) : Prop := ∀ (N : Addr → Prop) (Hs : Hp) (dx : Addr) (H : Hp) (σ : L2.St), N a → ¬ p a → ds[0]? = some (some (Slot.dat (.adr a))) → (∀ b, oldL Hs b → N b ∨ oldL H b) →
  IniM cls p N (fun b => N b ∨ oldL Hs b) a dx (cls.C c) ns xs H σ ds → ∀ Dn : Ends, (∀ σ' H' ds' ns' xs', GoX p a H H' → ds'[0]? = some (some (Slot.dat (.adr a))) → (∀ b, oldL Hs b → N b ∨ oldL H' b) → IniM cls p N (fun b => N b ∨ oldL Hs b) a dx (cls.C c) ns' xs' H' σ' ds' → post ds' ns' xs' → Dn.nx σ' H') → t Dn σ H
variable {xs : List D} {a : Addr} {u ts : TS} {mid post : Sts → List Str → List D → Prop} {nx : Sts → Prop}
theorem svj_seq (h : SvJ cls c p a ts ds ns xs mid) (k : ∀ ds' ns' xs', mid ds' ns' xs' → SvJ cls c p a u ds' ns' xs' post) : SvJ cls c p a (tSeq ts u) ds ns xs post := fun N Hs dx H σ ha hp h0 ol I Dn q =>
  h N Hs dx H σ ha hp h0 ol I { Dn with nx := u Dn } fun σ1 H1 ds1 ns1 xs1 g z ol1 I1 m => k ds1 ns1 xs1 m N Hs dx H1 σ1 ha hp z ol1 I1 Dn fun σ' H' ds' ns' xs' g' z' ol' I' po => q σ' H' ds' ns' xs' (g.trans g') z' ol' I' po
theorem svj_next (h : post ds ns xs) : SvJ cls c p a tNext ds ns xs post := fun N Hs dx H σ ha hp h0 ol I Dn q => q σ H ds ns xs (GoX.of (Go.refl H)) h0 ol I h
theorem old_x {N : Addr → Prop} {Hs H H' : Hp} (ol : ∀ b, oldL Hs b → N b ∨ oldL H b) (g : GoX p a H H') (ha : N a) (sub : ∀ b, p b → N b) : ∀ b, oldL Hs b → N b ∨ oldL H' b := fun b z => by
  rcases ol b z with z | ⟨ws, z⟩
  · exact .inl z
  · by_cases e : b = a
    · exact .inl (by rw [e]; exact ha)
    · by_cases hb : p b
      · exact .inl (sub b hb)
      · exact .inr ⟨ws, g.ext b _ hb e z⟩
theorem svj_sv (h : Sv cls p ts ds nx (fun _ => False) noSt noSt) (hn : ∀ ds', nx ds' → (∀ (i : Nat) (ys : List D), ds'[i]? ≠ some (some (Slot.own ys))) ∧ ds'[0]? = some (some (Slot.dat (.adr a))) ∧ ∀ (i : Nat) (c : Con), ds'[i]? ≠ some (some (Slot.mut c))) : SvJ cls c p a ts ds ns xs (fun ds' ns' xs' => nx ds' ∧ ns' = ns ∧ xs' = xs) := fun N Hs dx H σ ha hp h0 ol I Dn q => by
  obtain ⟨⟨ad, S⟩, no, vs, e, l, at_⟩ := I
  refine h [] N H ad σ H S Dn (fun ad' σ' H' ds' z S' => ?_) (fun _ _ _ z => z.elim) (fun _ _ _ _ z => z.elim) (fun _ _ _ _ z => z.elim)
  obtain ⟨n1, n2, n3⟩ := hn ds' z
  exact q σ' H' ds' ns xs (GoX.of S'.go) n2 (old_x ol (GoX.of S'.go) ha S.wf.sub) ⟨⟨ad', S'.wf, Go.refl _, S'.len, S'.dat, fun i ys e => absurd e (n1 i ys), S'.pin, fun i j xs ys e => absurd e (n1 i xs), fun i c e => absurd e (n3 i c), fun i j c c' e => absurd e (n3 i c)⟩, n1, vs, S'.go.ext a _ hp e, l, at_.mono (fun b z => .inl (S.wf.sub b z)) S'.go⟩ ⟨z, rfl, rfl⟩
theorem svj_fld {f : Str} (h : EvN cls p te ds P) (hc : Fdc K (cls.C c) f) (hf : f ∉ ns) (hl : ns.length < 1000) : SvJ cls c p a (sFld K (tVar 0) te f) ds ns xs (fun ds' ns' xs' => ds' = ds ∧ ns' = ns ++ [f] ∧ ∃ d, P d ∧ xs' = xs ++ [d]) := fun N Hs dx H σ ha hp h0 ol I Dn q => by
  obtain ⟨⟨ad, S⟩, no, vs, e, l, at_⟩ := I
  refine h [] N H ad σ H S _ fun y H1 d pd g1 a1 => ?_
  have S1 := S.mono g1
  obtain ⟨v, h1, h2⟩ := S1.dat 0 _ h0
  cases h2
  have e1 : H1 a = some (.ins (cls.C c) dx (ns.zip vs)) := g1.ext a _ hp e
  refine ⟨.ref a, h1, a, _, dx, _, rfl, e1, hc.1, hc.2, ?_, ?_⟩
  · rw [List.length_zip]; omega
  have kp : ∀ b o, ¬ (N b ∨ oldL Hs b) → H1 b = some o → (upd H1 a (.ins (cls.C c) dx (putF f y (ns.zip vs)))) b = some o := fun b o n eb => by
    rw [upd_ne (fun z => n (.inl (by rw [z]; exact ha)))]; exact eb
  have gx : GoX p a H (upd H1 a (.ins (cls.C c) dx (putF f y (ns.zip vs)))) := ⟨fun b o n m eb => by rw [upd_ne m]; exact g1.ext b o n eb, fun b hb hpot => by
    obtain ⟨i, j, ei, r⟩ := g1.pot b hb hpot
    exact ⟨i, j, by rw [upd_ne (fun z => hp (by rw [← z]; exact hb))]; exact ei, r⟩⟩
  refine q σ _ ds (ns ++ [f]) (xs ++ [d]) gx h0 (old_x ol gx ha S.wf.sub) ⟨⟨ad, S1.store no S.nomut ha hp⟩, no, vs ++ [y], ?_, ?_, ?_⟩ ⟨rfl, rfl, d, pd, rfl⟩
  · rw [upd_same, putF_zip hf l]
  · rw [List.length_append, List.length_append, l]; rfl
  · exact AtAll.append ((at_.mono (fun b z => .inl (S.wf.sub b z)) g1).keep (fun _ _ n => n) kp) (.cons ((a1.less fun b z => z.elim (fun z => .inl (.inl z)) fun z => (ol b z).elim (fun z => .inl (.inl z)) .inr).keep (fun _ _ n => n) kp) .nil)
theorem gok_initN {Pg : Program} {w : World} {mg : Str → Option Value} {base : Heap} {k : Nat} {f : Addr} {fd : FuncData} {ps Nm : List Str} {n m : Nat} {pre : List D → Prop} {G : List D → List D → Prop} {x qual : Str} {st : Stmt}
    (F : Fun K x qual st f fd) (S : FnScope Nm ps (defScope st)) (hn : ps.length = n + 1) (hm : Nm.length - (n + 1) = m)
    (hb : ∀ (cdv : Value) (A : Around) (out : List Env) (s : Shared) (H : Hp) (E : XK), A.guards = some [] → Room k (A.deeper (envOfC qual (defScope st) s.heap.objs.size f cdv)) →
      ∃ t, PSs (cxOf CX0 Pg w K mg base Nm qual (defScope st) f cdv A out s H E).nox (defBody st) t ∧ ∀ p a xs, xs.length = n → pre xs → SvJ cls c p a t (entry m (.adr a :: xs)) [] [] (fun _ ns' ys => ns' = ns ∧ G xs ys)) :
    GOk Pg w K mg base (k + 1) f fd ps (spInitN cls c n ns pre G) := by
  refine gok_of F S (fun vs H Q E ⟨p, N, a, dx, vs', xs, e, _, _, _, _, at_, l, _⟩ => by rw [e, List.length_cons, at_.length, l, hn]) fun cdv A out s H vs Q E hg hr hs => ?_
  obtain ⟨t, ht, hv⟩ := hb cdv A out s H E hg hr
  obtain ⟨p, N, a, dx, vs', xs, rfl, ha, hp, e, W, at_, l, hpre, q⟩ := hs
  refine ⟨t, ht, ?_⟩
  have S0 := sta_entry (Nm := Nm) W (AtAll.cons (.adr a) at_)
  have no : ∀ (i : Nat) (ys : List D), (entry m (.adr a :: xs))[i]? ≠ some (some (Slot.own ys)) := fun i ys e => by
    have : ∀ (l : Sts), (∀ o ∈ l, ∀ ys, o ≠ some (Slot.own ys)) → l[i]? ≠ some (some (Slot.own ys)) := fun l h e => h _ (List.mem_of_getElem? e) ys rfl
    refine this _ ?_ e
    intro o ho ys z
    subst z
    unfold entry at ho
    rcases List.mem_append.mp ho with ho | ho
    · obtain ⟨d, _, e⟩ := List.mem_map.mp ho
      cases e
    · have := List.eq_of_mem_replicate ho
      cases this
  rw [List.length_cons, at_.length, l, hm] at S0
  exact hv p a xs l hpre N H dx H _ ha hp rfl (fun b z => .inr z) ⟨⟨_, S0⟩, no, [], e, rfl, .nil⟩ _ fun σ' H' ds' ns' ys g z ol I po => by
    obtain ⟨rfl, gg⟩ := po
    obtain ⟨_, _, ts, e', l', at'⟩ := I
    exact q H' ts ys g e' l' at' gg
end

/-! ### lists that only a block changes -/
section
variable {cls : Cl} {p N : Addr → Prop} {pn : List (V × D)} {H0 H H' : Hp} {ad : Nat → Addr} {σ : L2.St} {ds : Sts} {ta tb te tg tc tm : TE} {P : D → Prop} {ts tu : TS} {nx nx' bk ct : Sts → Prop} {rt : D → Prop} {K : PySem.W.Frag} {t : TA} {PA : List D → Prop}
theorem Sta.hideP {M : Addr → Prop} (E : Sta cls p pn N H0 ad H σ ds) (g : Go p H H') (hM : ∀ l, M l → H l = none ∧ H' l ≠ none) : Sta cls p pn (fun b => N b ∨ M b) H0 ad H' σ ds := by
  have nl : ∀ a, H a ≠ none → ¬ M a := fun a h z => h (hM a z).1
  have hd : ∀ a, H a ≠ none → ¬ hid N ad ds a → ¬ hid (fun a => N a ∨ M a) ad ds a := fun a h n z => by
    rcases z with (z | z) | z
    · exact n (.inl z)
    · exact nl a h z
    · exact n (.inr z)
  have kk : ∀ a u, ¬ hid N ad ds a → H a = some u → H' a = some u := fun a u n e => g.ext a u (fun z => n (E.hsub a z)) e
  have E1 := E.mono g
  refine ⟨⟨fun a h => .inl (E.wf.sub a h), fun a h => ?_, E1.wf.pot⟩, E1.go, E.len, fun i d e => ?_, fun i xs e => ?_, fun q hq => (E.pin q hq).keep hd kk, E.inj, fun i c e => ?_, E.minj⟩
  · rcases h with h | h
    · exact E1.wf.dom a h
    · exact (hM a h).2
  · obtain ⟨v, h1, h2⟩ := E.dat i d e
    exact ⟨v, h1, h2.keep hd kk⟩
  · obtain ⟨h1, h2, h3, vs, h4, h5⟩ := E.own i xs e
    refine ⟨h1, fun z => ?_, h3, vs, g.ext _ _ (fun z => h2 (E.wf.sub _ z)) h4, h5.keep hd kk⟩
    rcases z with z | z
    · exact h2 z
    · exact nl _ (by rw [h4]; exact fun z => nomatch z) z
  · obtain ⟨v, h1, h2, h3, h4, h5⟩ := E.mt i c e
    exact ⟨v, h1, .inl h2, h3, h4, h5.keep hd kk fun u e => g.ext _ u h3 e⟩
structure Fz (p N : Addr → Prop) (H0 H : Hp) (b : Nat) (g c l t : Addr) : Prop where
  ng : N g
  nc : N c
  nl : N l
  pg : ¬ p g
  pc : ¬ p c
  pl : ¬ p l
  pt : ¬ p t
  g0 : H0 g = none
  c0 : H0 c = none
  l0 : H0 l = none
  gc : g ≠ c
  gl : g ≠ l
  cl : c ≠ l
  eg : ∃ vs, H g = some (.lst vs) ∧ vs.length ≤ b
  ec : ∃ vr, H c = some (.lst (.ref t :: vr))
  et : ∃ v0, H t = some (.tup [v0, .ref l])
  el : ∃ ws, H l = some (.lst ws) ∧ ws.length ≤ 100001
theorem Fz.mono {b : Nat} {g c l t : Addr} (F : Fz p N H0 H b g c l t) (k : Go p H H') : Fz p N H0 H' b g c l t :=
  ⟨F.ng, F.nc, F.nl, F.pg, F.pc, F.pl, F.pt, F.g0, F.c0, F.l0, F.gc, F.gl, F.cl, let ⟨vs, e, h⟩ := F.eg; ⟨vs, k.ext _ _ F.pg e, h⟩, let ⟨vs, e⟩ := F.ec; ⟨vs, k.ext _ _ F.pc e⟩, let ⟨vs, e⟩ := F.et; ⟨vs, k.ext _ _ F.pt e⟩, let ⟨vs, e, h⟩ := F.el; ⟨vs, k.ext _ _ F.pl e, h⟩⟩
def SvF (cls : Cl) (p : Addr → Prop) (t : TS) (ds : Sts) (b : Nat) (g c l tt : Addr) (rt : D → Prop) : Prop := ∀ (N : Addr → Prop) (H0 : Hp) (ad : Nat → Addr) (σ : L2.St) (H : Hp), Sta cls p [] N H0 ad H σ ds → Fz p N H0 H b g c l tt → ∀ Dn : Ends,
  (∀ v H' d, rt d → Go p H0 H' → At cls N H' v d → Dn.rt v H') → t Dn σ H
variable {g c l tt : Addr} {b : Nat}
/-- a statement that knows nothing of them -/
theorem svf_seq (no : ∀ (i : Nat) (ys : List D), ds[i]? ≠ some (some (Slot.own ys))) (nm : ∀ (i : Nat) (c : Con), ds[i]? ≠ some (some (Slot.mut c))) (h1 : Sv cls p ts ds nx' (fun _ => False) noSt noSt) (h2 : ∀ ds', nx' ds' → SvF cls p tu ds' b g c l tt rt) : SvF cls p (tSeq ts tu) ds b g c l tt rt := fun N H0 ad σ H S F Dn q => by
  have S1 : Sta cls p [] N H ad H σ ds := ⟨S.wf, Go.refl H, S.len, S.dat, fun i ys e => absurd e (no i ys), S.pin, S.inj, fun i c e => absurd e (nm i c), S.minj⟩
  refine h1 [] N H ad σ H S1 { Dn with nx := tu Dn } (fun ad' σ' H' ds' z S' => ?_) (fun _ _ _ z => z.elim) (fun _ _ _ _ z => z.elim) (fun _ _ _ _ z => z.elim)
  refine h2 ds' z N H0 ad' σ' H' ⟨S'.wf, S.go.trans S'.go, S'.len, S'.dat, fun i ys e => ?_, S'.pin, S'.inj, fun i c e => ?_, S'.minj⟩ (F.mono S'.go) Dn q
  · obtain ⟨k1, k2, k3, k4⟩ := S'.own i ys e
    exact ⟨k1, k2, old_none S k3, k4⟩
  · obtain ⟨v, k1, k2, k3, k4, k5⟩ := S'.mt i c e
    exact ⟨v, k1, k2, k3, old_none S k4, k5⟩
theorem svf_appG {i : Nat} (e : ds[i]? = some (some (Slot.dat (.adr g)))) (nm : ∀ (i : Nat) (c : Con), ds[i]? ≠ some (some (Slot.mut c))) (hb : b ≤ 100001) (h : Ev cls p te ds P) (k : SvF cls p tu ds (b + 1) g c l tt rt) : SvF cls p (tSeq (tDrop (tBM K "list" rAppend (tVar i) (tCons te tNil))) tu) ds b g c l tt rt := fun N H0 ad σ H S F Dn q => by
  obtain ⟨v, h1, h2⟩ := S.dat i _ e
  cases h2
  obtain ⟨vs, eg, lg⟩ := F.eg
  refine ⟨.ref g, h1, .inl ⟨rfl, vs, .inl (.inl eg)⟩, h [] N H0 ad σ H S _ fun w H1 d pd g1 a => ?_⟩
  have F1 := F.mono g1
  have eg1 : H1 g = some (.lst vs) := g1.ext _ _ F.pg eg
  refine ⟨g, vs, w, rfl, rfl, eg1, Nat.lt_of_le_of_lt (Nat.le_trans lg hb) (by decide), ?_⟩
  have S2 := (S.mono g1).turn (o := .lst (vs ++ [w])) F.ng F.pg F.g0 fun i c e => absurd e (nm i c)
  obtain ⟨ws, el, ll⟩ := F1.el
  obtain ⟨vr, ec⟩ := F1.ec
  obtain ⟨v0, et⟩ := F1.et
  have tg : tt ≠ g := fun z => by rw [z, eg1] at et; cases et
  exact k N H0 ad σ _ S2 ⟨F.ng, F.nc, F.nl, F.pg, F.pc, F.pl, F.pt, F.g0, F.c0, F.l0, F.gc, F.gl, F.cl, ⟨_, upd_same, by rw [List.length_append]; exact Nat.succ_le_succ lg⟩, ⟨vr, by rw [upd_ne (Ne.symm F.gc)]; exact ec⟩, ⟨v0, by rw [upd_ne tg]; exact et⟩, ⟨ws, by rw [upd_ne (Ne.symm F.gl)]; exact el, ll⟩⟩ Dn q
theorem atI_zero {α : Type} {x : α} {xs : List α} : atI (x :: xs) 0 = some x := by
  unfold atI ixN
  rw [if_pos (Int.le_refl 0), if_pos (by rw [List.length_cons]; omega)]
  rfl
theorem At.lst_inv {M : Addr → Prop} {v : V} {ds : List D} (h : At cls M H v (.lst ds)) : ∃ a vs, v = .ref a ∧ ¬ M a ∧ H a = some (.lst vs) ∧ AtAll cls M H vs ds := by
  cases h with | lst n e a => exact ⟨_, _, rfl, n, e, a⟩
theorem At.tup_inv {M : Addr → Prop} {v : V} {ds : List D} (h : At cls M H v (.tup ds)) : ∃ a vs, v = .ref a ∧ ¬ M a ∧ H a = some (.tup vs) ∧ AtAll cls M H vs ds := by
  cases h with | tup n e a => exact ⟨_, _, rfl, n, e, a⟩
/-- name[0][1].append(e), then name.pop() -/
theorem svf_appL {j : Nat} (e : ds[j]? = some (some (Slot.dat (.adr c)))) (nm : ∀ (i : Nat) (c : Con), ds[i]? ≠ some (some (Slot.mut c))) (h : Ev cls p te ds P) (k : Sv cls p tu ds (fun _ => False) rt noSt noSt) :
    SvF cls p (tSeq (tDrop (tBM K "list" rAppend (tOp (rIx K) (tOp (rIx K) (tVar j) (tC (.int 0))) (tC (.int 1))) (tCons te tNil))) (tSeq (tDrop (tBM0 K "list" rPop (tVar j))) tu)) ds b g c l tt rt := fun N H0 ad σ H S F Dn q => by
  obtain ⟨v, h1, h2⟩ := S.dat j _ e
  cases h2
  obtain ⟨ws, el, ll⟩ := F.el
  obtain ⟨vr, ec⟩ := F.ec
  obtain ⟨v0, et⟩ := F.et
  refine ⟨.ref c, h1, .inl ⟨c, .ref tt :: vr, 0, .ref tt, rfl, rfl, .inl (.inl ec), atI_zero, ?_⟩⟩
  refine .inr (.inl ⟨tt, [v0, .ref l], 1, .ref l, rfl, rfl, .inl (.inl et), rfl, ?_⟩)
  refine ⟨.inl ⟨rfl, ws, .inl (.inl el)⟩, h [] N H0 ad σ H S _ fun w H1 d pd g1 a => ?_⟩
  have el1 : H1 l = some (.lst ws) := g1.ext _ _ F.pl el
  refine ⟨l, ws, w, rfl, rfl, el1, Nat.lt_of_le_of_lt ll (by decide), ?_⟩
  have S2 := (S.mono g1).turn (o := .lst (ws ++ [w])) F.nl F.pl F.l0 fun i c e => absurd e (nm i c)
  have ec2 : (upd H1 l (.lst (ws ++ [w]))) c = some (.lst (.ref tt :: vr)) := by rw [upd_ne F.cl]; exact g1.ext _ _ F.pc ec
  refine ⟨.ref c, h1, .inl ⟨rfl, _, .inl (.inl ec2)⟩, ?_⟩
  have hl : (V.ref tt :: vr)[(V.ref tt :: vr).length - 1]? = some ((V.ref tt :: vr)[(V.ref tt :: vr).length - 1]'(by rw [List.length_cons]; omega)) := List.getElem?_eq_getElem _
  refine ⟨c, _, _, rfl, rfl, ec2, hl, ?_⟩
  have S3 := S2.turn (o := .lst (V.ref tt :: vr).dropLast) F.nc F.pc F.c0 fun i c e => absurd e (nm i c)
  exact k [] N H0 ad σ _ S3 Dn (fun _ _ _ _ z => z.elim) q (fun _ _ _ _ z => z.elim) (fun _ _ _ _ z => z.elim)
theorem set_no {l : Sts} {i : Nat} {d : D} (no : ∀ (i : Nat) (ys : List D), l[i]? ≠ some (some (Slot.own ys))) : ∀ (j : Nat) (ys : List D), (l.set i (some (Slot.dat d)))[j]? ≠ some (some (Slot.own ys)) := fun j ys e => by
  rcases get_set e with ⟨_, z, _⟩ | ⟨_, z⟩
  · cases z
  · exact no j ys z
/-- a, b = a new list, a list of new tuples with new lists; x = what reaches none of them -/
theorem sv_block {i j k : Nat} {xs : List D} {s0 : D} {bs yr : List D} {dd : D} (no : ∀ (i : Nat) (ys : List D), ds[i]? ≠ some (some (Slot.own ys)))
    (hg : EvF cls p tg ds (· = xs)) (lx : xs.length ≤ 100000) (hc : EvN cls p tc ds (· = .lst (.tup [s0, .lst bs] :: yr))) (lb : bs.length ≤ 100000) (hb : ∀ d ∈ bs, ∃ x y : Int, d = .tup [.int x, .int y]) (nij : i ≠ j) (no' : ∀ (i : Nat) (c : Con), ds[i]? ≠ some (some (Slot.mut c)))
    (hm : EvN cls p tm ((ds.set i (some (Slot.dat (.lst xs)))).set j (some (Slot.dat (.lst (.tup [s0, .lst bs] :: yr))))) (· = dd))
    (kk : ∀ g c l tt, SvF cls p tu (((ds.set i (some (Slot.dat (.adr g)))).set j (some (Slot.dat (.adr c)))).set k (some (Slot.dat dd))) 100000 g c l tt rt) :
    Sv cls p (tSeq (tPar i j (tCons tg (tCons tc tNil))) (tSeq (tAsg tm (gName k)) tu)) ds nx rt noSt noSt := fun pn N H0 ad σ H S Dn q1 q2 q3 q4 => by
  have hidN : ∀ {l : Sts}, (∀ (i : Nat) (ys : List D), l[i]? ≠ some (some (Slot.own ys))) → ∀ b, hid N ad l b → N b := fun no b z => z.elim id fun ⟨i, ys, e, _⟩ => absurd e (no i ys)
  refine hg pn N H0 ad σ H S _ fun g H1 vs xs' ex g1 hgn eg ag => ?_
  subst ex
  refine hc pn N H0 ad σ H1 (S.mono g1) _ fun v H2 d ed g2 a2 => ?_
  subst ed
  have a2' : At cls (hid N ad ds) H2 v (.lst (.tup [s0, .lst bs] :: yr)) := a2.less fun b z => .inl z
  obtain ⟨c, vr0, rfl, nc, ec, ac⟩ := a2.lst_inv
  cases ac with
  | @cons vt vr _ _ at_ ar =>
  obtain ⟨t, vt0, rfl, nt, et, att⟩ := at_.tup_inv
  cases att with
  | @cons v0 _ _ _ a0 at1 =>
  cases at1 with
  | @cons vl _ _ _ al at2 =>
  cases at2
  obtain ⟨l, ws, rfl, nl, el, aw⟩ := al.lst_inv
  have gg := g1.trans g2
  have S2 := S.mono gg
  have pg : ¬ p g := fun z => (S.wf.pot g z).some hgn
  have eg2 : H2 g = some (.lst vs) := g2.ext _ _ pg eg
  have new1 : ∀ {x : Addr} {ws : List V}, ¬ (hid N ad ds x ∨ oldL H1 x) → H2 x = some (.lst ws) → H x = none := fun {x ws} n e => by
    cases q : H x with
    | none => rfl
    | some o =>
      have px : ¬ p x := fun z => n (.inl (S.hsub x z))
      have h1 := g1.ext x o px q
      have h2 := g2.ext x o px h1
      rw [e] at h2
      cases h2
      exact absurd ⟨ws, h1⟩ fun z => n (.inr z)
  have hc0 := new1 nc ec
  have hl0 := new1 nl el
  have pc : ¬ p c := fun z => nc (.inl (S.hsub c z))
  have pl : ¬ p l := fun z => nl (.inl (S.hsub l z))
  have pt : ¬ p t := fun z => nt (.inl (S.hsub t z))
  have gc : g ≠ c := fun z => nc (.inr ⟨vs, by rw [← z]; exact eg⟩)
  have gl : g ≠ l := fun z => nl (.inr ⟨vs, by rw [← z]; exact eg⟩)
  have cl : c ≠ l := fun z => by
    rw [z, el] at ec
    cases ec
    cases aw with
    | @cons w wr d dr aw1 aw2 =>
      obtain ⟨x, y, rfl⟩ := hb _ (List.mem_cons_self ..)
      obtain ⟨t2, vt2, e1, n2, e2, a3⟩ := aw1.tup_inv
      cases e1
      rw [et] at e2
      cases e2
      cases a3 with
      | cons _ a4 => cases a4 with
        | cons a5 _ => cases a5
  have SO := (S2.put (i := i) (v := .ref g) (d := .lst xs') (.lst (fresh_hid S.hwf hgn) eg2 (ag.less (fun b z => .inl z) |>.mono S.hsub g2)))
  have SO2 := SO.put (i := j) (v := .ref c) (d := .lst (.tup [s0, .lst bs] :: yr)) (a2'.less hid_set)
  refine ⟨.ref g, .ref c, rfl, ?_⟩
  refine hm pn N H0 ad _ H2 SO2 _ fun w H3 d ed g3 a3 => ?_
  subst ed
  let M : Addr → Prop := fun b => b = g ∨ b = c ∨ b = l
  have g13 := gg.trans g3
  have eg3 := g3.ext _ _ pg eg2
  have ec3 := g3.ext _ _ pc ec
  have el3 := g3.ext _ _ pl el
  have SH := S.hideP (M := M) g13 fun x z => by
    rcases z with rfl | rfl | rfl
    · exact ⟨hgn, by rw [eg3]; exact fun z => nomatch z⟩
    · exact ⟨hc0, by rw [ec3]; exact fun z => nomatch z⟩
    · exact ⟨hl0, by rw [el3]; exact fun z => nomatch z⟩
  have SH2 := ((SH.put (i := i) (v := .ref g) (d := .adr g) (.adr g)).put (i := j) (v := .ref c) (d := .adr c) (.adr c))
  have a3' : At cls (hid (fun b => N b ∨ M b) ad ((ds.set i (some (Slot.dat (.adr g)))).set j (some (Slot.dat (.adr c))))) H3 w d := a3.less fun b z => by
    rcases z with (z | z) | ⟨i, ys, e, _⟩
    · exact .inl (.inl z)
    · rcases z with rfl | rfl | rfl
      · exact .inr ⟨_, eg2⟩
      · exact .inr ⟨_, ec⟩
      · exact .inr ⟨_, el⟩
    · exact absurd e (set_no (set_no no) i ys)
  have SH3 := SH2.put (i := k) a3'
  refine kk g c l t (fun b => N b ∨ M b) H0 ad _ H3 ⟨SH3.wf, SH3.go, SH3.len, SH3.dat, SH3.own, (fun _ hq => nomatch hq), SH3.inj, SH3.mt, SH3.minj⟩ ⟨.inr (.inl rfl), .inr (.inr (.inl rfl)), .inr (.inr (.inr rfl)), pg, pc, pl, pt, old_none S hgn, old_none S hc0, old_none S hl0, gc, gl, cl, ⟨vs, eg3, by rw [ag.length]; exact lx⟩, ⟨vr, ec3⟩, ⟨v0, g3.ext _ _ pt et⟩, ⟨ws, el3, by rw [aw.length]; omega⟩⟩ Dn fun v H' d rd gd ad_ => q2 v H' d rd gd (ad_.less fun b z => .inl z)
/-- what a call answers is changed, and no more seen -/
theorem sv_appNew {ys : List D} (h : EvN cls p te ds (· = .lst ys)) (hz : ys.length ≤ 100000) (h2 : Ev cls p ta ds P) (k : nx ds) : Sv cls p (tDrop (tBM K "list" rAppend te (tCons ta tNil))) ds nx rt bk ct := fun pn N H0 ad σ H S Dn q1 q2 q3 q4 => by
  refine h pn N H0 ad σ H S _ fun v H1 d ed g1 a1 => ?_
  subst ed
  obtain ⟨l, vs, rfl, nl, el, aa⟩ := a1.lst_inv
  have pl : ¬ p l := fun z => nl (.inl (S.hsub l z))
  refine ⟨.inl ⟨rfl, vs, .inl (.inl el)⟩, h2 pn N H0 ad σ H1 (S.mono g1) _ fun w H2 d2 pd g2 a2 => ?_⟩
  have el2 := g2.ext _ _ pl el
  refine ⟨l, vs, w, rfl, rfl, el2, Nat.lt_of_le_of_lt (by rw [aa.length]; exact hz) (by decide), ?_⟩
  have h0 : H l = none := by
    cases q : H l with
    | none => rfl
    | some o =>
      have := g1.ext l o pl q
      rw [el] at this
      cases this
      exact absurd ⟨vs, q⟩ fun z => nl (.inr z)
  exact q1 ad σ _ ds k (S.mono ((g1.trans g2).chg (H1 := H) h0 fun a z => S.wf.dom a (S.wf.sub a z)))
/-- x[0] of such an answer, and x[1] -/
theorem evn_ix0 {y : D} {ys : List D} (h : EvN cls p te ds (· = .lst (y :: ys))) : EvN cls p (tOp (rIx K) te (tC (.int 0))) ds (· = y) :=
  evn_op h (evn_int ev_int) fun N H x z dx dz W ax az px pz Q q => by
    subst px pz
    cases az
    obtain ⟨a, vs, rfl, n, e, aa⟩ := ax.lst_inv
    cases aa with
    | cons a1 a2 => exact .inl ⟨a, _, 0, _, rfl, rfl, .inl (.inl e), atI_zero, q _ H _ rfl (Go.refl H) a1⟩
theorem evn_ix1 {x y : D} (h : EvN cls p te ds (· = .tup [x, y])) : EvN cls p (tOp (rIx K) te (tC (.int 1))) ds (· = y) :=
  evn_op h (evn_int ev_int) fun N H x' z dx dz W ax az px pz Q q => by
    subst px pz
    cases az
    obtain ⟨a, vs, rfl, n, e, aa⟩ := ax.tup_inv
    cases aa with
    | cons a1 a2 => cases a2 with
      | cons a2 a3 =>
        cases a3
        exact .inr (.inl ⟨a, _, 1, _, rfl, rfl, .inl (.inl e), rfl, q _ H _ rfl (Go.refl H) a2⟩)
end
end Lk

namespace K43
open PySem PySem.Spec PyProof.Rows L2 Lk
/-! ### the text -/
def topS (i : Nat) : Stmt := PySem.Challenge.pw_likestreets_k43_whole_kinds_tell_their_h.main.body.getD i (.Pass ⟨0, 0, 0, 0⟩)
def clsB : Stmt → List Stmt
  | .ClassDef (body := b) .. => b
  | _ => []
def methS (i j : Nat) : Stmt := (clsB (topS i)).getD j (.Pass ⟨0, 0, 0, 0⟩)
abbrev s_is_integer : Stmt := topS 1
theorem sc_is_integer : FnScope ["value"] ["value"] (defScope s_is_integer) := ⟨rfl, rfl, rfl, by decide +kernel, rfl, by decide +kernel, by decide +kernel⟩
abbrev s_is_count : Stmt := topS 2
theorem sc_is_count : FnScope ["value"] ["value"] (defScope s_is_count) := ⟨rfl, rfl, rfl, by decide +kernel, rfl, by decide +kernel, by decide +kernel⟩
abbrev s_is_list : Stmt := topS 3
theorem sc_is_list : FnScope ["value"] ["value"] (defScope s_is_list) := ⟨rfl, rfl, rfl, by decide +kernel, rfl, by decide +kernel, by decide +kernel⟩
abbrev s_is_price : Stmt := topS 16
theorem sc_is_price : FnScope ["value", "slope", "bends", "bend", "place", "more"] ["value"] (defScope s_is_price) := ⟨rfl, rfl, rfl, by decide +kernel, rfl, by decide +kernel, by decide +kernel⟩
abbrev s_is_bend : Stmt := topS 17
theorem sc_is_bend : FnScope ["value", "place", "more"] ["value"] (defScope s_is_bend) := ⟨rfl, rfl, rfl, by decide +kernel, rfl, by decide +kernel, by decide +kernel⟩
abbrev s_is_rising : Stmt := topS 18
theorem sc_is_rising : FnScope ["numbers", "number", "higher"] ["numbers"] (defScope s_is_rising) := ⟨rfl, rfl, rfl, by decide +kernel, rfl, by decide +kernel, by decide +kernel⟩
abbrev s_check_price : Stmt := topS 19
theorem sc_check_price : FnScope ["price"] ["price"] (defScope s_check_price) := ⟨rfl, rfl, rfl, by decide +kernel, rfl, by decide +kernel, by decide +kernel⟩
abbrev s_told_price : Stmt := topS 20
theorem sc_told_price : FnScope ["price", "slope", "bends"] ["price"] (defScope s_told_price) := ⟨rfl, rfl, rfl, by decide +kernel, rfl, by decide +kernel, by decide +kernel⟩
abbrev s_cost_at : Stmt := topS 21
theorem sc_cost_at : FnScope ["price", "number", "slope", "bends", "place", "more"] ["price", "number"] (defScope s_cost_at) := ⟨rfl, rfl, rfl, by decide +kernel, rfl, by decide +kernel, by decide +kernel⟩
abbrev s_price_at : Stmt := topS 22
theorem sc_price_at : FnScope ["price", "number"] ["price", "number"] (defScope s_price_at) := ⟨rfl, rfl, rfl, by decide +kernel, rfl, by decide +kernel, by decide +kernel⟩
abbrev s_plus_prices : Stmt := topS 23
theorem sc_plus_prices : FnScope ["price", "other", "mores", "place", "more"] ["price", "other"] (defScope s_plus_prices) := ⟨rfl, rfl, rfl, by decide +kernel, rfl, by decide +kernel, by decide +kernel⟩
abbrev s_are_bounds : Stmt := topS 26
theorem sc_are_bounds : FnScope ["value", "entry"] ["value"] (defScope s_are_bounds) := ⟨rfl, rfl, rfl, by decide +kernel, rfl, by decide +kernel, by decide +kernel⟩
abbrev s_is_bound : Stmt := topS 27
theorem sc_is_bound : FnScope ["value", "low", "high"] ["value"] (defScope s_is_bound) := ⟨rfl, rfl, rfl, by decide +kernel, rfl, by decide +kernel, by decide +kernel⟩
abbrev s_Kind_init : Stmt := methS 28 0
theorem sc_Kind_init : FnScope ["self", "many", "rest", "bounds", "prices", "price"] ["self", "many", "rest", "bounds", "prices"] (defScope s_Kind_init) := ⟨rfl, rfl, rfl, by decide +kernel, rfl, by decide +kernel, by decide +kernel⟩
abbrev s_Kind_many : Stmt := methS 28 1
theorem sc_Kind_many : FnScope ["self"] ["self"] (defScope s_Kind_many) := ⟨rfl, rfl, rfl, by decide +kernel, rfl, by decide +kernel, by decide +kernel⟩
abbrev s_Kind_rest : Stmt := methS 28 2
theorem sc_Kind_rest : FnScope ["self"] ["self"] (defScope s_Kind_rest) := ⟨rfl, rfl, rfl, by decide +kernel, rfl, by decide +kernel, by decide +kernel⟩
abbrev s_Kind_columns : Stmt := methS 28 3
theorem sc_Kind_columns : FnScope ["self"] ["self"] (defScope s_Kind_columns) := ⟨rfl, rfl, rfl, by decide +kernel, rfl, by decide +kernel, by decide +kernel⟩
abbrev s_Kind_bounds : Stmt := methS 28 4
theorem sc_Kind_bounds : FnScope ["self"] ["self"] (defScope s_Kind_bounds) := ⟨rfl, rfl, rfl, by decide +kernel, rfl, by decide +kernel, by decide +kernel⟩
abbrev s_Kind_prices : Stmt := methS 28 5
theorem sc_Kind_prices : FnScope ["self", "price"] ["self"] (defScope s_Kind_prices) := ⟨rfl, rfl, rfl, by decide +kernel, rfl, by decide +kernel, by decide +kernel⟩
abbrev s_Kind_with_many : Stmt := methS 28 6
theorem sc_Kind_with_many : FnScope ["self", "many"] ["self", "many"] (defScope s_Kind_with_many) := ⟨rfl, rfl, rfl, by decide +kernel, rfl, by decide +kernel, by decide +kernel⟩
abbrev s_Kind_eq : Stmt := methS 28 7
theorem sc_Kind_eq : FnScope ["self", "other"] ["self", "other"] (defScope s_Kind_eq) := ⟨rfl, rfl, rfl, by decide +kernel, rfl, by decide +kernel, by decide +kernel⟩
abbrev s_Kind_repr : Stmt := methS 28 8
theorem sc_Kind_repr : FnScope ["self"] ["self"] (defScope s_Kind_repr) := ⟨rfl, rfl, rfl, by decide +kernel, rfl, by decide +kernel, by decide +kernel⟩
abbrev s_pot_ : Stmt := topS 30
theorem sc_pot_ : FnScope ["_law_script", "_law_k", "_law_cell"] ["_law_script", "_law_k"] (defScope s_pot_) := ⟨rfl, rfl, rfl, by decide +kernel, rfl, by decide +kernel, by decide +kernel⟩
abbrev s_draw_ : Stmt := topS 31
theorem sc_draw_ : FnScope ["_law_pot_here", "_law_many", "_law_digit"] ["_law_pot_here", "_law_many"] (defScope s_draw_) := ⟨rfl, rfl, rfl, by decide +kernel, rfl, by decide +kernel, by decide +kernel⟩
abbrev s_pick_ : Stmt := topS 32
theorem sc_pick_ : FnScope ["_law_pot_here", "_law_some"] ["_law_pot_here", "_law_some"] (defScope s_pick_) := ⟨rfl, rfl, rfl, by decide +kernel, rfl, by decide +kernel, by decide +kernel⟩
abbrev s_mixed_ : Stmt := topS 33
theorem sc_mixed_ : FnScope ["_law_pot_here", "_law_some", "_law_left", "_law_found", "_law_turn"] ["_law_pot_here", "_law_some"] (defScope s_mixed_) := ⟨rfl, rfl, rfl, by decide +kernel, rfl, by decide +kernel, by decide +kernel⟩
abbrev s_price_ : Stmt := topS 34
theorem sc_price_ : FnScope ["_law_pot_here", "_law_places", "_law_slope", "_law_place"] ["_law_pot_here"] (defScope s_price_) := ⟨rfl, rfl, rfl, by decide +kernel, rfl, by decide +kernel, by decide +kernel⟩
abbrev s_parts_ : Stmt := topS 35
theorem sc_parts_ : FnScope ["_law_pot_here", "_law_columns", "_law_bounds", "_law_at", "_law_low", "_law_many"] ["_law_pot_here"] (defScope s_parts_) := ⟨rfl, rfl, rfl, by decide +kernel, rfl, by decide +kernel, by decide +kernel⟩
abbrev s_text_ : Stmt := topS 36
theorem sc_text_ : FnScope ["_law_parts_here", "_law_many", "_law_rest", "_law_bounds", "_law_prices"] ["_law_parts_here"] (defScope s_text_) := ⟨rfl, rfl, rfl, by decide +kernel, rfl, by decide +kernel, by decide +kernel⟩
abbrev s_is_ : Stmt := topS 37
theorem sc_is_ : FnScope ["_law_kind", "_law_parts_here", "_law_many", "_law_rest", "_law_bounds", "_law_prices"] ["_law_kind", "_law_parts_here"] (defScope s_is_) := ⟨rfl, rfl, rfl, by decide +kernel, rfl, by decide +kernel, by decide +kernel⟩
abbrev s_others_ : Stmt := topS 38
theorem sc_others_ : FnScope ["_law_pot_here", "_law_parts_here", "_law_many", "_law_rest", "_law_bounds", "_law_prices", "_law_at", "_law_low", "_law_high", "_law_slope", "_law_bends", "_law_wider", "_law_dearer", "_law_bent", "_law_found", "_law_columns"] ["_law_pot_here", "_law_parts_here"] (defScope s_others_) := ⟨rfl, rfl, rfl, by decide +kernel, rfl, by decide +kernel, by decide +kernel⟩
abbrev s_right_ : Stmt := topS 39
theorem sc_right_ : FnScope ["_law_pot_here", "_law_parts_here", "_law_many", "_law_rest", "_law_bounds", "_law_prices", "_law_given", "_law_costs", "_law_kind", "_law_same", "_law_more", "_law_other", "_law_odd", "_law_slope", "_law_bends"] ["_law_pot_here"] (defScope s_right_) := ⟨rfl, rfl, rfl, by decide +kernel, rfl, by decide +kernel, by decide +kernel⟩
abbrev s_law : Stmt := topS 40
theorem sc_law : FnScope ["_law_script", "_law_k"] ["_law_script"] (defScope s_law) := ⟨rfl, rfl, rfl, by decide +kernel, rfl, by decide +kernel, by decide +kernel⟩
/-- the numbers that stand at the top -/
structure Gcs (mg : Str → Option Value) : Prop where
  MOST_BENDS : ∃ t, mg "MOST_BENDS" = some (.int 4 t)
  MOST_COLUMNS : ∃ t, mg "MOST_COLUMNS" = some (.int 6 t)
/-- the classes -/
structure Gks (K : PySem.W.Frag) (mg : Str → Option Value) (cls : Cl) : Prop where
  Kind : mg "Kind" = some (.ref (cls.C 0))
  Kind_cl : ClF K (cls.C 0)
  Kind_nf : ∀ n ∈ (["NoneType", "bool", "int", "str", "list", "tuple", "dict"] : List String), PySem.W.notFirst K (cls.C 0) (.type n) = true
  Kind_f_many : Fdc K (cls.C 0) "_many"
  Kind_f_rest : Fdc K (cls.C 0) "_rest"
  Kind_f_bounds : Fdc K (cls.C 0) "_bounds"
  Kind_f_prices : Fdc K (cls.C 0) "_prices"
def isCnt : D → Bool
  | .int i => decide (0 ≤ i)
  | _ => false
def isSq : D → Bool
  | .lst _ => true
  | .tup _ => true
  | _ => false
def isRow : D → Bool
  | .lst xs => decide (1 ≤ xs.length ∧ xs.length ≤ 6) && xs.all isInt
  | .tup xs => decide (1 ≤ xs.length ∧ xs.length ≤ 6) && xs.all isInt
  | _ => false
def kidsB : D → Bool
  | .lst xs => xs.all builtD
  | .tup xs => xs.all builtD
  | d => builtD d
def okR (a : List Int) : Prop := 1 ≤ a.length ∧ a.length ≤ 6
def small (a : List Int) : Prop := ∀ i ∈ a, i.natAbs < 2 ^ 400
def pre_is_integer (_ : Addr → Prop) (xs : List D) : Prop := ∃ d, xs = [d] ∧ builtD d = true
def F_is_integer (xs : List D) (r : D) : Prop := ∃ d, xs = [d] ∧ r = .bl (isInt d)
def pre_is_count := pre_is_integer
def F_is_count (xs : List D) (r : D) : Prop := ∃ d, xs = [d] ∧ r = .bl (isCnt d)
def pre_is_list := pre_is_integer
def F_is_list (xs : List D) (r : D) : Prop := ∃ d, xs = [d] ∧ r = .bl (isSq d)
def pre_is_row (_ : Addr → Prop) (xs : List D) : Prop := ∃ d, xs = [d] ∧ builtD d = true ∧ kidsB d = true
def F_is_row (xs : List D) (r : D) : Prop := ∃ d, xs = [d] ∧ r = .bl (isRow d)
def pre_check_row (_ : Addr → Prop) (xs : List D) : Prop := ∃ k a, xs = [row k a] ∧ okR a
def F_check_row (_ : List D) (r : D) : Prop := r = .non
def pre_check_two_rows (_ : Addr → Prop) (xs : List D) : Prop := ∃ k l a b, xs = [row k a, row l b] ∧ okR a ∧ okR b ∧ a.length = b.length
def F_check_two_rows (_ : List D) (r : D) : Prop := r = .non
def pre_row_plus := pre_check_two_rows
def F_row_plus (xs : List D) (r : D) : Prop := ∃ k l a b, xs = [row k a, row l b] ∧ r = row false (List.zipWith (· + ·) a b)
def pre_row_less := pre_check_two_rows
def F_row_less (xs : List D) (r : D) : Prop := ∃ k l a b, xs = [row k a, row l b] ∧ r = row false (List.zipWith (· - ·) a b)
def pre_row_times (_ : Addr → Prop) (xs : List D) : Prop := ∃ (k : Bool) (a : List Int) (n : Int), xs = [row k a, .int n] ∧ okR a ∧ small a ∧ n.natAbs < 2 ^ 400
def F_row_times (xs : List D) (r : D) : Prop := ∃ (k : Bool) (a : List Int) (n : Int), xs = [row k a, .int n] ∧ r = row false (a.map fun i => i * n)
def pre_row_worth (_ : Addr → Prop) (xs : List D) : Prop := ∃ k l a b, xs = [row k a, row l b] ∧ okR a ∧ okR b ∧ a.length = b.length ∧ small a ∧ small b
def F_row_worth (xs : List D) (r : D) : Prop := ∃ k l a b, xs = [row k a, row l b] ∧ r = .int (List.zipWith (· * ·) a b).sum
def iabs (i : Int) : Int := if i < 0 then -i else i
def pre_row_length := pre_check_row
def F_row_length (xs : List D) (r : D) : Prop := ∃ k a, xs = [row k a] ∧ r = .int (a.map iabs).sum
def pre_plus := pre_row_plus
def F_plus := F_row_plus
def pre_less := pre_row_less
def F_less := F_row_less
def pre_times := pre_row_times
def F_times := F_row_times
def pre_mirrored (_ : Addr → Prop) (xs : List D) : Prop := ∃ k a, xs = [row k a] ∧ okR a ∧ small a
def F_mirrored (xs : List D) (r : D) : Prop := ∃ k a, xs = [row k a] ∧ r = row false (a.map fun i => i * (-1))
def pre_worth := pre_row_worth
def F_worth := F_row_worth
def pre_length_of := pre_row_length
def F_length_of := F_row_length
def pre_pot_ (_ : Addr → Prop) (xs : List D) : Prop := ∃ (ns : List Int) (k : Int), xs = [.scr ns, .int k] ∧ 0 ≤ k ∧ k < 1000
def F_pot_ (_ : List D) (r : D) : Prop := ∃ x y : Int, r = .lst [.int x, .int y] ∧ 0 ≤ x ∧ 0 ≤ y ∧ y < 2147483648
abbrev pre_draw_ := preDraw
abbrev F_draw_ := isDraw
def pre_pick_ (p : Addr → Prop) (xs : List D) : Prop := ∃ a ys, xs = [.adr a, .lst ys] ∧ p a ∧ ys ≠ [] ∧ ys.length < 1000
def F_pick_ (xs : List D) (r : D) : Prop := ∃ a ys, xs = [.adr a, .lst ys] ∧ r ∈ ys
def pre_passed_ (p : Addr → Prop) (xs : List D) : Prop := ∃ a k ys, xs = [.adr a, sq k ys] ∧ p a
def F_passed_ (xs : List D) (r : D) : Prop := ∃ a k l ys, xs = [.adr a, sq k ys] ∧ r = sq l ys
def preP (p : Addr → Prop) (xs : List D) : Prop := ∃ a, xs = [.adr a] ∧ p a
theorem row_built (k : Bool) (a : List Int) : builtD (row k a) = true := by cases k <;> rfl
theorem kids_ints : ∀ a : List Int, (a.map D.int).all builtD = true
  | [] => rfl
  | i :: a => by
    show (builtD (.int i) && (a.map D.int).all builtD) = true
    rw [kids_ints a]
    rfl
theorem row_kids (k : Bool) (a : List Int) : kidsB (row k a) = true := by cases k <;> exact kids_ints a
theorem ints_isInt : ∀ a : List Int, (a.map D.int).all isInt = true
  | [] => rfl
  | i :: a => by
    show (isInt (.int i) && (a.map D.int).all isInt) = true
    rw [ints_isInt a]
    rfl
theorem isRow_row (k : Bool) (a : List Int) (h : okR a) : isRow (row k a) = true := by
  have e : (decide (1 ≤ (a.map D.int).length ∧ (a.map D.int).length ≤ 6) && (a.map D.int).all isInt) = true := by
    rw [ints_isInt, List.length_map, decide_eq_true (show 1 ≤ a.length ∧ a.length ≤ 6 from h)]
    rfl
  cases k <;> exact e
theorem isInt_of {d : D} (h : isInt d = true) : ∃ i, d = .int i := by
  cases d with
  | int i => exact ⟨i, rfl⟩
  | _ => cases h
theorem ints_of {Q : Int → Prop} : ∀ {xs ys : List D}, Paired (fun _ r => ∃ i : Int, r = D.int i ∧ Q i) xs ys → ∃ is : List Int, ys = is.map D.int ∧ ∀ i ∈ is, Q i
  | _, _, .nil => ⟨[], rfl, fun _ h => nomatch h⟩
  | _, _, .cons ⟨i, e, q⟩ t => by
    obtain ⟨is, e2, h⟩ := ints_of t
    exact ⟨i :: is, by rw [e, e2]; rfl, fun j hj => (List.mem_cons.mp hj).elim (fun z => z ▸ q) (h j)⟩

/-! ### what the law reckons -/
def lt100 (a : List Int) : Prop := ∀ i ∈ a, i.natAbs < 2 ^ 100
theorem sm100 {a : List Int} (h : lt100 a) : small a := fun i hi => pow_le (h i hi) (by decide)
theorem sm_add {a b : List Int} (h : lt100 a) (g : lt100 b) : small (List.zipWith (· + ·) a b) := fun i hi => by
  obtain ⟨x, y, hx, hy, e⟩ := mem_zipWith hi
  have h1 := h x hx
  have h2 := g y hy
  have h3 := Int.natAbs_add_le x y
  have h4 : (2 : Nat) ^ 100 + 2 ^ 100 ≤ 2 ^ 400 := by decide
  rw [e]
  omega
theorem sm_sub {a b : List Int} (h : lt100 a) (g : lt100 b) : small (List.zipWith (· - ·) a b) := fun i hi => by
  obtain ⟨x, y, hx, hy, e⟩ := mem_zipWith hi
  have h1 := h x hx
  have h2 := g y hy
  have h3 := Int.natAbs_sub_le x y
  have h4 : (2 : Nat) ^ 100 + 2 ^ 100 ≤ 2 ^ 400 := by decide
  rw [e]
  omega
theorem mul_small {x y : Int} (h : x.natAbs < 2 ^ 100) (g : y.natAbs < 2 ^ 100) : (x * y).natAbs < 2 ^ 200 := by
  rw [Int.natAbs_mul]
  have := Nat.mul_lt_mul'' h g
  rwa [← Nat.pow_add] at this
theorem sm_mul {a : List Int} {n : Int} (h : lt100 a) (g : n.natAbs < 2 ^ 100) : ∀ i ∈ a.map (fun i => i * n), i.natAbs < 2 ^ 200 := fun i hi => by
  obtain ⟨x, hx, rfl⟩ := List.mem_map.mp hi
  exact mul_small (h x hx) g
theorem worth_b {a b : List Int} (h : lt100 a) (g : lt100 b) (ha : okR a) : (List.zipWith (· * ·) a b).sum.natAbs < 2 ^ 300 := by
  have h1 := sum_bound (B := 2 ^ 200) (a := List.zipWith (· * ·) a b) fun i hi => by
    obtain ⟨x, y, hx, hy, e⟩ := mem_zipWith hi
    rw [e]
    exact mul_small (h x hx) (g y hy)
  have h2 : (List.zipWith (· * ·) a b).length ≤ 6 := by rw [List.length_zipWith]; exact Nat.le_trans (Nat.min_le_left _ _) ha.2
  have h3 : (List.zipWith (· * ·) a b).length * 2 ^ 200 ≤ 6 * 2 ^ 200 := Nat.mul_le_mul_right _ h2
  have h4 : 6 * 2 ^ 200 < 2 ^ 300 := by decide
  omega
theorem iabs_le {i : Int} {B : Nat} (h : i.natAbs < B) : (iabs i).natAbs < B := by unfold iabs; split <;> omega
theorem len_b {a : List Int} (h : small a) (ha : a.length ≤ 6) : (a.map iabs).sum.natAbs < 2 ^ 500 := by
  have h1 := sum_bound (B := 2 ^ 400) (a := a.map iabs) fun i hi => by
    obtain ⟨x, hx, rfl⟩ := List.mem_map.mp hi
    exact iabs_le (h x hx)
  rw [List.length_map] at h1
  have h3 : a.length * 2 ^ 400 ≤ 6 * 2 ^ 400 := Nat.mul_le_mul_right _ ha
  have h4 : 6 * 2 ^ 400 < 2 ^ 500 := by decide
  omega
theorem m_comm (a : List Int) (n : Int) : a.map (fun i => i * n) = a.map (fun i => n * i) := List.map_congr_left fun i _ => Int.mul_comm i n
theorem m_neg (a : List Int) : a.map (fun i => i * (-1)) = a.map (fun i => 0 - i) := List.map_congr_left fun i _ => by omega
theorem m_negneg (a : List Int) : (a.map (fun i => 0 - i)).map (fun i => i * (-1)) = a := by
  rw [List.map_map]
  conv => rhs; rw [← List.map_id a]
  exact List.map_congr_left fun i _ => by show (0 - i) * (-1) = i; omega
theorem m_plus : ∀ a b : List Int, List.zipWith (· + ·) a (b.map fun i => i * (-1)) = List.zipWith (· - ·) a b
  | [], _ => rfl
  | _ :: _, [] => rfl
  | x :: a, y :: b => by
    show (x + y * (-1)) :: List.zipWith (· + ·) a (b.map fun i => i * (-1)) = (x - y) :: List.zipWith (· - ·) a b
    rw [m_plus a b]
    congr 1
    omega
theorem m_less : ∀ a b : List Int, a.length = b.length → List.zipWith (· - ·) (List.zipWith (· + ·) a b) b = a
  | [], _, _ => rfl
  | _ :: _, [], h => by cases h
  | x :: a, y :: b, h => by
    show (x + y - y) :: List.zipWith (· - ·) (List.zipWith (· + ·) a b) b = x :: a
    rw [m_less a b (Nat.succ.inj h)]
    congr 1
    omega
theorem m_worth : ∀ a b c : List Int, a.length = b.length → (List.zipWith (· * ·) (List.zipWith (· + ·) a b) c).sum = (List.zipWith (· * ·) a c).sum + (List.zipWith (· * ·) b c).sum
  | [], [], _, _ => rfl
  | [], _ :: _, _, h => by cases h
  | _ :: _, [], _, h => by cases h
  | _ :: _, _ :: _, [], _ => rfl
  | x :: a, y :: b, z :: c, h => by
    show ((x + y) * z) + (List.zipWith (· * ·) (List.zipWith (· + ·) a b) c).sum = (x * z + (List.zipWith (· * ·) a c).sum) + (y * z + (List.zipWith (· * ·) b c).sum)
    rw [m_worth a b c (Nat.succ.inj h), Int.add_mul]
    omega
theorem m_three : ∀ a c : List Int, (List.zipWith (· * ·) (c.map fun i => i * 3) a).sum = 3 * (List.zipWith (· * ·) a c).sum
  | [], [] => rfl
  | [], _ :: _ => rfl
  | _ :: _, [] => rfl
  | x :: a, z :: c => by
    show (z * 3) * x + (List.zipWith (· * ·) (c.map fun i => i * 3) a).sum = 3 * (x * z + (List.zipWith (· * ·) a c).sum)
    rw [m_three a c, Int.mul_add, Int.mul_comm z 3, Int.mul_assoc, Int.mul_comm z x]
theorem m_tri : ∀ a b : List Int, a.length = b.length → ((List.zipWith (· + ·) a b).map iabs).sum ≤ (a.map iabs).sum + (b.map iabs).sum
  | [], [], _ => by decide
  | [], _ :: _, h => by cases h
  | _ :: _, [], h => by cases h
  | x :: a, y :: b, h => by
    show iabs (x + y) + ((List.zipWith (· + ·) a b).map iabs).sum ≤ (iabs x + (a.map iabs).sum) + (iabs y + (b.map iabs).sum)
    have h1 := m_tri a b (Nat.succ.inj h)
    have h2 : iabs (x + y) ≤ iabs x + iabs y := by unfold iabs; split <;> split <;> split <;> omega
    omega
def toI : D → Int
  | .int i => i
  | _ => 0
def ents : D → List Int
  | .lst xs => xs.map toI
  | .tup xs => xs.map toI
  | _ => []
theorem ents_row (k : Bool) (a : List Int) : ents (row k a) = a := by
  have e : (a.map D.int).map toI = a := by
    rw [List.map_map]
    conv => rhs; rw [← List.map_id a]
    rfl
  cases k <;> exact e
def shw (xs : List D) : Str := (py (.lst xs)).shown
section
variable {cls : Cl} {p : Addr → Prop} {ds : Sts} {ta tb tc td te : TE} {K : PySem.W.Frag} {k l : Bool} {a b : List Int} {n : Int}
theorem e_plus (h : Ev cls p ta ds (· = row k a)) (g : Ev cls p tb ds (· = row l b)) (ha : okR a) (hab : a.length = b.length) : Ev cls p (tCall (spG cls 2 pre_plus F_plus) [] E0 (tCons ta (tCons tb tNil))) ds (· = row false (List.zipWith (· + ·) a b)) :=
  ev_c2 h g ⟨k, l, a, b, rfl, ha, by unfold okR at *; omega, hab⟩ fun d ⟨k', l', a', b', e, z⟩ => by rw [z, row_inj (List.cons.inj e).1, row_inj (List.cons.inj (List.cons.inj e).2).1]
theorem k_plus (h : Ev cls p ta ds (· = row k a)) (g : Ev cls p tb ds (· = row l b)) (ha : okR a) (hab : a.length = b.length) : Ev cls p (tKey (spG cls 2 pre_plus F_plus) [1, 0] 2 (tCons tb (tCons ta tNil))) ds (· = row false (List.zipWith (· + ·) a b)) :=
  ev_k2 h g ⟨k, l, a, b, rfl, ha, by unfold okR at *; omega, hab⟩ fun d ⟨k', l', a', b', e, z⟩ => by rw [z, row_inj (List.cons.inj e).1, row_inj (List.cons.inj (List.cons.inj e).2).1]
theorem e_less (h : Ev cls p ta ds (· = row k a)) (g : Ev cls p tb ds (· = row l b)) (ha : okR a) (hab : a.length = b.length) : Ev cls p (tCall (spG cls 2 pre_less F_less) [] E0 (tCons ta (tCons tb tNil))) ds (· = row false (List.zipWith (· - ·) a b)) :=
  ev_c2 h g ⟨k, l, a, b, rfl, ha, by unfold okR at *; omega, hab⟩ fun d ⟨k', l', a', b', e, z⟩ => by rw [z, row_inj (List.cons.inj e).1, row_inj (List.cons.inj (List.cons.inj e).2).1]
theorem k_less (h : Ev cls p ta ds (· = row k a)) (g : Ev cls p tb ds (· = row l b)) (ha : okR a) (hab : a.length = b.length) : Ev cls p (tKey (spG cls 2 pre_less F_less) [1, 0] 2 (tCons tb (tCons ta tNil))) ds (· = row false (List.zipWith (· - ·) a b)) :=
  ev_k2 h g ⟨k, l, a, b, rfl, ha, by unfold okR at *; omega, hab⟩ fun d ⟨k', l', a', b', e, z⟩ => by rw [z, row_inj (List.cons.inj e).1, row_inj (List.cons.inj (List.cons.inj e).2).1]
theorem e_worth (h : Ev cls p ta ds (· = row k a)) (g : Ev cls p tb ds (· = row l b)) (ha : okR a) (hab : a.length = b.length) (sa : small a) (sb : small b) : Ev cls p (tCall (spG cls 2 pre_worth F_worth) [] E0 (tCons ta (tCons tb tNil))) ds (· = .int (List.zipWith (· * ·) a b).sum) :=
  ev_c2 h g ⟨k, l, a, b, rfl, ha, by unfold okR at *; omega, hab, sa, sb⟩ fun d ⟨k', l', a', b', e, z⟩ => by rw [z, row_inj (List.cons.inj e).1, row_inj (List.cons.inj (List.cons.inj e).2).1]
theorem k_worth (h : Ev cls p ta ds (· = row k a)) (g : Ev cls p tb ds (· = row l b)) (ha : okR a) (hab : a.length = b.length) (sa : small a) (sb : small b) : Ev cls p (tKey (spG cls 2 pre_worth F_worth) [1, 0] 2 (tCons tb (tCons ta tNil))) ds (· = .int (List.zipWith (· * ·) a b).sum) :=
  ev_k2 h g ⟨k, l, a, b, rfl, ha, by unfold okR at *; omega, hab, sa, sb⟩ fun d ⟨k', l', a', b', e, z⟩ => by rw [z, row_inj (List.cons.inj e).1, row_inj (List.cons.inj (List.cons.inj e).2).1]
theorem e_times (h : Ev cls p ta ds (· = row k a)) (g : Ev cls p tb ds (· = .int n)) (ha : okR a) (sa : small a) (sn : n.natAbs < 2 ^ 400) : Ev cls p (tCall (spG cls 2 pre_times F_times) [] E0 (tCons ta (tCons tb tNil))) ds (· = row false (a.map fun i => i * n)) :=
  ev_c2 h g ⟨k, a, n, rfl, ha, sa, sn⟩ fun d ⟨k', a', n', e, z⟩ => by rw [z, row_inj (List.cons.inj e).1, D.int.inj (List.cons.inj (List.cons.inj e).2).1]
theorem k_times (h : Ev cls p ta ds (· = row k a)) (g : Ev cls p tb ds (· = .int n)) (ha : okR a) (sa : small a) (sn : n.natAbs < 2 ^ 400) : Ev cls p (tKey (spG cls 2 pre_times F_times) [1, 0] 2 (tCons tb (tCons ta tNil))) ds (· = row false (a.map fun i => i * n)) :=
  ev_k2 h g ⟨k, a, n, rfl, ha, sa, sn⟩ fun d ⟨k', a', n', e, z⟩ => by rw [z, row_inj (List.cons.inj e).1, D.int.inj (List.cons.inj (List.cons.inj e).2).1]
theorem e_mirr (h : Ev cls p ta ds (· = row k a)) (ha : okR a) (sa : small a) : Ev cls p (tCall (spG cls 1 pre_mirrored F_mirrored) [] E0 (tCons ta tNil)) ds (· = row false (a.map fun i => i * (-1))) :=
  ev_c1 h ⟨k, a, rfl, ha, sa⟩ fun d ⟨k', a', e, z⟩ => by rw [z, row_inj (List.cons.inj e).1]
theorem k_mirr (h : Ev cls p ta ds (· = row k a)) (ha : okR a) (sa : small a) : Ev cls p (tKey (spG cls 1 pre_mirrored F_mirrored) [0] 1 (tCons ta tNil)) ds (· = row false (a.map fun i => i * (-1))) :=
  ev_k1 h ⟨k, a, rfl, ha, sa⟩ fun d ⟨k', a', e, z⟩ => by rw [z, row_inj (List.cons.inj e).1]
theorem e_len (h : Ev cls p ta ds (· = row k a)) (ha : okR a) : Ev cls p (tCall (spG cls 1 pre_length_of F_length_of) [] E0 (tCons ta tNil)) ds (· = .int (a.map iabs).sum) :=
  ev_c1 h ⟨k, a, rfl, ha⟩ fun d ⟨k', a', e, z⟩ => by rw [z, row_inj (List.cons.inj e).1]
theorem k_len (h : Ev cls p ta ds (· = row k a)) (ha : okR a) : Ev cls p (tKey (spG cls 1 pre_length_of F_length_of) [0] 1 (tCons ta tNil)) ds (· = .int (a.map iabs).sum) :=
  ev_k1 h ⟨k, a, rfl, ha⟩ fun d ⟨k', a', e, z⟩ => by rw [z, row_inj (List.cons.inj e).1]
theorem e_isrow {d : D} (h : Ev cls p ta ds (· = d)) (hb : builtD d = true) (hk : kidsB d = true) : Ev cls p (tCall (spG cls 1 pre_is_row F_is_row) [] E0 (tCons ta tNil)) ds (· = .bl (isRow d)) :=
  ev_c1 h ⟨d, rfl, hb, hk⟩ fun r ⟨d', e, z⟩ => by rw [z, (List.cons.inj e).1]
theorem k_isrow {d : D} (h : Ev cls p ta ds (· = d)) (hb : builtD d = true) (hk : kidsB d = true) : Ev cls p (tKey (spG cls 1 pre_is_row F_is_row) [0] 1 (tCons ta tNil)) ds (· = .bl (isRow d)) :=
  ev_k1 h ⟨d, rfl, hb, hk⟩ fun r ⟨d', e, z⟩ => by rw [z, (List.cons.inj e).1]
/-- repr of a list of rows and numbers -/
def lf (x : D) : Prop := (∃ i : Int, x = .int i ∧ i.natAbs < 2 ^ 1900) ∨ ∃ (k : Bool) (a : List Int), x = row k a ∧ a.length ≤ 6 ∧ ∀ i ∈ a, i.natAbs < 2 ^ 1900
def lfs : List D → Prop
  | [] => True
  | x :: xs => lf x ∧ lfs xs
theorem lf_row {k : Bool} {a : List Int} (ha : a.length ≤ 6) (h : small a) : lf (row k a) := .inr ⟨k, a, rfl, ha, fun i hi => pow_le (h i hi) (by decide)⟩
theorem lf_int {i : Int} (h : i.natAbs < 2 ^ 500) : lf (.int i) := .inl ⟨i, rfl, pow_le h (by decide)⟩
theorem lf_sh {x : D} (h : lf x) : shD 2 x = true ∧ szD 2 x ≤ 20000 := by
  rcases h with ⟨i, rfl, h⟩ | ⟨k, a, rfl, ha, h⟩
  · exact ⟨decide_eq_true h, by show 2000 ≤ 20000; decide⟩
  · exact ⟨sh_row 1 k h, by rw [sz_row]; omega⟩
theorem lfs_sh : ∀ {xs : List D}, lfs xs → xs.all (shD 2) = true ∧ (xs.map fun x => szD 2 x + 2).sum ≤ xs.length * 20002
  | [], _ => ⟨rfl, Nat.le_refl 0⟩
  | x :: xs, ⟨h, t⟩ => by
    obtain ⟨h1, h2⟩ := lf_sh h
    obtain ⟨h3, h4⟩ := lfs_sh t
    refine ⟨by rw [List.all_cons, h1, h3]; rfl, ?_⟩
    rw [List.map_cons, List.sum_cons, List.length_cons]
    omega
theorem e_show {xs : List D} (h : Ev cls p ta ds (· = .lst xs)) (hl : xs.length ≤ 6) (hs : lfs xs) : Ev cls p (tCB (rShow K) (tCons ta tNil)) ds (· = .str (shw xs)) := by
  obtain ⟨h1, h2⟩ := lfs_sh hs
  refine ev_show (n := 3) h (by decide) h1 ?_
  show 4 + (xs.map fun x => szD 2 x + 2).sum ≤ 10000000
  omega
end
abbrev dt (d : D) : Option Slot := some (Slot.dat d)
/-! ### prices -/
def tup2 : D → Bool
  | .tup [_, _] => true
  | _ => false
def items : D → List D
  | .lst xs => xs
  | .tup xs => xs
  | _ => []
def posI : D → Bool
  | .int m => decide (0 < m)
  | _ => false
def bendOk : D → Bool
  | .tup [x, y] => isInt x && (isInt y && posI y)
  | _ => false
def plc : D → Int
  | .tup [.int p, _] => p
  | _ => 0
def rise (a : List Int) : Bool := (List.zipWith (fun x y : Int => decide (x < y)) a (a.drop 1)).all id
def isPr : D → Bool
  | .tup [s, bs] => isInt s && (isSq bs && (decide ((items bs).length ≤ 4) && ((items bs).all bendOk && rise ((items bs).map plc))))
  | _ => false
def preV (_ : Addr → Prop) (xs : List D) : Prop := ∃ d n, xs = [d] ∧ shE n d = true
def pre_is_price := preV
def F_is_price (xs : List D) (r : D) : Prop := ∃ d, xs = [d] ∧ r = .bl (isPr d)
def pre_is_bend := preV
def F_is_bend (xs : List D) (r : D) : Prop := ∃ d, xs = [d] ∧ r = .bl (bendOk d)
def pre_is_rising (_ : Addr → Prop) (xs : List D) : Prop := ∃ a, xs = [row true a] ∧ a.length ≤ 1000
def F_is_rising (xs : List D) (r : D) : Prop := ∃ a, xs = [row true a] ∧ r = .bl (rise a)
def pre_mixed_ (p : Addr → Prop) (xs : List D) : Prop := ∃ (a : Addr) (l : List Int), xs = [.adr a, row true l] ∧ p a ∧ l.length ≤ 64
def F_mixed_ (xs : List D) (r : D) : Prop := ∃ (a : Addr) (l b : List Int), xs = [.adr a, row true l] ∧ r = row true b ∧ b.Perm l
abbrev Q0 (a : Addr) (l0 l f : List Int) (t : Option Slot) : Sts := [some (.dat (.adr a)), some (.dat (row true l0)), some (.own (l.map D.int)), some (.own (f.map D.int)), t]
theorem erase_permQ {α : Type} : ∀ {l : List α} {m : Nat} {x : α}, l[m]? = some x → (x :: l.eraseIdx m).Perm l
  | [], _, _, h => nomatch h
  | y :: l, 0, x, h => by
    have e : y = x := Option.some.inj h
    rw [e]; exact List.Perm.refl _
  | y :: l, m + 1, x, h => (List.Perm.swap y x _).trans ((erase_permQ (l := l) (m := m) h).cons y)
theorem eraseIdx_mapQ {α β : Type} (f : α → β) : ∀ (l : List α) (m : Nat), (l.eraseIdx m).map f = (l.map f).eraseIdx m
  | [], _ => rfl
  | _ :: _, 0 => rfl
  | x :: l, m + 1 => by
    show f x :: (l.eraseIdx m).map f = f x :: (l.map f).eraseIdx m
    rw [eraseIdx_mapQ f l m]
def bend2 (q : Int × Int) : D := .tup [.int q.1, .int q.2]
def priceD (k : Bool) (s : Int) (bs : List (Int × Int)) : D := .tup [.int s, sq k (bs.map bend2)]
structure okP (s : Int) (bs : List (Int × Int)) : Prop where
  sl : s.natAbs < 2 ^ 100
  few : bs.length ≤ 4
  up : (bs.map (·.1)).Pairwise (· < ·)
  in8 : ∀ q ∈ bs, q.1.natAbs ≤ 8 ∧ 1 ≤ q.2 ∧ q.2 ≤ 5
def pre_price_ := preP
def F_price_ (_ : List D) (r : D) : Prop := ∃ s bs, r = priceD true s bs ∧ okP s bs
theorem shE_built : ∀ {n : Nat} {d : D}, shE n d = true → builtD d = true := by
  intro n d h
  cases d <;> first | rfl | (cases n <;> cases h)
theorem shE_items : ∀ {n : Nat} {d : D}, shE n d = true → isSq d = true → ∃ m, ∀ x ∈ items d, shE m x = true := by
  intro n d h hs
  cases d with
  | lst xs => cases n with
    | zero => cases h
    | succ n => exact ⟨n, List.all_eq_true.mp (show xs.all (shE n) = true from h)⟩
  | tup xs => cases n with
    | zero => cases h
    | succ n => exact ⟨n, List.all_eq_true.mp (show xs.all (shE n) = true from h)⟩
  | _ => cases hs
theorem shE_len : ∀ {n : Nat} {d : D}, shE n d = true → isSq d = true → ∃ k, d = sq k (items d) := by
  intro n d h hs
  cases d with
  | lst xs => exact ⟨true, rfl⟩
  | tup xs => exact ⟨false, rfl⟩
  | _ => cases hs
theorem tup2_of {d : D} (h : tup2 d = true) : ∃ x y, d = .tup [x, y] := by
  cases d with
  | tup xs => match xs, h with
    | [x, y], _ => exact ⟨x, y, rfl⟩
  | _ => cases h
theorem bend_of {d : D} (h : bendOk d = true) : ∃ p m : Int, d = .tup [.int p, .int m] ∧ 0 < m := by
  have ht : tup2 d = true := by
    cases d with
    | tup xs => match xs, h with
      | [x, y], _ => rfl
    | _ => cases h
  obtain ⟨x, y, rfl⟩ := tup2_of ht
  have h : (isInt x && (isInt y && posI y)) = true := h
  rw [Bool.and_eq_true, Bool.and_eq_true] at h
  obtain ⟨p, rfl⟩ := isInt_of h.1
  obtain ⟨m, rfl⟩ := isInt_of h.2.1
  exact ⟨p, m, rfl, of_decide_eq_true h.2.2⟩
section
variable {cls : Cl} {p : Addr → Prop} {ds : Sts} {ta tb te tl tr : TE} {t : TA} {K : PySem.W.Frag}
theorem e_int {d : D} (h : Ev cls p ta ds (· = d)) (hb : builtD d = true) : Ev cls p (tCall (spG cls 1 pre_is_integer F_is_integer) [] E0 (tCons ta tNil)) ds (· = .bl (isInt d)) :=
  ev_c1 h ⟨d, rfl, hb⟩ fun r ⟨d', e, z⟩ => by rw [z, (List.cons.inj e).1]
theorem e_list {d : D} (h : Ev cls p ta ds (· = d)) (hb : builtD d = true) : Ev cls p (tCall (spG cls 1 pre_is_list F_is_list) [] E0 (tCons ta tNil)) ds (· = .bl (isSq d)) :=
  ev_c1 h ⟨d, rfl, hb⟩ fun r ⟨d', e, z⟩ => by rw [z, (List.cons.inj e).1]
theorem e_bend {d : D} {n : Nat} (h : Ev cls p ta ds (· = d)) (hb : shE n d = true) : Ev cls p (tCall (spG cls 1 pre_is_bend F_is_bend) [] E0 (tCons ta tNil)) ds (· = .bl (bendOk d)) :=
  ev_c1 h ⟨d, n, rfl, hb⟩ fun r ⟨d', e, z⟩ => by rw [z, (List.cons.inj e).1]
theorem e_price {d : D} {n : Nat} (h : Ev cls p ta ds (· = d)) (hb : shE n d = true) : Ev cls p (tCall (spG cls 1 pre_is_price F_is_price) [] E0 (tCons ta tNil)) ds (· = .bl (isPr d)) :=
  ev_c1 h ⟨d, n, rfl, hb⟩ fun r ⟨d', e, z⟩ => by rw [z, (List.cons.inj e).1]
theorem k_price {d : D} {n : Nat} (h : Ev cls p ta ds (· = d)) (hb : shE n d = true) : Ev cls p (tKey (spG cls 1 pre_is_price F_is_price) [0] 1 (tCons ta tNil)) ds (· = .bl (isPr d)) :=
  ev_k1 h ⟨d, n, rfl, hb⟩ fun r ⟨d', e, z⟩ => by rw [z, (List.cons.inj e).1]
theorem e_rising {a : List Int} (h : Ev cls p ta ds (· = row true a)) (hl : a.length ≤ 1000) : Ev cls p (tCall (spG cls 1 pre_is_rising F_is_rising) [] E0 (tCons ta tNil)) ds (· = .bl (rise a)) :=
  ev_c1 h ⟨a, rfl, hl⟩ fun r ⟨d', e, z⟩ => by rw [z, ← row_inj (List.cons.inj e).1]
theorem tup2_eq (d : D) : (!isTup d || !decide (((items d).length : Int) = 2)) = !tup2 d := by
  cases d with
  | tup xs => match xs with
    | [] => rfl
    | [_] => rfl
    | [_, _] => rfl
    | _ :: _ :: _ :: r =>
      show (!decide (((r.length + 1 + 1 + 1 : Nat) : Int) = 2)) = true
      rw [decide_eq_false (by omega)]
      rfl
  | _ => rfl
theorem et_tup2 {d : D} (h : Ev cls p ta ds (· = d)) (hb : builtD d = true) :
    ET cls p (tOr (tNot (tB (tCB (cOr (rIsi K) (rIsiT K)) (tCons ta (tCons (tC (.ty "tuple")) tNil))))) (tTest (tOp (rOr rNe (rNeD K)) (tCB (Lk.rLen K) (tCons ta tNil)) (tC (.int 2))))) ds (· = !tup2 d) :=
  (et_orE (et_notE (et_Bt (ev_isTu h hb))) fun e => et_neIE (ev_len (k := false) (xs := items d) (h.mono fun x ex => by
    rw [ex]
    cases d with
    | tup xs => rfl
    | _ => cases e)) ev_int).mono fun b e => by rw [e, tup2_eq]
/-- whether a list of bends is empty -/
theorem et_neNil {bs : List (Int × Int)} (h : Ev cls p ta ds (· = .lst (bs.map bend2))) : ET cls p (tTest (tOp (rOr rNe (rNeD K)) ta (tLst tNil))) ds (· = !bs.isEmpty) :=
  (et_test (ev_op h ev_lst0 (rv_r (rv_neD fun dx dy hx hy => ⟨3, by decide, by
    rw [hx]
    exact List.all_eq_true.mpr fun x hx => by
      obtain ⟨q, _, rfl⟩ := List.mem_map.mp hx
      rfl, by rw [hy]; rfl⟩))) fun d ⟨x, y, _, _, e⟩ => ⟨_, e⟩).mono fun b ⟨x, y, e1, e2, e⟩ => by
    rw [D.bl.inj e, e1, e2]
    cases bs <;> rfl
end
theorem gd_bend {q : Int × Int} (h1 : q.1.natAbs < 2 ^ 1900) (h2 : q.2.natAbs < 2 ^ 1900) : gd 3 200000 (bend2 q) :=
  (gd_sq (n := 2) (B := 30000) (m := 2) (xs := [.int q.1, .int q.2]) false (fun x hx => by
    rcases List.mem_cons.mp hx with rfl | hx
    · exact gdI 2 h1
    · rw [List.mem_singleton.mp hx]; exact gdI 2 h2) (Nat.le_refl _)).mono (by decide)
/-- what is shown of one of these texts' values -/
def okV (d : D) : Prop := shE 5 d = true ∧ szE 5 d ≤ 10000000 ∧ ((py d).hasDict = false ∨ noL 5 d = true ∨ ∃ ks xs, d = .dk ks xs ∧ PyData.hasDictAll (pyAll xs) = false)
theorem okV_gd {d : D} (h : gd 5 10000000 d) : okV d := ⟨h.1, h.2.1, .inl h.2.2⟩
theorem okV_sq (k : Bool) {zs : List D} (h : ∀ z ∈ zs, gd 4 2500000 z) (hl : zs.length ≤ 3) : okV (sq k zs) := okV_gd ((gd_sq k h hl).mono (by decide))
theorem okV1 (k : Bool) {a : D} (h : ∀ z ∈ [a], gd 4 2500000 z) (_ : 1 ≤ 3) : okV (sq k [a]) := okV_sq k h (show 1 ≤ 3 by decide)
theorem okV2 (k : Bool) {a b : D} (h : ∀ z ∈ [a, b], gd 4 2500000 z) (_ : 2 ≤ 3) : okV (sq k [a, b]) := okV_sq k h (show 2 ≤ 3 by decide)
theorem okV3 (k : Bool) {a b c : D} (h : ∀ z ∈ [a, b, c], gd 4 2500000 z) (_ : 3 ≤ 3) : okV (sq k [a, b, c]) := okV_sq k h (show 3 ≤ 3 by decide)
theorem gd_lst (k : Bool) {ys : List D} (h : ∀ y ∈ ys, gd 3 200000 y) (hl : ys.length ≤ 9) : gd 4 2500000 (sq k ys) := (gd_sq k h hl).mono (by decide)
theorem gdI4 {i : Int} (h : i.natAbs < 2 ^ 1900) : gd 4 2500000 (.int i) := (gdI 4 h).mono (by decide)
/-! ### what prices cost -/
def costI (s : Int) (bs : List (Int × Int)) (n : Int) : Int := s * n + (bs.map fun q => if q.1 < n then q.2 * (n - q.1) else 0).sum
def slpI (s : Int) (bs : List (Int × Int)) (n : Int) : Int := s + (bs.map fun q => if q.1 ≤ n then q.2 else 0).sum
def smF (f : Int → Int) (bs : List (Int × Int)) : Int := (bs.map fun q => f q.1 * q.2).sum
structure okQ (s : Int) (bs : List (Int × Int)) : Prop where
  sl : s.natAbs < 2 ^ 200
  few : bs.length ≤ 4
  up : (bs.map (·.1)).Pairwise (· < ·)
  inn : ∀ q ∈ bs, q.1.natAbs ≤ 100 ∧ 1 ≤ q.2 ∧ q.2 ≤ 100
theorem okP.q {s : Int} {bs : List (Int × Int)} (h : okP s bs) : okQ s bs := ⟨pow_le h.sl (by omega), h.few, h.up, fun q hq => by have := h.in8 q hq; omega⟩
theorem sum_filter (b : Int × Int → Bool) (f : Int × Int → Int) : ∀ bs : List (Int × Int), ((bs.filter b).map f).sum = (bs.map fun q => if b q = true then f q else 0).sum
  | [] => rfl
  | q :: bs => by
    rw [List.map_cons, List.sum_cons, ← sum_filter b f bs]
    cases h : b q with
    | true => rw [List.filter_cons_of_pos h, List.map_cons, List.sum_cons, if_pos rfl]
    | false => rw [List.filter_cons_of_neg (by rw [h]; exact Bool.false_ne_true), if_neg Bool.false_ne_true, Int.zero_add]
theorem slp_cost (s : Int) (n : Int) : ∀ bs : List (Int × Int), costI s bs (n + 1) - costI s bs n = slpI s bs n
  | [] => by
    show s * (n + 1) + 0 - (s * n + 0) = s + 0
    rw [Int.mul_add]
    omega
  | q :: bs => by
    have ih := slp_cost s n bs
    unfold costI slpI
    rw [List.map_cons, List.sum_cons, List.map_cons, List.sum_cons, List.map_cons, List.sum_cons]
    unfold costI slpI at ih
    have key : (if q.1 < n + 1 then q.2 * (n + 1 - q.1) else 0) - (if q.1 < n then q.2 * (n - q.1) else 0) = (if q.1 ≤ n then q.2 else 0) := by
      by_cases h : q.1 < n
      · rw [if_pos (by omega), if_pos h, if_pos (by omega), ← Int.mul_sub]
        have : n + 1 - q.1 - (n - q.1) = 1 := by omega
        rw [this, Int.mul_one]
      · by_cases h2 : q.1 = n
        · rw [if_pos (by omega), if_neg h, if_pos (by omega), h2]
          have : n + 1 - n = 1 := by omega
          rw [this, Int.mul_one, Int.sub_zero]
        · rw [if_neg (by omega), if_neg h, if_neg (by omega)]
          rfl
    omega
theorem getI_cons {q : Int × Int} {bs : List (Int × Int)} {k : Int} : getI (q :: bs) k = if q.1 = k then some q.2 else getI bs k := by
  unfold getI
  rw [List.find?_cons]
  by_cases e : q.1 = k
  · rw [decide_eq_true e, if_pos e]; rfl
  · rw [decide_eq_false e, if_neg e]
theorem getI_none {bs : List (Int × Int)} {k : Int} (h : k ∉ bs.map (·.1)) : getI bs k = none := by
  induction bs with
  | nil => rfl
  | cons q bs ih =>
    rw [List.map_cons, List.mem_cons] at h
    rw [getI_cons, if_neg (fun z => h (.inl z.symm)), ih (fun z => h (.inr z))]
theorem slp_step (s n : Int) : ∀ bs : List (Int × Int), (bs.map (·.1)).Nodup → slpI s bs (n + 1) = slpI s bs n + (getI bs (n + 1)).getD 0
  | [], _ => by show s + 0 = s + 0 + 0; omega
  | q :: bs, h => by
    rw [List.map_cons, List.nodup_cons] at h
    have ih := slp_step s n bs h.2
    unfold slpI at ih ⊢
    rw [List.map_cons, List.sum_cons, List.map_cons, List.sum_cons, getI_cons]
    by_cases e : q.1 = n + 1
    · rw [if_pos (by omega), if_neg (by omega), if_pos e]
      rw [getI_none (by rw [← e]; exact h.1)] at ih
      show s + (q.2 + _) = s + (0 + _) + q.2
      have ih : s + (bs.map fun q => if q.1 ≤ n + 1 then q.2 else 0).sum = s + (bs.map fun q => if q.1 ≤ n then q.2 else 0).sum + 0 := ih
      omega
    · rw [if_neg e]
      by_cases h2 : q.1 ≤ n
      · rw [if_pos (by omega), if_pos h2]; omega
      · rw [if_neg (by omega), if_neg h2]; omega
theorem cost_smF (s n : Int) (bs : List (Int × Int)) : costI s bs n = s * n + smF (fun k => if k < n then n - k else 0) bs := by
  unfold costI smF
  congr 2
  refine List.map_congr_left fun q _ => ?_
  show (if q.1 < n then q.2 * (n - q.1) else 0) = (if q.1 < n then n - q.1 else 0) * q.2
  split
  · rw [Int.mul_comm]
  · rw [Int.zero_mul]
theorem smF_app (f : Int → Int) (a b : List (Int × Int)) : smF f (a ++ b) = smF f a + smF f b := by
  unfold smF
  rw [List.map_append, List.sum_append]
theorem smF_cons (f : Int → Int) (q : Int × Int) (b : List (Int × Int)) : smF f (q :: b) = f q.1 * q.2 + smF f b := by
  unfold smF
  rw [List.map_cons, List.sum_cons]
/-! ### merged bends -/
structure IsS (z bs : List (Int × Int)) : Prop where
  up : (z.map (·.1)).Pairwise (· < ·)
  pos : ∀ q ∈ z, 1 ≤ q.2
  sum : ∀ f : Int → Int, smF f z = smF f bs
theorem ind_none {k : Int} : ∀ {z : List (Int × Int)}, k ∉ z.map (·.1) → smF (fun x => if x = k then 1 else 0) z = 0
  | [], _ => rfl
  | q :: z, h => by
    rw [List.map_cons, List.mem_cons] at h
    rw [smF_cons, ind_none (fun y => h (.inr y))]
    show (if q.1 = k then (1 : Int) else 0) * q.2 + 0 = 0
    rw [if_neg (fun y => h (.inl y.symm)), Int.zero_mul]
    rfl
theorem ind_mem {q : Int × Int} : ∀ {z : List (Int × Int)}, (z.map (·.1)).Pairwise (· < ·) → q ∈ z → smF (fun x => if x = q.1 then 1 else 0) z = q.2
  | a :: z, h, hm => by
    rw [List.map_cons, List.pairwise_cons] at h
    rw [smF_cons]
    show (if a.1 = q.1 then (1 : Int) else 0) * a.2 + _ = q.2
    rcases List.mem_cons.mp hm with rfl | hm
    · rw [if_pos rfl, ind_none (fun y => by have := h.1 _ y; omega)]
      omega
    · have := h.1 q.1 (List.mem_map_of_mem hm)
      rw [if_neg (by omega), ind_mem h.2 hm]
      omega
theorem IsS.mem {z bs z' bs' : List (Int × Int)} (h : IsS z bs) (h' : IsS z' bs') (e : ∀ f, smF f bs = smF f bs') {q : Int × Int} (hq : q ∈ z) : q ∈ z' := by
  have h1 := ind_mem h.up hq
  have h2 := h.pos q hq
  rw [h.sum, e, ← h'.sum] at h1
  by_cases hm : q.1 ∈ z'.map (·.1)
  · obtain ⟨q', hq', e1⟩ := List.mem_map.mp hm
    have h3 := ind_mem h'.up hq'
    rw [e1] at h3
    have : q' = q := Prod.ext e1 (by omega)
    rw [← this]
    exact hq'
  · rw [ind_none hm] at h1
    omega
theorem srt_ext : ∀ (z z' : List (Int × Int)), (z.map (·.1)).Pairwise (· < ·) → (z'.map (·.1)).Pairwise (· < ·) → (∀ q, q ∈ z ↔ q ∈ z') → z = z'
  | [], [], _, _, _ => rfl
  | [], b :: z', _, _, h => nomatch (h b).mpr (List.mem_cons_self ..)
  | a :: z, [], _, _, h => nomatch (h a).mp (List.mem_cons_self ..)
  | a :: z, b :: z', h1, h2, h => by
    rw [List.map_cons, List.pairwise_cons] at h1 h2
    have e : a = b := by
      rcases List.mem_cons.mp ((h a).mp (List.mem_cons_self ..)) with e | ha
      · exact e
      · rcases List.mem_cons.mp ((h b).mpr (List.mem_cons_self ..)) with e | hb
        · exact e.symm
        · have x1 := h2.1 a.1 (List.mem_map_of_mem ha)
          have x2 := h1.1 b.1 (List.mem_map_of_mem hb)
          omega
    subst e
    rw [srt_ext z z' h1.2 h2.2 fun q => ?_]
    constructor
    · intro hq
      rcases List.mem_cons.mp ((h q).mp (List.mem_cons_of_mem _ hq)) with rfl | hq'
      · have := h1.1 q.1 (List.mem_map_of_mem hq); omega
      · exact hq'
    · intro hq
      rcases List.mem_cons.mp ((h q).mpr (List.mem_cons_of_mem _ hq)) with rfl | hq'
      · have := h2.1 q.1 (List.mem_map_of_mem hq); omega
      · exact hq'
theorem IsS.uniq {z bs z' bs' : List (Int × Int)} (h : IsS z bs) (h' : IsS z' bs') (e : ∀ f, smF f bs = smF f bs') : z = z' :=
  srt_ext z z' h.up h'.up fun q => ⟨fun hq => h.mem h' e hq, fun hq => h'.mem h (fun f => (e f).symm) hq⟩
theorem okQ.isS {s : Int} {bs : List (Int × Int)} (h : okQ s bs) : IsS bs bs := ⟨h.up, fun q hq => (h.inn q hq).2.1, fun _ => rfl⟩
def mrgI (acc : List (Int × Int)) : List (Int × Int) → List (Int × Int)
  | [] => acc
  | q :: bs => mrgI (putI acc q.1 ((getI acc q.1).getD 0 + q.2)) bs
structure MI (acc bs : List (Int × Int)) : Prop where
  nd : (acc.map (·.1)).Nodup
  pos : ∀ q ∈ acc, 1 ≤ q.2
  sum : ∀ f : Int → Int, smF f acc = smF f bs
theorem any_key {acc : List (Int × Int)} {k : Int} : (acc.any fun q => decide (q.1 = k)) = true ↔ k ∈ acc.map (·.1) := by
  rw [List.any_eq_true]
  constructor
  · rintro ⟨q, hq, e⟩
    rw [← of_decide_eq_true e]
    exact List.mem_map_of_mem hq
  · intro h
    obtain ⟨q, hq, e⟩ := List.mem_map.mp h
    exact ⟨q, hq, decide_eq_true e⟩
theorem put_sum (f : Int → Int) (k v : Int) : ∀ acc : List (Int × Int), (acc.map (·.1)).Nodup → smF f (acc.map fun q => if q.1 = k then (q.1, v) else q) = smF f acc + (if k ∈ acc.map (·.1) then f k * (v - (getI acc k).getD 0) else 0)
  | [], _ => by
    show (0 : Int) = 0 + (if k ∈ ([] : List Int) then _ else 0)
    rw [if_neg List.not_mem_nil]
    rfl
  | q :: acc, h => by
    rw [List.map_cons, List.nodup_cons] at h
    have ih := put_sum f k v acc h.2
    rw [List.map_cons, smF_cons, smF_cons, ih, getI_cons, List.map_cons]
    by_cases e : q.1 = k
    · rw [if_pos e, if_pos e, if_neg (show k ∉ acc.map (·.1) by rw [← e]; exact h.1), if_pos (show k ∈ q.1 :: acc.map (·.1) by rw [e]; exact List.mem_cons_self ..)]
      show f q.1 * v + (_ + 0) = f q.1 * q.2 + _ + f k * (v - q.2)
      rw [e, Int.mul_sub]
      omega
    · rw [if_neg e, if_neg e]
      by_cases hk : k ∈ acc.map (·.1)
      · rw [if_pos hk, if_pos (List.mem_cons_of_mem _ hk)]
        omega
      · rw [if_neg hk, if_neg (fun z => (List.mem_cons.mp z).elim (fun y => e y.symm) hk)]
        omega
theorem put_keys (acc : List (Int × Int)) (k v : Int) : (acc.map fun q => if q.1 = k then (q.1, v) else q).map (·.1) = acc.map (·.1) := by
  rw [List.map_map]
  refine List.map_congr_left fun q _ => ?_
  show (if q.1 = k then (q.1, v) else q).1 = q.1
  split <;> rfl
theorem getI_mem {acc : List (Int × Int)} {k w : Int} (h : getI acc k = some w) : (k, w) ∈ acc := by
  induction acc with
  | nil => cases h
  | cons q acc ih =>
    rw [getI_cons] at h
    by_cases e : q.1 = k
    · rw [if_pos e] at h
      have := Option.some.inj h
      have : (k, w) = q := Prod.ext e.symm this.symm
      rw [this]
      exact List.mem_cons_self ..
    · rw [if_neg e] at h
      exact List.mem_cons_of_mem _ (ih h)
theorem MI.put {acc bs : List (Int × Int)} {q : Int × Int} (h : MI acc bs) (hq : 1 ≤ q.2) : MI (putI acc q.1 ((getI acc q.1).getD 0 + q.2)) (bs ++ [q]) := by
  unfold putI
  by_cases hk : (acc.any fun p => decide (p.1 = q.1)) = true
  · rw [if_pos hk]
    have hm := any_key.mp hk
    refine ⟨by rw [put_keys]; exact h.nd, fun x hx => ?_, fun f => ?_⟩
    · obtain ⟨y, hy, rfl⟩ := List.mem_map.mp hx
      have := h.pos y hy
      by_cases e : y.1 = q.1
      · rw [if_pos e]
        show 1 ≤ (getI acc q.1).getD 0 + q.2
        cases hg : getI acc q.1 with
        | none => show 1 ≤ 0 + q.2; omega
        | some w =>
          have := h.pos _ (getI_mem hg)
          show 1 ≤ w + q.2
          have : 1 ≤ w := this
          omega
      · rw [if_neg e]; exact this
    · rw [put_sum f _ _ acc h.nd, if_pos hm, h.sum, smF_app, smF_cons]
      show _ + f q.1 * ((getI acc q.1).getD 0 + q.2 - (getI acc q.1).getD 0) = _ + (f q.1 * q.2 + 0)
      have : (getI acc q.1).getD 0 + q.2 - (getI acc q.1).getD 0 = q.2 := by omega
      rw [this, Int.add_zero]
  · rw [if_neg hk]
    have hm : q.1 ∉ acc.map (·.1) := fun z => hk (any_key.mpr z)
    rw [getI_none hm]
    refine ⟨?_, fun x hx => ?_, fun f => ?_⟩
    · rw [List.map_append, List.nodup_append]
      exact ⟨h.nd, (by exact List.nodup_cons.mpr ⟨List.not_mem_nil, List.nodup_nil⟩), fun a ha b hb e => hm (by
        rw [List.map_cons, List.map_nil] at hb
        rw [← List.mem_singleton.mp hb, ← e]
        exact ha)⟩
    · rcases List.mem_append.mp hx with hx | hx
      · exact h.pos x hx
      · rw [List.mem_singleton.mp hx]; show 1 ≤ 0 + q.2; omega
    · rw [smF_app, smF_app, h.sum, smF_cons, smF_cons]
      show _ + (f q.1 * (0 + q.2) + 0) = _
      rw [Int.zero_add]
      rfl
theorem mrg_MI : ∀ (bs acc pre : List (Int × Int)), MI acc pre → (∀ q ∈ bs, 1 ≤ q.2) → MI (mrgI acc bs) (pre ++ bs)
  | [], acc, pre, h, _ => by rw [List.append_nil]; exact h
  | q :: bs, acc, pre, h, hp => by
    have := mrg_MI bs _ (pre ++ [q]) (h.put (hp q (List.mem_cons_self ..))) fun x hx => hp x (List.mem_cons_of_mem _ hx)
    rw [List.append_assoc] at this
    exact this
theorem mrg_snoc : ∀ (bs acc : List (Int × Int)) (q : Int × Int), mrgI acc (bs ++ [q]) = putI (mrgI acc bs) q.1 ((getI (mrgI acc bs) q.1).getD 0 + q.2)
  | [], acc, q => rfl
  | b :: bs, acc, q => mrg_snoc bs _ q
theorem mrg_len : ∀ (bs acc : List (Int × Int)), (mrgI acc bs).length ≤ acc.length + bs.length
  | [], acc => Nat.le_refl _
  | q :: bs, acc => by
    have := mrg_len bs (putI acc q.1 ((getI acc q.1).getD 0 + q.2))
    have h2 := putI_len acc q.1 ((getI acc q.1).getD 0 + q.2)
    show (mrgI (putI acc q.1 ((getI acc q.1).getD 0 + q.2)) bs).length ≤ acc.length + (bs.length + 1)
    omega
theorem MI.nil : MI [] [] := ⟨List.nodup_nil, (fun q hq => nomatch hq), fun _ => rfl⟩
theorem smF_perm {a b : List (Int × Int)} (f : Int → Int) (h : a.Perm b) : smF f a = smF f b := by
  induction h with
  | nil => rfl
  | cons x _ ih => rw [smF_cons, smF_cons, ih]
  | swap x y l => rw [smF_cons, smF_cons, smF_cons, smF_cons]; omega
  | trans _ _ ih1 ih2 => exact ih1.trans ih2
theorem sorted_isS {z acc bs : List (Int × Int)} (h : MI acc bs) (pm : z.Perm acc) (pw : z.Pairwise fun a b => a.1 ≤ b.1) : IsS z bs := by
  have nd : (z.map (·.1)).Nodup := (List.Perm.nodup_iff (pm.map _)).mpr h.nd
  refine ⟨?_, fun q hq => h.pos q (pm.mem_iff.mp hq), fun f => by rw [smF_perm f pm, h.sum]⟩
  exact ((List.pairwise_map.mpr pw).and nd).imp fun ⟨h1, h2⟩ => by omega
theorem keys_isS {ms : List Int} {acc bs : List (Int × Int)} (h : MI acc bs) (pm : ms.Perm (acc.map (·.1))) (pw : ms.Pairwise (· ≤ ·)) : IsS (ms.map fun k => (k, (getI acc k).getD 0)) bs ∧ (ms.map fun k => (k, (getI acc k).getD 0)).length = acc.length := by
  have lk : ∀ acc : List (Int × Int), (acc.map (·.1)).Nodup → (acc.map (·.1)).map (fun k => (k, (getI acc k).getD 0)) = acc := by
    intro acc
    induction acc with
    | nil => intro _; rfl
    | cons q acc ih =>
      intro nd
      rw [List.map_cons, List.nodup_cons] at nd
      rw [List.map_cons, List.map_cons, getI_cons, if_pos rfl]
      congr 1
      refine Eq.trans (List.map_congr_left fun k hk => ?_) (ih nd.2)
      rw [getI_cons, if_neg (fun e => nd.1 (by rw [e]; exact hk))]
  have p2 := pm.map fun k => (k, (getI acc k).getD 0)
  rw [lk acc h.nd] at p2
  refine ⟨sorted_isS h p2 (List.pairwise_map.mpr pw), p2.length_eq⟩
theorem mrg_srt {bs : List (Int × Int)} (hp : ∀ q ∈ bs, 1 ≤ q.2) : ∃ z : List (Int × Int), IsS z bs ∧ z.Perm (mrgI [] bs) := by
  have h := mrg_MI bs [] [] MI.nil hp
  rw [List.nil_append] at h
  refine ⟨(mrgI [] bs).mergeSort fun a b => decide (a.1 ≤ b.1), sorted_isS h (List.mergeSort_perm _ _) ?_, List.mergeSort_perm _ _⟩
  exact (List.pairwise_mergeSort (fun a b c h1 h2 => by
    have h1 := of_decide_eq_true h1
    have h2 := of_decide_eq_true h2
    exact decide_eq_true (by omega)) (fun a b => by
    by_cases h : a.1 ≤ b.1
    · rw [decide_eq_true h]; rfl
    · rw [decide_eq_true (show b.1 ≤ a.1 by omega), Bool.or_true]) _).imp fun {a b} h => of_decide_eq_true h
theorem len_isS {z bs bs' : List (Int × Int)} (h : IsS z bs) (hp : ∀ q ∈ bs', 1 ≤ q.2) (e : ∀ f, smF f bs = smF f bs') : (mrgI [] bs').length = z.length := by
  obtain ⟨z', h', pm⟩ := mrg_srt hp
  rw [h.uniq h' e, pm.length_eq]
theorem smF_comm (a b : List (Int × Int)) (f : Int → Int) : smF f (a ++ b) = smF f (b ++ a) := by
  rw [smF_app, smF_app, Int.add_comm]
theorem smF_one : ∀ (bs : List (Int × Int)) (k : Int), (∀ q ∈ bs, 1 ≤ q.2) → smF (fun x => if x = k then 1 else 0) bs ≤ smF (fun _ => 1) bs
  | [], _, _ => Int.le_refl _
  | q :: bs, k, h => by
    have ih := smF_one bs k fun x hx => h x (List.mem_cons_of_mem _ hx)
    have := h q (List.mem_cons_self ..)
    rw [smF_cons, smF_cons]
    show (if q.1 = k then (1 : Int) else 0) * q.2 + _ ≤ 1 * q.2 + _
    split
    · omega
    · rw [Int.zero_mul]; omega
theorem smF_bound {B : Int} : ∀ (bs : List (Int × Int)), (∀ q ∈ bs, q.2 ≤ B) → smF (fun _ => 1) bs ≤ bs.length * B
  | [], _ => by show (0 : Int) ≤ ((0 : Nat) : Int) * B; rw [show (((0 : Nat) : Int)) = 0 from rfl, Int.zero_mul]; exact Int.le_refl _
  | q :: bs, h => by
    have ih := smF_bound bs fun x hx => h x (List.mem_cons_of_mem _ hx)
    have := h q (List.mem_cons_self ..)
    rw [smF_cons, List.length_cons, show (((bs.length + 1 : Nat) : Int)) = (bs.length : Int) + 1 from rfl, Int.add_mul]
    omega
/-- what comes of a sum is a price again -/
theorem isS_okQ {z bs : List (Int × Int)} {s B C : Int} (h : IsS z bs) (hs : s.natAbs < 2 ^ 200) (hz : z.length ≤ 4) (hb : ∀ q ∈ bs, q.1.natAbs ≤ 100 ∧ 1 ≤ q.2 ∧ q.2 ≤ B) (hB : (bs.length : Int) * B ≤ 100) : okQ s z := by
  refine ⟨hs, hz, h.up, fun q hq => ?_⟩
  have hp : ∀ q ∈ bs, 1 ≤ q.2 := fun q hq => (hb q hq).2.1
  have h1 := ind_mem h.up hq
  have h2 := h.pos q hq
  rw [h.sum] at h1
  have h3 := smF_one bs q.1 hp
  have h4 := smF_bound bs fun q hq => (hb q hq).2.2
  have hk : q.1 ∈ bs.map (·.1) := by
    by_cases hk : q.1 ∈ bs.map (·.1)
    · exact hk
    · rw [ind_none hk] at h1; omega
  obtain ⟨q', hq', e⟩ := List.mem_map.mp hk
  have := (hb q' hq').1
  exact ⟨by rw [← e]; exact this, h2, by omega⟩
def pre_check_price (_ : Addr → Prop) (xs : List D) : Prop := ∃ k s bs, xs = [priceD k s bs] ∧ okQ s bs
def F_check_price (_ : List D) (r : D) : Prop := r = .non
def preAt (_ : Addr → Prop) (xs : List D) : Prop := ∃ k s bs, ∃ n : Int, xs = [priceD k s bs, .int n] ∧ okQ s bs ∧ n.natAbs < 2 ^ 200
def pre_cost_at := preAt
def F_cost_at (xs : List D) (r : D) : Prop := ∃ k s bs, ∃ n : Int, xs = [priceD k s bs, .int n] ∧ r = .int (costI s bs n)
def pre_price_at := preAt
def F_price_at := F_cost_at
def pre_slope_at := preAt
def F_slope_at (xs : List D) (r : D) : Prop := ∃ k s bs, ∃ n : Int, xs = [priceD k s bs, .int n] ∧ r = .int (slpI s bs n)
def pre_cost_ := preAt
def F_cost_ := F_cost_at
def pre_plus_prices (_ : Addr → Prop) (xs : List D) : Prop := ∃ k l s1 b1 s2 b2, xs = [priceD k s1 b1, priceD l s2 b2] ∧ okQ s1 b1 ∧ okQ s2 b2 ∧ (mrgI [] (b1 ++ b2)).length ≤ 4
def FB_plus_prices (xs : List D) (s : D) (zs : List D) : Prop := ∃ k l s1 b1 s2 b2, xs = [priceD k s1 b1, priceD l s2 b2] ∧ s = .int (s1 + s2) ∧ ∃ z, zs = z.map bend2 ∧ IsS z (b1 ++ b2)
def pre_given_ (p : Addr → Prop) (xs : List D) : Prop := ∃ (a : Addr) (s : Int) (bs : List (Int × Int)), xs = [.adr a, priceD true s bs] ∧ p a
def F_given_ (xs : List D) (r : D) : Prop := ∃ (a : Addr) (s : Int) (bs : List (Int × Int)) (k : Bool), xs = [.adr a, priceD true s bs] ∧ r = priceD k s bs
def pre_sum_ (_ : Addr → Prop) (xs : List D) : Prop := ∃ s1 b1 s2 b2, xs = [priceD true s1 b1, priceD true s2 b2] ∧ okQ s1 b1 ∧ okQ s2 b2
def F_sum_ (xs : List D) (r : D) : Prop := ∃ s1 b1 s2 b2 z, xs = [priceD true s1 b1, priceD true s2 b2] ∧ r = priceD true (s1 + s2) z ∧ IsS z (b1 ++ b2)
def pre_one_right_ (p : Addr → Prop) (xs : List D) : Prop := ∃ (a : Addr) (s : Int) (bs : List (Int × Int)), xs = [.adr a, priceD true s bs] ∧ p a ∧ okP s bs
def F_one_right_ := isTrue1
def pre_two_right_ (p : Addr → Prop) (xs : List D) : Prop := ∃ (a : Addr) (s1 : Int) (b1 : List (Int × Int)) (s2 : Int) (b2 : List (Int × Int)), xs = [.adr a, priceD true s1 b1, priceD true s2 b2] ∧ p a ∧ okP s1 b1 ∧ okP s2 b2
def F_two_right_ := isTrue1
def pre_right_ := preP
def F_right_ := isTrue1
def pre_law := preLaw
def F_law := isTrue1
theorem price_inj {k l : Bool} {s s' : Int} {b b' : List (Int × Int)} (e : priceD k s b = priceD l s' b') : s = s' ∧ b = b' := by
  have e1 := D.tup.inj e
  have e2 := D.int.inj (List.cons.inj e1).1
  have e3 := sq_inj (List.cons.inj (List.cons.inj e1).2).1
  have inj : ∀ (b b' : List (Int × Int)), b.map bend2 = b'.map bend2 → b = b' := by
    intro b
    induction b with
    | nil => intro b' e; cases b' with
      | nil => rfl
      | cons _ _ => cases e
    | cons q b ih =>
      intro b' e
      cases b' with
      | nil => cases e
      | cons q' b' =>
        have e1 := D.tup.inj (List.cons.inj e).1
        rw [ih b' (List.cons.inj e).2]
        congr 1
        exact Prod.ext (D.int.inj (List.cons.inj e1).1) (D.int.inj (List.cons.inj (List.cons.inj e1).2).1)
  exact ⟨e2, inj _ _ e3⟩
theorem sh_price {k : Bool} {s : Int} {bs : List (Int × Int)} (h : okQ s bs) : gd 5 10000000 (priceD k s bs) := by
  have hx : ∀ x ∈ bs.map bend2, gd 3 200000 x := fun x hx => by
    obtain ⟨q, hq, rfl⟩ := List.mem_map.mp hx
    have := h.inn q hq
    exact gd_bend (pow_le (a := 10) (by omega) (by omega)) (pow_le (a := 10) (by omega) (by omega))
  have few := h.few
  exact (gd_sq (n := 4) (B := 2500000) (m := 3) (xs := [.int s, sq k (bs.map bend2)]) false (mem2 (gdI4 (pow_le h.sl (by omega))) (gd_lst k hx (by rw [List.length_map]; omega))) (show 2 ≤ 3 by decide)).mono (by decide)
theorem isPr_price {k : Bool} {s : Int} {bs : List (Int × Int)} (h : okQ s bs) : isPr (priceD k s bs) = true := by
  have hi : items (sq k (bs.map bend2)) = bs.map bend2 := by cases k <;> rfl
  have hq : isSq (sq k (bs.map bend2)) = true := by cases k <;> rfl
  show (isInt (.int s) && (isSq (sq k (bs.map bend2)) && (decide ((items (sq k (bs.map bend2))).length ≤ 4) && ((items (sq k (bs.map bend2))).all bendOk && rise ((items (sq k (bs.map bend2))).map plc))))) = true
  rw [hq, hi, List.length_map, decide_eq_true h.few]
  have h1 : (bs.map bend2).all bendOk = true := List.all_eq_true.mpr fun x hx => by
    obtain ⟨q, hq, rfl⟩ := List.mem_map.mp hx
    have := (h.inn q hq).2.1
    show (true && (true && decide (0 < q.2))) = true
    rw [decide_eq_true (by omega)]
    rfl
  have h2 : (bs.map bend2).map plc = bs.map (·.1) := by rw [List.map_map]; rfl
  have h3 : ∀ a : List Int, a.Pairwise (· < ·) → rise a = true := by
    intro a
    induction a with
    | nil => intro _; rfl
    | cons x a ih =>
      intro hp
      rw [List.pairwise_cons] at hp
      cases a with
      | nil => rfl
      | cons y a =>
        show (decide (x < y) && rise (y :: a)) = true
        rw [decide_eq_true (hp.1 y (List.mem_cons_self ..)), ih hp.2]
        rfl
  rw [h1, h2, h3 _ h.up]
  rfl
section
variable {cls : Cl} {p : Addr → Prop} {ds : Sts} {ta tb te tl tr : TE} {t : TA} {K : PySem.W.Frag}
theorem e_checkp {k : Bool} {s : Int} {bs : List (Int × Int)} (h : Ev cls p ta ds (· = priceD k s bs)) (ok : okQ s bs) : Ev cls p (tCall (spG cls 1 pre_check_price F_check_price) [] E0 (tCons ta tNil)) ds (· = .non) :=
  ev_c1 h ⟨k, s, bs, rfl, ok⟩ fun r z => z
theorem e_costat {k : Bool} {s : Int} {bs : List (Int × Int)} {n : Int} (h : Ev cls p ta ds (· = priceD k s bs)) (g : Ev cls p tb ds (· = .int n)) (ok : okQ s bs) (hn : n.natAbs < 2 ^ 200) : Ev cls p (tCall (spG cls 2 pre_cost_at F_cost_at) [] E0 (tCons ta (tCons tb tNil))) ds (· = .int (costI s bs n)) :=
  ev_c2 h g ⟨k, s, bs, n, rfl, ok, hn⟩ fun r ⟨k', s', bs', n', e, z⟩ => by rw [z, (price_inj (List.cons.inj e).1).1, (price_inj (List.cons.inj e).1).2, D.int.inj (List.cons.inj (List.cons.inj e).2).1]
theorem e_priceat {k : Bool} {s : Int} {bs : List (Int × Int)} {n : Int} (h : Ev cls p ta ds (· = priceD k s bs)) (g : Ev cls p tb ds (· = .int n)) (ok : okQ s bs) (hn : n.natAbs < 2 ^ 200) : Ev cls p (tCall (spG cls 2 pre_price_at F_price_at) [] E0 (tCons ta (tCons tb tNil))) ds (· = .int (costI s bs n)) :=
  ev_c2 h g ⟨k, s, bs, n, rfl, ok, hn⟩ fun r ⟨k', s', bs', n', e, z⟩ => by rw [z, (price_inj (List.cons.inj e).1).1, (price_inj (List.cons.inj e).1).2, D.int.inj (List.cons.inj (List.cons.inj e).2).1]
theorem k_priceat {k : Bool} {s : Int} {bs : List (Int × Int)} {n : Int} (h : Ev cls p ta ds (· = priceD k s bs)) (g : Ev cls p tb ds (· = .int n)) (ok : okQ s bs) (hn : n.natAbs < 2 ^ 200) : Ev cls p (tKey (spG cls 2 pre_price_at F_price_at) [1, 0] 2 (tCons tb (tCons ta tNil))) ds (· = .int (costI s bs n)) :=
  ev_k2 h g ⟨k, s, bs, n, rfl, ok, hn⟩ fun r ⟨k', s', bs', n', e, z⟩ => by rw [z, (price_inj (List.cons.inj e).1).1, (price_inj (List.cons.inj e).1).2, D.int.inj (List.cons.inj (List.cons.inj e).2).1]
theorem e_slopeat {k : Bool} {s : Int} {bs : List (Int × Int)} {n : Int} (h : Ev cls p ta ds (· = priceD k s bs)) (g : Ev cls p tb ds (· = .int n)) (ok : okQ s bs) (hn : n.natAbs < 2 ^ 200) : Ev cls p (tCall (spG cls 2 pre_slope_at F_slope_at) [] E0 (tCons ta (tCons tb tNil))) ds (· = .int (slpI s bs n)) :=
  ev_c2 h g ⟨k, s, bs, n, rfl, ok, hn⟩ fun r ⟨k', s', bs', n', e, z⟩ => by rw [z, (price_inj (List.cons.inj e).1).1, (price_inj (List.cons.inj e).1).2, D.int.inj (List.cons.inj (List.cons.inj e).2).1]
theorem k_slopeat {k : Bool} {s : Int} {bs : List (Int × Int)} {n : Int} (h : Ev cls p ta ds (· = priceD k s bs)) (g : Ev cls p tb ds (· = .int n)) (ok : okQ s bs) (hn : n.natAbs < 2 ^ 200) : Ev cls p (tKey (spG cls 2 pre_slope_at F_slope_at) [1, 0] 2 (tCons tb (tCons ta tNil))) ds (· = .int (slpI s bs n)) :=
  ev_k2 h g ⟨k, s, bs, n, rfl, ok, hn⟩ fun r ⟨k', s', bs', n', e, z⟩ => by rw [z, (price_inj (List.cons.inj e).1).1, (price_inj (List.cons.inj e).1).2, D.int.inj (List.cons.inj (List.cons.inj e).2).1]
theorem e_cost_ {s : Int} {k : Bool} {bs : List (Int × Int)} {n : Int} (h : Ev cls p ta ds (· = priceD k s bs)) (g : Ev cls p tb ds (· = .int n)) (ok : okQ s bs) (hn : n.natAbs < 2 ^ 200) : Ev cls p (tCall (spG cls 2 pre_cost_ F_cost_) [] E0 (tCons ta (tCons tb tNil))) ds (· = .int (costI s bs n)) :=
  ev_c2 h g ⟨k, s, bs, n, rfl, ok, hn⟩ fun r ⟨k', s', bs', n', e, z⟩ => by rw [z, (price_inj (List.cons.inj e).1).1, (price_inj (List.cons.inj e).1).2, D.int.inj (List.cons.inj (List.cons.inj e).2).1]
theorem e_plusp {k l : Bool} {s1 s2 : Int} {b1 b2 : List (Int × Int)} (h : Ev cls p ta ds (· = priceD k s1 b1)) (g : Ev cls p tb ds (· = priceD l s2 b2)) (o1 : okQ s1 b1) (o2 : okQ s2 b2) (l4 : (mrgI [] (b1 ++ b2)).length ≤ 4) :
    Ev cls p (tCall (spBox cls 2 pre_plus_prices FB_plus_prices) [] E0 (tCons ta (tCons tb tNil))) ds (fun d => ∃ z, IsS z (b1 ++ b2) ∧ d = priceD true (s1 + s2) z) :=
  (ev_box (ea2 h g) fun xs ⟨x, y, ex, ey, e⟩ => by rw [e, ex, ey]; exact ⟨rfl, k, l, s1, b1, s2, b2, rfl, o1, o2, l4⟩).mono fun d ⟨xs, s, zs, ⟨x, y, ex, ey, e⟩, ⟨k', l', s1', b1', s2', b2', e', es, z, ez, hz⟩, ed⟩ => by
    rw [ex, ey] at e
    rw [e] at e'
    obtain ⟨e1, e2⟩ := price_inj (List.cons.inj e').1
    obtain ⟨e3, e4⟩ := price_inj (List.cons.inj (List.cons.inj e').2).1
    subst e1 e2 e3 e4
    exact ⟨z, hz, by rw [ed, es, ez]; rfl⟩
theorem k_plusp {k l : Bool} {s1 s2 : Int} {b1 b2 : List (Int × Int)} (h : Ev cls p ta ds (· = priceD k s1 b1)) (g : Ev cls p tb ds (· = priceD l s2 b2)) (o1 : okQ s1 b1) (o2 : okQ s2 b2) (l4 : (mrgI [] (b1 ++ b2)).length ≤ 4) :
    Ev cls p (tKey (spBox cls 2 pre_plus_prices FB_plus_prices) [1, 0] 2 (tCons tb (tCons ta tNil))) ds (fun d => ∃ z, IsS z (b1 ++ b2) ∧ d = priceD true (s1 + s2) z) :=
  (ev_boxK (ea2 g h) fun xs ⟨y, x, ey, ex, e⟩ => by rw [e, ex, ey]; exact ⟨rfl, rfl, k, l, s1, b1, s2, b2, rfl, o1, o2, l4⟩).mono fun d ⟨xs, s, zs, ⟨y, x, ey, ex, e⟩, ⟨k', l', s1', b1', s2', b2', e', es, z, ez, hz⟩, ed⟩ => by
    rw [ex, ey] at e
    rw [e] at e'
    have e' : [priceD k s1 b1, priceD l s2 b2] = [priceD k' s1' b1', priceD l' s2' b2'] := e'
    obtain ⟨e1, e2⟩ := price_inj (List.cons.inj e').1
    obtain ⟨e3, e4⟩ := price_inj (List.cons.inj (List.cons.inj e').2).1
    subst e1 e2 e3 e4
    exact ⟨z, hz, by rw [ed, es, ez]; rfl⟩
theorem e_given_ {a : Addr} {s : Int} {bs : List (Int × Int)} {i j : Nat} (hp : p a) (e1 : ds[i]? = some (some (Slot.dat (.adr a)))) (e2 : ds[j]? = some (some (Slot.dat (priceD true s bs)))) : Ev cls p (tCall (spG cls 2 pre_given_ F_given_) [] E0 (tCons (tVar i) (tCons (tVar j) tNil))) ds (fun d => ∃ k, d = priceD k s bs) := by
  refine ev_call' (ea2 (ev_var e1) (ev_var e2)) ?_
  rintro _ ⟨x, y, ex, ey, rfl⟩
  rw [ex, ey]
  refine ⟨rfl, ⟨a, s, bs, rfl, hp⟩, ?_⟩
  rintro d ⟨a', s', bs', k, e, z⟩
  obtain ⟨e3, e4⟩ := price_inj (List.cons.inj (List.cons.inj e).2).1
  exact ⟨k, by rw [z, e3, e4]⟩
theorem ev_isLi {d : D} (h : Ev cls p ta ds (· = d)) (hb : builtD d = true) : Ev cls p (tCB (cOr (rIsi K) (rIsiT K)) (tCons ta (tCons (tC (.ty "list")) tNil))) ds (· = .bl (Lk.isLst d)) :=
  (ev_cb (ea2 h ev_ty) (rc_l (rc_isi fun xs ⟨x, y, hx, hy, e⟩ => ⟨x, _, by rw [e, hy], by rw [hx]; exact hb, isB_list (by rw [hx]; exact hb)⟩))).mono fun r ⟨d', b, ⟨x, y, hx, hy, e⟩, h2, h3⟩ => by
    cases e
    subst hx
    rw [isB_list hb] at h2
    cases h2
    exact h3
end
theorem bend_sum {f : Int → Int → Int} : ∀ (bs : List (Int × Int)), D.lst ((bs.map bend2).map fun d => match d with | .tup [.int a, .int b] => .int (f a b) | _ => .non) = .lst ((bs.map fun q => f q.1 q.2).map D.int)
  | bs => by
    rw [List.map_map, List.map_map]
    rfl
theorem sum_w {α : Type} {B : Nat} (f : α → Int) : ∀ bs : List α, (∀ q ∈ bs, (f q).natAbs ≤ B) → (bs.map f).sum.natAbs ≤ bs.length * B
  | [], _ => by show 0 ≤ _; omega
  | q :: bs, h => by
    have ih := sum_w f bs fun x hx => h x (List.mem_cons_of_mem _ hx)
    have := h q (List.mem_cons_self ..)
    rw [List.map_cons, List.sum_cons, List.length_cons, Nat.add_mul]
    omega
theorem sub_w {n i : Int} (hn : n.natAbs < 2 ^ 200) (hi : i.natAbs ≤ 100) : (n - i).natAbs < 2 ^ 201 := by
  have e : (2 : Nat) ^ 201 = 2 * 2 ^ 200 := by decide
  have e2 : 100 < (2 : Nat) ^ 200 := by decide
  rw [e]
  generalize (2 : Nat) ^ 200 = B at *
  omega
theorem cost_w {s n : Int} {bs : List (Int × Int)} (h : okQ s bs) (hn : n.natAbs < 2 ^ 200) : (costI s bs n).natAbs < 2 ^ 500 := by
  have h1 : (s * n).natAbs < 2 ^ 400 := by
    rw [Int.natAbs_mul, show (2 : Nat) ^ 400 = 2 ^ 200 * 2 ^ 200 from Nat.pow_add 2 200 200]
    exact Nat.mul_lt_mul'' h.sl hn
  have h2 := sum_w (B := 100 * 2 ^ 201) (fun q : Int × Int => if q.1 < n then q.2 * (n - q.1) else 0) bs fun q hq => by
    have := h.inn q hq
    show (if q.1 < n then q.2 * (n - q.1) else 0).natAbs ≤ _
    split
    · rw [Int.natAbs_mul]
      exact Nat.mul_le_mul (by omega) (Nat.le_of_lt (sub_w hn this.1))
    · exact Nat.zero_le _
  have h3 : bs.length * (100 * 2 ^ 201) ≤ 4 * (100 * 2 ^ 201) := Nat.mul_le_mul_right _ h.few
  have h4 : 4 * (100 * 2 ^ 201) < (2 : Nat) ^ 400 := by decide +kernel
  have h5 : (2 : Nat) ^ 400 + 2 ^ 400 ≤ 2 ^ 500 := by decide +kernel
  unfold costI
  have h6 := Int.natAbs_add_le (s * n) (bs.map fun q => if q.1 < n then q.2 * (n - q.1) else 0).sum
  exact Nat.lt_of_lt_of_le (Nat.lt_of_le_of_lt h6 (Nat.add_lt_add h1 (Nat.lt_of_le_of_lt (Nat.le_trans h2 h3) h4))) h5
theorem slp_w {s n : Int} {bs : List (Int × Int)} (h : okQ s bs) : (slpI s bs n).natAbs < 2 ^ 500 := by
  have h2 := sum_w (B := 100) (fun q : Int × Int => if q.1 ≤ n then q.2 else 0) bs fun q hq => by
    have := h.inn q hq
    show (if q.1 ≤ n then q.2 else 0).natAbs ≤ _
    split
    · omega
    · exact Nat.zero_le _
  have h3 : bs.length * 100 ≤ 4 * 100 := Nat.mul_le_mul_right _ h.few
  have h6 := Int.natAbs_add_le s (bs.map fun q => if q.1 ≤ n then q.2 else 0).sum
  have h5 : (2 : Nat) ^ 200 + 401 ≤ 2 ^ 500 := by decide +kernel
  unfold slpI
  refine Nat.lt_of_lt_of_le (Nat.lt_of_le_of_lt h6 (Nat.add_lt_add_of_lt_of_le h.sl ?_)) h5
  omega
theorem cost_add {s1 s2 n : Int} {b1 b2 z : List (Int × Int)} (h : IsS z (b1 ++ b2)) : costI (s1 + s2) z n = costI s1 b1 n + costI s2 b2 n := by
  rw [cost_smF, cost_smF, cost_smF, h.sum, smF_app, Int.add_mul]
  omega
theorem okQ.nd {s : Int} {bs : List (Int × Int)} (h : okQ s bs) : (bs.map (·.1)).Nodup := h.up.imp fun hlt e => by omega
theorem okQ.pos {s : Int} {bs : List (Int × Int)} (h : okQ s bs) : ∀ q ∈ bs, 1 ≤ q.2 := fun q hq => (h.inn q hq).2.1
theorem okP.in5 {s : Int} {bs : List (Int × Int)} (h : okP s bs) : ∀ q ∈ bs, q.1.natAbs ≤ 100 ∧ 1 ≤ q.2 ∧ q.2 ≤ 5 := fun q hq => by have := h.in8 q hq; omega
theorem pos_app {a b : List (Int × Int)} (h : ∀ q ∈ a, 1 ≤ q.2) (k : ∀ q ∈ b, 1 ≤ q.2) : ∀ q ∈ a ++ b, 1 ≤ q.2 := fun q hq => (List.mem_append.mp hq).elim (h q) (k q)
theorem okQ0 : okQ 0 [] := ⟨by decide, Nat.zero_le _, List.Pairwise.nil, fun q hq => nomatch hq⟩
theorem okQ1 : okQ 1 [] := ⟨by decide, Nat.zero_le _, List.Pairwise.nil, fun q hq => nomatch hq⟩
theorem okD_price {k : Bool} {s : Int} {bs : List (Int × Int)} : okD 4 (priceD k s bs) = true := by
  have : (bs.map bend2).all (okD 2) = true := List.all_eq_true.mpr fun x hx => by
    obtain ⟨q, _, rfl⟩ := List.mem_map.mp hx
    rfl
  cases k
  · show (true && ((bs.map bend2).all (okD 2) && true)) = true
    rw [this]; rfl
  · show (true && ((bs.map bend2).all (okD 2) && true)) = true
    rw [this]; rfl
section
variable {cls : Cl} {p : Addr → Prop} {ds : Sts} {ta tb te tl tr : TE} {t : TA} {K : PySem.W.Frag}
theorem e_plusE {k l : Bool} {s1 s2 : Int} {b1 b2 z : List (Int × Int)} (h : Ev cls p ta ds (· = priceD k s1 b1)) (g : Ev cls p tb ds (· = priceD l s2 b2)) (o1 : okQ s1 b1) (o2 : okQ s2 b2) (hz : IsS z (b1 ++ b2)) (l4 : z.length ≤ 4) :
    Ev cls p (tCall (spBox cls 2 pre_plus_prices FB_plus_prices) [] E0 (tCons ta (tCons tb tNil))) ds (· = priceD true (s1 + s2) z) :=
  (e_plusp h g o1 o2 (by rw [len_isS hz (pos_app o1.pos o2.pos) fun f => rfl]; exact l4)).mono fun d ⟨z', h', e⟩ => by rw [e, h'.uniq hz fun f => rfl]
theorem k_plusE {k l : Bool} {s1 s2 : Int} {b1 b2 z : List (Int × Int)} (h : Ev cls p ta ds (· = priceD k s1 b1)) (g : Ev cls p tb ds (· = priceD l s2 b2)) (o1 : okQ s1 b1) (o2 : okQ s2 b2) (hz : IsS z (b1 ++ b2)) (l4 : z.length ≤ 4) :
    Ev cls p (tKey (spBox cls 2 pre_plus_prices FB_plus_prices) [1, 0] 2 (tCons tb (tCons ta tNil))) ds (· = priceD true (s1 + s2) z) :=
  (k_plusp h g o1 o2 (by rw [len_isS hz (pos_app o1.pos o2.pos) fun f => rfl]; exact l4)).mono fun d ⟨z', h', e⟩ => by rw [e, h'.uniq hz fun f => rfl]
theorem ev_p0 {k : Bool} {s : Int} {bs : List (Int × Int)} (h : Ev cls p ta ds (· = priceD k s bs)) : Ev cls p (tOp (rIx K) ta (tC (.int 0))) ds (· = .int s) := ev_ixI (k := false) (xs := [.int s, sq k (bs.map bend2)]) h ev_int rfl
theorem ev_p1 {k : Bool} {s : Int} {bs : List (Int × Int)} (h : Ev cls p ta ds (· = priceD k s bs)) : Ev cls p (tOp (rIx K) ta (tC (.int 1))) ds (· = sq k (bs.map bend2)) := ev_ixI (k := false) (xs := [.int s, sq k (bs.map bend2)]) h ev_int rfl
theorem ev_lt0 {s : Int} (h : Ev cls p ta ds (· = .int s)) : Ev cls p (tTup (tCons ta (tCons (tLst tNil) tNil))) ds (· = priceD true s []) := ev_t2 h ev_lst0
theorem sh_P {k : Bool} {s : Int} {bs : List (Int × Int)} (h : Ev cls p ta ds (· = priceD k s bs)) (ok : okQ s bs) : Ev cls p (tCB (rShE cls) (tCons ta tNil)) ds (· = .str (py (priceD k s bs)).shown) :=
  ev_shE h (by decide : 5 ≤ 20) (sh_price ok).1 (sh_price ok).2.1 (.inl (sh_price ok).2.2)
theorem sh_I2 {i : Int} (h : Ev cls p ta ds (· = .lst [.int i, .int i])) (hi : i.natAbs < 2 ^ 500) : Ev cls p (tCB (rShE cls) (tCons ta tNil)) ds (· = .str (py (.lst [.int i, .int i])).shown) := by
  have g : gd 2 100000 (sq true [.int i, .int i]) := (gd_sq (n := 1) (B := 30000) (m := 2) true (mem2 (gdI 1 (pow_le hi (by omega))) (gdI 1 (pow_le hi (by omega)))) (show 2 ≤ 2 by decide)).mono (by decide)
  exact ev_shE h (by decide : 2 ≤ 20) g.1 (Nat.le_trans g.2.1 (by decide)) (.inl g.2.2)
end
abbrev QQ (a : Addr) (s : Int) (bs : List (Int × Int)) (k : Bool) (x4 x5 x6 x7 : Option Slot) : Sts := [some (.dat (.adr a)), some (.dat (priceD true s bs)), some (.dat (priceD k s bs)), some (.dat (dctD bs)), x4, x5, x6, x7, none, none]
abbrev TT (a : Addr) (s1 : Int) (b1 : List (Int × Int)) (s2 : Int) (b2 z : List (Int × Int)) (x4 x5 x6 x7 : Option Slot) : Sts := [some (.dat (.adr a)), some (.dat (priceD true s1 b1)), some (.dat (priceD true s2 b2)), some (.dat (priceD true (s1 + s2) z)), x4, x5, x6, x7]
abbrev RR (a : Addr) (x1 x2 x3 x4 : Option Slot) : Sts := [some (.dat (.adr a)), x1, x2, x3, x4]
theorem getI_some {k : Int} : ∀ {acc : List (Int × Int)}, k ∈ acc.map (·.1) → getI acc k = some ((getI acc k).getD 0)
  | [], h => nomatch h
  | q :: acc, h => by
    rw [getI_cons]
    by_cases e : q.1 = k
    · rw [if_pos e]; rfl
    · rw [if_neg e]
      exact getI_some ((List.mem_cons.mp h).resolve_left fun z => e z.symm)
/-- the sorted keys, one by one -/
theorem keys_srt {acc bs : List (Int × Int)} (h : MI acc bs) : ∃ z : List (Int × Int), IsS z bs ∧ z.length = acc.length ∧ (∀ k ∈ z.map (·.1), k ∈ acc.map (·.1)) ∧ (z.map (·.1)).map (fun k => (k, (getI acc k).getD 0)) = z ∧ ∀ ms : List Int, ms.Perm (acc.map (·.1)) → ms.Pairwise (· ≤ ·) → ms = z.map (·.1) := by
  have one : ∀ ms : List Int, ms.Perm (acc.map (·.1)) → ms.Pairwise (· ≤ ·) → ∀ z, IsS z bs → ms.map (fun k => (k, (getI acc k).getD 0)) = z := fun ms pm pw z hz => (keys_isS h pm pw).1.uniq hz fun f => rfl
  let ms0 : List Int := (acc.map (·.1)).mergeSort fun a b => decide (a ≤ b)
  have pm0 : ms0.Perm (acc.map (·.1)) := List.mergeSort_perm _ _
  have pw0 : ms0.Pairwise (· ≤ ·) := (List.pairwise_mergeSort (fun a b c h1 h2 => by
    have h1 := of_decide_eq_true h1
    have h2 := of_decide_eq_true h2
    exact decide_eq_true (by omega)) (fun a b => by
    by_cases h : a ≤ b
    · rw [decide_eq_true h]; rfl
    · rw [decide_eq_true (show b ≤ a by omega), Bool.or_true]) _).imp fun {a b} h => of_decide_eq_true h
  have back : ∀ ms : List Int, (ms.map fun k => (k, (getI acc k).getD 0)).map (·.1) = ms := fun ms => by
    rw [List.map_map]
    exact List.map_id' ms
  obtain ⟨h1, h2⟩ := keys_isS h pm0 pw0
  refine ⟨_, h1, h2, fun k hk => ?_, by rw [back], fun ms pm pw => ?_⟩
  · rw [back] at hk
    exact pm0.mem_iff.mp hk
  · rw [← one ms pm pw _ h1, back]
/-! ### kinds -/
def prD (e : Bool) (q : Int × List (Int × Int)) : D := priceD e q.1 q.2
structure okK (m r : Int) (bs : List (Int × Int)) (ps : List (Int × List (Int × Int))) : Prop where
  m0 : 0 ≤ m
  mw : m.natAbs < 2 ^ 200
  rw : r.natAbs < 2 ^ 200
  l1 : 1 ≤ bs.length
  l6 : bs.length ≤ 6
  lp : ps.length = bs.length
  bo : ∀ q ∈ bs, q.1 ≤ q.2 ∧ q.1.natAbs < 2 ^ 200 ∧ q.2.natAbs < 2 ^ 200
  pr : ∀ q ∈ ps, okQ q.1 q.2
abbrev kNs : List Str := ["_many", "_rest", "_bounds", "_prices"]
def kYs (m r : Int) (bs : List (Int × Int)) (ps : List (Int × List (Int × Int))) : List D := [.int m, .int r, .lst (bs.map Lk.pairD), .lst (ps.map (prD true))]
def kindD (m r : Int) (bs : List (Int × Int)) (ps : List (Int × List (Int × Int))) : D := .obj 0 kNs (kYs m r bs ps)
def argK (k l e : Bool) (m r : Int) (bs : List (Int × Int)) (ps : List (Int × List (Int × Int))) : List D := [.int m, .int r, sq k (bs.map Lk.pairD), sq l (ps.map (prD e))]
def pre_Kind_init (xs : List D) : Prop := ∃ k l e m r bs ps, xs = argK k l e m r bs ps ∧ okK m r bs ps
def G_Kind_init (xs ys : List D) : Prop := ∃ k l e m r bs ps, xs = argK k l e m r bs ps ∧ ys = kYs m r bs ps
def pre_told_price (_ : Addr → Prop) (xs : List D) : Prop := ∃ k s bs, xs = [priceD k s bs]
def F_told_price (xs : List D) (r : D) : Prop := ∃ k s bs, xs = [priceD k s bs] ∧ r = priceD true s bs
def pre_is_bound (_ : Addr → Prop) (xs : List D) : Prop := ∃ q : Int × Int, xs = [Lk.pairD q] ∧ q.1 ≤ q.2
def F_is_bound (_ : List D) (r : D) : Prop := r = .bl true
def pre_are_bounds (_ : Addr → Prop) (xs : List D) : Prop := ∃ (k : Bool) (bs : List (Int × Int)), xs = [sq k (bs.map Lk.pairD)] ∧ 1 ≤ bs.length ∧ bs.length ≤ 6 ∧ ∀ q ∈ bs, q.1 ≤ q.2
def F_are_bounds (_ : List D) (r : D) : Prop := r = .bl true
def preK (_ : Addr → Prop) (xs : List D) : Prop := ∃ m r bs ps, xs = [kindD m r bs ps]
def pre_Kind_many := preK
def F_Kind_many (xs : List D) (d : D) : Prop := ∃ m r bs ps, xs = [kindD m r bs ps] ∧ d = .int m
def pre_Kind_rest := preK
def F_Kind_rest (xs : List D) (d : D) : Prop := ∃ m r bs ps, xs = [kindD m r bs ps] ∧ d = .int r
def pre_Kind_columns := preK
def F_Kind_columns (xs : List D) (d : D) : Prop := ∃ m r bs ps, xs = [kindD m r bs ps] ∧ d = .int bs.length
def preKS (_ : Addr → Prop) (xs : List D) : Prop := ∃ m r bs ps, xs = [kindD m r bs ps] ∧ okK m r bs ps
def pre_Kind_bounds := preKS
def F_Kind_bounds (xs : List D) (d : D) : Prop := ∃ m r bs ps, xs = [kindD m r bs ps] ∧ d = .lst (bs.map Lk.pairD)
def pre_Kind_prices := preKS
def F_Kind_prices (xs : List D) (d : D) : Prop := ∃ m r bs ps, xs = [kindD m r bs ps] ∧ d = .lst (ps.map (prD true))
def pre_Kind_with_many (_ : Addr → Prop) (xs : List D) : Prop := ∃ m r bs ps n, xs = [kindD m r bs ps, .int n] ∧ okK n r bs ps
def F_Kind_with_many (xs : List D) (d : D) : Prop := ∃ m r bs ps n, xs = [kindD m r bs ps, .int n] ∧ d = kindD n r bs ps
def pre_Kind_eq (_ : Addr → Prop) (xs : List D) : Prop := ∃ m r bs ps d, xs = [kindD m r bs ps, d] ∧ (builtD d = true ∨ ∃ m' r' bs' ps', d = kindD m' r' bs' ps')
def F_Kind_eq (xs : List D) (x : D) : Prop := ∃ m r bs ps d b, xs = [kindD m r bs ps, d] ∧ x = .bl b ∧ (b = true ↔ d = kindD m r bs ps)
def kindS (m r : Int) (bs : List (Int × Int)) (ps : List (Int × List (Int × Int))) : Str := ((((((((Str.empty ++ "Kind(") ++ toString m) ++ ", ") ++ toString r) ++ ", ") ++ (py (.lst (bs.map Lk.pairD))).shown) ++ ", ") ++ (py (.lst (ps.map (prD true)))).shown) ++ ")"
def pre_Kind_repr := preKS
def F_Kind_repr (xs : List D) (d : D) : Prop := ∃ m r bs ps, xs = [kindD m r bs ps] ∧ d = .str (kindS m r bs ps)
def partsD (m r : Int) (bs : List (Int × Int)) (ps : List (Int × List (Int × Int))) : D := .tup (kYs m r bs ps)
structure okL (m r : Int) (bs : List (Int × Int)) (ps : List (Int × List (Int × Int))) : Prop where
  m0 : 0 ≤ m
  mw : m.natAbs < 2 ^ 100
  rw : r.natAbs ≤ 20
  l1 : 1 ≤ bs.length
  l6 : bs.length ≤ 6
  lp : ps.length = bs.length
  bo : ∀ q ∈ bs, q.1 ≤ q.2 ∧ q.1.natAbs < 2 ^ 60 ∧ q.2.natAbs < 2 ^ 60
  pr : ∀ q ∈ ps, okP q.1 q.2
def pre_parts_ := preP
def F_parts_ (_ : List D) (d : D) : Prop := ∃ m r bs ps, d = partsD m r bs ps ∧ okL m r bs ps
def pre_text_ (_ : Addr → Prop) (xs : List D) : Prop := ∃ m r bs ps, xs = [partsD m r bs ps] ∧ okK m r bs ps
def F_text_ (xs : List D) (d : D) : Prop := ∃ m r bs ps, xs = [partsD m r bs ps] ∧ d = .str (kindS m r bs ps)
def pre_is_ (_ : Addr → Prop) (xs : List D) : Prop := ∃ m r bs ps, xs = [kindD m r bs ps, partsD m r bs ps] ∧ okK m r bs ps
def F_is_ := isTrue1
def pre_others_ (p : Addr → Prop) (xs : List D) : Prop := ∃ (a : Addr) (m r : Int) (bs : List (Int × Int)) (ps : List (Int × List (Int × Int))), xs = [.adr a, partsD m r bs ps] ∧ p a ∧ okL m r bs ps
def F_others_ (xs : List D) (d : D) : Prop := ∃ (a : Addr) (m r : Int) (bs : List (Int × Int)) (ps : List (Int × List (Int × Int))), xs = [.adr a, partsD m r bs ps] ∧ ∃ os : List D, d = .lst os ∧ os.length ≤ 10 ∧ ∀ o ∈ os, ∃ m' r' bs' ps', o = partsD m' r' bs' ps' ∧ okK m' r' bs' ps' ∧ kindD m' r' bs' ps' ≠ kindD m r bs ps
theorem okL.k {m r : Int} {bs : List (Int × Int)} {ps : List (Int × List (Int × Int))} (h : okL m r bs ps) : okK m r bs ps :=
  ⟨h.m0, pow_le h.mw (by omega), pow_le (a := 10) (by have := h.rw; omega) (by omega), h.l1, h.l6, h.lp, fun q hq => ⟨(h.bo q hq).1, pow_le (h.bo q hq).2.1 (by omega), pow_le (h.bo q hq).2.2 (by omega)⟩, fun q hq => (h.pr q hq).q⟩
theorem map_inj {α β : Type} {f : α → β} (hf : ∀ x y, f x = f y → x = y) : ∀ {a b : List α}, a.map f = b.map f → a = b
  | [], [], _ => rfl
  | [], _ :: _, e => nomatch e
  | _ :: _, [], e => nomatch e
  | x :: a, y :: b, e => by
    rw [hf x y (List.cons.inj e).1, map_inj hf (List.cons.inj e).2]
theorem pairD_inj (x y : Int × Int) (e : Lk.pairD x = Lk.pairD y) : x = y := by
  have e1 := D.tup.inj e
  exact Prod.ext (D.int.inj (List.cons.inj e1).1) (D.int.inj (List.cons.inj (List.cons.inj e1).2).1)
theorem prD_inj {e : Bool} (x y : Int × List (Int × Int)) (h : prD e x = prD e y) : x = y := Prod.ext (price_inj h).1 (price_inj h).2
theorem kYs_inj {m r m' r' : Int} {bs bs' : List (Int × Int)} {ps ps' : List (Int × List (Int × Int))} (e : kYs m r bs ps = kYs m' r' bs' ps') : m = m' ∧ r = r' ∧ bs = bs' ∧ ps = ps' := by
  have e0 := List.cons.inj e
  have e1 := List.cons.inj e0.2
  have e2 := List.cons.inj e1.2
  have e3 := List.cons.inj e2.2
  exact ⟨D.int.inj e0.1, D.int.inj e1.1, map_inj pairD_inj (D.lst.inj e2.1), map_inj prD_inj (D.lst.inj e3.1)⟩
theorem kind_inj {m r m' r' : Int} {bs bs' : List (Int × Int)} {ps ps' : List (Int × List (Int × Int))} (e : kindD m r bs ps = kindD m' r' bs' ps') : m = m' ∧ r = r' ∧ bs = bs' ∧ ps = ps' := kYs_inj (D.obj.inj e).2.2
theorem parts_inj {m r m' r' : Int} {bs bs' : List (Int × Int)} {ps ps' : List (Int × List (Int × Int))} (e : partsD m r bs ps = partsD m' r' bs' ps') : m = m' ∧ r = r' ∧ bs = bs' ∧ ps = ps' := kYs_inj (D.tup.inj e)
theorem argK_inj {k l e k' l' e' : Bool} {m r m' r' : Int} {bs bs' : List (Int × Int)} {ps ps' : List (Int × List (Int × Int))} (h : argK k l e m r bs ps = argK k' l' e' m' r' bs' ps') : m = m' ∧ r = r' ∧ bs = bs' ∧ ps = ps' := by
  have e0 := List.cons.inj h
  have e1 := List.cons.inj e0.2
  have e2 := List.cons.inj e1.2
  have e3 := List.cons.inj e2.2
  refine ⟨D.int.inj e0.1, D.int.inj e1.1, map_inj pairD_inj (sq_inj e2.1), ?_⟩
  have e4 := sq_inj e3.1
  have gen : ∀ {a b : List (Int × List (Int × Int))}, a.map (prD e) = b.map (prD e') → a = b := by
    intro a
    induction a with
    | nil => intro b h; cases b with
      | nil => rfl
      | cons _ _ => cases h
    | cons x a ih =>
      intro b h
      cases b with
      | nil => cases h
      | cons y b =>
        have h1 := List.cons.inj h
        rw [ih h1.2, Prod.ext (price_inj h1.1).1 (price_inj h1.1).2]
  exact gen e4
theorem nl_pair (q : Int × Int) : nlD 1 (Lk.pairD q) = true := rfl
theorem nl_pairs {bs : List (Int × Int)} : ∀ x ∈ bs.map Lk.pairD, nlD 1 x = true := fun x hx => by
  obtain ⟨q, _, rfl⟩ := List.mem_map.mp hx
  rfl
theorem shD_pairs {bs : List (Int × Int)} (h : ∀ q ∈ bs, q.1.natAbs < 2 ^ 1900 ∧ q.2.natAbs < 2 ^ 1900) : shD 2 (.lst (bs.map Lk.pairD)) = true :=
  List.all_eq_true.mpr fun x hx => by
    obtain ⟨q, hq, rfl⟩ := List.mem_map.mp hx
    show (decide (q.1.natAbs < 2 ^ 1900) && (decide (q.2.natAbs < 2 ^ 1900) && true)) = true
    rw [decide_eq_true (h q hq).1, decide_eq_true (h q hq).2]
    rfl
section
variable {cls : Cl} {p : Addr → Prop} {ds : Sts} {ta tb tc td te tl tr : TE} {t : TA} {K : PySem.W.Frag} {m r : Int} {bs : List (Int × Int)} {ps : List (Int × List (Int × Int))}
theorem e_kmany (h : Ev cls p te ds (· = kindD m r bs ps)) : Ev cls p (tProp (cls.C 0) (spG cls 1 pre_Kind_many F_Kind_many) [] E0 te) ds (· = .int m) :=
  ev_prop h ⟨m, r, bs, ps, rfl⟩ fun d ⟨m', r', bs', ps', e, z⟩ => by rw [z, (kind_inj (List.cons.inj e).1).1]
theorem e_krest (h : Ev cls p te ds (· = kindD m r bs ps)) : Ev cls p (tProp (cls.C 0) (spG cls 1 pre_Kind_rest F_Kind_rest) [] E0 te) ds (· = .int r) :=
  ev_prop h ⟨m, r, bs, ps, rfl⟩ fun d ⟨m', r', bs', ps', e, z⟩ => by rw [z, (kind_inj (List.cons.inj e).1).2.1]
theorem e_kcols (h : Ev cls p te ds (· = kindD m r bs ps)) : Ev cls p (tProp (cls.C 0) (spG cls 1 pre_Kind_columns F_Kind_columns) [] E0 te) ds (· = .int bs.length) :=
  ev_prop h ⟨m, r, bs, ps, rfl⟩ fun d ⟨m', r', bs', ps', e, z⟩ => by rw [z, (kind_inj (List.cons.inj e).1).2.2.1]
theorem n_bounds (h : Ev cls p te ds (· = kindD m r bs ps)) (ok : okK m r bs ps) : EvN cls p (tMeth (cls.C 0) "bounds" (spN cls 1 pre_Kind_bounds F_Kind_bounds) [] E0 te tNil) ds (· = .lst (bs.map Lk.pairD)) :=
  evn_meth h (by decide) ⟨rfl, m, r, bs, ps, rfl, ok⟩ fun d ⟨m', r', bs', ps', e, z⟩ => by rw [z, (kind_inj (List.cons.inj e).1).2.2.1]
theorem n_prices (h : Ev cls p te ds (· = kindD m r bs ps)) (ok : okK m r bs ps) : EvN cls p (tMeth (cls.C 0) "prices" (spN cls 1 pre_Kind_prices F_Kind_prices) [] E0 te tNil) ds (· = .lst (ps.map (prD true))) :=
  evn_meth h (by decide) ⟨rfl, m, r, bs, ps, rfl, ok⟩ fun d ⟨m', r', bs', ps', e, z⟩ => by rw [z, (kind_inj (List.cons.inj e).1).2.2.2]
theorem e_with {n : Int} (h : Ev cls p te ds (· = kindD m r bs ps)) (k : Ev cls p ta ds (· = .int n)) (ok : okK n r bs ps) : Ev cls p (tMeth (cls.C 0) "with_many" (spG cls 2 pre_Kind_with_many F_Kind_with_many) [] E0 te (tCons ta tNil)) ds (· = kindD n r bs ps) :=
  ev_meth1 h k (by decide) ⟨m, r, bs, ps, n, rfl, ok⟩ fun d ⟨m', r', bs', ps', n', e, z⟩ => by
    obtain ⟨_, h2, h3, h4⟩ := kind_inj (List.cons.inj e).1
    rw [z, h2, h3, h4, D.int.inj (List.cons.inj (List.cons.inj e).2).1]
theorem k_with {n : Int} (h : Ev cls p te ds (· = kindD m r bs ps)) (k : Ev cls p ta ds (· = .int n)) (ok : okK n r bs ps) : Ev cls p (tMethK (cls.C 0) "with_many" (spG cls 2 pre_Kind_with_many F_Kind_with_many) [0] 1 te (tCons ta tNil)) ds (· = kindD n r bs ps) :=
  ev_methK1 h k (by decide) ⟨m, r, bs, ps, n, rfl, ok⟩ fun d ⟨m', r', bs', ps', n', e, z⟩ => by
    obtain ⟨_, h2, h3, h4⟩ := kind_inj (List.cons.inj e).1
    rw [z, h2, h3, h4, D.int.inj (List.cons.inj (List.cons.inj e).2).1]
theorem n_told {k : Bool} {q : Int × List (Int × Int)} (h : Ev cls p te ds (· = prD k q)) : EvN cls p (tCall (spN cls 1 pre_told_price F_told_price) [] E0 (tCons te tNil)) ds (· = prD true q) :=
  evn_call (ea1 h) fun xs ⟨x, ex, e⟩ => by
    rw [e, ex]
    exact ⟨rfl, ⟨k, q.1, q.2, rfl⟩, fun d ⟨k', s', b', e', z⟩ => by
      obtain ⟨e1, e2⟩ := price_inj (List.cons.inj e').1
      rw [z, ← e1, ← e2]
      rfl⟩
theorem n_kind {k l e : Bool} (h : EvA cls p t ds (· = argK k l e m r bs ps)) (ok : okK m r bs ps) : EvN cls p (tMk (cls.C 0) (spInitN cls 0 4 kNs pre_Kind_init G_Kind_init) 4 t) ds (· = kindD m r bs ps) :=
  evn_make h fun xs ex => by
    rw [ex]
    exact ⟨rfl, ⟨k, l, e, m, r, bs, ps, rfl, ok⟩, fun ys ⟨k', l', e', m', r', bs', ps', h1, h2⟩ => by
      obtain ⟨z1, z2, z3, z4⟩ := argK_inj h1
      rw [h2, ← z1, ← z2, ← z3, ← z4]
      rfl⟩
end
/-! ### sizes of what is shown -/
def sd (n B : Nat) (d : D) : Prop := shD n d = true ∧ szD n d ≤ B
theorem sdI (n : Nat) {i : Int} (h : i.natAbs < 2 ^ 1900) : sd n 2000 (.int i) := by cases n <;> exact ⟨decide_eq_true h, Nat.le_refl _⟩
theorem sd.mono {n B B' : Nat} {d : D} (h : sd n B d) (hb : B ≤ B') : sd n B' d := ⟨h.1, Nat.le_trans h.2 hb⟩
theorem sdsum : ∀ (n B : Nat) (xs : List D), (∀ x ∈ xs, szD n x ≤ B) → (xs.map fun x => szD n x + 2).sum ≤ xs.length * (B + 2)
  | _, _, [], _ => by rw [List.map_nil, List.sum_nil]; exact Nat.zero_le _
  | n, B, x :: xs, h => by
    have h1 := h x (List.mem_cons_self ..)
    have h2 := sdsum n B xs fun y hy => h y (List.mem_cons_of_mem _ hy)
    rw [List.map_cons, List.sum_cons, List.length_cons, Nat.succ_mul]
    omega
theorem sd_sq {n B m : Nat} {xs : List D} (k : Bool) (hx : ∀ x ∈ xs, sd n B x) (hl : xs.length ≤ m) : sd (n + 1) (4 + m * (B + 2)) (sq k xs) := by
  have hs := sdsum n B xs fun x h => (hx x h).2
  have hm : xs.length * (B + 2) ≤ m * (B + 2) := Nat.mul_le_mul_right _ hl
  cases k with
  | true => exact ⟨List.all_eq_true.mpr fun x h => (hx x h).1, by show 4 + _ ≤ _; omega⟩
  | false => exact ⟨List.all_eq_true.mpr fun x h => (hx x h).1, by show 4 + _ ≤ _; omega⟩
theorem sd_pair (n : Nat) {q : Int × Int} (h1 : q.1.natAbs < 2 ^ 1900) (h2 : q.2.natAbs < 2 ^ 1900) : sd (n + 1) 5000 (Lk.pairD q) :=
  (sd_sq (m := 2) false (mem2 (sdI n h1) (sdI n h2)) (Nat.le_refl _)).mono (by decide)
theorem sd_bounds {m r : Int} {bs : List (Int × Int)} {ps : List (Int × List (Int × Int))} (ok : okK m r bs ps) (n : Nat) : sd (n + 2) 40000 (.lst (bs.map Lk.pairD)) :=
  (sd_sq (m := 6) true (fun x hx => by
    obtain ⟨q, hq, rfl⟩ := List.mem_map.mp hx
    exact sd_pair n (pow_le (ok.bo q hq).2.1 (by omega)) (pow_le (ok.bo q hq).2.2 (by omega))) (by rw [List.length_map]; exact ok.l6)).mono (by decide)
theorem sd_price (n : Nat) {k : Bool} {q : Int × List (Int × Int)} (h : okQ q.1 q.2) : sd (n + 3) 50000 (prD k q) :=
  (sd_sq (n := n + 2) (B := 21000) (m := 2) false (mem2 ((sdI _ (pow_le h.sl (by omega))).mono (by decide)) ((sd_sq (m := 4) k (fun x hx => by
    obtain ⟨z, hz, rfl⟩ := List.mem_map.mp hx
    have := h.inn z hz
    exact sd_pair n (q := z) (pow_le (a := 10) (by omega) (by omega)) (pow_le (a := 10) (by omega) (by omega))) (by rw [List.length_map]; exact h.few)).mono (by decide))) (Nat.le_refl _)).mono (by decide)
theorem sd_prices {m r : Int} {bs : List (Int × Int)} {ps : List (Int × List (Int × Int))} (ok : okK m r bs ps) (n : Nat) : sd (n + 4) 400000 (.lst (ps.map (prD true))) :=
  (sd_sq (m := 6) true (fun x hx => by
    obtain ⟨q, hq, rfl⟩ := List.mem_map.mp hx
    exact sd_price n (ok.pr q hq)) (by rw [List.length_map, ok.lp]; exact ok.l6)).mono (by decide)
theorem sd_len {n B : Nat} {d : D} (h : sd n B d) : (py d).shown.length ≤ B := Nat.le_trans (shD_show n d h.1).2.2.2 h.2
/-! ### what is alike -/
theorem eqv_all {α : Type} [DecidableEq α] (f : α → D) (hf : ∀ x y, PyData.eqv (py (f x)) (py (f y)) = decide (x = y)) : ∀ a b : List α, PyData.eqvAll (pyAll (a.map f)) (pyAll (b.map f)) = decide (a = b)
  | [], [] => by simp [pyAll, PyData.eqvAll]
  | [], _ :: _ => by simp [pyAll, PyData.eqvAll]
  | _ :: _, [] => by simp [pyAll, PyData.eqvAll]
  | x :: a, y :: b => by
    rw [List.map_cons, List.map_cons]
    show PyData.eqvAll (py (f x) :: pyAll (a.map f)) (py (f y) :: pyAll (b.map f)) = _
    rw [PyData.eqvAll, hf, eqv_all f hf a b, Bool.eq_iff_iff, Bool.and_eq_true, decide_eq_true_iff, decide_eq_true_iff, decide_eq_true_iff, List.cons.injEq]
theorem eqv_pair (x y : Int × Int) : PyData.eqv (py (Lk.pairD x)) (py (Lk.pairD y)) = decide (x = y) := by
  show PyData.eqv (.tuple (pyAll ([x.1, x.2].map D.int))) (.tuple (pyAll ([y.1, y.2].map D.int))) = _
  rw [PyData.eqv, eqv_ints, Bool.eq_iff_iff, decide_eq_true_iff, decide_eq_true_iff]
  constructor
  · intro h
    have h1 := List.cons.inj h
    exact Prod.ext h1.1 (List.cons.inj h1.2).1
  · intro h
    rw [h]
theorem eqv_int (a b : Int) : PyData.eqv (.int a) (.int b) = decide (a = b) := by
  rw [PyData.eqv, Bool.eq_iff_iff]
  simp
theorem eqv_price (x y : Int × List (Int × Int)) : PyData.eqv (py (prD true x)) (py (prD true y)) = decide (x = y) := by
  have h2 := eqv_all bend2 eqv_pair x.2 y.2
  have h3 : PyData.eqvAll [] [] = true := by rw [PyData.eqvAll]
  show PyData.eqv (.tuple [.int x.1, .list (pyAll (x.2.map bend2))]) (.tuple [.int y.1, .list (pyAll (y.2.map bend2))]) = _
  rw [PyData.eqv, PyData.eqvAll, PyData.eqvAll, h3, eqv_int, PyData.eqv, h2, Bool.and_true, Bool.eq_iff_iff, Bool.and_eq_true, decide_eq_true_iff, decide_eq_true_iff, decide_eq_true_iff]
  constructor
  · rintro ⟨e1, e2⟩
    exact Prod.ext e1 e2
  · intro h
    rw [h]
    exact ⟨rfl, rfl⟩
theorem okD_pairs {bs : List (Int × Int)} : okD 4 (.lst (bs.map Lk.pairD)) = true := List.all_eq_true.mpr fun x hx => by
  obtain ⟨q, _, rfl⟩ := List.mem_map.mp hx
  rfl
theorem okD_prices {ps : List (Int × List (Int × Int))} : okD 5 (.lst (ps.map (prD true))) = true := List.all_eq_true.mpr fun x hx => by
  obtain ⟨q, _, rfl⟩ := List.mem_map.mp hx
  exact okD_price
section
variable {cls : Cl} {p : Addr → Prop} {ds : Sts} {ta tb tc td te tl tr : TE} {t : TA} {K : PySem.W.Frag} {m r : Int} {bs : List (Int × Int)} {ps : List (Int × List (Int × Int))}
theorem ev_eqL {α : Type} [DecidableEq α] {f : α → D} (hf : ∀ x y, PyData.eqv (py (f x)) (py (f y)) = decide (x = y)) {n : Nat} (hn : n ≤ 64) (ho : ∀ a : List α, okD n (.lst (a.map f)) = true) {a b : List α} (h : Ev cls p tl ds (· = .lst (a.map f))) (g : Ev cls p tr ds (· = .lst (b.map f))) :
    Ev cls p (tOp (rOr rEq (rEqD K)) tl tr) ds (· = .bl (decide (a = b))) := by
  refine (ev_op h g (rv_r (rv_eqD fun dx dy hx hy => ⟨n, hn, by rw [hx]; exact ho a, by rw [hy]; exact ho b⟩))).mono ?_
  rintro d ⟨x, y, hx, hy, e⟩
  rw [e, hx, hy]
  show D.bl (PyData.eqv (.list (pyAll (a.map f))) (.list (pyAll (b.map f)))) = _
  rw [PyData.eqv, eqv_all f hf]
theorem ev_showC {r2 : List V → Hp → VK → Prop} {d : D} {n : Nat} (h : Ev cls p te ds (· = d)) (hn : n ≤ 20) (hs : shD n d = true) (hz : szD n d ≤ 10000000) : Ev cls p (tCB (cOr (rShow K) r2) (tCons te tNil)) ds (· = .str (py d).shown) := by
  refine (ev_cb (ea1 h) (rc_l (rc_show ?_))).mono ?_
  · rintro _ ⟨_, rfl, rfl⟩
    exact ⟨_, n, rfl, hn, hs, hz⟩
  · rintro r ⟨x, ⟨y, e1, e2⟩, e3⟩
    have e4 := (List.cons.inj e2).1
    rw [e3, e4, e1]
theorem e_kindS (h : Ev cls p te ds (· = kindD m r bs ps)) (ok : okK m r bs ps) : Ev cls p (tCB (cOr (rShow K) (rShO (cls.C 0) (spG cls 1 pre_Kind_repr F_Kind_repr))) (tCons te tNil)) ds (· = .str (kindS m r bs ps)) := by
  refine ev_cb (ea1 h) (rc_r (rc_shO (c := 0) ?_))
  rintro _ ⟨_, rfl, rfl⟩
  refine ⟨_, _, rfl, ⟨m, r, bs, ps, rfl, ok⟩, ?_⟩
  rintro d ⟨m', r', bs', ps', e, z⟩
  obtain ⟨e1, e2, e3, e4⟩ := kind_inj (List.cons.inj e).1
  exact ⟨_, z, by rw [e1, e2, e3, e4]⟩
def EvT (cls : Cl) (p : Addr → Prop) (te : TE) (ds : Sts) (a : Str) (A : Nat) : Prop := Ev cls p te ds (· = .str a) ∧ a.length ≤ A
theorem evT_cat {a b : Str} {A B : Nat} (h : EvT cls p ta ds a A) (k : EvT cls p tb ds b B) (hz : A + B ≤ 1000000) : EvT cls p (tOp rTxt ta tb) ds (a ++ b) (A + B) :=
  ⟨ev_txt h.1 k.1 (Nat.le_trans (Nat.add_le_add h.2 k.2) hz), by rw [strLen_append]; exact Nat.add_le_add h.2 k.2⟩
theorem e_text (h : Ev cls p te ds (· = partsD m r bs ps)) (ok : okK m r bs ps) : Ev cls p (tCall (spG cls 1 pre_text_ F_text_) [] E0 (tCons te tNil)) ds (· = .str (kindS m r bs ps)) :=
  ev_c1 h ⟨m, r, bs, ps, rfl, ok⟩ fun d ⟨m', r', bs', ps', e, z⟩ => by
    obtain ⟨e1, e2, e3, e4⟩ := parts_inj (List.cons.inj e).1
    rw [z, e1, e2, e3, e4]
theorem e_is (h : Ev cls p ta ds (· = kindD m r bs ps)) (k : Ev cls p tb ds (· = partsD m r bs ps)) (ok : okK m r bs ps) : Ev cls p (tCall (spG cls 2 pre_is_ F_is_) [] E0 (tCons ta (tCons tb tNil))) ds (· = .bl true) :=
  ev_c2 h k ⟨m, r, bs, ps, rfl, ok⟩ fun d z => z
theorem e_told_eq {d : D} (hc : ClF K (cls.C 0)) (nf : ∀ n ∈ (["NoneType", "bool", "int", "str", "list", "tuple", "dict"] : List String), PySem.W.notFirst K (cls.C 0) (.type n) = true) (h : Ev cls p tl ds (· = kindD m r bs ps)) (g : Ev cls p tr ds (· = d)) (hd : builtD d = true ∨ ∃ m' r' bs' ps', d = kindD m' r' bs' ps') :
    Ev cls p (tOp (rOr (rOr rEq (rEqD K)) (rEqO K (cls.C 0) (spG cls 2 pre_Kind_eq F_Kind_eq))) tl tr) ds (fun x => ∃ b : Bool, x = .bl b ∧ (b = true ↔ d = kindD m r bs ps)) := by
  refine ev_op h g (rv_r (rv_eqO hc nf ?_))
  rintro _ _ rfl rfl
  refine ⟨_, _, rfl, hd.imp id fun ⟨m', r', bs', ps', e⟩ => ⟨_, _, e⟩, ⟨m, r, bs, ps, _, rfl, hd⟩, ?_⟩
  rintro x ⟨m', r', bs', ps', d', b, e, z, h3⟩
  obtain ⟨e1, e2, e3, e4⟩ := kind_inj (List.cons.inj e).1
  have e5 := (List.cons.inj (List.cons.inj e).2).1
  subst e1 e2 e3 e4 e5
  exact ⟨b, z, b, rfl, h3⟩
theorem e_ne {m' r' : Int} {bs' : List (Int × Int)} {ps' : List (Int × List (Int × Int))} (hc : ClF K (cls.C 0)) (h : Ev cls p tl ds (· = kindD m r bs ps)) (g : Ev cls p tr ds (· = kindD m' r' bs' ps')) :
    Ev cls p (tOp (rOr (rOr rNe (rNeD K)) (rNeO K (cls.C 0) (spG cls 2 pre_Kind_eq F_Kind_eq))) tl tr) ds (fun x => ∃ b : Bool, x = .bl (!b) ∧ (b = true ↔ kindD m' r' bs' ps' = kindD m r bs ps)) := by
  refine ev_op h g (rv_r (rv_neO hc ?_))
  rintro _ _ rfl rfl
  refine ⟨_, _, _, _, rfl, rfl, ⟨m, r, bs, ps, _, rfl, .inr ⟨m', r', bs', ps', rfl⟩⟩, ?_⟩
  rintro x ⟨m2, r2, bs2, ps2, d', b, e, z, h3⟩
  obtain ⟨e1, e2, e3, e4⟩ := kind_inj (List.cons.inj e).1
  have e5 := (List.cons.inj (List.cons.inj e).2).1
  subst e1 e2 e3 e4 e5
  exact ⟨b, z, b, rfl, h3⟩
end
/-! ### lists with one thing otherwise -/
def ins {α : Type} (xs : List α) (j : Nat) (x : α) : List α := xs.take j ++ [x] ++ xs.drop (j + 1)
theorem ins_len {α : Type} {xs : List α} {j : Nat} (hj : j < xs.length) (x : α) : (ins xs j x).length = xs.length := by
  unfold ins
  rw [List.length_append, List.length_append, List.length_take, List.length_drop, List.length_singleton]
  omega
theorem ins_mem {α : Type} {xs : List α} {j : Nat} {x y : α} (h : y ∈ ins xs j x) : y = x ∨ y ∈ xs := by
  unfold ins at h
  rcases List.mem_append.mp h with h | h
  · rcases List.mem_append.mp h with h | h
    · exact .inr (List.mem_of_mem_take h)
    · exact .inl (List.mem_singleton.mp h)
  · exact .inr (List.mem_of_mem_drop h)
theorem ins_ne {α : Type} {xs : List α} {j : Nat} (hj : j < xs.length) {x : α} (hx : x ≠ xs[j]) : ins xs j x ≠ xs := fun e => by
  have h1 : (ins xs j x)[j]? = some x := by
    unfold ins
    rw [List.append_assoc, List.getElem?_append_right (by rw [List.length_take]; omega), List.length_take, Nat.min_eq_left (by omega), Nat.sub_self]
    rfl
  rw [e, List.getElem?_eq_getElem hj] at h1
  exact hx (Option.some.inj h1).symm
theorem map_ins {α β : Type} (f : α → β) (xs : List α) (j : Nat) (x : α) : (ins xs j x).map f = (xs.map f).take j ++ [f x] ++ (xs.map f).drop (j + 1) := by
  unfold ins
  rw [List.map_append, List.map_append, List.map_take, List.map_drop]
  rfl
theorem cut_m1 {xs : List D} : Lk.cut xs none (some (-1)) = xs.take (xs.length - 1) := by
  unfold Lk.cut
  rw [HT.sIx_none]
  have : HT.sIx xs.length xs.length (some (-1)) = xs.length - 1 := by
    show (if (-1 : Int) < 0 then (-1 + (xs.length : Int)).toNat else min (-1 : Int).toNat xs.length) = _
    rw [if_pos (by decide)]
    omega
  rw [this, List.drop_zero, Nat.sub_zero]
theorem reps2 (xs : List D) : reps (2 : Int).toNat xs = xs ++ xs := by
  show reps 2 xs = _
  unfold reps
  simp
theorem okQ1s {s : Int} {bs : List (Int × Int)} (h : okP s bs) : okQ (s + 1) bs := by
  have e100 : (2 : Nat) ^ 100 + 1 ≤ 2 ^ 200 := by decide
  have h1 := Int.natAbs_add_le s 1
  exact ⟨Nat.lt_of_lt_of_le (Nat.lt_of_le_of_lt h1 (Nat.add_lt_add_right h.sl 1)) e100, h.few, h.up, h.q.inn⟩
theorem okQb {s : Int} {bs : List (Int × Int)} (h : okP s bs) : okQ s (bs.take 3 ++ [(50, 1)]) := by
  refine ⟨h.q.sl, ?_, ?_, fun q hq => ?_⟩
  · rw [List.length_append, List.length_take, List.length_singleton]; omega
  · rw [List.map_append, List.pairwise_append]
    refine ⟨by rw [List.map_take]; exact h.up.sublist (List.take_sublist _ _), List.pairwise_singleton _ _, fun x hx y hy => ?_⟩
    obtain ⟨q, hq, rfl⟩ := List.mem_map.mp hx
    have := (h.in8 q (List.mem_of_mem_take hq)).1
    rw [List.map_cons, List.map_nil] at hy
    rw [List.mem_singleton.mp hy]
    show q.1 < 50
    omega
  · rcases List.mem_append.mp hq with hq | hq
    · exact h.q.inn q (List.mem_of_mem_take hq)
    · rw [List.mem_singleton.mp hq]; decide
theorem bent_ne {s : Int} {bs : List (Int × Int)} (h : okP s bs) : bs.take 3 ++ [(50, 1)] ≠ bs := fun e => by
  have : ((50 : Int), (1 : Int)) ∈ bs := by rw [← e]; exact List.mem_append_right _ (List.mem_singleton.mpr rfl)
  have := (h.in8 _ this).1
  have : (50 : Int).natAbs ≤ 8 := this
  omega
section
variable {cls : Cl} {p : Addr → Prop} {ds : Sts} {ta tb tc td te tl tr : TE} {t : TA} {K : PySem.W.Frag} {m r : Int} {bs : List (Int × Int)} {ps : List (Int × List (Int × Int))}
theorem e_pickL {a : Addr} {PL : List D → Prop} (e0 : ds[0]? = some (some (Slot.dat (.adr a)))) (hp : p a) (h : Ev cls p te ds (fun d => ∃ ys, PL ys ∧ d = .lst ys)) (hl : ∀ ys, PL ys → ys ≠ [] ∧ ys.length < 1000) :
    Ev cls p (tCall (spG cls 2 pre_pick_ F_pick_) [] E0 (tCons (tVar 0) (tCons te tNil))) ds (fun d => ∃ ys, PL ys ∧ d ∈ ys) := by
  refine ev_call' (ea2 (ev_var e0) h) ?_
  rintro _ ⟨x, y, ex, ⟨ys, pl, ey⟩, rfl⟩
  rw [ex, ey]
  refine ⟨rfl, ⟨a, ys, rfl, hp, (hl ys pl).1, (hl ys pl).2⟩, fun d ⟨a', ys', e, hd⟩ => ⟨ys, pl, ?_⟩⟩
  rw [D.lst.inj (List.cons.inj (List.cons.inj e).2).1]
  exact hd
theorem e_ins {xs ys : List D} {q : D} {i : Int} {j : Nat} (h : Ev cls p ta ds (· = .lst xs)) (hi : Ev cls p tb ds (· = .int i)) (hj : i = j) (hq : Ev cls p te ds (· = q)) (hl : xs.length ≤ 1000) (e : ys = xs.take j ++ [q] ++ xs.drop (j + 1)) :
    Ev cls p (tOp (rOr (rI0 fun i j => .int (i + j)) rCat) (tOp (rOr (rI0 fun i j => .int (i + j)) rCat) (tSl (rSlL K) ta tNoPart (tPart tb)) (tLst (tCons te tNil))) (tSl (rSlL K) ta (tPart (tOp (rOr (rI0 fun i j => .int (i + j)) rCat) tb (tC (.int 1)))) tNoPart)) ds (· = .lst ys) := by
  subst hj
  refine (ev_catE (ev_catE (e_take h hi (by omega)) (ev_lst1 hq) (by rw [List.length_take]; show _ + 1 ≤ _; omega)) (e_drop h (ev_addI hi ev_int) (by omega)) (by rw [List.length_append, List.length_take, List.length_drop]; show _ + 1 + _ ≤ _; omega)).mono fun d ed => ?_
  rw [ed, e]
  have e1 : ((j : Int)).toNat = j := Int.toNat_natCast j
  have e2 : ((j : Int) + 1).toNat = j + 1 := by omega
  rw [e1, e2]
theorem e_m1 {xs : List D} (h : Ev cls p ta ds (· = .lst xs)) : Ev cls p (tSl (rSlL K) ta tNoPart (tPart (tUn (rU fun i => .int (-i)) (tC (.int 1))))) ds (· = .lst (xs.take (xs.length - 1))) :=
  (ev_slL h eo_none (eo_int (ev_negI ev_int)) fun d e => ⟨xs, e⟩).mono fun d ⟨ys, lo, hi, e, e1, e2, ed⟩ => by
    rw [ed, D.lst.inj e, e1, e2, cut_m1]
theorem e_twice {xs : List D} (h : Ev cls p ta ds (· = .lst xs)) (hl : xs.length ≤ 1000) : Ev cls p (tOp (rOr (rI CMulW fun i j => .int (i * j)) (rOr rRep (rRepT K))) ta (tC (.int 2))) ds (· = .lst (xs ++ xs)) :=
  (ev_F (ef_rep h ev_int (by decide) (by decide) (by show xs.length * 2 ≤ 100000; omega))).mono fun d ⟨ys, ey, e⟩ => by rw [e, ey, reps2]
theorem e_parts4 {x2 x3 x4 x5 : TE} (h2 : Ev cls p x2 ds (· = .int m)) (h3 : Ev cls p x3 ds (· = .int r)) (h4 : Ev cls p x4 ds (· = .lst (bs.map Lk.pairD))) (h5 : Ev cls p x5 ds (· = .lst (ps.map (prD true)))) : Ev cls p (tTup (tCons x2 (tCons x3 (tCons x4 (tCons x5 tNil))))) ds (· = partsD m r bs ps) :=
  ev_tupE (ea_consE h2 (ea_consE h3 (ea_consE h4 (ea_consE h5 ea_nilE)))) (by show 4 ≤ 100000; decide)
end
abbrev PP (a : Addr) (c : Int) (x2 x3 x4 x5 : Option Slot) : Sts := [some (.dat (.adr a)), some (.dat (.int c)), x2, x3, x4, x5]
abbrev OO (a : Addr) (m r : Int) (bs : List (Int × Int)) (ps : List (Int × List (Int × Int))) (x6 x7 x8 x9 x10 x11 x12 x13 x14 x15 : Option Slot) : Sts := [some (.dat (.adr a)), some (.dat (partsD m r bs ps)), some (.dat (.int m)), some (.dat (.int r)), some (.dat (.lst (bs.map Lk.pairD))), some (.dat (.lst (ps.map (prD true)))), x6, x7, x8, x9, x10, x11, x12, x13, x14, x15]
section
variable {cls : Cl} {p : Addr → Prop} {ds : Sts} {ta tb tc td te tl tr : TE} {t : TA} {K : PySem.W.Frag} {m r : Int} {bs : List (Int × Int)} {ps : List (Int × List (Int × Int))} {r2 : R2}
theorem et_neSC {a : Str} (h : Ev cls p tl ds (· = .str a)) (k : Ev cls p tr ds (· = .str a)) : ET cls p (tTest (tOp (rOr (rOr rNe (rNeD K)) r2) tl tr)) ds (· = false) := by
  refine (et_test (ev_op h k (rv_l (rv_l (rv_neS fun dx dy hx hy => ⟨_, _, hx, hy⟩)))) (fun d ⟨_, _, _, _, e⟩ => ⟨_, e⟩)).mono ?_
  rintro b ⟨x, y, hx, hy, e⟩
  rw [D.bl.inj e, D.str.inj hx, D.str.inj hy, decide_eq_true rfl]
  rfl
theorem ev_eqDC {d : D} {n : Nat} (h : Ev cls p tl ds (· = d)) (k : Ev cls p tr ds (· = d)) (hn : n ≤ 64) (ho : okD n d = true) : Ev cls p (tOp (rOr (rOr rEq (rEqD K)) r2) tl tr) ds (· = .bl true) := by
  refine (ev_op h k (rv_l (rv_r (rv_eqD fun dx dy hx hy => ⟨n, hn, by rw [hx]; exact ho, by rw [hy]; exact ho⟩)))).mono ?_
  rintro x ⟨x', y, hx, hy, e⟩
  rw [e, hx, hy, SeqAt.eqv_refl _ (okD_can n d ho).1]
theorem k_kind {k l e : Bool} (h : EvA cls p t ds (· = [sq l (ps.map (prD e)), sq k (bs.map Lk.pairD), .int r, .int m])) (ok : okK m r bs ps) : EvN cls p (tMkK (cls.C 0) (spInitN cls 0 4 kNs pre_Kind_init G_Kind_init) [3, 2, 1, 0] 4 t) ds (· = kindD m r bs ps) :=
  evn_makeK h fun xs ex => by
    rw [ex]
    exact ⟨rfl, rfl, ⟨k, l, e, m, r, bs, ps, rfl, ok⟩, fun ys ⟨k', l', e', m', r', bs', ps', h1, h2⟩ => by
      obtain ⟨z1, z2, z3, z4⟩ := argK_inj (k := k) (l := l) (e := e) (m := m) (r := r) (bs := bs) (ps := ps) h1
      rw [h2, ← z1, ← z2, ← z3, ← z4]
      rfl⟩
theorem q_eq {d : D} (hc : ClF K (cls.C 0)) (nf : ∀ n ∈ (["NoneType", "bool", "int", "str", "list", "tuple", "dict"] : List String), PySem.W.notFirst K (cls.C 0) (.type n) = true) (h : Ev cls p tl ds (· = kindD m r bs ps)) (g : Ev cls p tr ds (· = d)) (hd : builtD d = true ∨ ∃ m' r' bs' ps', d = kindD m' r' bs' ps') {b : Bool} (hb : b = true ↔ d = kindD m r bs ps) :
    Ev cls p (tOp (rOr (rOr rEq (rEqD K)) (rEqO K (cls.C 0) (spG cls 2 pre_Kind_eq F_Kind_eq))) tl tr) ds (· = .bl b) :=
  (e_told_eq hc nf h g hd).mono fun x ⟨c, e, h3⟩ => by rw [e, Bool.eq_iff_iff.mpr (h3.trans hb.symm)]
theorem q_built {d : D} (hb : builtD d = true) : (false = true ↔ d = kindD m r bs ps) := ⟨(fun z => nomatch z), fun z => by rw [z] at hb; cases hb⟩
theorem q_kind {m' r' : Int} {bs' : List (Int × Int)} {ps' : List (Int × List (Int × Int))} (n : kindD m' r' bs' ps' ≠ kindD m r bs ps) : (false = true ↔ kindD m' r' bs' ps' = kindD m r bs ps) := ⟨(fun z => nomatch z), fun z => absurd z n⟩
theorem q_same : (true = true ↔ kindD m r bs ps = kindD m r bs ps) := ⟨fun _ => rfl, fun _ => rfl⟩
theorem q_neT (hc : ClF K (cls.C 0)) (h : Ev cls p tl ds (· = kindD m r bs ps)) (g : Ev cls p tr ds (· = kindD m r bs ps)) : Ev cls p (tOp (rOr (rOr rNe (rNeD K)) (rNeO K (cls.C 0) (spG cls 2 pre_Kind_eq F_Kind_eq))) tl tr) ds (· = .bl false) :=
  (e_ne hc h g).mono fun x ⟨b, e, h3⟩ => by rw [e, h3.mpr rfl]; rfl
end
abbrev R3 (a : Addr) (m r : Int) (bs : List (Int × Int)) (ps : List (Int × List (Int × Int))) (x6 x7 x8 x9 x10 x11 x12 x13 x14 : Option Slot) : Sts := [some (.dat (.adr a)), some (.dat (partsD m r bs ps)), some (.dat (.int m)), some (.dat (.int r)), some (.dat (.lst (bs.map Lk.pairD))), some (.dat (.lst (ps.map (prD true)))), x6, x7, x8, x9, x10, x11, x12, x13, x14]

end K43

namespace K43
open PySem PySem.Spec PyProof.Rows L2 Lk
structure C_is_integer (P : Program) (w : World) (K : PySem.W.Frag) (mg : Str → Option Value) (base : Heap) (cls : Cl) : Prop where
  none : True
theorem ok_is_integer {P : Program} {w : World} {K : PySem.W.Frag} {mg : Str → Option Value} {base : Heap} {cls : Cl} {f : Addr} {fd : FuncData} (F : Fun K "is_integer" "is_integer" s_is_integer f fd) (Z : Bt mg) (Gc : Gcs mg) (Gk : Gks K mg cls) (C : C_is_integer P w K mg base cls) (hK : cls.K = K) :
    GOk P w K mg base 1 f fd ["value"] (spG cls 1 pre_is_integer F_is_integer) := by
  have sc := sc_is_integer
  refine gok_ev (m := 0) F sc rfl rfl fun cdv A out s H E hg hr => ⟨_, (pss_one (ps_ret (pe_and (pe_callB (kIsi (K := K) (by rfl)) (by rfl) Z.isinstance (by decide +kernel) (pa_cons (pv 0) (pa_cons (pe_bltn (v := .ty "int") (by rfl) Z.int (by decide +kernel) rfl) pa_nil))) (pe_one (pe_not (pe_callB (kIsi (K := K) (by rfl)) (by rfl) Z.isinstance (by decide +kernel) (pa_cons (pv 0) (pa_cons (pe_bltn (v := .ty "bool") (by rfl) Z.bool (by decide +kernel) rfl) pa_nil)))))))), ?_⟩
  intro p xs hl hp
  obtain ⟨d, rfl, hb⟩ := hp
  refine sv_ret (ev_andV (ev_isI (ev_var rfl) fun _ e => by rw [e]; exact hb) (fun _ ⟨_, _, e⟩ => ⟨_, e⟩) fun _ => ev_notV (ev_isBo (ev_var rfl) fun _ e => by rw [e]; exact hb) (fun _ ⟨_, _, e⟩ => ⟨_, e⟩)) ?_
  rintro r h
  refine ⟨d, rfl, ?_⟩
  rcases h with ⟨e0, d', e1, e⟩ | ⟨⟨d', e1, e⟩, b, ⟨d2, e3, e2⟩, e4⟩
  · rw [e0]
    rw [e1] at e
    cases d <;> simp_all [Lk.isInt, Lk.isBl]
  · rw [e4]
    rw [e1] at e
    rw [e3] at e2
    cases d <;> simp_all [Lk.isInt, Lk.isBl]
end K43

namespace K43
open PySem PySem.Spec PyProof.Rows L2 Lk
structure C_is_list (P : Program) (w : World) (K : PySem.W.Frag) (mg : Str → Option Value) (base : Heap) (cls : Cl) : Prop where
  none : True
theorem ok_is_list {P : Program} {w : World} {K : PySem.W.Frag} {mg : Str → Option Value} {base : Heap} {cls : Cl} {f : Addr} {fd : FuncData} (F : Fun K "is_list" "is_list" s_is_list f fd) (Z : Bt mg) (Gc : Gcs mg) (Gk : Gks K mg cls) (C : C_is_list P w K mg base cls) (hK : cls.K = K) :
    GOk P w K mg base 1 f fd ["value"] (spG cls 1 pre_is_list F_is_list) := by
  have sc := sc_is_list
  refine gok_ev (m := 0) F sc rfl rfl fun cdv A out s H E hg hr => ⟨_, (pss_one (ps_ret (pe_callB (kIsi (K := K) (by rfl)) (by rfl) Z.isinstance (by decide +kernel) (pa_cons (pv 0) (pa_cons (pe_tup (pa_cons (pe_bltn (v := .ty "list") (by rfl) Z.list (by decide +kernel) rfl) (pa_cons (pe_bltn (v := .ty "tuple") (by rfl) Z.tuple (by decide +kernel) rfl) pa_nil))) pa_nil))))), ?_⟩
  intro p xs hl hp
  obtain ⟨d, rfl, hb⟩ := hp
  refine sv_ret (ev_isS rfl hb) fun r e => ⟨d, rfl, ?_⟩
  rw [e]
  cases d <;> rfl
end K43

namespace K43
open PySem PySem.Spec PyProof.Rows L2 Lk
structure C_is_rising (P : Program) (w : World) (K : PySem.W.Frag) (mg : Str → Option Value) (base : Heap) (cls : Cl) : Prop where
  none : True
theorem ok_is_rising {P : Program} {w : World} {K : PySem.W.Frag} {mg : Str → Option Value} {base : Heap} {cls : Cl} {f : Addr} {fd : FuncData} (F : Fun K "is_rising" "is_rising" s_is_rising f fd) (Z : Bt mg) (Gc : Gcs mg) (Gk : Gks K mg cls) (C : C_is_rising P w K mg base cls) (hK : cls.K = K) :
    GOk P w K mg base 1 f fd ["numbers"] (spG cls 1 pre_is_rising F_is_rising) := by
  have sc := sc_is_rising
  refine gok_ev (m := 2) F sc rfl rfl fun cdv A out s H E hg hr => ⟨_, (pss_one (ps_ret (pe_callB (kAll (K := K) (by rfl) (by rfl)) (by rfl) Z.all (by decide +kernel) (pa_cons (pe_lc (own := [("number", 1), ("higher", 2)]) rfl sc.nd (piZip (K := K) (by rfl) (by rfl) Z.zip (pa_cons (pv 0) (pa_cons (pe_slice (kSl (K := K) (by rfl)) (pv 0) (po_some pe_int) po_none) pa_nil))) (blkOk_by (by kernel_rfl)) (fun _ _ _ _ _ => (pgTup (n := 2) (K := K) (by rfl) (by rfl) (pgs_cons (pg_name (i := 1) sc.nd rfl (by first | exact Or.inl rfl | exact Or.inr rfl)) (pgs_cons (pg_name (i := 2) sc.nd rfl (by first | exact Or.inl rfl | exact Or.inr rfl)) pgs_nil)))) (fun _ _ _ _ _ => pts_nil) (fun _ _ _ _ _ => (pe_cmpR op_lt (pv 1) (pv 2) (nomark _)))) pa_nil)))), ?_⟩
  intro p xs hl hp
  obtain ⟨a, rfl, ha⟩ := hp
  refine sv_ret (ev_all (bs := List.zipWith (fun x y : Int => decide (x < y)) a (a.drop 1)) (Ev.mono (ev_lcZ (k := true) (l := true) (i := 1) (j := 2) (a := a) (b := a.drop 1) (f := fun x y => .bl (decide (x < y))) ((ea2 (ev_var rfl) (e_drop (xs := a.map D.int) (ev_var rfl) ev_int (by decide))).mono fun xs ⟨x, y, ex, ey, e⟩ => ?_) ha (by decide) rfl (fun _ _ => rfl) fun x y _ => ev_iE (ev_var rfl) (ev_var rfl)) fun d e => ?_)) fun r e => ⟨a, rfl, e⟩
  · rw [e, ex, ey, ← List.map_drop]
    rfl
  · rw [e, List.map_zipWith]
end K43

namespace K43
open PySem PySem.Spec PyProof.Rows L2 Lk
structure C_told_price (P : Program) (w : World) (K : PySem.W.Frag) (mg : Str → Option Value) (base : Heap) (cls : Cl) : Prop where
  none : True
theorem ok_told_price {P : Program} {w : World} {K : PySem.W.Frag} {mg : Str → Option Value} {base : Heap} {cls : Cl} {f : Addr} {fd : FuncData} (F : Fun K "told_price" "told_price" s_told_price f fd) (Z : Bt mg) (Gc : Gcs mg) (Gk : Gks K mg cls) (C : C_told_price P w K mg base cls) (hK : cls.K = K) :
    GOk P w K mg base 1 f fd ["price"] (spN cls 1 pre_told_price F_told_price) := by
  have sc := sc_told_price
  refine gok_n (m := 2) F sc rfl rfl fun cdv A out s H E hg hr => ⟨_, (pss_cons (ps_asg (pv 0) (pgTup (n := 2) (K := K) (by rfl) (by rfl) (pgs_cons (pg_name (i := 1) sc.nd rfl (by first | exact Or.inl rfl | exact Or.inr rfl)) (pgs_cons (pg_name (i := 2) sc.nd rfl (by first | exact Or.inl rfl | exact Or.inr rfl)) pgs_nil))))
      (pss_one (ps_ret (pe_tup (pa_cons (pv 1) (pa_cons (pe_callTy (kList (K := K) (by rfl)) (by rfl) Z.list (by decide +kernel) (pa_cons (pv 2) pa_nil)) pa_nil)))))), ?_⟩
  intro p xs hl hp
  obtain ⟨k, s, bs, rfl⟩ := hp
  refine svn_seq (nx' := (· = [some (.dat (priceD k s bs)), some (.dat (.int s)), some (.dat (sq k (bs.map bend2)))])) (sv_asg (ev_var rfl) fun d' e => ⟨_, by rw [e]; exact eg_tup (egs_cons (egs_cons egs_nil)) rfl, rfl⟩) ?_
  rintro _ rfl
  exact svn_ret ((evn_t2 (evn_int (ev_var rfl)) (evn_list (k := k) (xs := bs.map bend2) (n := 1) (ev_var rfl) nl_pairs)).mono fun d ⟨x, y, ex, ey, e⟩ => ⟨k, s, bs, rfl, by rw [e, ex, ey]; rfl⟩)
end K43

namespace K43
open PySem PySem.Spec PyProof.Rows L2 Lk
structure C_cost_at (P : Program) (w : World) (K : PySem.W.Frag) (mg : Str → Option Value) (base : Heap) (cls : Cl) : Prop where
  none : True
theorem ok_cost_at {P : Program} {w : World} {K : PySem.W.Frag} {mg : Str → Option Value} {base : Heap} {cls : Cl} {f : Addr} {fd : FuncData} (F : Fun K "cost_at" "cost_at" s_cost_at f fd) (Z : Bt mg) (Gc : Gcs mg) (Gk : Gks K mg cls) (C : C_cost_at P w K mg base cls) (hK : cls.K = K) :
    GOk P w K mg base 1 f fd ["price", "number"] (spG cls 2 pre_cost_at F_cost_at) := by
  have sc := sc_cost_at
  refine gok_ev (m := 4) F sc rfl rfl fun cdv A out s H E hg hr => ⟨_, (pss_cons (ps_asg (pv 0) (pgTup (n := 2) (K := K) (by rfl) (by rfl) (pgs_cons (pg_name (i := 2) sc.nd rfl (by first | exact Or.inl rfl | exact Or.inr rfl)) (pgs_cons (pg_name (i := 3) sc.nd rfl (by first | exact Or.inl rfl | exact Or.inr rfl)) pgs_nil))))
      (pss_one (ps_ret (pe_op opAdd (pe_op (opMul (K := K) (by rfl)) (pv 2) (pv 1)) (pe_callB (kSum (K := K) (by rfl) (by rfl)) (by rfl) Z.sum (by decide +kernel) (pa_cons (pe_lc (own := [("place", 4), ("more", 5)]) rfl sc.nd (pi_or (piList (K := K) (by rfl) (pv 3)) (piTup (K := K) (by rfl) (pv 3))) (blkOk_by (by kernel_rfl)) (fun _ _ _ _ _ => (pgTup (n := 2) (K := K) (by rfl) (by rfl) (pgs_cons (pg_name (i := 4) sc.nd rfl (by first | exact Or.inl rfl | exact Or.inr rfl)) (pgs_cons (pg_name (i := 5) sc.nd rfl (by first | exact Or.inl rfl | exact Or.inr rfl)) pgs_nil)))) (fun _ _ _ _ _ => (pts_one (pt_cmpR op_lt (pv 4) (pv 1) (nomark _)))) (fun _ _ _ _ _ => (pe_op (opMul (K := K) (by rfl)) (pv 5) (pe_op op_sub (pv 1) (pv 4))))) pa_nil)))))), ?_⟩
  intro p xs hl hp
  obtain ⟨k, s, bs, n, rfl, ok, hn⟩ := hp
  refine sv_seq (nx' := (· = [some (.dat (priceD k s bs)), some (.dat (.int n)), some (.dat (.int s)), some (.dat (sq k (bs.map bend2))), none, none])) (sv_asg (ev_var rfl) fun d' e => ⟨_, by rw [e]; exact eg_tup (egs_cons (egs_cons egs_nil)) rfl, rfl⟩) ?_
  rintro _ rfl
  refine sv_ret (ev_addI (ev_mulI (ev_var rfl) (ev_var rfl) (mulW (pow_le ok.sl (by decide)) (pow_le hn (by decide)))) (ev_bsum (b := fun q => decide (q.1 < n)) (f := fun q => q.2 * (n - q.1)) (ev_var rfl) (by have := ok.few; omega) ⟨by decide, by decide⟩ rfl (fun _ => rfl) (fun q _ => et_iE (ev_var rfl) (ev_var rfl)) fun q hq _ => ev_mulI (ev_var rfl) (ev_subI (ev_var rfl) (ev_var rfl)) ?_)) fun r e => ⟨k, s, bs, n, rfl, ?_⟩
  · have := ok.inn q hq
    exact mulW (pow_le (a := 10) (by omega) (by decide)) (pow_le (sub_w hn this.1) (by decide))
  · rw [e, sum_filter]
    unfold costI
    congr 3
    exact List.map_congr_left fun q _ => by simp only [decide_eq_true_eq]
end K43

namespace K43
open PySem PySem.Spec PyProof.Rows L2 Lk
structure C_Kind_many (P : Program) (w : World) (K : PySem.W.Frag) (mg : Str → Option Value) (base : Heap) (cls : Cl) : Prop where
  none : True
theorem ok_Kind_many {P : Program} {w : World} {K : PySem.W.Frag} {mg : Str → Option Value} {base : Heap} {cls : Cl} {f : Addr} {fd : FuncData} (F : Fun K "many" "Kind.many" s_Kind_many f fd) (Z : Bt mg) (Gc : Gcs mg) (Gk : Gks K mg cls) (C : C_Kind_many P w K mg base cls) (hK : cls.K = K) :
    FnOk P w K mg base CX0 1 f fd ["self"] (spG cls 1 pre_Kind_many F_Kind_many) := by
  have sc := sc_Kind_many
  refine fok_ev (m := 0) F sc rfl rfl fun cdv A out s H E hr => ⟨_, (pss_one (ps_ret (pe_fldK (K := K) (by rfl) (pv 0)))), ?_⟩
  intro p xs hl hp
  obtain ⟨m, r, bs, ps, rfl⟩ := hp
  exact sv_ret (ev_fld (ev_var rfl) (hK ▸ Gk.Kind_f_many) rfl) fun d e => ⟨m, r, bs, ps, rfl, e⟩
end K43

namespace K43
open PySem PySem.Spec PyProof.Rows L2 Lk
structure C_Kind_rest (P : Program) (w : World) (K : PySem.W.Frag) (mg : Str → Option Value) (base : Heap) (cls : Cl) : Prop where
  none : True
theorem ok_Kind_rest {P : Program} {w : World} {K : PySem.W.Frag} {mg : Str → Option Value} {base : Heap} {cls : Cl} {f : Addr} {fd : FuncData} (F : Fun K "rest" "Kind.rest" s_Kind_rest f fd) (Z : Bt mg) (Gc : Gcs mg) (Gk : Gks K mg cls) (C : C_Kind_rest P w K mg base cls) (hK : cls.K = K) :
    FnOk P w K mg base CX0 1 f fd ["self"] (spG cls 1 pre_Kind_rest F_Kind_rest) := by
  have sc := sc_Kind_rest
  refine fok_ev (m := 0) F sc rfl rfl fun cdv A out s H E hr => ⟨_, (pss_one (ps_ret (pe_fldK (K := K) (by rfl) (pv 0)))), ?_⟩
  intro p xs hl hp
  obtain ⟨m, r, bs, ps, rfl⟩ := hp
  exact sv_ret (ev_fld (ev_var rfl) (hK ▸ Gk.Kind_f_rest) rfl) fun d e => ⟨m, r, bs, ps, rfl, e⟩
end K43

namespace K43
open PySem PySem.Spec PyProof.Rows L2 Lk
structure C_Kind_columns (P : Program) (w : World) (K : PySem.W.Frag) (mg : Str → Option Value) (base : Heap) (cls : Cl) : Prop where
  none : True
theorem ok_Kind_columns {P : Program} {w : World} {K : PySem.W.Frag} {mg : Str → Option Value} {base : Heap} {cls : Cl} {f : Addr} {fd : FuncData} (F : Fun K "columns" "Kind.columns" s_Kind_columns f fd) (Z : Bt mg) (Gc : Gcs mg) (Gk : Gks K mg cls) (C : C_Kind_columns P w K mg base cls) (hK : cls.K = K) :
    FnOk P w K mg base CX0 1 f fd ["self"] (spG cls 1 pre_Kind_columns F_Kind_columns) := by
  have sc := sc_Kind_columns
  refine fok_ev (m := 0) F sc rfl rfl fun cdv A out s H E hr => ⟨_, (pss_one (ps_ret (pe_callB (kLen (K := K) (by rfl)) (by rfl) Z.len (by decide +kernel) (pa_cons (pe_fldK (K := K) (by rfl) (pv 0)) pa_nil)))), ?_⟩
  intro p xs hl hp
  obtain ⟨m, r, bs, ps, rfl⟩ := hp
  exact sv_ret (ev_len (k := true) (xs := bs.map Lk.pairD) (ev_fld (ev_var rfl) (hK ▸ Gk.Kind_f_bounds) rfl)) fun d e => ⟨m, r, bs, ps, rfl, by rw [e, List.length_map]⟩
end K43

namespace K43
open PySem PySem.Spec PyProof.Rows L2 Lk
structure C_Kind_bounds (P : Program) (w : World) (K : PySem.W.Frag) (mg : Str → Option Value) (base : Heap) (cls : Cl) : Prop where
  none : True
theorem ok_Kind_bounds {P : Program} {w : World} {K : PySem.W.Frag} {mg : Str → Option Value} {base : Heap} {cls : Cl} {f : Addr} {fd : FuncData} (F : Fun K "bounds" "Kind.bounds" s_Kind_bounds f fd) (Z : Bt mg) (Gc : Gcs mg) (Gk : Gks K mg cls) (C : C_Kind_bounds P w K mg base cls) (hK : cls.K = K) :
    GOk P w K mg base 1 f fd ["self"] (spN cls 1 pre_Kind_bounds F_Kind_bounds) := by
  have sc := sc_Kind_bounds
  refine gok_n (m := 0) F sc rfl rfl fun cdv A out s H E hg hr => ⟨_, (pss_one (ps_ret (pe_callTy (kList (K := K) (by rfl)) (by rfl) Z.list (by decide +kernel) (pa_cons (pe_fldK (K := K) (by rfl) (pv 0)) pa_nil)))), ?_⟩
  intro p xs hl hp
  obtain ⟨m, r, bs, ps, rfl, ok⟩ := hp
  exact svn_ret ((evn_list (k := true) (xs := bs.map Lk.pairD) (n := 1) (ev_fld (ev_var rfl) (hK ▸ Gk.Kind_f_bounds) rfl) nl_pairs).mono fun d e => ⟨m, r, bs, ps, rfl, e⟩)
end K43

namespace K43
open PySem PySem.Spec PyProof.Rows L2 Lk
structure C_Kind_eq (P : Program) (w : World) (K : PySem.W.Frag) (mg : Str → Option Value) (base : Heap) (cls : Cl) : Prop where
  none : True
theorem ok_Kind_eq {P : Program} {w : World} {K : PySem.W.Frag} {mg : Str → Option Value} {base : Heap} {cls : Cl} {f : Addr} {fd : FuncData} (F : Fun K "__eq__" "Kind.__eq__" s_Kind_eq f fd) (Z : Bt mg) (Gc : Gcs mg) (Gk : Gks K mg cls) (C : C_Kind_eq P w K mg base cls) (hK : cls.K = K) :
    GOk P w K mg base 1 f fd ["self", "other"] (spG cls 2 pre_Kind_eq F_Kind_eq) := by
  have sc := sc_Kind_eq
  refine gok_ev (m := 0) F sc rfl rfl fun cdv A out s H E hg hr => ⟨_, (pss_cons (ps_if (PW.pt (pw_or (pt_not (pt_val (pe_callB (kIsi (K := K) (by rfl)) (by rfl) Z.isinstance (by decide +kernel) (pa_cons (pv 1) (pa_cons (pe_glob (v := .ref (cls.C 0)) (by rfl) Gk.Kind rfl) pa_nil))))) (pw_or (pt_cmpR (opNe (K := K) (by rfl) (room_u hr)) (pe_fldK (K := K) (by rfl) (pv 0)) (pe_fldK (K := K) (by rfl) (pv 1)) (nomark _)) (pw_or1 (pt_cmpR (opNe (K := K) (by rfl) (room_u hr)) (pe_fldK (K := K) (by rfl) (pv 0)) (pe_fldK (K := K) (by rfl) (pv 1)) (nomark _)))))) (pss_one (ps_ret pe_bl)) pss_nil)
      (pss_one (ps_ret (pe_and (pe_cmpR (opEq (K := K) (by rfl) (room_u hr)) (pe_fldK (K := K) (by rfl) (pv 0)) (pe_fldK (K := K) (by rfl) (pv 1)) (nomark _)) (pe_one (pe_cmpR (opEq (K := K) (by rfl) (room_u hr)) (pe_fldK (K := K) (by rfl) (pv 0)) (pe_fldK (K := K) (by rfl) (pv 1)) (nomark _))))))), ?_⟩
  intro p xs hl hp
  obtain ⟨m, r, bs, ps, d, rfl, hd⟩ := hp
  rcases hd with hb | ⟨m', r', bs', ps', rfl⟩
  · have nk : isObj 0 d = false := by cases d <;> first | rfl | cases hb
    refine sv_seq (nx' := fun _ => False) (sv_ifE (b := true || false) (et_orE (a := true) ((et_notE (et_Bt (ev_isObj (c := 0) (ev_var (d := d) rfl) (hK ▸ Gk.Kind_cl) (.inl hb)))).mono fun b h => by rw [h, nk]; rfl) (fun z => nomatch z)) (fun _ => sv_ret ev_bl fun x h => ⟨m, r, bs, ps, d, false, rfl, h, ?_⟩) (fun z => nomatch z)) (fun _ z => z.elim)
    constructor
    · intro z; cases z
    · intro z; rw [z] at hb; cases hb
  · have fm : ∀ {i : Nat} {m r : Int} {bs : List (Int × Int)} {ps : List (Int × List (Int × Int))} {ds : Sts}, ds[i]? = some (some (Slot.dat (kindD m r bs ps))) → Ev cls p (tFld K (tVar i) "_many") ds (· = .int m) := fun e => ev_fld (ev_var e) (hK ▸ Gk.Kind_f_many) rfl
    have fr : ∀ {i : Nat} {m r : Int} {bs : List (Int × Int)} {ps : List (Int × List (Int × Int))} {ds : Sts}, ds[i]? = some (some (Slot.dat (kindD m r bs ps))) → Ev cls p (tFld K (tVar i) "_rest") ds (· = .int r) := fun e => ev_fld (ev_var e) (hK ▸ Gk.Kind_f_rest) rfl
    have fb : ∀ {i : Nat} {m r : Int} {bs : List (Int × Int)} {ps : List (Int × List (Int × Int))} {ds : Sts}, ds[i]? = some (some (Slot.dat (kindD m r bs ps))) → Ev cls p (tFld K (tVar i) "_bounds") ds (· = .lst (bs.map Lk.pairD)) := fun e => ev_fld (ev_var e) (hK ▸ Gk.Kind_f_bounds) rfl
    have fp : ∀ {i : Nat} {m r : Int} {bs : List (Int × Int)} {ps : List (Int × List (Int × Int))} {ds : Sts}, ds[i]? = some (some (Slot.dat (kindD m r bs ps))) → Ev cls p (tFld K (tVar i) "_prices") ds (· = .lst (ps.map (prD true))) := fun e => ev_fld (ev_var e) (hK ▸ Gk.Kind_f_prices) rfl
    refine sv_seq (nx' := fun ds' => m = m' ∧ r = r' ∧ ds' = entry 0 [kindD m r bs ps, kindD m' r' bs' ps']) (sv_ifE (b := false || (!decide (m = m') || !decide (r = r'))) (et_orE (a := false) ((et_notE (et_Bt (ev_isObj (c := 0) (ev_var (d := kindD m' r' bs' ps') rfl) (hK ▸ Gk.Kind_cl) (.inr ⟨_, _, rfl⟩)))).mono fun b h => h) fun _ => et_orE (et_neIE (fm rfl) (fm rfl)) fun _ => et_neIE (fr rfl) (fr rfl)) (fun hb => sv_ret ev_bl fun x h => ⟨m, r, bs, ps, _, false, rfl, h, ?_⟩) (fun hb => sv_next ?_)) ?_
    · constructor
      · intro z; cases z
      · intro z
        obtain ⟨e1, e2, _⟩ := kind_inj z
        rw [← e1, ← e2, decide_eq_true rfl, decide_eq_true rfl] at hb
        cases hb
    · by_cases e1 : m = m'
      · by_cases e2 : r = r'
        · exact ⟨e1, e2, rfl⟩
        · rw [decide_eq_false e2, Bool.not_false, Bool.or_true] at hb; cases hb
      · rw [decide_eq_false e1] at hb; cases hb
    rintro _ ⟨rfl, rfl, rfl⟩
    refine sv_ret (ev_andB (b := decide (ps = ps')) (ev_eqL eqv_pair (by decide : 4 ≤ 64) (fun _ => okD_pairs) (fb rfl) (fb rfl)) fun _ => ev_eqL eqv_price (by decide : 5 ≤ 64) (fun _ => okD_prices) (fp rfl) (fp rfl)) fun x h => ⟨m, r, bs, ps, _, _, rfl, h, ?_⟩
    rw [Bool.and_eq_true, decide_eq_true_iff, decide_eq_true_iff]
    constructor
    · rintro ⟨rfl, rfl⟩; rfl
    · intro z
      obtain ⟨_, _, e3, e4⟩ := kind_inj z
      exact ⟨e3.symm, e4.symm⟩
end K43

namespace K43
open PySem PySem.Spec PyProof.Rows L2 Lk
structure C_Kind_repr (P : Program) (w : World) (K : PySem.W.Frag) (mg : Str → Option Value) (base : Heap) (cls : Cl) : Prop where
  none : True
theorem ok_Kind_repr {P : Program} {w : World} {K : PySem.W.Frag} {mg : Str → Option Value} {base : Heap} {cls : Cl} {f : Addr} {fd : FuncData} (F : Fun K "__repr__" "Kind.__repr__" s_Kind_repr f fd) (Z : Bt mg) (Gc : Gcs mg) (Gk : Gks K mg cls) (C : C_Kind_repr P w K mg base cls) (hK : cls.K = K) :
    GOk P w K mg base 1 f fd ["self"] (spG cls 1 pre_Kind_repr F_Kind_repr) := by
  have sc := sc_Kind_repr
  refine gok_ev (m := 0) F sc rfl rfl fun cdv A out s H E hg hr => ⟨_, (pss_one (ps_ret (pe_joined (PJ.cons pe_str (PJ.cons (pe_fmt (pe_fldK (K := K) (by rfl) (pv 0))) (PJ.cons pe_str (PJ.cons (pe_fmt (pe_fldK (K := K) (by rfl) (pv 0))) (PJ.cons pe_str (PJ.cons (pe_fmtDK (K := K) (by rfl) hg (room_u hr) (pe_fldK (K := K) (by rfl) (pv 0))) (PJ.cons pe_str (PJ.cons (pe_fmtDK (K := K) (by rfl) hg (room_u hr) (pe_fldK (K := K) (by rfl) (pv 0))) (PJ.cons pe_str PJ.nil)))))))))))), ?_⟩
  intro p xs hl hp
  obtain ⟨m, r, bs, ps, rfl, ok⟩ := hp
  have wm : m.natAbs < 2 ^ 1900 := pow_le ok.mw (by omega)
  have wr : r.natAbs < 2 ^ 1900 := pow_le ok.rw (by omega)
  have sb := sd_bounds ok 0
  have sp := sd_prices ok 0
  refine sv_ret (ev_joined (ys := ["Kind(", toString m, ", ", toString r, ", ", (py (.lst (bs.map Lk.pairD))).shown, ", ", (py (.lst (ps.map (prD true)))).shown, ")"]) (.cons ev_str (.cons (ev_fmtI (ev_fld (ev_var rfl) (hK ▸ Gk.Kind_f_many) rfl) wm) (.cons ev_str (.cons (ev_fmtI (ev_fld (ev_var rfl) (hK ▸ Gk.Kind_f_rest) rfl) wr) (.cons ev_str (.cons (ev_fmtD (k := true) (n := 2) (ev_fld (ev_var rfl) (hK ▸ Gk.Kind_f_bounds) rfl) (by decide) sb.1 (Nat.le_trans sb.2 (by decide))) (.cons ev_str (.cons (ev_fmtD (k := true) (n := 4) (ev_fld (ev_var rfl) (hK ▸ Gk.Kind_f_prices) rfl) (by decide) sp.1 (Nat.le_trans sp.2 (by decide))) (.cons ev_str .nil))))))))) ?_) fun x h => ⟨m, r, bs, ps, rfl, h⟩
  have b1 := sd_len sb
  have b2 := sd_len sp
  have c1 := (int_show m wm).2
  have c2 := (int_show r wr).2
  intro n
  refine Nat.le_trans (fold_len _ _ n) ?_
  have e0 : Str.empty.length = 0 := rfl
  have e1 : Str.length "Kind(" = 5 := by decide +kernel
  have e2 : Str.length ", " = 2 := by decide +kernel
  have e3 : Str.length ")" = 1 := by decide +kernel
  have e4 : 500000 ≤ sizeLine := by decide
  simp only [List.map_cons, List.map_nil, List.sum_cons, List.sum_nil]
  rw [e0, e1, e2, e3]
  omega
end K43

namespace K43
open PySem PySem.Spec PyProof.Rows L2 Lk
structure C_pot_ (P : Program) (w : World) (K : PySem.W.Frag) (mg : Str → Option Value) (base : Heap) (cls : Cl) : Prop where
  none : True
theorem ok_pot_ {P : Program} {w : World} {K : PySem.W.Frag} {mg : Str → Option Value} {base : Heap} {cls : Cl} {f : Addr} {fd : FuncData} (F : Fun K "_law_pot" "_law_pot" s_pot_ f fd) (Z : Bt mg) (Gc : Gcs mg) (Gk : Gks K mg cls) (C : C_pot_ P w K mg base cls) (hK : cls.K = K) :
    GOk P w K mg base 1 f fd ["_law_script", "_law_k"] (spPot cls) := by
  have sc := sc_pot_
  refine gok_of F sc (fun vs H Q E h => by obtain ⟨N, ns, k, _, a, _⟩ := h; rw [a.length]; rfl) fun cdv A out s H vs Q E hg hr hs => ⟨_, (pss_cons (ps_set (i := 2) sc.nd rfl (by first | exact Or.inl rfl | exact Or.inr rfl) (pe_ifExp (pt_cmpR op_lt (pv 1) (pe_callB (kLen (K := K) (by rfl)) (by rfl) Z.len (by decide +kernel) (pa_cons (pv 0) pa_nil)) (nomark _)) (pe_callB kAbs (by rfl) Z.abs (by decide +kernel) (pa_cons (pe_ix (kIx (K := K) (by rfl)) (pv 0) (pv 1) (fun _ _ => rfl)) pa_nil)) (pe_op opAdd (pe_op (opMul (K := K) (by rfl)) pe_int (pv 1)) pe_int)))
      (pss_one (ps_ret (pe_lst (pa_cons (pe_callB (kMax (by rfl)) (by rfl) Z.max (by decide +kernel) (pa_cons pe_int (pa_cons (pe_op op_sub (pv 2) (pe_op op_pow pe_int pe_int)) pa_nil))) (pa_cons (pe_op opAdd (pe_op op_mod (pe_callTy kInt (by rfl) Z.int (by decide +kernel) (pa_cons (pe_op opAdd (pe_op opAdd (pe_op (opMul (K := K) (by rfl)) (pe_op op_mod (pe_callTy kInt (by rfl) Z.int (by decide +kernel) (pa_cons (pv 2) pa_nil)) pe_int) pe_int) (pe_op (opMul (K := K) (by rfl)) pe_int (pv 1))) pe_int) pa_nil)) pe_int) pe_int) pa_nil)))))), ?_⟩
  obtain ⟨N, ns, k, W, a, h0, h1, q⟩ := hs
  have S := sta_entry (Nm := ["_law_script", "_law_k", "_law_cell"]) W a
  have l : vs.length = 2 := a.length
  rw [l] at S
  refine sv_set (P := fun d => ∃ c : Int, d = .int c) (rt := fun _ => False) (bk := noSt) (ct := noSt) (nx := fun ds' => ∃ c : Int, ds' = (entry 1 [.scr ns, .int k]).set 2 (some (Slot.dat (.int c)))) (Ev.mono (ev_if (B := fun b => b = decide (k < ns.length)) (PX := fun d => ∃ c : Int, d = .int c) (PY := fun d => ∃ c : Int, d = .int c)
    (ET.mono (et_test (ev_op (ev_var rfl) (ev_lenS (ev_var rfl) hK) (rv_B0 intP intP)) blP_S) ?_) (fun h => ?_) fun h => ?_) ?_) ?_ [] N H _ _ H S _ (fun ad' σ' H' ds' z S' => ?_) (fun _ _ _ z => z.elim) (fun _ _ _ _ z => z.elim) (fun _ _ _ _ z => z.elim)
  · rintro b ⟨i, j, e1, e2, e⟩
    cases e1; cases e2
    exact D.bl.inj e
  · obtain ⟨x, hx, _⟩ := atI_of (xs := ns) h0 (of_decide_eq_true h.symm)
    exact (ev_abs (ev_ixS (ev_var rfl) (ev_var rfl) hx hK)).mono fun d e => ⟨_, e⟩
  · exact (ev_addP (ev_mulI ev_int (ev_var rfl) (mulW64 (by decide) (by omega))) ev_int intP intP).mono fun d ⟨i, j, _, _, e⟩ => ⟨_, e⟩
  · rintro d (⟨_, h⟩ | ⟨_, h⟩) <;> exact h
  · rintro d ⟨c, rfl⟩
    exact ⟨c, rfl⟩
  · obtain ⟨c, rfl⟩ := z
    dsimp only
    refine pot_ret (Dn := { nx := fun _ H' => Q .non H', rt := Q }) ?_ ?_ S' q
    · refine (ev_max ev_int (ev_subI (ev_var rfl) (ev_powI ev_int ev_int ⟨by decide, by decide, by decide⟩))).mono ?_
      rintro d e
      refine ⟨_, ?_, e⟩
      split <;> omega
    · refine (ev_addP (ev_modP (ev_intP (ev_addP (ev_addP (ev_mulP (ev_modP (ev_intP (ev_var rfl) intP) intP ev_int (by decide)) ev_int intDraw intP ?_) (ev_mulI ev_int (ev_var rfl) (mulW64 (by decide) (by omega))) intP_S intP) ev_int intP_S intP) intP_S) intP_S ev_int (by decide)) ev_int intDraw intP).mono ?_
      · rintro i j ⟨x, hx, hy, e⟩ e2
        cases e; cases e2
        exact mulW64 (by omega) (by decide)
      · rintro d ⟨i, j, ⟨x, hx, hy, e⟩, e2, rfl⟩
        cases e; cases e2
        exact ⟨_, by dsimp only; omega, by dsimp only; omega, rfl⟩
end K43

namespace K43
open PySem PySem.Spec PyProof.Rows L2 Lk
structure C_draw_ (P : Program) (w : World) (K : PySem.W.Frag) (mg : Str → Option Value) (base : Heap) (cls : Cl) : Prop where
  none : True
theorem ok_draw_ {P : Program} {w : World} {K : PySem.W.Frag} {mg : Str → Option Value} {base : Heap} {cls : Cl} {f : Addr} {fd : FuncData} (F : Fun K "_law_draw" "_law_draw" s_draw_ f fd) (Z : Bt mg) (Gc : Gcs mg) (Gk : Gks K mg cls) (C : C_draw_ P w K mg base cls) (hK : cls.K = K) :
    GOk P w K mg base 1 f fd ["_law_pot_here", "_law_many"] (spG cls 2 pre_draw_ F_draw_) := by
  have sc := sc_draw_
  refine gok_ev (m := 1) F sc rfl rfl fun cdv A out s H E hg hr => ⟨_, (pss_cons (ps_if (pt_cmpR op_gt (pe_ix (kIx (K := K) (by rfl)) (pv 0) pe_int (fun _ _ => rfl)) pe_int (nomark _)) (pss_cons (ps_asg (pe_callB kDivmod (by rfl) Z.divmod (by decide +kernel) (pa_cons (pe_ix (kIx (K := K) (by rfl)) (pv 0) pe_int (fun _ _ => rfl)) (pa_cons (pv 1) pa_nil))) (pgTup (n := 2) (K := K) (by rfl) (by rfl) (pgs_cons (pg_sub (pv 0) pe_int set_list) (pgs_cons (pg_name (i := 2) sc.nd rfl (by first | exact Or.inl rfl | exact Or.inr rfl)) pgs_nil))))
      (pss_one (ps_ret (pv 2)))) pss_nil)
      (pss_cons (ps_asg (pe_op op_mod (pe_callTy kInt (by rfl) Z.int (by decide +kernel) (pa_cons (pe_op opAdd (pe_op (opMul (K := K) (by rfl)) (pe_ix (kIx (K := K) (by rfl)) (pv 0) pe_int (fun _ _ => rfl)) pe_int) pe_int) pa_nil)) pe_int) (pg_sub (pv 0) pe_int set_list))
      (pss_one (ps_ret (pe_op op_mod (pe_callTy kInt (by rfl) Z.int (by decide +kernel) (pa_cons (pe_op op_fdivW (pe_op op_mod (pe_callTy kInt (by rfl) Z.int (by decide +kernel) (pa_cons (pe_op (opMul (K := K) (by rfl)) (pe_ix (kIx (K := K) (by rfl)) (pv 0) pe_int (fun _ _ => rfl)) (pe_ix (kIx (K := K) (by rfl)) (pv 0) pe_int (fun _ _ => rfl))) pa_nil)) pe_int) pe_int) pa_nil)) (pv 1)))))), ?_⟩
  intro p xs hl hp
  obtain ⟨a, n, rfl, hp, h0, h1⟩ := hp
  have I0 : IntP (fun d => ∃ x : Int, 0 ≤ x ∧ d = .int x) := fun d ⟨x, _, e⟩ => ⟨x, e⟩
  refine sv_seq (nx' := (· = entry 1 [.adr a, .int n])) (sv_if (B := fun _ => True) (ET.mono (et_test (ev_op (ev_pot0 rfl hp) ev_int (rv_B0 I0 intP)) blP_S) fun _ _ => trivial) (fun _ => ?_) fun _ => sv_next rfl) ?_
  · refine sv_seq (nx' := fun ds' => ∃ r : Int, 0 ≤ r ∧ r < n ∧ ds' = (entry 1 [.adr a, .int n]).set 2 (some (Slot.dat (.int r)))) (sv_pot0 rfl hp (ev_cb (ea2 (ev_pot0 rfl hp) (ev_var rfl)) (rc_divmod ?_)) ?_) ?_
    · rintro _ ⟨_, _, ⟨x, hx, rfl⟩, rfl, rfl⟩
      exact ⟨x, n, rfl, h0, h1⟩
    · rintro d ⟨i, j, ⟨_, _, ⟨x, hx, rfl⟩, rfl, e⟩, rfl⟩
      cases (List.cons.inj e).1
      cases (List.cons.inj (List.cons.inj e).2).1
      exact ⟨_, _, rfl, Int.ediv_nonneg hx (by omega), _, Int.emod_nonneg _ (by omega), Int.emod_lt_of_pos _ h0, rfl⟩
    · rintro _ ⟨r, h2, h3, rfl⟩
      exact sv_ret (ev_var rfl) fun d e => ⟨a, n, r, rfl, h2, h3, e⟩
  rintro _ rfl
  have I1 : IntP (fun d => ∃ x : Int, 0 ≤ x ∧ x < 2147483648 ∧ d = .int x) := intDraw
  refine sv_seq (nx' := (· = entry 1 [.adr a, .int n])) (sv_pot1 rfl hp (ev_modP (ev_intP (ev_addP (ev_mulP (ev_pot1 rfl hp) ev_int I1 intP ?_) ev_int intP_S intP) intP_S) intP_S ev_int (by decide)) ?_ rfl) ?_
  · rintro i j ⟨x, hx, hy, e⟩ e2
    cases e; cases e2
    exact mulW64 (by omega) (by decide)
  · rintro d ⟨x, hx, hy, rfl⟩
    exact ⟨x, rfl, hx, by omega⟩
  rintro _ rfl
  refine sv_ret (ev_modP (ev_intP (ev_fdivP (ev_modP (ev_intP (ev_mulP (ev_pot1 rfl hp) (ev_pot1 rfl hp) I1 I1 ?_) intP_S) intP_S ev_int (by decide)) intDraw ev_int (by decide) (by decide)) intP_S) intP_S (ev_var rfl) h0) ?_
  · rintro i j ⟨x, hx, hy, e⟩ ⟨y, hx', hy', e2⟩
    cases e; cases e2
    exact mulW64 (by omega) (by omega)
  · rintro d ⟨x, hx, hy, rfl⟩
    exact ⟨a, n, x, rfl, hx, hy, rfl⟩
end K43

namespace K43
open PySem PySem.Spec PyProof.Rows L2 Lk
structure C_text_ (P : Program) (w : World) (K : PySem.W.Frag) (mg : Str → Option Value) (base : Heap) (cls : Cl) : Prop where
  none : True
theorem ok_text_ {P : Program} {w : World} {K : PySem.W.Frag} {mg : Str → Option Value} {base : Heap} {cls : Cl} {f : Addr} {fd : FuncData} (F : Fun K "_law_text" "_law_text" s_text_ f fd) (Z : Bt mg) (Gc : Gcs mg) (Gk : Gks K mg cls) (C : C_text_ P w K mg base cls) (hK : cls.K = K) :
    GOk P w K mg base 1 f fd ["_law_parts_here"] (spG cls 1 pre_text_ F_text_) := by
  have sc := sc_text_
  refine gok_ev (m := 4) F sc rfl rfl fun cdv A out s H E hg hr => ⟨_, (pss_cons (ps_asg (pv 0) (pgTup (n := 4) (K := K) (by rfl) (by rfl) (pgs_cons (pg_name (i := 1) sc.nd rfl (by first | exact Or.inl rfl | exact Or.inr rfl)) (pgs_cons (pg_name (i := 2) sc.nd rfl (by first | exact Or.inl rfl | exact Or.inr rfl)) (pgs_cons (pg_name (i := 3) sc.nd rfl (by first | exact Or.inl rfl | exact Or.inr rfl)) (pgs_cons (pg_name (i := 4) sc.nd rfl (by first | exact Or.inl rfl | exact Or.inr rfl)) pgs_nil))))))
      (pss_one (ps_ret (pe_op opAddS (pe_op opAddS (pe_op opAddS (pe_op opAddS (pe_op opAddS (pe_op opAddS (pe_op opAddS (pe_op opAddS pe_str (pe_callTy kStr (by rfl) Z.str (by decide +kernel) (pa_cons (pv 1) pa_nil))) pe_str) (pe_callTy kStr (by rfl) Z.str (by decide +kernel) (pa_cons (pv 2) pa_nil))) pe_str) (pe_callB (kShow (K := K) (by rfl) hg (room_u hr)) (by rfl) Z.repr (by decide +kernel) (pa_cons (pv 3) pa_nil))) pe_str) (pe_callB (kShow (K := K) (by rfl) hg (room_u hr)) (by rfl) Z.repr (by decide +kernel) (pa_cons (pv 4) pa_nil))) pe_str)))), ?_⟩
  intro p xs hl hp
  obtain ⟨m, r, bs, ps, rfl, ok⟩ := hp
  have wm : m.natAbs < 2 ^ 1900 := pow_le ok.mw (by omega)
  have wr : r.natAbs < 2 ^ 1900 := pow_le ok.rw (by omega)
  have sb := sd_bounds ok 0
  have sp := sd_prices ok 0
  refine sv_seq (nx' := (· = [some (.dat (partsD m r bs ps)), some (.dat (.int m)), some (.dat (.int r)), some (.dat (.lst (bs.map Lk.pairD))), some (.dat (.lst (ps.map (prD true))))])) (sv_asg (ev_var rfl) fun d' e => ⟨_, by rw [e]; exact eg_tup (egs_cons (egs_cons (egs_cons (egs_cons egs_nil)))) rfl, rfl⟩) ?_
  rintro _ rfl
  have e1 : Str.length "Kind(" ≤ 5 := by decide +kernel
  have e2 : Str.length ", " ≤ 2 := by decide +kernel
  have e3 : Str.length ")" ≤ 1 := by decide +kernel
  refine sv_ret (evT_cat (evT_cat (evT_cat (evT_cat (evT_cat (evT_cat (evT_cat (evT_cat ⟨ev_str, e1⟩ ⟨ev_strI (ev_var rfl) wm, (int_show m wm).2⟩ (by decide)) ⟨ev_str, e2⟩ (by decide)) ⟨ev_strI (ev_var rfl) wr, (int_show r wr).2⟩ (by decide)) ⟨ev_str, e2⟩ (by decide)) ⟨ev_show (n := 2) (ev_var rfl) (by decide) sb.1 (Nat.le_trans sb.2 (by decide)), sd_len sb⟩ (by decide)) ⟨ev_str, e2⟩ (by decide)) ⟨ev_show (n := 4) (ev_var rfl) (by decide) sp.1 (Nat.le_trans sp.2 (by decide)), sd_len sp⟩ (by decide)) ⟨ev_str, e3⟩ (by decide)).1 fun d e => ⟨m, r, bs, ps, rfl, ?_⟩
  rw [e]
  unfold kindS
  have : Str.empty ++ ("Kind(" : Str) = "Kind(" := by decide +kernel
  rw [this]
end K43

namespace K43
open PySem PySem.Spec PyProof.Rows L2 Lk
structure C_is_count (P : Program) (w : World) (K : PySem.W.Frag) (mg : Str → Option Value) (base : Heap) (cls : Cl) : Prop where
  is_integer : Cal P w K mg base "is_integer" 1 ["value"] [] (spG cls 1 pre_is_integer F_is_integer)
theorem ok_is_count {P : Program} {w : World} {K : PySem.W.Frag} {mg : Str → Option Value} {base : Heap} {cls : Cl} {f : Addr} {fd : FuncData} (F : Fun K "is_count" "is_count" s_is_count f fd) (Z : Bt mg) (Gc : Gcs mg) (Gk : Gks K mg cls) (C : C_is_count P w K mg base cls) (hK : cls.K = K) :
    GOk P w K mg base 2 f fd ["value"] (spG cls 1 pre_is_count F_is_count) := by
  have sc := sc_is_count
  refine gok_ev (m := 0) F sc rfl rfl fun cdv A out s H E hg hr => ⟨_, (pss_one (ps_ret (pe_and (pe_callC C.is_integer hg (hr.mono (by decide)) (by rfl) (pa_cons (pv 0) pa_nil)) (pe_one (pe_cmpR op_ge (pv 0) pe_int (nomark _)))))), ?_⟩
  intro p xs hl hp
  obtain ⟨d, rfl, hb⟩ := hp
  refine sv_ret (P := fun r => r = .bl (isCnt d)) (Ev.mono (ev_andV (PX := fun r => r = .bl (isInt d)) (PY := fun r => r = .bl (isCnt d)) (ev_call' (ea1 (ev_var rfl)) ?_) (fun _ e => ⟨_, e⟩) fun h => ?_) ?_) fun r e => ⟨d, rfl, e⟩
  · rintro _ ⟨x, ex, rfl⟩
    rw [ex]
    exact ⟨rfl, ⟨d, rfl, hb⟩, fun r ⟨d', e, z⟩ => by cases e; exact z⟩
  · obtain ⟨i, rfl⟩ := isInt_of (D.bl.inj h).symm
    refine (ev_op (ev_var rfl) ev_int (rv_B0 intP intP)).mono ?_
    rintro r ⟨i', j, e1, e2, e⟩
    cases e1; cases e2
    exact e
  · rintro r (⟨rfl, h⟩ | ⟨h, e⟩)
    · cases d <;> first | rfl | cases h
    · exact e
end K43

namespace K43
open PySem PySem.Spec PyProof.Rows L2 Lk
structure C_is_bend (P : Program) (w : World) (K : PySem.W.Frag) (mg : Str → Option Value) (base : Heap) (cls : Cl) : Prop where
  is_integer : Cal P w K mg base "is_integer" 1 ["value"] [] (spG cls 1 pre_is_integer F_is_integer)
theorem ok_is_bend {P : Program} {w : World} {K : PySem.W.Frag} {mg : Str → Option Value} {base : Heap} {cls : Cl} {f : Addr} {fd : FuncData} (F : Fun K "is_bend" "is_bend" s_is_bend f fd) (Z : Bt mg) (Gc : Gcs mg) (Gk : Gks K mg cls) (C : C_is_bend P w K mg base cls) (hK : cls.K = K) :
    GOk P w K mg base 2 f fd ["value"] (spG cls 1 pre_is_bend F_is_bend) := by
  have sc := sc_is_bend
  refine gok_ev (m := 2) F sc rfl rfl fun cdv A out s H E hg hr => ⟨_, (pss_cons (ps_if (PW.pt (pw_or (pt_not (pt_val (pe_callB (kIsi (K := K) (by rfl)) (by rfl) Z.isinstance (by decide +kernel) (pa_cons (pv 0) (pa_cons (pe_bltn (v := .ty "tuple") (by rfl) Z.tuple (by decide +kernel) rfl) pa_nil))))) (pw_or1 (pt_cmpR (opNe (K := K) (by rfl) (room_u hr)) (pe_callB (kLen (K := K) (by rfl)) (by rfl) Z.len (by decide +kernel) (pa_cons (pv 0) pa_nil)) pe_int (nomark _))))) (pss_one (ps_ret pe_bl)) pss_nil)
      (pss_cons (ps_asg (pv 0) (pgTup (n := 2) (K := K) (by rfl) (by rfl) (pgs_cons (pg_name (i := 1) sc.nd rfl (by first | exact Or.inl rfl | exact Or.inr rfl)) (pgs_cons (pg_name (i := 2) sc.nd rfl (by first | exact Or.inl rfl | exact Or.inr rfl)) pgs_nil))))
      (pss_one (ps_ret (pe_and (pe_callC C.is_integer hg (hr.mono (by decide)) (by rfl) (pa_cons (pv 1) pa_nil)) (pe_and (pe_callC C.is_integer hg (hr.mono (by decide)) (by rfl) (pa_cons (pv 2) pa_nil)) (pe_one (pe_cmpR op_gt (pv 2) pe_int (nomark _))))))))), ?_⟩
  intro p xs hl hp
  obtain ⟨d, n, rfl, hs⟩ := hp
  have hb := shE_built hs
  refine sv_seq (nx' := fun ds' => tup2 d = true ∧ ds' = entry 2 [d]) (sv_ifE (b := !tup2 d) (et_tup2 (ev_var rfl) hb) (fun e => sv_ret ev_bl fun r er => ⟨d, rfl, ?_⟩) fun e => sv_next ⟨(by cases h : tup2 d with | true => rfl | false => (rw [h] at e; cases e)), rfl⟩) ?_
  · rw [er]
    have : bendOk d = false := by
      cases h : bendOk d with
      | false => rfl
      | true =>
        obtain ⟨x, y, rfl, _⟩ := bend_of h
        cases e
    rw [this]
  rintro _ ⟨ht, rfl⟩
  obtain ⟨x, y, rfl⟩ := tup2_of ht
  obtain ⟨m, hm⟩ := shE_items hs rfl
  have bx := shE_built (hm x (List.mem_cons_self ..))
  have by_ := shE_built (hm y (List.mem_cons_of_mem _ (List.mem_cons_self ..)))
  refine sv_seq (nx' := (· = [some (.dat (.tup [x, y])), some (.dat x), some (.dat y)])) (sv_asg (ev_var rfl) fun d' e => ⟨_, by rw [e]; exact eg_tup (egs_cons (egs_cons egs_nil)) rfl, rfl⟩) ?_
  rintro _ rfl
  refine sv_ret (ev_andB (b := isInt y && posI y) (e_int (ev_var rfl) bx) fun h => ev_andB (b := posI y) (e_int (ev_var rfl) by_) fun h2 => ?_) fun r e => ⟨_, rfl, e⟩
  obtain ⟨i, rfl⟩ := isInt_of h2
  exact ev_iE (ev_var rfl) ev_int
end K43

namespace K43
open PySem PySem.Spec PyProof.Rows L2 Lk
structure C_is_bound (P : Program) (w : World) (K : PySem.W.Frag) (mg : Str → Option Value) (base : Heap) (cls : Cl) : Prop where
  is_integer : Cal P w K mg base "is_integer" 1 ["value"] [] (spG cls 1 pre_is_integer F_is_integer)
theorem ok_is_bound {P : Program} {w : World} {K : PySem.W.Frag} {mg : Str → Option Value} {base : Heap} {cls : Cl} {f : Addr} {fd : FuncData} (F : Fun K "is_bound" "is_bound" s_is_bound f fd) (Z : Bt mg) (Gc : Gcs mg) (Gk : Gks K mg cls) (C : C_is_bound P w K mg base cls) (hK : cls.K = K) :
    GOk P w K mg base 2 f fd ["value"] (spG cls 1 pre_is_bound F_is_bound) := by
  have sc := sc_is_bound
  refine gok_ev (m := 2) F sc rfl rfl fun cdv A out s H E hg hr => ⟨_, (pss_cons (ps_if (PW.pt (pw_or (pt_not (pt_val (pe_callB (kIsi (K := K) (by rfl)) (by rfl) Z.isinstance (by decide +kernel) (pa_cons (pv 0) (pa_cons (pe_bltn (v := .ty "tuple") (by rfl) Z.tuple (by decide +kernel) rfl) pa_nil))))) (pw_or1 (pt_cmpR (opNe (K := K) (by rfl) (room_u hr)) (pe_callB (kLen (K := K) (by rfl)) (by rfl) Z.len (by decide +kernel) (pa_cons (pv 0) pa_nil)) pe_int (nomark _))))) (pss_one (ps_ret pe_bl)) pss_nil)
      (pss_cons (ps_asg (pv 0) (pgTup (n := 2) (K := K) (by rfl) (by rfl) (pgs_cons (pg_name (i := 1) sc.nd rfl (by first | exact Or.inl rfl | exact Or.inr rfl)) (pgs_cons (pg_name (i := 2) sc.nd rfl (by first | exact Or.inl rfl | exact Or.inr rfl)) pgs_nil))))
      (pss_one (ps_ret (pe_and (pe_callC C.is_integer hg (hr.mono (by decide)) (by rfl) (pa_cons (pv 1) pa_nil)) (pe_and (pe_callC C.is_integer hg (hr.mono (by decide)) (by rfl) (pa_cons (pv 2) pa_nil)) (pe_one (pe_cmpR op_le (pv 1) (pv 2) (nomark _))))))))), ?_⟩
  intro p xs hl hp
  obtain ⟨q, rfl, hq⟩ := hp
  refine sv_seq (nx' := (· = entry 2 [Lk.pairD q])) (sv_guard (et_tup2 (d := Lk.pairD q) (ev_var rfl) rfl) rfl) ?_
  rintro _ rfl
  refine sv_seq (nx' := (· = [some (.dat (Lk.pairD q)), some (.dat (.int q.1)), some (.dat (.int q.2))])) (sv_asg (ev_var rfl) fun d' e => ⟨_, by rw [e]; exact eg_tup (egs_cons (egs_cons egs_nil)) rfl, rfl⟩) ?_
  rintro _ rfl
  exact sv_ret (ev_andT (e_int (d := .int q.1) (ev_var rfl) rfl) (ev_andT (e_int (d := .int q.2) (ev_var rfl) rfl) ((ev_iE (f := fun i j => decide (i ≤ j)) (ev_var rfl) (ev_var rfl)).mono fun d e => by rw [e, decide_eq_true hq]))) fun r e => e
end K43

namespace K43
open PySem PySem.Spec PyProof.Rows L2 Lk
structure C_Kind_prices (P : Program) (w : World) (K : PySem.W.Frag) (mg : Str → Option Value) (base : Heap) (cls : Cl) : Prop where
  told_price : Cal P w K mg base "told_price" 1 ["price"] [] (spN cls 1 pre_told_price F_told_price)
theorem ok_Kind_prices {P : Program} {w : World} {K : PySem.W.Frag} {mg : Str → Option Value} {base : Heap} {cls : Cl} {f : Addr} {fd : FuncData} (F : Fun K "prices" "Kind.prices" s_Kind_prices f fd) (Z : Bt mg) (Gc : Gcs mg) (Gk : Gks K mg cls) (C : C_Kind_prices P w K mg base cls) (hK : cls.K = K) :
    GOk P w K mg base 2 f fd ["self"] (spN cls 1 pre_Kind_prices F_Kind_prices) := by
  have sc := sc_Kind_prices
  refine gok_n (m := 1) F sc rfl rfl fun cdv A out s H E hg hr => ⟨_, (pss_one (ps_ret (pe_lc (own := [("price", 1)]) rfl sc.nd (pi_or (piList (K := K) (by rfl) (pe_fldK (K := K) (by rfl) (pv 0))) (piTup (K := K) (by rfl) (pe_fldK (K := K) (by rfl) (pv 0)))) (blkOk_by (by kernel_rfl)) (fun _ _ _ _ _ => (pg_name (i := 1) sc.nd rfl (by first | exact Or.inl rfl | exact Or.inr rfl))) (fun _ _ _ _ _ => pts_nil) (fun _ _ _ _ _ => (pe_callC C.told_price hg (hr.mono (by decide)) (by rfl) (pa_cons (pv 1) pa_nil)))))), ?_⟩
  intro p xs hl hp
  obtain ⟨m, r, bs, ps, rfl, ok⟩ := hp
  refine svn_ret ((evn_lc (js := [1]) (xs := ps.map (prD true)) (f := fun d => d) (ei_row (k := true) (ev_fld (ev_var rfl) (hK ▸ Gk.Kind_f_prices) rfl)) (by rw [List.length_map, ok.lp]; have := ok.l6; omega) (by decide) rfl fun x hx => ?_).mono fun d e => ⟨m, r, bs, ps, rfl, by rw [e, List.map_id']⟩)
  obtain ⟨q, hq, rfl⟩ := List.mem_map.mp hx
  exact ⟨_, eg_name, rfl, n_told (ev_var rfl)⟩
end K43

namespace K43
open PySem PySem.Spec PyProof.Rows L2 Lk
structure C_pick_ (P : Program) (w : World) (K : PySem.W.Frag) (mg : Str → Option Value) (base : Heap) (cls : Cl) : Prop where
  draw_ : Cal P w K mg base "_law_draw" 1 ["_law_pot_here", "_law_many"] [] (spG cls 2 pre_draw_ F_draw_)
theorem ok_pick_ {P : Program} {w : World} {K : PySem.W.Frag} {mg : Str → Option Value} {base : Heap} {cls : Cl} {f : Addr} {fd : FuncData} (F : Fun K "_law_pick" "_law_pick" s_pick_ f fd) (Z : Bt mg) (Gc : Gcs mg) (Gk : Gks K mg cls) (C : C_pick_ P w K mg base cls) (hK : cls.K = K) :
    GOk P w K mg base 2 f fd ["_law_pot_here", "_law_some"] (spG cls 2 pre_pick_ F_pick_) := by
  have sc := sc_pick_
  refine gok_ev (m := 0) F sc rfl rfl fun cdv A out s H E hg hr => ⟨_, (pss_one (ps_ret (pe_ix (kIx (K := K) (by rfl)) (pv 1) (pe_callC C.draw_ hg (hr.mono (by decide)) (by rfl) (pa_cons (pv 0) (pa_cons (pe_callB (kLen (K := K) (by rfl)) (by rfl) Z.len (by decide +kernel) (pa_cons (pv 1) pa_nil)) pa_nil))) (fun _ _ => rfl)))), ?_⟩
  intro p xs hl hp
  obtain ⟨a, ys, rfl, hp, h0, h1⟩ := hp
  have l0 : 0 < ys.length := List.length_pos_iff.mpr h0
  refine sv_ret (Ev.mono (ev_op (PX := (· = .lst ys)) (PY := fun d => ∃ x : Int, 0 ≤ x ∧ x < ys.length ∧ d = .int x) (ev_var rfl) (ev_draw rfl hp (ev_len (k := true) (ev_var rfl)) (by omega) (by omega)) (rv_ixs (P := fun d => d ∈ ys) ?_)) fun d hd => hd) ?_
  · rintro _ _ rfl ⟨x, hx, hy, rfl⟩
    obtain ⟨d, e, m⟩ := atI_of (xs := ys) hx hy
    exact ⟨true, ys, x, d, rfl, rfl, e, m⟩
  · rintro d hd
    exact ⟨a, ys, rfl, hd⟩
end K43

namespace K43
open PySem PySem.Spec PyProof.Rows L2 Lk
structure C_mixed_ (P : Program) (w : World) (K : PySem.W.Frag) (mg : Str → Option Value) (base : Heap) (cls : Cl) : Prop where
  draw_ : Cal P w K mg base "_law_draw" 1 ["_law_pot_here", "_law_many"] [] (spG cls 2 pre_draw_ F_draw_)
theorem ok_mixed_ {P : Program} {w : World} {K : PySem.W.Frag} {mg : Str → Option Value} {base : Heap} {cls : Cl} {f : Addr} {fd : FuncData} (F : Fun K "_law_mixed" "_law_mixed" s_mixed_ f fd) (Z : Bt mg) (Gc : Gcs mg) (Gk : Gks K mg cls) (C : C_mixed_ P w K mg base cls) (hK : cls.K = K) :
    GOk P w K mg base 2 f fd ["_law_pot_here", "_law_some"] (spG cls 2 pre_mixed_ F_mixed_) := by
  have sc := sc_mixed_
  refine gok_ev (m := 3) F sc rfl rfl fun cdv A out s H E hg hr => ⟨_, (pss_cons (ps_par (i := 2) (j := 3) (by rfl) sc.nd rfl rfl (by decide) rfl rfl (pa_cons (pe_callTy (kList (K := K) (by rfl)) (by rfl) Z.list (by decide +kernel) (pa_cons (pv 1) pa_nil)) (pa_cons (pe_lst pa_nil) pa_nil)) (by rfl))
      (pss_cons (ps_for PassesOwn.never rfl (pi_range1 (by rfl) Z.range (pa_cons (pe_callB (kLen (K := K) (by rfl)) (by rfl) Z.len (by decide +kernel) (pa_cons (pv 1) pa_nil)) pa_nil)) (pg_name (i := 4) sc.nd rfl (by first | exact Or.inl rfl | exact Or.inr rfl)) (pss_one (ps_expr (pe_bm PySem.F.plainAttrs_list PySem.F.slot_list_append PySem.F.type_list_append mt_append (pv 3) (pa_cons (pe_bm PySem.F.plainAttrs_list PySem.F.slot_list_pop PySem.F.type_list_pop mt_popAt (pv 2) (pa_cons (pe_callC C.draw_ hg (hr.mono (by decide)) (by rfl) (pa_cons (pv 0) (pa_cons (pe_callB (kLen (K := K) (by rfl)) (by rfl) Z.len (by decide +kernel) (pa_cons (pv 2) pa_nil)) pa_nil))) pa_nil)) pa_nil)))))
      (pss_one (ps_ret (pv 3))))), ?_⟩
  intro p xs hl hp
  obtain ⟨a, l0, rfl, hp, hl⟩ := hp
  refine sv_seq (nx' := (· = Q0 a l0 l0 [] none)) (sv_parN (by show 2 < 5; decide) (by show 3 < 5; decide) (ef_list (k := true) (xs := l0.map D.int) (ev_var rfl)) ?_) ?_
  · rintro _ rfl
    rfl
  rintro _ rfl
  refine sv_seq (nx' := fun ds' => ∃ f t, f.Perm l0 ∧ ds' = Q0 a l0 [] f t) (sv_for (ei_rng (n := (l0.length : Int)) ((ea1 (ev_len (k := true) (xs := l0.map D.int) (ev_var rfl))).mono fun xs ⟨x, ex, e⟩ => by rw [e, ex, List.length_map]) (by omega) (by omega)) ?_) ?_
  · rintro xs rfl
    refine ⟨fun i ds' => ∃ l f t, (f ++ l).Perm l0 ∧ f.length = i ∧ ds' = Q0 a l0 l f t, ⟨_, [], none, List.Perm.refl _, rfl, rfl⟩, ?_, ?_⟩
    · rintro i d ds1 hd ⟨l, f, t, pm, lf, rfl⟩
      have hi : i < l0.length := by
        have := (List.getElem?_eq_some_iff.mp hd).1
        unfold irng at this
        rw [List.length_map, List.length_range, Int.toNat_natCast] at this
        exact this
      have ll := pm.length_eq
      rw [List.length_append] at ll
      refine ⟨[4], _, eg_name, sv_appPop (i := 3) (j := 2) (PI := fun d => ∃ x : Int, 0 ≤ x ∧ x < l.length ∧ d = .int x) rfl rfl (by decide) (by rw [List.length_map]; omega) ((ev_draw rfl hp ((ev_lenOwn rfl).mono fun d e => by rw [e, List.length_map]) (by omega) (by omega))) ?_⟩
      rintro dj ⟨z, z0, z1, rfl⟩
      have hz : z.toNat < l.length := by omega
      refine ⟨z, z.toNat, .int l[z.toNat], rfl, by omega, by omega, ?_, by rw [List.getElem?_map, List.getElem?_eq_getElem hz]; rfl, l.eraseIdx z.toNat, f ++ [l[z.toNat]], some (Slot.dat d), ?_, by rw [List.length_append, lf]; rfl, ?_⟩
      · unfold seqIndex?
        rw [List.length_map, if_neg (show ¬ z < 0 by omega)]
        rw [if_pos]
        rw [Bool.and_eq_true, decide_eq_true_iff, decide_eq_true_iff]
        exact ⟨z0, z1⟩
      · refine List.Perm.trans ?_ pm
        rw [List.append_assoc]
        exact (erase_permQ (List.getElem?_eq_getElem hz)).append_left f
      · unfold Q0
        rw [List.map_append, eraseIdx_mapQ]
        rfl
    · rintro ds1 ⟨l, f, t, pm, lf, rfl⟩
      have ll := pm.length_eq
      unfold irng at lf
      rw [List.length_map, List.length_range, Int.toNat_natCast] at lf
      rw [List.length_append] at ll
      have : l = [] := List.length_eq_zero_iff.mp (by omega)
      subst this
      rw [List.append_nil] at pm
      exact ⟨f, t, pm, rfl⟩
  rintro _ ⟨f, t, pm, rfl⟩
  exact sv_freeze (i := 3) rfl (sv_ret (ev_var rfl) fun d e => ⟨a, l0, f, rfl, e, pm⟩)
end K43

namespace K43
open PySem PySem.Spec PyProof.Rows L2 Lk
structure C_others_ (P : Program) (w : World) (K : PySem.W.Frag) (mg : Str → Option Value) (base : Heap) (cls : Cl) : Prop where
  draw_ : Cal P w K mg base "_law_draw" 1 ["_law_pot_here", "_law_many"] [] (spG cls 2 pre_draw_ F_draw_)
theorem ok_others_ {P : Program} {w : World} {K : PySem.W.Frag} {mg : Str → Option Value} {base : Heap} {cls : Cl} {f : Addr} {fd : FuncData} (F : Fun K "_law_others" "_law_others" s_others_ f fd) (Z : Bt mg) (Gc : Gcs mg) (Gk : Gks K mg cls) (C : C_others_ P w K mg base cls) (hK : cls.K = K) :
    GOk P w K mg base 2 f fd ["_law_pot_here", "_law_parts_here"] (spG cls 2 pre_others_ F_others_) := by
  have sc := sc_others_
  refine gok_ev (m := 14) F sc rfl rfl fun cdv A out s H E hg hr => ⟨_, (pss_cons (ps_asg (pv 1) (pgTup (n := 4) (K := K) (by rfl) (by rfl) (pgs_cons (pg_name (i := 2) sc.nd rfl (by first | exact Or.inl rfl | exact Or.inr rfl)) (pgs_cons (pg_name (i := 3) sc.nd rfl (by first | exact Or.inl rfl | exact Or.inr rfl)) (pgs_cons (pg_name (i := 4) sc.nd rfl (by first | exact Or.inl rfl | exact Or.inr rfl)) (pgs_cons (pg_name (i := 5) sc.nd rfl (by first | exact Or.inl rfl | exact Or.inr rfl)) pgs_nil))))))
      (pss_cons (ps_set (i := 6) sc.nd rfl (by first | exact Or.inl rfl | exact Or.inr rfl) (pe_callC C.draw_ hg (hr.mono (by decide)) (by rfl) (pa_cons (pv 0) (pa_cons (pe_callB (kLen (K := K) (by rfl)) (by rfl) Z.len (by decide +kernel) (pa_cons (pv 4) pa_nil)) pa_nil))))
      (pss_cons (ps_asg (pe_ix (kIx (K := K) (by rfl)) (pv 4) (pv 6) (fun _ _ => rfl)) (pgTup (n := 2) (K := K) (by rfl) (by rfl) (pgs_cons (pg_name (i := 7) sc.nd rfl (by first | exact Or.inl rfl | exact Or.inr rfl)) (pgs_cons (pg_name (i := 8) sc.nd rfl (by first | exact Or.inl rfl | exact Or.inr rfl)) pgs_nil))))
      (pss_cons (ps_asg (pe_ix (kIx (K := K) (by rfl)) (pv 5) (pv 6) (fun _ _ => rfl)) (pgTup (n := 2) (K := K) (by rfl) (by rfl) (pgs_cons (pg_name (i := 9) sc.nd rfl (by first | exact Or.inl rfl | exact Or.inr rfl)) (pgs_cons (pg_name (i := 10) sc.nd rfl (by first | exact Or.inl rfl | exact Or.inr rfl)) pgs_nil))))
      (pss_cons (ps_set (i := 11) sc.nd rfl (by first | exact Or.inl rfl | exact Or.inr rfl) (pe_op opAdd (pe_op opAdd (pe_slice (kSl (K := K) (by rfl)) (pv 4) po_none (po_some (pv 6))) (pe_lst (pa_cons (pe_tup (pa_cons (pe_op op_sub (pv 7) pe_int) (pa_cons (pv 8) pa_nil))) pa_nil))) (pe_slice (kSl (K := K) (by rfl)) (pv 4) (po_some (pe_op opAdd (pv 6) pe_int)) po_none)))
      (pss_cons (ps_set (i := 12) sc.nd rfl (by first | exact Or.inl rfl | exact Or.inr rfl) (pe_op opAdd (pe_op opAdd (pe_slice (kSl (K := K) (by rfl)) (pv 5) po_none (po_some (pv 6))) (pe_lst (pa_cons (pe_tup (pa_cons (pe_op opAdd (pv 9) pe_int) (pa_cons (pv 10) pa_nil))) pa_nil))) (pe_slice (kSl (K := K) (by rfl)) (pv 5) (po_some (pe_op opAdd (pv 6) pe_int)) po_none)))
      (pss_cons (ps_set (i := 13) sc.nd rfl (by first | exact Or.inl rfl | exact Or.inr rfl) (pe_op opAdd (pe_op opAdd (pe_slice (kSl (K := K) (by rfl)) (pv 5) po_none (po_some (pv 6))) (pe_lst (pa_cons (pe_tup (pa_cons (pv 9) (pa_cons (pe_op opAdd (pe_slice (kSl (K := K) (by rfl)) (pv 10) po_none (po_some pe_int)) (pe_lst (pa_cons (pe_tup (pa_cons pe_int (pa_cons pe_int pa_nil))) pa_nil))) pa_nil))) pa_nil))) (pe_slice (kSl (K := K) (by rfl)) (pv 5) (po_some (pe_op opAdd (pv 6) pe_int)) po_none)))
      (pss_cons (ps_set (i := 14) sc.nd rfl (by first | exact Or.inl rfl | exact Or.inr rfl) (pe_lst (pa_cons (pe_tup (pa_cons (pe_op opAdd (pv 2) pe_int) (pa_cons (pv 3) (pa_cons (pv 4) (pa_cons (pv 5) pa_nil))))) (pa_cons (pe_tup (pa_cons (pv 2) (pa_cons (pe_op op_sub (pv 3) pe_int) (pa_cons (pv 4) (pa_cons (pv 5) pa_nil))))) (pa_cons (pe_tup (pa_cons (pv 2) (pa_cons (pv 3) (pa_cons (pv 11) (pa_cons (pv 5) pa_nil))))) (pa_cons (pe_tup (pa_cons (pv 2) (pa_cons (pv 3) (pa_cons (pv 4) (pa_cons (pv 12) pa_nil))))) pa_nil))))))
      (pss_cons (ps_set (i := 15) sc.nd rfl (by first | exact Or.inl rfl | exact Or.inr rfl) (pe_ifExp (pt_cmpR op_gt (pe_callB (kLen (K := K) (by rfl)) (by rfl) Z.len (by decide +kernel) (pa_cons (pv 4) pa_nil)) pe_int (nomark _)) (pe_tup (pa_cons (pe_slice (kSl (K := K) (by rfl)) (pv 4) po_none (po_some (pe_un un_neg pe_int))) (pa_cons (pe_slice (kSl (K := K) (by rfl)) (pv 5) po_none (po_some (pe_un un_neg pe_int))) pa_nil))) (pe_tup (pa_cons (pe_op (opMul (K := K) (by rfl)) (pv 4) pe_int) (pa_cons (pe_op (opMul (K := K) (by rfl)) (pv 5) pe_int) pa_nil)))))
      (pss_one (ps_ret (pe_op opAdd (pv 14) (pe_lst (pa_cons (pe_tup (pa_cons (pv 2) (pa_cons (pv 3) (pa_cons (pv 4) (pa_cons (pv 13) pa_nil))))) (pa_cons (pe_tup (pa_cons (pv 2) (pa_cons (pv 3) (pa_cons (pe_ix (kIx (K := K) (by rfl)) (pv 15) pe_int (fun _ _ => rfl)) (pa_cons (pe_ix (kIx (K := K) (by rfl)) (pv 15) pe_int (fun _ _ => rfl)) pa_nil))))) pa_nil))))))))))))))), ?_⟩
  intro p xs hl hp
  obtain ⟨a, m, r, bs, ps, rfl, hp, ok⟩ := hp
  have l1 := ok.l1
  have l6 := ok.l6
  have lp := ok.lp
  refine sv_seq (nx' := (· = OO a m r bs ps none none none none none none none none none none)) (sv_asg (ev_var (d := partsD m r bs ps) rfl) fun d' e => ⟨_, by rw [e]; exact eg_tup (egs_cons (egs_cons (egs_cons (egs_cons egs_nil)))) rfl, rfl⟩) ?_
  rintro _ rfl
  have v2 : ∀ {x6 x7 x8 x9 x10 x11 x12 x13 x14 x15 : Option Slot}, Ev cls p (tVar 2) (OO a m r bs ps x6 x7 x8 x9 x10 x11 x12 x13 x14 x15) (· = .int m) := ev_var rfl
  have v3 : ∀ {x6 x7 x8 x9 x10 x11 x12 x13 x14 x15 : Option Slot}, Ev cls p (tVar 3) (OO a m r bs ps x6 x7 x8 x9 x10 x11 x12 x13 x14 x15) (· = .int r) := ev_var rfl
  have v4 : ∀ {x6 x7 x8 x9 x10 x11 x12 x13 x14 x15 : Option Slot}, Ev cls p (tVar 4) (OO a m r bs ps x6 x7 x8 x9 x10 x11 x12 x13 x14 x15) (· = .lst (bs.map Lk.pairD)) := ev_var rfl
  have v5 : ∀ {x6 x7 x8 x9 x10 x11 x12 x13 x14 x15 : Option Slot}, Ev cls p (tVar 5) (OO a m r bs ps x6 x7 x8 x9 x10 x11 x12 x13 x14 x15) (· = .lst (ps.map (prD true))) := ev_var rfl
  have lb : (bs.map Lk.pairD).length ≤ 1000 := by rw [List.length_map]; omega
  have lq : (ps.map (prD true)).length ≤ 1000 := by rw [List.length_map]; omega
  refine sv_seq (nx' := fun ds' => ∃ j : Nat, j < bs.length ∧ ds' = OO a m r bs ps (some (.dat (.int (j : Int)))) none none none none none none none none none) (sv_set (ev_draw rfl hp (ev_len (k := true) v4) (by rw [List.length_map]; omega) (by rw [List.length_map]; omega)) ?_) ?_
  · rintro d ⟨x, h0, h1, rfl⟩
    rw [List.length_map] at h1
    obtain ⟨j, rfl⟩ : ∃ j : Nat, x = j := ⟨x.toNat, by omega⟩
    exact ⟨j, by omega, rfl⟩
  rintro _ ⟨j, hj, rfl⟩
  have hj2 : j < ps.length := by omega
  have at1 : atI (bs.map Lk.pairD) (j : Int) = some (Lk.pairD bs[j]) := by
    unfold atI ixN
    rw [if_pos (by omega), if_pos (by rw [List.length_map]; omega)]
    show (bs.map Lk.pairD)[((j : Nat) : Int).toNat]? = _
    rw [Int.toNat_natCast, List.getElem?_map, List.getElem?_eq_getElem hj]
    rfl
  have at2 : atI (ps.map (prD true)) (j : Int) = some (prD true ps[j]) := by
    unfold atI ixN
    rw [if_pos (by omega), if_pos (by rw [List.length_map]; omega)]
    show (ps.map (prD true))[((j : Nat) : Int).toNat]? = _
    rw [Int.toNat_natCast, List.getElem?_map, List.getElem?_eq_getElem hj2]
    rfl
  refine sv_seq (nx' := (· = OO a m r bs ps (some (.dat (.int (j : Int)))) (some (.dat (.int bs[j].1))) (some (.dat (.int bs[j].2))) none none none none none none none)) (sv_asg (ev_ixI (k := true) (xs := bs.map Lk.pairD) v4 (ev_var rfl) at1) fun d' e => ⟨OO a m r bs ps (some (.dat (.int (j : Int)))) (some (.dat (.int bs[j].1))) (some (.dat (.int bs[j].2))) none none none none none none none, by subst e; exact eg_tup (xs := [.int bs[j].1, .int bs[j].2]) (egs_cons (egs_cons egs_nil)) rfl, rfl⟩) ?_
  rintro _ rfl
  refine sv_seq (nx' := (· = OO a m r bs ps (some (.dat (.int (j : Int)))) (some (.dat (.int bs[j].1))) (some (.dat (.int bs[j].2))) (some (.dat (.int ps[j].1))) (some (.dat (.lst (ps[j].2.map bend2)))) none none none none none)) (sv_asg (ev_ixI (k := true) (xs := ps.map (prD true)) v5 (ev_var rfl) at2) fun d' e => ⟨OO a m r bs ps (some (.dat (.int (j : Int)))) (some (.dat (.int bs[j].1))) (some (.dat (.int bs[j].2))) (some (.dat (.int ps[j].1))) (some (.dat (.lst (ps[j].2.map bend2)))) none none none none none, by subst e; exact eg_tup (xs := [.int ps[j].1, .lst (ps[j].2.map bend2)]) (egs_cons (egs_cons egs_nil)) rfl, rfl⟩) ?_
  rintro _ rfl
  have okb := ok.bo bs[j] (List.getElem_mem hj)
  have okp := ok.pr ps[j] (List.getElem_mem hj2)
  generalize hb0 : bs[j] = b0 at *
  generalize hp0 : ps[j] = p0 at *
  let wd := ins bs j (b0.1 - 1, b0.2)
  let dr := ins ps j (p0.1 + 1, p0.2)
  let bt := ins ps j (p0.1, p0.2.take 3 ++ [(50, 1)])
  refine sv_seq (nx' := (· = OO a m r bs ps (some (.dat (.int (j : Int)))) (some (.dat (.int b0.1))) (some (.dat (.int b0.2))) (some (.dat (.int p0.1))) (some (.dat (.lst (p0.2.map bend2)))) (some (.dat (.lst (wd.map Lk.pairD)))) none none none none)) (sv_set (e_ins v4 (ev_var rfl) rfl (ev_t2 (ev_iI (ev_var rfl) ev_int) (ev_var rfl)) lb (map_ins Lk.pairD bs j (b0.1 - 1, b0.2))) fun d e => by rw [e]; rfl) ?_
  rintro _ rfl
  refine sv_seq (nx' := (· = OO a m r bs ps (some (.dat (.int (j : Int)))) (some (.dat (.int b0.1))) (some (.dat (.int b0.2))) (some (.dat (.int p0.1))) (some (.dat (.lst (p0.2.map bend2)))) (some (.dat (.lst (wd.map Lk.pairD)))) (some (.dat (.lst (dr.map (prD true))))) none none none)) (sv_set (e_ins v5 (ev_var rfl) rfl (ev_t2 (ev_addI (ev_var rfl) ev_int) (ev_var rfl)) lq (map_ins (prD true) ps j (p0.1 + 1, p0.2))) fun d e => by rw [e]; rfl) ?_
  rintro _ rfl
  refine sv_seq (nx' := (· = OO a m r bs ps (some (.dat (.int (j : Int)))) (some (.dat (.int b0.1))) (some (.dat (.int b0.2))) (some (.dat (.int p0.1))) (some (.dat (.lst (p0.2.map bend2)))) (some (.dat (.lst (wd.map Lk.pairD)))) (some (.dat (.lst (dr.map (prD true))))) (some (.dat (.lst (bt.map (prD true))))) none none)) (sv_set (e_ins v5 (ev_var rfl) rfl (ev_t2 (y := .lst ((p0.2.take 3 ++ [(50, 1)]).map bend2)) (ev_var rfl) ((ev_catE (e_take (i := 3) (xs := p0.2.map bend2) (ev_var rfl) ev_int (by decide)) (ev_lst1 (ev_t2 ev_int ev_int)) (by rw [List.length_take, List.length_map]; have := okp.few; show _ + 1 ≤ _; omega)).mono fun d e => by rw [e, List.map_append, List.map_take]; rfl)) lq (map_ins (prD true) ps j (p0.1, p0.2.take 3 ++ [(50, 1)]))) fun d e => by rw [e]; rfl) ?_
  rintro _ rfl
  refine sv_seq (nx' := (· = OO a m r bs ps (some (.dat (.int (j : Int)))) (some (.dat (.int b0.1))) (some (.dat (.int b0.2))) (some (.dat (.int p0.1))) (some (.dat (.lst (p0.2.map bend2)))) (some (.dat (.lst (wd.map Lk.pairD)))) (some (.dat (.lst (dr.map (prD true))))) (some (.dat (.lst (bt.map (prD true))))) (some (.dat (.lst [partsD (m + 1) r bs ps, partsD m (r - 1) bs ps, partsD m r wd ps, partsD m r bs dr]))) none)) (sv_set (ev_lstE (ea_consE (e_parts4 (ev_addI v2 ev_int) v3 v4 v5) (ea_consE (e_parts4 v2 (ev_iI v3 ev_int) v4 v5) (ea_consE (e_parts4 v2 v3 (ev_var rfl) v5) (ea_consE (e_parts4 v2 v3 v4 (ev_var rfl)) ea_nilE)))) (by show 4 ≤ 100000; decide)) fun d e => by rw [e]; rfl) ?_
  rintro _ rfl
  refine sv_seq (nx' := fun ds' => ∃ (b2 : List (Int × Int)) (p2 : List (Int × List (Int × Int))), b2.length ≠ bs.length ∧ 1 ≤ b2.length ∧ b2.length ≤ 6 ∧ p2.length = b2.length ∧ (∀ q ∈ b2, q ∈ bs) ∧ (∀ q ∈ p2, q ∈ ps) ∧ ds' = OO a m r bs ps (some (.dat (.int (j : Int)))) (some (.dat (.int b0.1))) (some (.dat (.int b0.2))) (some (.dat (.int p0.1))) (some (.dat (.lst (p0.2.map bend2)))) (some (.dat (.lst (wd.map Lk.pairD)))) (some (.dat (.lst (dr.map (prD true))))) (some (.dat (.lst (bt.map (prD true))))) (some (.dat (.lst [partsD (m + 1) r bs ps, partsD m (r - 1) bs ps, partsD m r wd ps, partsD m r bs dr]))) (some (.dat (.tup [.lst (b2.map Lk.pairD), .lst (p2.map (prD true))])))) (sv_set (P := fun d => ∃ (b2 : List (Int × Int)) (p2 : List (Int × List (Int × Int))), b2.length ≠ bs.length ∧ 1 ≤ b2.length ∧ b2.length ≤ 6 ∧ p2.length = b2.length ∧ (∀ q ∈ b2, q ∈ bs) ∧ (∀ q ∈ p2, q ∈ ps) ∧ d = .tup [.lst (b2.map Lk.pairD), .lst (p2.map (prD true))]) (Ev.mono (ev_if (B := fun b => b = decide ((bs.length : Int) > 1)) (PX := (· = .tup [.lst ((bs.map Lk.pairD).take ((bs.map Lk.pairD).length - 1)), .lst ((ps.map (prD true)).take ((ps.map (prD true)).length - 1))])) (PY := (· = .tup [.lst (bs.map Lk.pairD ++ bs.map Lk.pairD), .lst (ps.map (prD true) ++ ps.map (prD true))])) ((et_iE (f := fun i j => decide (i > j)) (ev_len (k := true) v4) ev_int).mono fun b e => by rw [e, List.length_map]) (fun _ => ev_t2 (e_m1 v4) (e_m1 v5)) fun _ => ev_t2 (e_twice v4 lb) (e_twice v5 lq)) ?_) ?_) ?_
  · rintro d (⟨hb, e⟩ | ⟨hb, e⟩)
    · have : (bs.length : Int) > 1 := of_decide_eq_true hb.symm
      refine ⟨bs.take (bs.length - 1), ps.take (ps.length - 1), ?_, ?_, ?_, ?_, fun q hq => List.mem_of_mem_take hq, fun q hq => List.mem_of_mem_take hq, ?_⟩
      · rw [List.length_take]; omega
      · rw [List.length_take]; omega
      · rw [List.length_take]; omega
      · rw [List.length_take, List.length_take]; omega
      · rw [e, List.length_map, List.length_map, ← List.map_take, ← List.map_take]
    · have : ¬ (bs.length : Int) > 1 := of_decide_eq_false hb.symm
      refine ⟨bs ++ bs, ps ++ ps, ?_, ?_, ?_, ?_, fun q hq => (List.mem_append.mp hq).elim id id, fun q hq => (List.mem_append.mp hq).elim id id, ?_⟩
      · rw [List.length_append]; omega
      · rw [List.length_append]; omega
      · rw [List.length_append]; omega
      · rw [List.length_append, List.length_append]; omega
      · rw [e, ← List.map_append, ← List.map_append]
  · rintro d ⟨b2, p2, h1, h2, h3, h4, h5, h6, e⟩
    exact ⟨b2, p2, h1, h2, h3, h4, h5, h6, by rw [e]; rfl⟩
  rintro _ ⟨b2, p2, n2, g1, g6, gp, mb, mp, rfl⟩
  have c0 : ∀ {x6 x7 x8 x9 x10 x11 x12 x13 x14 : Option Slot}, Ev cls p (tOp (rIx K) (tVar 15) (tC (.int 0))) (OO a m r bs ps x6 x7 x8 x9 x10 x11 x12 x13 x14 (some (.dat (.tup [.lst (b2.map Lk.pairD), .lst (p2.map (prD true))])))) (· = .lst (b2.map Lk.pairD)) := ev_ixI (k := false) (xs := [.lst (b2.map Lk.pairD), .lst (p2.map (prD true))]) (ev_var rfl) ev_int rfl
  have c1 : ∀ {x6 x7 x8 x9 x10 x11 x12 x13 x14 : Option Slot}, Ev cls p (tOp (rIx K) (tVar 15) (tC (.int 1))) (OO a m r bs ps x6 x7 x8 x9 x10 x11 x12 x13 x14 (some (.dat (.tup [.lst (b2.map Lk.pairD), .lst (p2.map (prD true))])))) (· = .lst (p2.map (prD true))) := ev_ixI (k := false) (xs := [.lst (b2.map Lk.pairD), .lst (p2.map (prD true))]) (ev_var rfl) ev_int rfl
  refine sv_ret (ev_catE (xs := [partsD (m + 1) r bs ps, partsD m (r - 1) bs ps, partsD m r wd ps, partsD m r bs dr]) (ys := [partsD m r bs bt, partsD m r b2 p2]) (ev_var rfl) (ev_lst2 (e_parts4 v2 v3 v4 (ev_var rfl)) (e_parts4 v2 v3 c0 c1)) (by show 4 + 2 ≤ 100000; decide)) fun d e => ⟨a, m, r, bs, ps, rfl, _, e, by show 6 ≤ 10; decide, ?_⟩
  have k := ok.k
  have kw : (m + 1).natAbs < 2 ^ 200 := by
    have e100 : (2 : Nat) ^ 100 + 1 ≤ 2 ^ 200 := by decide
    exact Nat.lt_of_lt_of_le (Nat.lt_of_le_of_lt (Int.natAbs_add_le m 1) (Nat.add_lt_add_right ok.mw 1)) e100
  have wne : wd ≠ bs := ins_ne hj (by rw [hb0]; intro z; have := congrArg Prod.fst z; dsimp only at this; omega)
  have dne : dr ≠ ps := ins_ne hj2 (by rw [hp0]; intro z; have := congrArg Prod.fst z; dsimp only at this; omega)
  have bne : bt ≠ ps := ins_ne hj2 (by rw [hp0]; intro z; exact bent_ne okp (congrArg Prod.snd z))
  intro o ho
  simp only [List.cons_append, List.nil_append, List.mem_cons, List.not_mem_nil, or_false] at ho
  have := ok.m0
  have := ok.rw
  rcases ho with rfl | rfl | rfl | rfl | rfl | rfl
  · exact ⟨_, _, _, _, rfl, ⟨by omega, kw, k.rw, k.l1, k.l6, k.lp, k.bo, k.pr⟩, fun z => by have := (kind_inj z).1; omega⟩
  · exact ⟨_, _, _, _, rfl, ⟨k.m0, k.mw, pow_le (a := 10) (by omega) (by omega), k.l1, k.l6, k.lp, k.bo, k.pr⟩, fun z => by have := (kind_inj z).2.1; omega⟩
  · refine ⟨_, _, _, _, rfl, ⟨k.m0, k.mw, k.rw, by rw [ins_len hj]; exact l1, by rw [ins_len hj]; exact l6, by rw [ins_len hj]; exact lp, fun q hq => ?_, k.pr⟩, fun z => wne (kind_inj z).2.2.1⟩
    rcases ins_mem hq with rfl | hq
    · exact ⟨by show b0.1 - 1 ≤ b0.2; omega, pow_le (a := 61) (by show (b0.1 - 1).natAbs < _; omega) (by omega), pow_le okb.2.2 (by omega)⟩
    · exact k.bo q hq
  · refine ⟨_, _, _, _, rfl, ⟨k.m0, k.mw, k.rw, l1, l6, by rw [ins_len hj2]; exact lp, k.bo, fun q hq => ?_⟩, fun z => dne (kind_inj z).2.2.2⟩
    rcases ins_mem hq with rfl | hq
    · exact okQ1s okp
    · exact k.pr q hq
  · refine ⟨_, _, _, _, rfl, ⟨k.m0, k.mw, k.rw, l1, l6, by rw [ins_len hj2]; exact lp, k.bo, fun q hq => ?_⟩, fun z => bne (kind_inj z).2.2.2⟩
    rcases ins_mem hq with rfl | hq
    · exact okQb okp
    · exact k.pr q hq
  · exact ⟨_, _, _, _, rfl, ⟨k.m0, k.mw, k.rw, g1, g6, gp, fun q hq => k.bo q (mb q hq), fun q hq => k.pr q (mp q hq)⟩, fun z => n2 (by rw [(kind_inj z).2.2.1])⟩
end K43

namespace K43
open PySem PySem.Spec PyProof.Rows L2 Lk
structure C_is_price (P : Program) (w : World) (K : PySem.W.Frag) (mg : Str → Option Value) (base : Heap) (cls : Cl) : Prop where
  is_rising : Cal P w K mg base "is_rising" 1 ["numbers"] [] (spG cls 1 pre_is_rising F_is_rising)
  is_bend : Cal P w K mg base "is_bend" 2 ["value"] [] (spG cls 1 pre_is_bend F_is_bend)
  is_list : Cal P w K mg base "is_list" 1 ["value"] [] (spG cls 1 pre_is_list F_is_list)
  is_integer : Cal P w K mg base "is_integer" 1 ["value"] [] (spG cls 1 pre_is_integer F_is_integer)
theorem ok_is_price {P : Program} {w : World} {K : PySem.W.Frag} {mg : Str → Option Value} {base : Heap} {cls : Cl} {f : Addr} {fd : FuncData} (F : Fun K "is_price" "is_price" s_is_price f fd) (Z : Bt mg) (Gc : Gcs mg) (Gk : Gks K mg cls) (C : C_is_price P w K mg base cls) (hK : cls.K = K) :
    GOk P w K mg base 3 f fd ["value"] (spG cls 1 pre_is_price F_is_price) := by
  have sc := sc_is_price
  refine gok_ev (m := 5) F sc rfl rfl fun cdv A out s H E hg hr => ⟨_, (pss_cons (ps_if (PW.pt (pw_or (pt_not (pt_val (pe_callB (kIsi (K := K) (by rfl)) (by rfl) Z.isinstance (by decide +kernel) (pa_cons (pv 0) (pa_cons (pe_bltn (v := .ty "tuple") (by rfl) Z.tuple (by decide +kernel) rfl) pa_nil))))) (pw_or1 (pt_cmpR (opNe (K := K) (by rfl) (room_u hr)) (pe_callB (kLen (K := K) (by rfl)) (by rfl) Z.len (by decide +kernel) (pa_cons (pv 0) pa_nil)) pe_int (nomark _))))) (pss_one (ps_ret pe_bl)) pss_nil)
      (pss_cons (ps_asg (pv 0) (pgTup (n := 2) (K := K) (by rfl) (by rfl) (pgs_cons (pg_name (i := 1) sc.nd rfl (by first | exact Or.inl rfl | exact Or.inr rfl)) (pgs_cons (pg_name (i := 2) sc.nd rfl (by first | exact Or.inl rfl | exact Or.inr rfl)) pgs_nil))))
      (pss_cons (ps_if (PW.pt (pw_or (pt_not (pt_val (pe_callC C.is_integer hg (hr.mono (by decide)) (by rfl) (pa_cons (pv 1) pa_nil)))) (pw_or (pt_not (pt_val (pe_callC C.is_list hg (hr.mono (by decide)) (by rfl) (pa_cons (pv 2) pa_nil)))) (pw_or1 (pt_cmpR op_gt (pe_callB (kLen (K := K) (by rfl)) (by rfl) Z.len (by decide +kernel) (pa_cons (pv 2) pa_nil)) (pe_glob (v := .int 4) (by rfl) Gc.MOST_BENDS.choose_spec ⟨_, rfl⟩) (nomark _)))))) (pss_one (ps_ret pe_bl)) pss_nil)
      (pss_one (ps_ret (pe_and (pe_callB (kAll (K := K) (by rfl) (by rfl)) (by rfl) Z.all (by decide +kernel) (pa_cons (pe_lc (own := [("bend", 3)]) rfl sc.nd (pi_or (piList (K := K) (by rfl) (pv 2)) (piTup (K := K) (by rfl) (pv 2))) (blkOk_by (by kernel_rfl)) (fun _ _ _ _ _ => (pg_name (i := 3) sc.nd rfl (by first | exact Or.inl rfl | exact Or.inr rfl))) (fun _ _ _ _ _ => pts_nil) (fun _ _ _ _ _ => (pe_callC C.is_bend hg (hr.mono (by decide)) (by rfl) (pa_cons (pv 3) pa_nil)))) pa_nil)) (pe_one (pe_callC C.is_rising hg (hr.mono (by decide)) (by rfl) (pa_cons (pe_lc (own := [("place", 4), ("more", 5)]) rfl sc.nd (pi_or (piList (K := K) (by rfl) (pv 2)) (piTup (K := K) (by rfl) (pv 2))) (blkOk_by (by kernel_rfl)) (fun _ _ _ _ _ => (pgTup (n := 2) (K := K) (by rfl) (by rfl) (pgs_cons (pg_name (i := 4) sc.nd rfl (by first | exact Or.inl rfl | exact Or.inr rfl)) (pgs_cons (pg_name (i := 5) sc.nd rfl (by first | exact Or.inl rfl | exact Or.inr rfl)) pgs_nil)))) (fun _ _ _ _ _ => pts_nil) (fun _ _ _ _ _ => (pv 4))) pa_nil))))))))), ?_⟩
  intro p xs hl hp
  obtain ⟨d, n, rfl, hs⟩ := hp
  have hb := shE_built hs
  have no : tup2 d = false → isPr d = false := by
    intro h
    cases d with
    | tup xs => match xs, h with
      | [], _ => rfl
      | [_], _ => rfl
      | _ :: _ :: _ :: _, _ => rfl
    | _ => rfl
  refine sv_seq (nx' := fun ds' => tup2 d = true ∧ ds' = entry 5 [d]) (sv_ifE (b := !tup2 d) (et_tup2 (ev_var rfl) hb) (fun e => sv_ret ev_bl fun r er => ⟨d, rfl, ?_⟩) fun e => sv_next ⟨(by cases h : tup2 d with | true => rfl | false => (rw [h] at e; cases e)), rfl⟩) ?_
  · rw [er, no (by cases h : tup2 d with | false => rfl | true => rw [h] at e; cases e)]
  rintro _ ⟨ht, rfl⟩
  obtain ⟨s, bs, rfl⟩ := tup2_of ht
  obtain ⟨m, hm⟩ := shE_items hs rfl
  have bS := shE_built (hm s (List.mem_cons_self ..))
  have sB := hm bs (List.mem_cons_of_mem _ (List.mem_cons_self ..))
  have bB := shE_built sB
  refine sv_seq (nx' := (· = [some (.dat (.tup [s, bs])), some (.dat s), some (.dat bs), none, none, none])) (sv_asg (ev_var rfl) fun d' e => ⟨_, by rw [e]; exact eg_tup (egs_cons (egs_cons egs_nil)) rfl, rfl⟩) ?_
  rintro _ rfl
  refine sv_seq (nx' := fun ds' => isInt s = true ∧ isSq bs = true ∧ (items bs).length ≤ 4 ∧ ds' = [some (.dat (.tup [s, bs])), some (.dat s), some (.dat bs), none, none, none]) (sv_ifE (b := !isInt s || (!isSq bs || decide ((4 : Int) < (items bs).length))) (et_orE (et_notE (et_Bt (e_int (ev_var rfl) bS))) fun _ => et_orE (et_notE (et_Bt (e_list (ev_var rfl) bB))) fun h => ?_) (fun e => sv_ret ev_bl fun r er => ⟨_, rfl, ?_⟩) fun e => sv_next ?_) ?_
  · obtain ⟨k, hk⟩ := shE_len sB (by cases z : isSq bs with | true => rfl | false => rw [z] at h; cases h)
    exact et_iE (ev_len (k := k) (xs := items bs) ((ev_var rfl).mono fun d' e => e.trans hk)) ev_int
  · rw [er]
    show _ = D.bl (isInt s && (isSq bs && (decide ((items bs).length ≤ 4) && _)))
    cases h1 : isInt s with
    | false => rfl
    | true =>
      cases h2 : isSq bs with
      | false => rfl
      | true =>
        rw [h1, h2] at e
        have : (4 : Int) < (items bs).length := of_decide_eq_true e
        rw [decide_eq_false (show ¬ (items bs).length ≤ 4 by omega)]
        rfl
  · cases h1 : isInt s with
    | false => rw [h1] at e; cases e
    | true =>
      cases h2 : isSq bs with
      | false => rw [h1, h2] at e; cases e
      | true =>
        rw [h1, h2] at e
        have : ¬ (4 : Int) < (items bs).length := of_decide_eq_false e
        exact ⟨rfl, rfl, by omega, rfl⟩
  rintro _ ⟨h1, h2, h4, rfl⟩
  obtain ⟨k, hk⟩ := shE_len sB h2
  obtain ⟨mm, hmm⟩ := shE_items sB h2
  have vb : Ev cls p (tVar 2) [some (.dat (.tup [s, bs])), some (.dat s), some (.dat bs), none, none, none] (· = sq k (items bs)) := (ev_var rfl).mono fun d' e => e.trans hk
  refine sv_ret (ev_andB (a := ((items bs).map bendOk).all id) (b := rise ((items bs).map plc)) (ev_all (Ev.mono (ev_lcF (js := [3]) (xs := items bs) (f := fun x => .bl (bendOk x)) (ei_row vb) (Nat.le_trans h4 (by decide)) (by decide) rfl fun x hx => ⟨_, eg_name, rfl, e_bend (ev_var rfl) (hmm x hx)⟩) fun d e => by rw [e, List.map_map]; rfl)) fun h => ?_) fun r e => ⟨_, rfl, ?_⟩
  · refine e_rising ((ev_lcF (js := [4, 5]) (xs := items bs) (f := fun x => .int (plc x)) (ei_row vb) (Nat.le_trans h4 (by decide)) (by decide) rfl fun x hx => ?_).mono fun d e => ?_) (by rw [List.length_map]; omega)
    · have hx : bendOk x = true := by
        rw [List.all_map] at h
        exact List.all_eq_true.mp h x hx
      obtain ⟨i, j, rfl, _⟩ := bend_of hx
      exact ⟨_, eg_tup (egs_cons (egs_cons egs_nil)) rfl, rfl, ev_var rfl⟩
    · rw [e]
      show D.lst _ = D.lst (((items bs).map plc).map D.int)
      rw [List.map_map]
      rfl
  · rw [e, List.all_map]
    show D.bl (_ && _) = D.bl (isInt s && (isSq bs && (decide ((items bs).length ≤ 4) && ((items bs).all bendOk && rise ((items bs).map plc)))))
    rw [h1, h2, decide_eq_true h4]
    rfl
end K43

namespace K43
open PySem PySem.Spec PyProof.Rows L2 Lk
structure C_are_bounds (P : Program) (w : World) (K : PySem.W.Frag) (mg : Str → Option Value) (base : Heap) (cls : Cl) : Prop where
  is_bound : Cal P w K mg base "is_bound" 2 ["value"] [] (spG cls 1 pre_is_bound F_is_bound)
  is_list : Cal P w K mg base "is_list" 1 ["value"] [] (spG cls 1 pre_is_list F_is_list)
theorem ok_are_bounds {P : Program} {w : World} {K : PySem.W.Frag} {mg : Str → Option Value} {base : Heap} {cls : Cl} {f : Addr} {fd : FuncData} (F : Fun K "are_bounds" "are_bounds" s_are_bounds f fd) (Z : Bt mg) (Gc : Gcs mg) (Gk : Gks K mg cls) (C : C_are_bounds P w K mg base cls) (hK : cls.K = K) :
    GOk P w K mg base 3 f fd ["value"] (spG cls 1 pre_are_bounds F_are_bounds) := by
  have sc := sc_are_bounds
  refine gok_ev (m := 1) F sc rfl rfl fun cdv A out s H E hg hr => ⟨_, (pss_one (ps_ret (pe_and (pe_callC C.is_list hg (hr.mono (by decide)) (by rfl) (pa_cons (pv 0) pa_nil)) (pe_and (pe_chain op_le op_le pe_int (pe_callB (kLen (K := K) (by rfl)) (by rfl) Z.len (by decide +kernel) (pa_cons (pv 0) pa_nil)) (pe_glob (v := .int 6) (by rfl) Gc.MOST_COLUMNS.choose_spec ⟨_, rfl⟩)) (pe_one (pe_callB (kAll (K := K) (by rfl) (by rfl)) (by rfl) Z.all (by decide +kernel) (pa_cons (pe_lc (own := [("entry", 1)]) rfl sc.nd (pi_or (piList (K := K) (by rfl) (pv 0)) (piTup (K := K) (by rfl) (pv 0))) (blkOk_by (by kernel_rfl)) (fun _ _ _ _ _ => (pg_name (i := 1) sc.nd rfl (by first | exact Or.inl rfl | exact Or.inr rfl))) (fun _ _ _ _ _ => pts_nil) (fun _ _ _ _ _ => (pe_callC C.is_bound hg (hr.mono (by decide)) (by rfl) (pa_cons (pv 1) pa_nil)))) pa_nil))))))), ?_⟩
  intro p xs hl hp
  obtain ⟨k, bs, rfl, l1, l6, hb⟩ := hp
  have vb : ∀ {o : Option Slot}, Ev cls p (tVar 0) [some (.dat (sq k (bs.map Lk.pairD))), o] (· = sq k (bs.map Lk.pairD)) := ev_var rfl
  refine sv_ret (ev_andT ((e_list vb (by cases k <;> rfl)).mono fun d e => by rw [e]; cases k <;> rfl) (ev_andT ((ev_chain ev_int (ev_len vb) ev_int intP intP intP).mono ?_) ((ev_all (bs := bs.map fun _ => true) (Ev.mono (ev_lcF (js := [1]) (xs := bs.map Lk.pairD) (f := fun _ => .bl true) (ei_row vb) (by rw [List.length_map]; omega) (by decide) rfl fun x hx => ?_) fun d e => by rw [e, List.map_map, List.map_map]; rfl)).mono fun d e => by rw [e, List.all_map]; exact congrArg D.bl (List.all_eq_true.mpr fun _ _ => rfl)))) fun r e => e
  · rintro d ⟨i, j, e1, e2, h⟩
    cases e1; cases e2
    rw [List.length_map] at h
    rcases h with ⟨h, e⟩ | ⟨h, k', e3, e⟩
    · exact absurd h (by rw [decide_eq_true (show (1 : Int) ≤ bs.length by omega)]; exact fun z => nomatch z)
    · cases e3
      rw [e, decide_eq_true (show (bs.length : Int) ≤ 6 by omega)]
  · obtain ⟨q, hq, rfl⟩ := List.mem_map.mp hx
    exact ⟨_, eg_name, rfl, ev_c1 (ev_var rfl) ⟨q, rfl, hb q hq⟩ fun r z => z⟩
end K43

namespace K43
open PySem PySem.Spec PyProof.Rows L2 Lk
structure C_price_ (P : Program) (w : World) (K : PySem.W.Frag) (mg : Str → Option Value) (base : Heap) (cls : Cl) : Prop where
  draw_ : Cal P w K mg base "_law_draw" 1 ["_law_pot_here", "_law_many"] [] (spG cls 2 pre_draw_ F_draw_)
  mixed_ : Cal P w K mg base "_law_mixed" 2 ["_law_pot_here", "_law_some"] [] (spG cls 2 pre_mixed_ F_mixed_)
  pick_ : Cal P w K mg base "_law_pick" 2 ["_law_pot_here", "_law_some"] [] (spG cls 2 pre_pick_ F_pick_)
theorem ok_price_ {P : Program} {w : World} {K : PySem.W.Frag} {mg : Str → Option Value} {base : Heap} {cls : Cl} {f : Addr} {fd : FuncData} (F : Fun K "_law_price" "_law_price" s_price_ f fd) (Z : Bt mg) (Gc : Gcs mg) (Gk : Gks K mg cls) (C : C_price_ P w K mg base cls) (hK : cls.K = K) :
    GOk P w K mg base 3 f fd ["_law_pot_here"] (spG cls 1 pre_price_ F_price_) := by
  have sc := sc_price_
  refine gok_ev (m := 3) F sc rfl rfl fun cdv A out s H E hg hr => ⟨_, (pss_cons (ps_set (i := 1) sc.nd rfl (by first | exact Or.inl rfl | exact Or.inr rfl) (pe_callB (kSortedQ (K := K) (by rfl)) (by rfl) Z.sorted (by decide +kernel) (pa_cons (pe_slice (kSl (K := K) (by rfl)) (pe_callC C.mixed_ hg (hr.mono (by decide)) (by rfl) (pa_cons (pv 0) (pa_cons (pe_lst (pa_cons (pe_un un_neg pe_int) (pa_cons (pe_un un_neg pe_int) (pa_cons (pe_un un_neg pe_int) (pa_cons pe_int (pa_cons pe_int (pa_cons pe_int (pa_cons pe_int (pa_cons pe_int (pa_cons pe_int pa_nil)))))))))) pa_nil))) po_none (po_some (pe_callC C.pick_ hg (hr.mono (by decide)) (by rfl) (pa_cons (pv 0) (pa_cons (pe_lst (pa_cons pe_int (pa_cons pe_int (pa_cons pe_int (pa_cons pe_int (pa_cons pe_int (pa_cons pe_int pa_nil))))))) pa_nil))))) pa_nil)))
      (pss_cons (ps_set (i := 2) sc.nd rfl (by first | exact Or.inl rfl | exact Or.inr rfl) (pe_ifExp (pt_cmpR op_gt (pe_callC C.draw_ hg (hr.mono (by decide)) (by rfl) (pa_cons (pv 0) (pa_cons pe_int pa_nil))) pe_int (nomark _)) (pe_op op_sub (pe_callC C.draw_ hg (hr.mono (by decide)) (by rfl) (pa_cons (pv 0) (pa_cons pe_int pa_nil))) pe_int) (pe_op (opMul (K := K) (by rfl)) (pe_op op_sub (pe_callC C.draw_ hg (hr.mono (by decide)) (by rfl) (pa_cons (pv 0) (pa_cons pe_int pa_nil))) pe_int) (pe_op op_pow pe_int pe_int))))
      (pss_one (ps_ret (pe_tup (pa_cons (pv 2) (pa_cons (pe_lc (own := [("_law_place", 3)]) rfl sc.nd (pi_or (piList (K := K) (by rfl) (pv 1)) (piTup (K := K) (by rfl) (pv 1))) (blkOk_by (by kernel_rfl)) (fun _ _ _ _ _ => (pg_name (i := 3) sc.nd rfl (by first | exact Or.inl rfl | exact Or.inr rfl))) (fun _ _ _ _ _ => pts_nil) (fun _ _ _ _ _ => (pe_tup (pa_cons (pv 3) (pa_cons (pe_op opAdd pe_int (pe_callC C.draw_ hg (hr.mono (by decide)) (by rfl) (pa_cons (pv 0) (pa_cons pe_int pa_nil)))) pa_nil))))) pa_nil))))))), ?_⟩
  intro p xs hl hp
  obtain ⟨a, rfl, hp⟩ := hp
  let L9 : List Int := [-4, -2, -1, 0, 1, 2, 3, 5, 8]
  let L6 : List D := [.int 0, .int 0, .int 1, .int 2, .int 3, .int 4]
  refine sv_seq (nx' := fun ds' => ∃ ps : List Int, ps.length ≤ 4 ∧ ps.Pairwise (· < ·) ∧ (∀ x ∈ ps, x.natAbs ≤ 8) ∧ ds' = [some (.dat (.adr a)), some (.dat (row true ps)), none, none]) (sv_set (ev_sortedP (PA := fun ps => ps.length ≤ 4 ∧ ps.Nodup ∧ ∀ x ∈ ps, x.natAbs ≤ 8) (Ev.mono (ev_slL (P := fun d => ∃ b : List Int, b.Perm L9 ∧ d = row true b) (OH := fun o => ∃ i : Int, 0 ≤ i ∧ i ≤ 4 ∧ o = some i) ?_ eo_none ?_ fun d ⟨b, _, e⟩ => ⟨_, e⟩) ?_) fun ps hps => by omega) ?_) ?_
  · refine ev_call' (ea2 (ev_var rfl) (ev_lstE (xs := L9.map D.int) (ea_consE (ev_negI ev_int) (ea_consE (ev_negI ev_int) (ea_consE (ev_negI ev_int) (ea_consE ev_int (ea_consE ev_int (ea_consE ev_int (ea_consE ev_int (ea_consE ev_int (ea_consE ev_int ea_nilE))))))))) (by show 9 ≤ 100000; decide))) ?_
    rintro _ ⟨x, y, ex, ey, rfl⟩
    rw [ex, ey]
    exact ⟨rfl, ⟨a, L9, rfl, hp, by show 9 ≤ 64; decide⟩, fun r ⟨a', l', b, e, er, pm⟩ => ⟨b, by rw [row_inj (k := true) (l := true) (a := L9) (b := l') (List.cons.inj (List.cons.inj e).2).1]; exact pm, er⟩⟩
  · refine EvO.mono (eo_some (P := fun d => ∃ i : Int, 0 ≤ i ∧ i ≤ 4 ∧ d = .int i) (ev_call' (ea2 (ev_var rfl) (ev_lstE (xs := L6) (ea_consE ev_int (ea_consE ev_int (ea_consE ev_int (ea_consE ev_int (ea_consE ev_int (ea_consE ev_int ea_nilE)))))) (by show 6 ≤ 100000; decide))) ?_) fun d ⟨i, _, _, e⟩ => ⟨i, e⟩) ?_
    · rintro _ ⟨x, y, ex, ey, rfl⟩
      rw [ex, ey]
      refine ⟨rfl, ⟨a, L6, rfl, hp, (fun z => nomatch z), by show 6 < 1000; decide⟩, fun r ⟨a', ys, e, hr⟩ => ?_⟩
      have e2 := D.lst.inj (List.cons.inj (List.cons.inj e).2).1
      rw [← e2] at hr
      simp only [L6, List.mem_cons, List.not_mem_nil, or_false] at hr
      rcases hr with rfl | rfl | rfl | rfl | rfl | rfl
      · exact ⟨0, by decide, by decide, rfl⟩
      · exact ⟨0, by decide, by decide, rfl⟩
      · exact ⟨1, by decide, by decide, rfl⟩
      · exact ⟨2, by decide, by decide, rfl⟩
      · exact ⟨3, by decide, by decide, rfl⟩
      · exact ⟨4, by decide, by decide, rfl⟩
    · rintro o ⟨i, ⟨j, h0, h1, e⟩, e2⟩
      cases e
      exact ⟨i, h0, h1, e2⟩
  · rintro d ⟨xs, lo, hi, ⟨b, pm, e⟩, rfl, ⟨i, h0, h1, rfl⟩, rfl⟩
    have e : xs = b.map D.int := D.lst.inj e
    refine ⟨b.take i.toNat, ⟨?_, ?_, ?_⟩, ?_⟩
    · rw [List.length_take]; omega
    · exact ((List.Perm.nodup_iff pm).mpr (by decide)).sublist (List.take_sublist _ _)
    · intro x hx
      have := pm.mem_iff.mp (List.mem_of_mem_take hx)
      exact (show ∀ x ∈ L9, x.natAbs ≤ 8 by decide) x this
    · rw [cut_take h0, e]
      show D.lst _ = D.lst _
      rw [List.map_take]
  · rintro d ⟨a', b, ⟨l4, nd, h8⟩, pm, pw, rfl⟩
    refine ⟨b, by rw [pm.length_eq]; exact l4, ?_, fun x hx => h8 x (pm.mem_iff.mp hx), rfl⟩
    have nb : b.Nodup := (List.Perm.nodup_iff pm).mpr nd
    exact (List.Pairwise.and pw nb).imp fun ⟨h1, h2⟩ => by omega
  rintro _ ⟨ps, l4, up, h8, rfl⟩
  refine sv_seq (nx' := fun ds' => ∃ s : Int, s.natAbs < 2 ^ 100 ∧ ds' = [some (.dat (.adr a)), some (.dat (row true ps)), some (.dat (.int s)), none]) (sv_set (P := fun d => ∃ s : Int, s.natAbs < 2 ^ 100 ∧ d = .int s) (Ev.mono (ev_if (B := fun _ => True) (PX := fun d => ∃ s : Int, s.natAbs < 2 ^ 100 ∧ d = .int s) (PY := fun d => ∃ s : Int, s.natAbs < 2 ^ 100 ∧ d = .int s) (ET.mono (et_test (ev_op (ev_draw rfl hp ev_int (by decide) (by decide)) ev_int (rv_B0 intDraw intP)) blP_S) fun _ _ => trivial) (fun _ => ?_) fun _ => ?_) ?_) ?_) ?_
  · refine (ev_op (ev_draw rfl hp ev_int (by decide) (by decide)) ev_int (rv_I0 intDraw intP)).mono ?_
    rintro d ⟨i, j, ⟨x, h0, h1, e⟩, e2, rfl⟩
    cases e; cases e2
    exact ⟨_, Nat.lt_of_lt_of_le (show (i - 4).natAbs < 2 ^ 10 by omega) (by decide), rfl⟩
  · refine (ev_op (PX := fun d => ∃ x : Int, x.natAbs ≤ 1000 ∧ d = .int x) (PY := fun d => d = .int (10 ^ 20)) ?_ (ev_powI ev_int ev_int ⟨by decide, by decide, by decide⟩) (rv_l (rv_IC (f := fun i j => i * j) (fun d ⟨x, _, e⟩ => ⟨x, e⟩) intP ?_))).mono ?_
    · refine (ev_op (ev_draw rfl hp ev_int (by decide) (by decide)) ev_int (rv_I0 intDraw intP)).mono ?_
      rintro d ⟨i, j, ⟨x, h0, h1, e⟩, e2, rfl⟩
      cases e; cases e2
      exact ⟨_, by omega, rfl⟩
    · rintro i j ⟨x, hx, e⟩ e2
      cases e; cases e2
      exact mulW (pow_le (a := 10) (by omega) (by omega)) (pow_le (a := 67) (by decide) (by omega))
    · rintro d ⟨i, j, ⟨x, hx, e⟩, e2, rfl⟩
      cases e; cases e2
      refine ⟨_, ?_, rfl⟩
      rw [Int.natAbs_mul]
      have : (10 ^ 20 : Int).natAbs = 100000000000000000000 := by decide
      rw [this]
      have p100 : (2 : Nat) ^ 100 = 1267650600228229401496703205376 := by decide
      omega
  · rintro d (⟨_, h⟩ | ⟨_, h⟩) <;> exact h
  · rintro d ⟨s, hs, rfl⟩
    exact ⟨s, hs, rfl⟩
  rintro _ ⟨s, hs, rfl⟩
  refine sv_ret (ev_tup (ea2 (PX := (· = .int s)) (PY := fun d => ∃ bs : List (Int × Int), bs.map (·.1) = ps ∧ (∀ q ∈ bs, 1 ≤ q.2 ∧ q.2 ≤ 5) ∧ d = .lst (bs.map bend2)) (ev_var rfl) (Ev.mono (ev_lcS (js := [3]) (xs := ps.map D.int) (Pe := fun x y => ∃ m : Int, 1 ≤ m ∧ m ≤ 5 ∧ y = .tup [x, .int m]) (ei_row (k := true) (ev_var rfl)) (by rw [List.length_map]; omega) (by decide) rfl fun x hx => ⟨_, eg_name, rfl, ?_⟩) ?_)) fun xs ⟨x, y, _, _, e⟩ => by rw [e]; show 2 ≤ 100000; decide) ?_
  · refine (ev_tup (ea2 (PX := (· = x)) (PY := fun d => ∃ m : Int, 1 ≤ m ∧ m ≤ 5 ∧ d = .int m) (ev_var rfl) ((ev_addP ev_int (ev_draw rfl hp ev_int (by decide) (by decide)) intP intDraw).mono ?_)) fun xs ⟨x, y, _, _, e⟩ => by rw [e]; show 2 ≤ 100000; decide).mono ?_
    · rintro d ⟨i, j, e, ⟨x, h0, h1, e2⟩, rfl⟩
      cases e; cases e2
      exact ⟨_, by dsimp only; omega, by dsimp only; omega, rfl⟩
    · rintro d ⟨xs, ⟨x', y, ex, ⟨m, m1, m5, ey⟩, exs⟩, rfl⟩
      exact ⟨m, m1, m5, by rw [exs, ex, ey]⟩
  · rintro d ⟨ys, pp, rfl⟩
    have gen : ∀ (ps : List Int) (ys : List D), Paired (fun x y => ∃ m : Int, 1 ≤ m ∧ m ≤ 5 ∧ y = D.tup [x, .int m]) (ps.map D.int) ys → ∃ bs : List (Int × Int), bs.map (·.1) = ps ∧ (∀ q ∈ bs, 1 ≤ q.2 ∧ q.2 ≤ 5) ∧ ys = bs.map bend2 := by
      intro ps
      induction ps with
      | nil => intro ys pp; cases pp; exact ⟨[], rfl, (fun q hq => nomatch hq), rfl⟩
      | cons x ps ih =>
        intro ys pp
        rw [List.map_cons] at pp
        cases pp with
        | cons h t =>
          obtain ⟨m, m1, m5, rfl⟩ := h
          obtain ⟨bs, e1, e2, rfl⟩ := ih _ t
          refine ⟨(x, m) :: bs, by rw [List.map_cons, e1], fun q hq => ?_, rfl⟩
          rcases List.mem_cons.mp hq with rfl | hq
          · exact ⟨m1, m5⟩
          · exact e2 q hq
    obtain ⟨bs, e1, e2, rfl⟩ := gen ps ys pp
    exact ⟨bs, e1, e2, rfl⟩
  · rintro d ⟨xs, ⟨x, y, ex, ⟨bs, e1, e2, ey⟩, exs⟩, rfl⟩
    refine ⟨s, bs, by rw [exs, ex, ey]; rfl, hs, ?_, by rw [e1]; exact up, fun q hq => ⟨h8 q.1 ?_, e2 q hq⟩⟩
    · rw [← List.length_map (f := fun q : Int × Int => q.1), e1]; exact l4
    · rw [← e1]; exact List.mem_map_of_mem hq
end K43

namespace K43
open PySem PySem.Spec PyProof.Rows L2 Lk
structure C_check_price (P : Program) (w : World) (K : PySem.W.Frag) (mg : Str → Option Value) (base : Heap) (cls : Cl) : Prop where
  is_price : Cal P w K mg base "is_price" 3 ["value"] [] (spG cls 1 pre_is_price F_is_price)
theorem ok_check_price {P : Program} {w : World} {K : PySem.W.Frag} {mg : Str → Option Value} {base : Heap} {cls : Cl} {f : Addr} {fd : FuncData} (F : Fun K "check_price" "check_price" s_check_price f fd) (Z : Bt mg) (Gc : Gcs mg) (Gk : Gks K mg cls) (C : C_check_price P w K mg base cls) (hK : cls.K = K) :
    GOk P w K mg base 4 f fd ["price"] (spG cls 1 pre_check_price F_check_price) := by
  have sc := sc_check_price
  refine gok_ev (m := 0) F sc rfl rfl fun cdv A out s H E hg hr => ⟨_, (pss_one (ps_if (pt_not (pt_val (pe_callC C.is_price hg (hr.mono (by decide)) (by rfl) (pa_cons (pv 0) pa_nil)))) (pss_one ps_never) pss_nil)), ?_⟩
  intro p xs hl hp
  obtain ⟨k, s, bs, rfl, ok⟩ := hp
  exact sv_guard ((et_notE (et_Bt (e_price (ev_var rfl) (sh_price ok).1))).mono fun b e => by rw [e, isPr_price ok]; rfl) rfl
end K43

namespace K43
open PySem PySem.Spec PyProof.Rows L2 Lk
structure C_Kind_init (P : Program) (w : World) (K : PySem.W.Frag) (mg : Str → Option Value) (base : Heap) (cls : Cl) : Prop where
  told_price : Cal P w K mg base "told_price" 1 ["price"] [] (spN cls 1 pre_told_price F_told_price)
  is_price : Cal P w K mg base "is_price" 3 ["value"] [] (spG cls 1 pre_is_price F_is_price)
  is_list : Cal P w K mg base "is_list" 1 ["value"] [] (spG cls 1 pre_is_list F_is_list)
  are_bounds : Cal P w K mg base "are_bounds" 3 ["value"] [] (spG cls 1 pre_are_bounds F_are_bounds)
  is_integer : Cal P w K mg base "is_integer" 1 ["value"] [] (spG cls 1 pre_is_integer F_is_integer)
  is_count : Cal P w K mg base "is_count" 2 ["value"] [] (spG cls 1 pre_is_count F_is_count)
theorem ok_Kind_init {P : Program} {w : World} {K : PySem.W.Frag} {mg : Str → Option Value} {base : Heap} {cls : Cl} {f : Addr} {fd : FuncData} (F : Fun K "__init__" "Kind.__init__" s_Kind_init f fd) (Z : Bt mg) (Gc : Gcs mg) (Gk : Gks K mg cls) (C : C_Kind_init P w K mg base cls) (hK : cls.K = K) :
    GOk P w K mg base 4 f fd ["self", "many", "rest", "bounds", "prices"] (spInitN cls 0 4 ["_many", "_rest", "_bounds", "_prices"] pre_Kind_init G_Kind_init) := by
  have sc := sc_Kind_init
  refine gok_initN (m := 1) F sc rfl rfl fun cdv A out s H E hg hr => ⟨_, (pss_cons (ps_if (pt_not (pt_val (pe_callC C.is_count hg (hr.mono (by decide)) (by rfl) (pa_cons (pv 1) pa_nil)))) (pss_one ps_never) pss_nil)
      (pss_cons (ps_if (pt_not (pt_val (pe_callC C.is_integer hg (hr.mono (by decide)) (by rfl) (pa_cons (pv 2) pa_nil)))) (pss_one ps_never) pss_nil)
      (pss_cons (ps_if (pt_not (pt_val (pe_callC C.are_bounds hg (hr.mono (by decide)) (by rfl) (pa_cons (pv 3) pa_nil)))) (pss_one ps_never) pss_nil)
      (pss_cons (ps_if (PW.pt (pw_or (pt_not (pt_val (pe_callC C.is_list hg (hr.mono (by decide)) (by rfl) (pa_cons (pv 4) pa_nil)))) (pw_or (pt_cmpR (opNe (K := K) (by rfl) (room_u hr)) (pe_callB (kLen (K := K) (by rfl)) (by rfl) Z.len (by decide +kernel) (pa_cons (pv 4) pa_nil)) (pe_callB (kLen (K := K) (by rfl)) (by rfl) Z.len (by decide +kernel) (pa_cons (pv 3) pa_nil)) (nomark _)) (pw_or1 (pt_not (pt_val (pe_callB (kAll (K := K) (by rfl) (by rfl)) (by rfl) Z.all (by decide +kernel) (pa_cons (pe_lc (own := [("price", 5)]) rfl sc.nd (pi_or (piList (K := K) (by rfl) (pv 4)) (piTup (K := K) (by rfl) (pv 4))) (blkOk_by (by kernel_rfl)) (fun _ _ _ _ _ => (pg_name (i := 5) sc.nd rfl (by first | exact Or.inl rfl | exact Or.inr rfl))) (fun _ _ _ _ _ => pts_nil) (fun _ _ _ _ _ => (pe_callC C.is_price hg (hr.mono (by decide)) (by rfl) (pa_cons (pv 5) pa_nil)))) pa_nil)))))))) (pss_one ps_never) pss_nil)
      (pss_cons (ps_fldK (K := K) (by rfl) (pv 0) (pv 1))
      (pss_cons (ps_fldK (K := K) (by rfl) (pv 0) (pv 2))
      (pss_cons (ps_fldK (K := K) (by rfl) (pv 0) (pe_callTy (kList (K := K) (by rfl)) (by rfl) Z.list (by decide +kernel) (pa_cons (pv 3) pa_nil)))
      (pss_one (ps_fldK (K := K) (by rfl) (pv 0) (pe_lc (own := [("price", 5)]) rfl sc.nd (pi_or (piList (K := K) (by rfl) (pv 4)) (piTup (K := K) (by rfl) (pv 4))) (blkOk_by (by kernel_rfl)) (fun _ _ _ _ _ => (pg_name (i := 5) sc.nd rfl (by first | exact Or.inl rfl | exact Or.inr rfl))) (fun _ _ _ _ _ => pts_nil) (fun _ _ _ _ _ => (pe_callC C.told_price hg (hr.mono (by decide)) (by rfl) (pa_cons (pv 5) pa_nil))))))))))))), ?_⟩
  intro p a xs hl hp
  obtain ⟨k, l, e, m, r, bs, ps, rfl, ok⟩ := hp
  have fine : (∀ (i : Nat) (ys : List D), (entry 1 (.adr a :: argK k l e m r bs ps))[i]? ≠ some (some (Slot.own ys))) ∧ (entry 1 (.adr a :: argK k l e m r bs ps))[0]? = some (some (Slot.dat (.adr a))) ∧ ∀ (i : Nat) (c : Con), (entry 1 (.adr a :: argK k l e m r bs ps))[i]? ≠ some (some (Slot.mut c)) := ⟨noOwn_of rfl, rfl, noMut_of rfl⟩
  have v3 : Ev cls p (tVar 3) (entry 1 (.adr a :: argK k l e m r bs ps)) (· = sq k (bs.map Lk.pairD)) := ev_var rfl
  have v4 : Ev cls p (tVar 4) (entry 1 (.adr a :: argK k l e m r bs ps)) (· = sq l (ps.map (prD e))) := ev_var rfl
  have l6 := ok.l6
  refine svj_seq (svj_sv (nx := (· = entry 1 (.adr a :: argK k l e m r bs ps))) (sv_guard ((et_notE (a := true) (et_Bt (ev_c1 (ev_var rfl) ⟨.int m, rfl, rfl⟩ fun x ⟨d', h1, z⟩ => by
    rw [z, ← (List.cons.inj h1).1]
    show D.bl (decide (0 ≤ m)) = _
    rw [decide_eq_true ok.m0]))).mono fun b e => e) rfl) fun _ h => by rw [h]; exact fine) ?_
  rintro _ _ _ ⟨rfl, rfl, rfl⟩
  refine svj_seq (svj_sv (nx := (· = entry 1 (.adr a :: argK k l e m r bs ps))) (sv_guard ((et_notE (et_Bt (e_int (d := .int r) (ev_var rfl) rfl))).mono fun b e => e) rfl) fun _ h => by rw [h]; exact fine) ?_
  rintro _ _ _ ⟨rfl, rfl, rfl⟩
  refine svj_seq (svj_sv (nx := (· = entry 1 (.adr a :: argK k l e m r bs ps))) (sv_guard ((et_notE (a := true) (et_Bt (ev_c1 v3 ⟨k, bs, rfl, ok.l1, ok.l6, fun q hq => (ok.bo q hq).1⟩ fun d z => z))).mono fun b e => e) rfl) fun _ h => by rw [h]; exact fine) ?_
  rintro _ _ _ ⟨rfl, rfl, rfl⟩
  refine svj_seq (svj_sv (nx := (· = entry 1 (.adr a :: argK k l e m r bs ps))) (sv_guard (et_orF ((et_notE (et_Bt (e_list v4 (by cases l <;> rfl)))).mono fun b h => by rw [h]; cases l <;> rfl) (et_orF (et_neI (i := bs.length) ((ev_len v4).mono fun d h => by rw [h, List.length_map, ok.lp]) ((ev_len v3).mono fun d h => by rw [h, List.length_map])) ((et_notE (a := true) (et_Bt ((ev_all (bs := ps.map fun _ => true) (Ev.mono (ev_lcF (js := [5]) (xs := ps.map (prD e)) (f := fun _ => .bl true) (ei_row v4) (by rw [List.length_map, ok.lp]; omega) (by decide) rfl fun x hx => ?_) fun d h => by rw [h, List.map_map, List.map_map]; rfl)).mono fun d h => by rw [h, List.all_map]; exact congrArg D.bl (List.all_eq_true.mpr fun _ _ => rfl)))).mono fun b h => h))) rfl) fun _ h => by rw [h]; exact fine) ?_
  · obtain ⟨q, hq, rfl⟩ := List.mem_map.mp hx
    exact ⟨_, eg_name, rfl, (e_price (ev_var rfl) (sh_price (k := e) (ok.pr q hq)).1).mono fun d h => by rw [h]; exact congrArg D.bl (isPr_price (k := e) (ok.pr q hq))⟩
  rintro _ _ _ ⟨rfl, rfl, rfl⟩
  refine svj_seq (svj_fld (evn_int (i := m) (ev_var rfl)) (hK ▸ Gk.Kind_f_many) (fun z => nomatch z) (by decide)) ?_
  rintro _ _ _ ⟨rfl, rfl, d1, rfl, rfl⟩
  refine svj_seq (svj_fld (evn_int (i := r) (ev_var rfl)) (hK ▸ Gk.Kind_f_rest) (by decide) (by decide)) ?_
  rintro _ _ _ ⟨rfl, rfl, d2, rfl, rfl⟩
  refine svj_seq (svj_fld (evn_list (k := k) (xs := bs.map Lk.pairD) (n := 1) v3 nl_pairs) (hK ▸ Gk.Kind_f_bounds) (by decide) (by decide)) ?_
  rintro _ _ _ ⟨rfl, rfl, d3, rfl, rfl⟩
  refine svj_seq (svj_fld (P := (· = .lst (ps.map (prD true)))) ((evn_lc (js := [5]) (xs := ps.map (prD e)) (f := fun d => match d with | .tup [.int s, .lst b] => .tup [.int s, .lst b] | .tup [.int s, .tup b] => .tup [.int s, .lst b] | d => d) (ei_row v4) (by rw [List.length_map, ok.lp]; omega) (by decide) rfl fun x hx => ?_).mono fun d h => ?_) (hK ▸ Gk.Kind_f_prices) (by decide) (by decide)) ?_
  · obtain ⟨q, hq, rfl⟩ := List.mem_map.mp hx
    exact ⟨_, eg_name, rfl, (n_told (k := e) (q := q) (ev_var rfl)).mono fun d h => by rw [h]; cases e <;> rfl⟩
  · rw [h, List.map_map]
    congr 1
    exact List.map_congr_left fun q _ => by cases e <;> rfl
  rintro _ _ _ ⟨rfl, rfl, d4, rfl, rfl⟩
  exact svj_next ⟨rfl, k, l, e, m, r, bs, ps, rfl, rfl⟩
end K43

namespace K43
open PySem PySem.Spec PyProof.Rows L2 Lk
structure C_parts_ (P : Program) (w : World) (K : PySem.W.Frag) (mg : Str → Option Value) (base : Heap) (cls : Cl) : Prop where
  price_ : Cal P w K mg base "_law_price" 3 ["_law_pot_here"] [] (spG cls 1 pre_price_ F_price_)
  draw_ : Cal P w K mg base "_law_draw" 1 ["_law_pot_here", "_law_many"] [] (spG cls 2 pre_draw_ F_draw_)
  pick_ : Cal P w K mg base "_law_pick" 2 ["_law_pot_here", "_law_some"] [] (spG cls 2 pre_pick_ F_pick_)
theorem ok_parts_ {P : Program} {w : World} {K : PySem.W.Frag} {mg : Str → Option Value} {base : Heap} {cls : Cl} {f : Addr} {fd : FuncData} (F : Fun K "_law_parts" "_law_parts" s_parts_ f fd) (Z : Bt mg) (Gc : Gcs mg) (Gk : Gks K mg cls) (C : C_parts_ P w K mg base cls) (hK : cls.K = K) :
    GOk P w K mg base 4 f fd ["_law_pot_here"] (spG cls 1 pre_parts_ F_parts_) := by
  have sc := sc_parts_
  refine gok_ev (m := 5) F sc rfl rfl fun cdv A out s H E hg hr => ⟨_, (pss_cons (ps_set (i := 1) sc.nd rfl (by first | exact Or.inl rfl | exact Or.inr rfl) (pe_op opAdd pe_int (pe_callC C.draw_ hg (hr.mono (by decide)) (by rfl) (pa_cons (pv 0) (pa_cons pe_int pa_nil)))))
      (pss_cons (ps_set (i := 2) sc.nd rfl (by first | exact Or.inl rfl | exact Or.inr rfl) (pe_lst pa_nil))
      (pss_cons (ps_for PassesOwn.never rfl (pi_range1 (by rfl) Z.range (pa_cons (pv 1) pa_nil)) (pg_name (i := 3) sc.nd rfl (by first | exact Or.inl rfl | exact Or.inr rfl)) (pss_cons (ps_set (i := 4) sc.nd rfl (by first | exact Or.inl rfl | exact Or.inr rfl) (pe_op op_sub (pe_callC C.draw_ hg (hr.mono (by decide)) (by rfl) (pa_cons (pv 0) (pa_cons pe_int pa_nil))) pe_int))
      (pss_one (ps_expr (pe_bm PySem.F.plainAttrs_list PySem.F.slot_list_append PySem.F.type_list_append mt_append (pv 2) (pa_cons (pe_tup (pa_cons (pv 4) (pa_cons (pe_op opAdd (pv 4) (pe_callC C.pick_ hg (hr.mono (by decide)) (by rfl) (pa_cons (pv 0) (pa_cons (pe_lst (pa_cons pe_int (pa_cons pe_int (pa_cons pe_int (pa_cons pe_int (pa_cons (pe_op op_pow pe_int pe_int) pa_nil)))))) pa_nil)))) pa_nil))) pa_nil))))))
      (pss_cons (ps_set (i := 5) sc.nd rfl (by first | exact Or.inl rfl | exact Or.inr rfl) (pe_callC C.pick_ hg (hr.mono (by decide)) (by rfl) (pa_cons (pv 0) (pa_cons (pe_lst (pa_cons pe_int (pa_cons pe_int (pa_cons pe_int (pa_cons pe_int (pa_cons (pe_op op_pow pe_int pe_int) (pa_cons (pe_op opAdd (pe_op op_pow pe_int pe_int) (pe_callC C.draw_ hg (hr.mono (by decide)) (by rfl) (pa_cons (pv 0) (pa_cons pe_int pa_nil)))) pa_nil))))))) pa_nil))))
      (pss_one (ps_ret (pe_tup (pa_cons (pv 5) (pa_cons (pe_op op_sub (pe_callC C.draw_ hg (hr.mono (by decide)) (by rfl) (pa_cons (pv 0) (pa_cons pe_int pa_nil))) pe_int) (pa_cons (pv 2) (pa_cons (pe_lc (own := [("_law_at", 3)]) rfl sc.nd (pi_range1 (by rfl) Z.range (pa_cons (pv 1) pa_nil)) (blkOk_by (by kernel_rfl)) (fun _ _ _ _ _ => (pg_name (i := 3) sc.nd rfl (by first | exact Or.inl rfl | exact Or.inr rfl))) (fun _ _ _ _ _ => pts_nil) (fun _ _ _ _ _ => (pe_callC C.price_ hg (hr.mono (by decide)) (by rfl) (pa_cons (pv 0) pa_nil)))) pa_nil))))))))))), ?_⟩
  intro p xs hl hp
  obtain ⟨a, rfl, hp⟩ := hp
  refine sv_seq (nx' := fun ds' => ∃ c : Int, 1 ≤ c ∧ c ≤ 6 ∧ ds' = PP a c none none none none) (sv_set ((ev_addP ev_int (ev_draw rfl hp ev_int (by decide) (by decide)) intP intDraw)) ?_) ?_
  · rintro d ⟨i, j, e, ⟨x, h0, h1, e2⟩, rfl⟩
    cases e; cases e2
    exact ⟨_, by first | omega | (dsimp only; omega), by first | omega | (dsimp only; omega), rfl⟩
  rintro _ ⟨c, c1, c6, rfl⟩
  refine sv_seq (nx' := (· = PP a c (some (.own [])) none none none)) (sv_setF (by show 2 < 6; decide) (ef_lst ea_nil fun xs e => by rw [e]; exact Nat.zero_le _) fun xs e => by rw [e]; rfl) ?_
  rintro _ rfl
  let good : List (Int × Int) → Prop := fun bs => ∀ q ∈ bs, q.1 ≤ q.2 ∧ q.1.natAbs < 2 ^ 60 ∧ q.2.natAbs < 2 ^ 60
  refine sv_seq (nx' := fun ds' => ∃ (bs : List (Int × Int)) (x3 x4 : Option D), bs.length = c.toNat ∧ good bs ∧ ds' = PP a c (some (.own (bs.map Lk.pairD))) (x3.map Slot.dat) (x4.map Slot.dat) none) (sv_for (ei_rng (n := c) ((ea1 (ev_var (d := .int c) rfl)).mono fun xs ⟨x, ex, e⟩ => by rw [e, ex]) (by omega) (by omega)) ?_) ?_
  · rintro xs rfl
    refine ⟨fun i ds' => ∃ (bs : List (Int × Int)) (x3 x4 : Option D), bs.length = i ∧ good bs ∧ ds' = PP a c (some (.own (bs.map Lk.pairD))) (x3.map Slot.dat) (x4.map Slot.dat) none, ⟨[], none, none, rfl, (fun q hq => nomatch hq), rfl⟩, ?_, ?_⟩
    · rintro i d ds1 hd ⟨bs, x3, x4, hl, hg, rfl⟩
      have hi : i < c.toNat := by
        have := (List.getElem?_eq_some_iff.mp hd).1
        unfold irng at this
        rw [List.length_map, List.length_range] at this
        exact this
      refine ⟨[3], PP a c (some (.own (bs.map Lk.pairD))) (some (.dat d)) (x4.map Slot.dat) none, eg_name, ?_⟩
      refine sv_seq (nx' := fun ds' => ∃ lo : Int, lo.natAbs ≤ 10 ∧ ds' = PP a c (some (.own (bs.map Lk.pairD))) (some (.dat d)) (some (.dat (.int lo))) none) (sv_set (ev_subP (ev_draw rfl hp ev_int (by decide) (by decide)) ev_int intDraw intP) ?_) ?_
      · rintro d' ⟨i', j, ⟨x, h0, h1, e⟩, e2, rfl⟩
        cases e; cases e2
        exact ⟨_, by first | omega | (dsimp only; omega), rfl⟩
      rintro _ ⟨lo, hlo, rfl⟩
      let L5 : List D := [.int 0, .int 0, .int 1, .int 3, .int ((10 : Int) ^ (15 : Int).toNat)]
      have e15 : (10 : Int) ^ (15 : Int).toNat = 1000000000000000 := by decide
      refine sv_app (i := 2) (xs := bs.map Lk.pairD) rfl (P := fun d => ∃ q : Int × Int, (q.1 ≤ q.2 ∧ q.1.natAbs < 2 ^ 60 ∧ q.2.natAbs < 2 ^ 60) ∧ d = Lk.pairD q) (Ev.mono (ev_tup (ea2 (PX := (· = .int lo)) (PY := fun d => ∃ h : Int, lo ≤ h ∧ h.natAbs < 2 ^ 60 ∧ d = .int h) (ev_var rfl) (Ev.mono (ev_addP (PY := fun d => ∃ w : Int, 0 ≤ w ∧ w ≤ 1000000000000000 ∧ d = .int w) (ev_var rfl) ((e_pickL (PL := (· = L5)) rfl hp ((ev_lstE (xs := L5) (ea_consE ev_int (ea_consE ev_int (ea_consE ev_int (ea_consE ev_int (ea_consE (ev_powI ev_int ev_int ⟨by decide, by decide, by decide⟩) ea_nilE))))) (by show 5 ≤ 100000; decide)).mono fun d e => ⟨L5, rfl, e⟩) fun ys e => by rw [e]; exact ⟨(fun z => nomatch z), by show 5 < 1000; decide⟩).mono ?_) intP fun d ⟨w, _, _, e⟩ => ⟨w, e⟩) ?_)) fun xs ⟨x, y, _, _, e⟩ => by rw [e]; show 2 ≤ 100000; decide) ?_) (by rw [List.length_map]; omega) ?_
      · rintro d' ⟨ys, rfl, hd'⟩
        simp only [L5, List.mem_cons, List.not_mem_nil, or_false] at hd'
        rcases hd' with rfl | rfl | rfl | rfl | rfl
        · exact ⟨0, by decide, by decide, rfl⟩
        · exact ⟨0, by decide, by decide, rfl⟩
        · exact ⟨1, by decide, by decide, rfl⟩
        · exact ⟨3, by decide, by decide, rfl⟩
        · exact ⟨_, by rw [e15]; decide, by rw [e15]; decide, rfl⟩
      · rintro d' ⟨i', j, e, ⟨w, w0, w1, e2⟩, rfl⟩
        cases e; cases e2
        exact ⟨_, by first | omega | (dsimp only; omega), by first | omega | (dsimp only; omega), rfl⟩
      · rintro d' ⟨xs, ⟨x, y, ex, ⟨h, h1, h2, ey⟩, exs⟩, rfl⟩
        exact ⟨(lo, h), ⟨h1, by show lo.natAbs < _; omega, h2⟩, by rw [exs, ex, ey]; rfl⟩
      · rintro d' ⟨q, hq, rfl⟩
        refine ⟨bs ++ [q], some d, some (.int lo), by rw [List.length_append, hl]; rfl, fun x hx => ?_, by rw [List.map_append]; rfl⟩
        rcases List.mem_append.mp hx with hx | hx
        · exact hg x hx
        · rw [List.mem_singleton.mp hx]; exact hq
    · rintro ds1 ⟨bs, x3, x4, hl, hg, rfl⟩
      unfold irng at hl
      rw [List.length_map, List.length_range] at hl
      exact ⟨bs, x3, x4, hl, hg, rfl⟩
  rintro _ ⟨bs, x3, x4, hl, hg, rfl⟩
  have e20 : (10 : Int) ^ (20 : Int).toNat = 100000000000000000000 := by decide
  have e28 : (10 : Int) ^ (28 : Int).toNat = 10000000000000000000000000000 := by decide
  have e100 : (2 : Nat) ^ 100 = 1267650600228229401496703205376 := by decide
  refine sv_seq (nx' := fun ds' => ∃ m : Int, 0 ≤ m ∧ m.natAbs < 2 ^ 100 ∧ ds' = PP a c (some (.own (bs.map Lk.pairD))) (x3.map Slot.dat) (x4.map Slot.dat) (some (.dat (.int m)))) (sv_set (P := fun d => ∃ m : Int, 0 ≤ m ∧ m.natAbs < 2 ^ 100 ∧ d = .int m) (Ev.mono (e_pickL (PL := fun ys => ∃ z : Int, 0 ≤ z ∧ z < 999 ∧ ys = [.int 0, .int 1, .int 2, .int 7, .int ((10 : Int) ^ (20 : Int).toNat), .int ((10 : Int) ^ (28 : Int).toNat + z)]) rfl hp (Ev.mono (ev_lst (ea_cons (PX := (· = .int 0)) ev_int (ea_cons (PX := (· = .int 1)) ev_int (ea_cons (PX := (· = .int 2)) ev_int (ea_cons (PX := (· = .int 7)) ev_int (ea2 (PX := (· = .int ((10 : Int) ^ (20 : Int).toNat))) (ev_powI ev_int ev_int ⟨by decide, by decide, by decide⟩) (ev_addP (ev_powI ev_int ev_int ⟨by decide, by decide, by decide⟩) (ev_draw rfl hp ev_int (by decide) (by decide)) intP intDraw)))))) ?_) ?_) ?_) ?_) fun d ⟨m, h0, h1, e⟩ => ⟨m, h0, h1, by rw [e]; rfl⟩) ?_
  · rintro xs ⟨_, _, _, ⟨_, _, _, ⟨_, _, _, ⟨_, _, _, ⟨_, _, _, _, e⟩, e4⟩, e3⟩, e2⟩, e1⟩
    rw [e1, e2, e3, e4, e]
    show 6 ≤ 100000
    decide
  · rintro d ⟨xs, ⟨x1, l1, h1, ⟨x2, l2, h2, ⟨x3', l3, h3, ⟨x4', l4, h4, ⟨x5, x6, h5, ⟨i, j, hi, ⟨z, z0, z1, hj⟩, h6⟩, e⟩, e4⟩, e3⟩, e2⟩, e1⟩, rfl⟩
    cases hi; cases hj
    exact ⟨_, ⟨_, z0, z1, rfl⟩, by rw [e1, e2, e3, e4, e, h1, h2, h3, h4, h5, h6]⟩
  · rintro ys ⟨z, _, _, rfl⟩
    exact ⟨(fun z => nomatch z), by show 6 < 1000; decide⟩
  · rintro d ⟨ys, ⟨z, z0, z1, rfl⟩, hd⟩
    rw [e100]
    simp only [List.mem_cons, List.not_mem_nil, or_false] at hd
    rcases hd with rfl | rfl | rfl | rfl | rfl | rfl
    · exact ⟨0, by decide, by decide, rfl⟩
    · exact ⟨1, by decide, by decide, rfl⟩
    · exact ⟨2, by decide, by decide, rfl⟩
    · exact ⟨7, by decide, by decide, rfl⟩
    · exact ⟨_, by rw [e20]; decide, by rw [e20]; decide, rfl⟩
    · exact ⟨_, by rw [e28]; omega, by rw [e28]; omega, rfl⟩
  rintro _ ⟨m, m0, mw, rfl⟩
  refine sv_freeze (i := 2) rfl ?_
  refine sv_ret (ev_tup (ea4 (PX := (· = .int m)) (PY := fun d => ∃ r : Int, r.natAbs ≤ 20 ∧ d = .int r) (PZ := (· = .lst (bs.map Lk.pairD))) (PW := fun d => ∃ ys, Paired (fun (_ : D) y => ∃ s b, y = priceD true s b ∧ okP s b) (irng 0 c.toNat) ys ∧ d = .lst ys) (ev_var rfl) (Ev.mono (ev_subP (ev_draw rfl hp ev_int (by decide) (by decide)) ev_int intDraw intP) ?_) (ev_var rfl) (ev_lcS (js := [3]) (xs := irng 0 c.toNat) (Pe := fun (_ : D) y => ∃ s b, y = priceD true s b ∧ okP s b) (ei_rng (n := c) ((ea1 (ev_var (d := .int c) rfl)).mono fun xs ⟨x, ex, e⟩ => by rw [e, ex]) (by omega) (by omega)) ?_ (by decide) ?_ fun x hx => ⟨_, eg_name, ?_, ?_⟩)) fun xs ⟨_, _, _, _, _, _, _, _, e⟩ => by rw [e]; show 4 ≤ 100000; decide) ?_
  · rintro d ⟨i, j, ⟨x, h0, h1, e⟩, e2, rfl⟩
    cases e; cases e2
    exact ⟨_, by first | omega | (dsimp only; omega), rfl⟩
  · unfold irng
    rw [List.length_map, List.length_range]
    omega
  · cases x3 <;> rfl
  · cases x3 <;> rfl
  · refine ev_call' (ea1 (ev_var rfl)) ?_
    rintro _ ⟨x, ex, rfl⟩
    rw [ex]
    exact ⟨rfl, ⟨a, rfl, hp⟩, fun d h => h⟩
  · rintro d ⟨xs, ⟨x, y, z, w, ex, ⟨r, hr, ey⟩, ez, ⟨ys, pp, ew⟩, exs⟩, rfl⟩
    have gen : ∀ (xs ys : List D), Paired (fun (_ : D) y => ∃ s b, y = priceD true s b ∧ okP s b) xs ys → ∃ ps : List (Int × List (Int × Int)), ys = ps.map (prD true) ∧ ps.length = xs.length ∧ ∀ q ∈ ps, okP q.1 q.2 := by
      intro xs
      induction xs with
      | nil => intro ys pp; cases pp; exact ⟨[], rfl, rfl, (fun q hq => nomatch hq)⟩
      | cons x xs ih =>
        intro ys pp
        cases pp with
        | cons h t =>
          obtain ⟨s, b, rfl, ok⟩ := h
          obtain ⟨ps, rfl, hl, hq⟩ := ih _ t
          exact ⟨(s, b) :: ps, rfl, by rw [List.length_cons, List.length_cons, hl], fun q hq' => (List.mem_cons.mp hq').elim (fun e => by rw [e]; exact ok) (hq q)⟩
    obtain ⟨ps, rfl, hl2, hq⟩ := gen _ _ pp
    unfold irng at hl2
    rw [List.length_map, List.length_range] at hl2
    exact ⟨m, r, bs, ps, by rw [exs, ex, ey, ez, ew]; rfl, m0, mw, hr, by omega, by omega, by omega, hg, hq⟩
end K43

namespace K43
open PySem PySem.Spec PyProof.Rows L2 Lk
structure C_is_ (P : Program) (w : World) (K : PySem.W.Frag) (mg : Str → Option Value) (base : Heap) (cls : Cl) : Prop where
  Kind_repr : Rpr P w K mg base (cls.C 0) 1 (spG cls 1 pre_Kind_repr F_Kind_repr)
  text_ : Cal P w K mg base "_law_text" 1 ["_law_parts_here"] [] (spG cls 1 pre_text_ F_text_)
  Kind_prices : Mth P w K mg base (cls.C 0) "prices" 2 [] ["self"] (spN cls 1 pre_Kind_prices F_Kind_prices)
  Kind_bounds : Mth P w K mg base (cls.C 0) "bounds" 1 [] ["self"] (spN cls 1 pre_Kind_bounds F_Kind_bounds)
  Kind_columns : Prp P w K mg base (cls.C 0) "columns" 1 (spG cls 1 pre_Kind_columns F_Kind_columns)
  Kind_rest : Prp P w K mg base (cls.C 0) "rest" 1 (spG cls 1 pre_Kind_rest F_Kind_rest)
  Kind_many : Prp P w K mg base (cls.C 0) "many" 1 (spG cls 1 pre_Kind_many F_Kind_many)
theorem ok_is_ {P : Program} {w : World} {K : PySem.W.Frag} {mg : Str → Option Value} {base : Heap} {cls : Cl} {f : Addr} {fd : FuncData} (F : Fun K "_law_is" "_law_is" s_is_ f fd) (Z : Bt mg) (Gc : Gcs mg) (Gk : Gks K mg cls) (C : C_is_ P w K mg base cls) (hK : cls.K = K) :
    GOk P w K mg base 4 f fd ["_law_kind", "_law_parts_here"] (spG cls 2 pre_is_ F_is_) := by
  have sc := sc_is_
  refine gok_ev (m := 4) F sc rfl rfl fun cdv A out s H E hg hr => ⟨_, (pss_cons (ps_asg (pv 1) (pgTup (n := 4) (K := K) (by rfl) (by rfl) (pgs_cons (pg_name (i := 2) sc.nd rfl (by first | exact Or.inl rfl | exact Or.inr rfl)) (pgs_cons (pg_name (i := 3) sc.nd rfl (by first | exact Or.inl rfl | exact Or.inr rfl)) (pgs_cons (pg_name (i := 4) sc.nd rfl (by first | exact Or.inl rfl | exact Or.inr rfl)) (pgs_cons (pg_name (i := 5) sc.nd rfl (by first | exact Or.inl rfl | exact Or.inr rfl)) pgs_nil))))))
      (pss_cons (ps_if (pt_cmpR (opNe (K := K) (by rfl) (room_u hr)) (pe_callB (kShowC C.Kind_repr hg (hr.mono (by decide)) (by rfl) (room_u hr)) (by rfl) Z.repr (by decide +kernel) (pa_cons (pe_lst (pa_cons (pe_propC C.Kind_many (hr.mono (by decide)) (pv 0)) (pa_cons (pe_propC C.Kind_rest (hr.mono (by decide)) (pv 0)) (pa_cons (pe_propC C.Kind_columns (hr.mono (by decide)) (pv 0)) pa_nil)))) pa_nil)) (pe_callB (kShowC C.Kind_repr hg (hr.mono (by decide)) (by rfl) (room_u hr)) (by rfl) Z.repr (by decide +kernel) (pa_cons (pe_lst (pa_cons (pv 2) (pa_cons (pv 3) (pa_cons (pe_callB (kLen (K := K) (by rfl)) (by rfl) Z.len (by decide +kernel) (pa_cons (pv 4) pa_nil)) pa_nil)))) pa_nil)) (nomark _)) (pss_one (ps_ret pe_bl)) pss_nil)
      (pss_one (ps_ret (pe_and (pe_cmpR (opEq (K := K) (by rfl) (room_u hr)) (pe_callB (kShowC C.Kind_repr hg (hr.mono (by decide)) (by rfl) (room_u hr)) (by rfl) Z.repr (by decide +kernel) (pa_cons (pe_lst (pa_cons (pe_methC0 C.Kind_bounds hg (hr.mono (by decide)) (pv 0)) (pa_cons (pe_methC0 C.Kind_prices hg (hr.mono (by decide)) (pv 0)) pa_nil))) pa_nil)) (pe_callB (kShowC C.Kind_repr hg (hr.mono (by decide)) (by rfl) (room_u hr)) (by rfl) Z.repr (by decide +kernel) (pa_cons (pe_lst (pa_cons (pv 4) (pa_cons (pv 5) pa_nil))) pa_nil)) (nomark _)) (pe_one (pe_cmpR (opEq (K := K) (by rfl) (room_u hr)) (pe_callB (kShowC C.Kind_repr hg (hr.mono (by decide)) (by rfl) (room_u hr)) (by rfl) Z.repr (by decide +kernel) (pa_cons (pv 0) pa_nil)) (pe_callC C.text_ hg (hr.mono (by decide)) (by rfl) (pa_cons (pv 1) pa_nil)) (nomark _)))))))), ?_⟩
  intro p xs hl hp
  obtain ⟨m, r, bs, ps, rfl, ok⟩ := hp
  have wm : m.natAbs < 2 ^ 1900 := pow_le ok.mw (by omega)
  have wr : r.natAbs < 2 ^ 1900 := pow_le ok.rw (by omega)
  have wl : (bs.length : Int).natAbs < 2 ^ 1900 := pow_le (a := 10) (by have := ok.l6; omega) (by omega)
  have s3 : sd 1 10000 (.lst [.int m, .int r, .int bs.length]) := (sd_sq (n := 0) (B := 2000) (m := 3) true (mem3 (sdI 0 wm) (sdI 0 wr) (sdI 0 wl)) (Nat.le_refl _)).mono (by decide)
  have s2 : sd 5 1000000 (.lst [.lst (bs.map Lk.pairD), .lst (ps.map (prD true))]) := (sd_sq (n := 4) (B := 400000) (m := 2) true (mem2 ((sd_bounds ok 2).mono (by decide)) (sd_prices ok 0)) (Nat.le_refl _)).mono (by decide)
  refine sv_seq (nx' := (· = [some (.dat (kindD m r bs ps)), some (.dat (partsD m r bs ps)), some (.dat (.int m)), some (.dat (.int r)), some (.dat (.lst (bs.map Lk.pairD))), some (.dat (.lst (ps.map (prD true))))])) (sv_asg (ev_var rfl) fun d' e => ⟨_, by rw [e]; exact eg_tup (egs_cons (egs_cons (egs_cons (egs_cons egs_nil)))) rfl, rfl⟩) ?_
  rintro _ rfl
  have vk : Ev cls p (tVar 0) [some (.dat (kindD m r bs ps)), some (.dat (partsD m r bs ps)), some (.dat (.int m)), some (.dat (.int r)), some (.dat (.lst (bs.map Lk.pairD))), some (.dat (.lst (ps.map (prD true))))] (· = kindD m r bs ps) := ev_var rfl
  refine sv_seq (nx' := (· = [some (.dat (kindD m r bs ps)), some (.dat (partsD m r bs ps)), some (.dat (.int m)), some (.dat (.int r)), some (.dat (.lst (bs.map Lk.pairD))), some (.dat (.lst (ps.map (prD true))))])) (sv_guard (et_neS (ev_showC (n := 1) (ev_lst3 (e_kmany vk) (e_krest vk) (e_kcols vk)) (by decide) s3.1 (Nat.le_trans s3.2 (by decide))) (ev_showC (n := 1) (ev_lst3 (ev_var rfl) (ev_var rfl) ((ev_len (k := true) (xs := bs.map Lk.pairD) (ev_var rfl)).mono fun d e => by rw [e, List.length_map])) (by decide) s3.1 (Nat.le_trans s3.2 (by decide)))) rfl) ?_
  rintro _ rfl
  exact sv_ret (ev_andT (ev_eqS (ev_showC (n := 5) (ev_lst2 (n_bounds vk ok).ev (n_prices vk ok).ev) (by decide) s2.1 (Nat.le_trans s2.2 (by decide))) (ev_showC (n := 5) (ev_lst2 (ev_var rfl) (ev_var rfl)) (by decide) s2.1 (Nat.le_trans s2.2 (by decide)))) (ev_eqS (e_kindS vk ok) (e_text (ev_var rfl) ok))) fun d e => e
end K43

namespace K43
open PySem PySem.Spec PyProof.Rows L2 Lk
structure C_price_at (P : Program) (w : World) (K : PySem.W.Frag) (mg : Str → Option Value) (base : Heap) (cls : Cl) : Prop where
  cost_at : Cal P w K mg base "cost_at" 1 ["price", "number"] [] (spG cls 2 pre_cost_at F_cost_at)
  is_integer : Cal P w K mg base "is_integer" 1 ["value"] [] (spG cls 1 pre_is_integer F_is_integer)
  check_price : Cal P w K mg base "check_price" 4 ["price"] [] (spG cls 1 pre_check_price F_check_price)
theorem ok_price_at {P : Program} {w : World} {K : PySem.W.Frag} {mg : Str → Option Value} {base : Heap} {cls : Cl} {f : Addr} {fd : FuncData} (F : Fun K "price_at" "price_at" s_price_at f fd) (Z : Bt mg) (Gc : Gcs mg) (Gk : Gks K mg cls) (C : C_price_at P w K mg base cls) (hK : cls.K = K) :
    GOk P w K mg base 5 f fd ["price", "number"] (spG cls 2 pre_price_at F_price_at) := by
  have sc := sc_price_at
  refine gok_ev (m := 0) F sc rfl rfl fun cdv A out s H E hg hr => ⟨_, (pss_cons (ps_expr (pe_callC C.check_price hg (hr.mono (by decide)) (by rfl) (pa_cons (pv 0) pa_nil)))
      (pss_cons (ps_if (pt_not (pt_val (pe_callC C.is_integer hg (hr.mono (by decide)) (by rfl) (pa_cons (pv 1) pa_nil)))) (pss_one ps_never) pss_nil)
      (pss_one (ps_ret (pe_callC C.cost_at hg (hr.mono (by decide)) (by rfl) (pa_cons (pv 0) (pa_cons (pv 1) pa_nil))))))), ?_⟩
  intro p xs hl hp
  obtain ⟨k, s, bs, n, rfl, ok, hn⟩ := hp
  refine sv_seq (nx' := (· = entry 0 [priceD k s bs, .int n])) (sv_expr (e_checkp (ev_var rfl) ok) rfl) ?_
  rintro _ rfl
  refine sv_seq (nx' := (· = entry 0 [priceD k s bs, .int n])) (sv_guard ((et_notE (et_Bt (e_int (d := .int n) (ev_var rfl) rfl))).mono fun b e => e) rfl) ?_
  rintro _ rfl
  exact sv_ret (e_costat (ev_var rfl) (ev_var rfl) ok hn) fun r e => ⟨k, s, bs, n, rfl, e⟩
end K43

namespace K43
open PySem PySem.Spec PyProof.Rows L2 Lk
structure C_plus_prices (P : Program) (w : World) (K : PySem.W.Frag) (mg : Str → Option Value) (base : Heap) (cls : Cl) : Prop where
  check_price : Cal P w K mg base "check_price" 4 ["price"] [] (spG cls 1 pre_check_price F_check_price)
theorem ok_plus_prices {P : Program} {w : World} {K : PySem.W.Frag} {mg : Str → Option Value} {base : Heap} {cls : Cl} {f : Addr} {fd : FuncData} (F : Fun K "plus_prices" "plus_prices" s_plus_prices f fd) (Z : Bt mg) (Gc : Gcs mg) (Gk : Gks K mg cls) (C : C_plus_prices P w K mg base cls) (hK : cls.K = K) :
    GOk P w K mg base 5 f fd ["price", "other"] (spBox cls 2 pre_plus_prices FB_plus_prices) := by
  have sc := sc_plus_prices
  refine gok_box (m := 3) F sc rfl rfl fun cdv A out s H E hg hr => ⟨_, (pss_cons (ps_expr (pe_callC C.check_price hg (hr.mono (by decide)) (by rfl) (pa_cons (pv 0) pa_nil)))
      (pss_cons (ps_expr (pe_callC C.check_price hg (hr.mono (by decide)) (by rfl) (pa_cons (pv 1) pa_nil)))
      (pss_cons (ps_set (i := 2) sc.nd rfl (by first | exact Or.inl rfl | exact Or.inr rfl) pe_dnewK)
      (pss_cons (ps_for PassesOwn.never rfl (pi_or (piList (K := K) (by rfl) (pe_op opAdd (pe_callTy (kList (K := K) (by rfl)) (by rfl) Z.list (by decide +kernel) (pa_cons (pe_ix (kIx (K := K) (by rfl)) (pv 0) pe_int (fun _ _ => rfl)) pa_nil)) (pe_callTy (kList (K := K) (by rfl)) (by rfl) Z.list (by decide +kernel) (pa_cons (pe_ix (kIx (K := K) (by rfl)) (pv 1) pe_int (fun _ _ => rfl)) pa_nil)))) (piTup (K := K) (by rfl) (pe_op opAdd (pe_callTy (kList (K := K) (by rfl)) (by rfl) Z.list (by decide +kernel) (pa_cons (pe_ix (kIx (K := K) (by rfl)) (pv 0) pe_int (fun _ _ => rfl)) pa_nil)) (pe_callTy (kList (K := K) (by rfl)) (by rfl) Z.list (by decide +kernel) (pa_cons (pe_ix (kIx (K := K) (by rfl)) (pv 1) pe_int (fun _ _ => rfl)) pa_nil))))) (pgTup (n := 2) (K := K) (by rfl) (by rfl) (pgs_cons (pg_name (i := 3) sc.nd rfl (by first | exact Or.inl rfl | exact Or.inr rfl)) (pgs_cons (pg_name (i := 4) sc.nd rfl (by first | exact Or.inl rfl | exact Or.inr rfl)) pgs_nil))) (pss_one (ps_dput (room_1 hr) (pv 2) (pv 3) (pe_op opAdd (pe_dget2 (room_1 hr) (pv 2) (pv 3) pe_int ⟨by rfl, by rfl, by rfl, by rfl⟩) (pv 4)) (by rfl))))
      (pss_cons (ps_if (pt_cmpR op_gt (pe_callB kLenDct (by rfl) Z.len (by decide +kernel) (pa_cons (pv 2) pa_nil)) (pe_glob (v := .int 4) (by rfl) Gc.MOST_BENDS.choose_spec ⟨_, rfl⟩) (nomark _)) (pss_one ps_never) pss_nil)
      (pss_one (ps_ret (pe_tup (pa_cons (pe_op opAdd (pe_ix (kIx (K := K) (by rfl)) (pv 0) pe_int (fun _ _ => rfl)) (pe_ix (kIx (K := K) (by rfl)) (pv 1) pe_int (fun _ _ => rfl))) (pa_cons (pe_callB (kSortPr (K := K) (by rfl)) (by rfl) Z.sorted (by decide +kernel) (pa_cons (LiI.pe_listItems (by rfl) (pv 2) (by rfl) Z.list boot_list) pa_nil)) pa_nil)))))))))), ?_⟩
  intro p xs hl hp
  obtain ⟨k, l, s1, b1, s2, b2, rfl, o1, o2, l4⟩ := hp
  have few : (b1 ++ b2).length ≤ 8 := by
    have := o1.few
    have := o2.few
    rw [List.length_append]; omega
  have mi := mrg_MI (b1 ++ b2) [] [] MI.nil (pos_app o1.pos o2.pos)
  rw [List.nil_append] at mi
  refine svb_seq (nx' := (· = entry 3 [priceD k s1 b1, priceD l s2 b2])) (sv_expr (e_checkp (ev_var rfl) o1) rfl) ?_
  rintro _ rfl
  refine svb_seq (nx' := (· = entry 3 [priceD k s1 b1, priceD l s2 b2])) (sv_expr (e_checkp (ev_var rfl) o2) rfl) ?_
  rintro _ rfl
  refine svb_new (i := 2) (by show 2 < 5; decide) ?_ (noMut_of rfl)
  refine svb_seq (nx' := fun ds' => ∃ x3 x4, ds' = [some (.dat (priceD k s1 b1)), some (.dat (priceD l s2 b2)), some (.mut (.tbl (mrgI [] (b1 ++ b2)))), x3, x4]) (sv_for (ei_row (k := true) (xs := (b1 ++ b2).map bend2) ((ev_catE (ev_lstOf (ev_p1 (ev_var rfl))) (ev_lstOf (ev_p1 (ev_var rfl))) (by rw [List.length_map, List.length_map, ← List.length_append]; omega)).mono fun d e => by rw [e, ← List.map_append]; rfl)) ?_) ?_
  · rintro xs rfl
    refine ⟨fun i ds' => ∃ x3 x4, ds' = [some (.dat (priceD k s1 b1)), some (.dat (priceD l s2 b2)), some (.mut (.tbl (mrgI [] ((b1 ++ b2).take i)))), x3, x4], ⟨none, none, rfl⟩, ?_, ?_⟩
    · rintro i d ds1 hd ⟨x3, x4, rfl⟩
      rw [List.getElem?_map] at hd
      obtain ⟨q, hq, rfl⟩ := Option.map_eq_some_iff.mp hd
      refine ⟨[3, 4], _, eg_tup (xs := [.int q.1, .int q.2]) (egs_cons (egs_cons egs_nil)) rfl, sv_dput (i := 2) (k := q.1) (v := (getI (mrgI [] ((b1 ++ b2).take i)) q.1).getD 0 + q.2) rfl (ev_var rfl) (ev_addI (ev_tget rfl (ev_var rfl) ev_int) (ev_var rfl)) ?_ ⟨some (.dat (.int q.1)), some (.dat (.int q.2)), ?_⟩⟩
      · have := mrg_len ((b1 ++ b2).take i) []
        rw [List.length_take] at this
        show (mrgI [] ((b1 ++ b2).take i)).length < 100000
        have : ([] : List (Int × Int)).length = 0 := rfl
        omega
      · rw [List.take_add_one, hq, Option.toList_some, mrg_snoc]
        rfl
    · rintro ds1 ⟨x3, x4, rfl⟩
      rw [List.length_map, List.take_length]
      exact ⟨x3, x4, rfl⟩
  rintro _ ⟨x3, x4, rfl⟩
  refine svb_seq (nx' := (· = [some (.dat (priceD k s1 b1)), some (.dat (priceD l s2 b2)), some (.mut (.tbl (mrgI [] (b1 ++ b2)))), x3, x4])) (sv_guard ((et_iE (f := fun i j => decide (i > j)) (ev_tlen rfl) ev_int).mono fun b e => by rw [e]; exact decide_eq_false (by omega)) rfl) ?_
  rintro _ rfl
  refine (svb_ret (ev_addI (ev_p0 (k := k) (s := s1) (bs := b1) (ev_var rfl)) (ev_p0 (k := l) (s := s2) (bs := b2) (ev_var rfl))) (ef_sortPr (bs := mrgI [] (b1 ++ b2)) ((ev_F (ef_items rfl)).mono fun d ⟨xs, ex, e⟩ => by rw [e, ex]))).mono ?_
  rintro s zs ⟨e, z, pm, pw, ez⟩
  exact ⟨k, l, s1, b1, s2, b2, rfl, e, z, ez, sorted_isS mi pm pw⟩
end K43

namespace K43
open PySem PySem.Spec PyProof.Rows L2 Lk
structure C_Kind_with_many (P : Program) (w : World) (K : PySem.W.Frag) (mg : Str → Option Value) (base : Heap) (cls : Cl) : Prop where
  Kind_init : Mkr P w K mg base "Kind" (cls.C 0) 4 ["many", "rest", "bounds", "prices"] [(["prices", "bounds", "rest", "many"], [3, 2, 1, 0])] (spInitN cls 0 4 ["_many", "_rest", "_bounds", "_prices"] pre_Kind_init G_Kind_init)
theorem ok_Kind_with_many {P : Program} {w : World} {K : PySem.W.Frag} {mg : Str → Option Value} {base : Heap} {cls : Cl} {f : Addr} {fd : FuncData} (F : Fun K "with_many" "Kind.with_many" s_Kind_with_many f fd) (Z : Bt mg) (Gc : Gcs mg) (Gk : Gks K mg cls) (C : C_Kind_with_many P w K mg base cls) (hK : cls.K = K) :
    GOk P w K mg base 6 f fd ["self", "many"] (spG cls 2 pre_Kind_with_many F_Kind_with_many) := by
  have sc := sc_Kind_with_many
  refine gok_ev (m := 0) F sc rfl rfl fun cdv A out s H E hg hr => ⟨_, (pss_one (ps_ret (pe_makeC C.Kind_init hg (hr.mono (by decide)) (by rfl) (pa_cons (pv 1) (pa_cons (pe_fldK (K := K) (by rfl) (pv 0)) (pa_cons (pe_fldK (K := K) (by rfl) (pv 0)) (pa_cons (pe_fldK (K := K) (by rfl) (pv 0)) pa_nil))))))), ?_⟩
  intro p xs hl hp
  obtain ⟨m, r, bs, ps, n, rfl, ok⟩ := hp
  exact sv_ret (n_kind (k := true) (l := true) (e := true) (m := n) (ea_consE (ev_var rfl) (ea_consE (ev_fld (ev_var rfl) (hK ▸ Gk.Kind_f_rest) rfl) (ea_consE (ev_fld (ev_var rfl) (hK ▸ Gk.Kind_f_bounds) rfl) (ea_consE (ev_fld (ev_var rfl) (hK ▸ Gk.Kind_f_prices) rfl) ea_nilE)))) ok).ev fun d e => ⟨m, r, bs, ps, n, rfl, e⟩
end K43

namespace K43
open PySem PySem.Spec PyProof.Rows L2 Lk
structure C_right_ (P : Program) (w : World) (K : PySem.W.Frag) (mg : Str → Option Value) (base : Heap) (cls : Cl) : Prop where
  Kind_eq : Eqr P w K mg base (cls.C 0) 1 (spG cls 2 pre_Kind_eq F_Kind_eq)
  plus_prices : Cal P w K mg base "plus_prices" 5 ["price", "other"] [] (spBox cls 2 pre_plus_prices FB_plus_prices)
  price_at : Cal P w K mg base "price_at" 5 ["price", "number"] [] (spG cls 2 pre_price_at F_price_at)
  Kind_prices : Mth P w K mg base (cls.C 0) "prices" 2 [] ["self"] (spN cls 1 pre_Kind_prices F_Kind_prices)
  Kind_ne : Ner P w K mg base (cls.C 0) 1 (spG cls 2 pre_Kind_eq F_Kind_eq)
  others_ : Cal P w K mg base "_law_others" 2 ["_law_pot_here", "_law_parts_here"] [] (spG cls 2 pre_others_ F_others_)
  Kind_init : Mkr P w K mg base "Kind" (cls.C 0) 4 ["many", "rest", "bounds", "prices"] [(["prices", "bounds", "rest", "many"], [3, 2, 1, 0])] (spInitN cls 0 4 ["_many", "_rest", "_bounds", "_prices"] pre_Kind_init G_Kind_init)
  Kind_with_many : Mth P w K mg base (cls.C 0) "with_many" 6 [(["many"], [0])] ["self", "many"] (spG cls 2 pre_Kind_with_many F_Kind_with_many)
  is_ : Cal P w K mg base "_law_is" 4 ["_law_kind", "_law_parts_here"] [] (spG cls 2 pre_is_ F_is_)
  Kind_columns : Prp P w K mg base (cls.C 0) "columns" 1 (spG cls 1 pre_Kind_columns F_Kind_columns)
  Kind_bounds : Mth P w K mg base (cls.C 0) "bounds" 1 [] ["self"] (spN cls 1 pre_Kind_bounds F_Kind_bounds)
  parts_ : Cal P w K mg base "_law_parts" 4 ["_law_pot_here"] [] (spG cls 1 pre_parts_ F_parts_)
theorem ok_right_ {P : Program} {w : World} {K : PySem.W.Frag} {mg : Str → Option Value} {base : Heap} {cls : Cl} {f : Addr} {fd : FuncData} (F : Fun K "_law_right" "_law_right" s_right_ f fd) (Z : Bt mg) (Gc : Gcs mg) (Gk : Gks K mg cls) (C : C_right_ P w K mg base cls) (hK : cls.K = K) :
    GOk P w K mg base 8 f fd ["_law_pot_here"] (spG cls 1 pre_right_ F_right_) := by
  have sc := sc_right_
  refine gok_ev (m := 14) F sc rfl rfl fun cdv A out s H E hg hr => ⟨_, (pss_cons (ps_set (i := 1) sc.nd rfl (by first | exact Or.inl rfl | exact Or.inr rfl) (pe_callC C.parts_ hg (hr.mono (by decide)) (by rfl) (pa_cons (pv 0) pa_nil)))
      (pss_cons (ps_asg (pv 1) (pgTup (n := 4) (K := K) (by rfl) (by rfl) (pgs_cons (pg_name (i := 2) sc.nd rfl (by first | exact Or.inl rfl | exact Or.inr rfl)) (pgs_cons (pg_name (i := 3) sc.nd rfl (by first | exact Or.inl rfl | exact Or.inr rfl)) (pgs_cons (pg_name (i := 4) sc.nd rfl (by first | exact Or.inl rfl | exact Or.inr rfl)) (pgs_cons (pg_name (i := 5) sc.nd rfl (by first | exact Or.inl rfl | exact Or.inr rfl)) pgs_nil))))))
      (pss_cons (ps_par (i := 6) (j := 7) (by rfl) sc.nd rfl rfl (by decide) rfl rfl (pa_cons (pe_callTy (kList (K := K) (by rfl)) (by rfl) Z.list (by decide +kernel) (pa_cons (pv 4) pa_nil)) (pa_cons (pe_lc (own := [("_law_slope", 13), ("_law_bends", 14)]) rfl sc.nd (pi_or (piList (K := K) (by rfl) (pv 5)) (piTup (K := K) (by rfl) (pv 5))) (blkOk_by (by kernel_rfl)) (fun _ _ _ _ _ => (pgTup (n := 2) (K := K) (by rfl) (by rfl) (pgs_cons (pg_name (i := 13) sc.nd rfl (by first | exact Or.inl rfl | exact Or.inr rfl)) (pgs_cons (pg_name (i := 14) sc.nd rfl (by first | exact Or.inl rfl | exact Or.inr rfl)) pgs_nil)))) (fun _ _ _ _ _ => pts_nil) (fun _ _ _ _ _ => (pe_tup (pa_cons (pv 13) (pa_cons (pe_callTy (kList (K := K) (by rfl)) (by rfl) Z.list (by decide +kernel) (pa_cons (pv 14) pa_nil)) pa_nil))))) pa_nil)) (by rfl))
      (pss_cons (ps_set (i := 8) sc.nd rfl (by first | exact Or.inl rfl | exact Or.inr rfl) (pe_makeC C.Kind_init hg (hr.mono (by decide)) (by rfl) (pa_cons (pv 2) (pa_cons (pv 3) (pa_cons (pv 6) (pa_cons (pv 7) pa_nil))))))
      (pss_cons (ps_if (pt_not (pt_val (pe_callC C.is_ hg (hr.mono (by decide)) (by rfl) (pa_cons (pv 8) (pa_cons (pv 1) pa_nil))))) (pss_one (ps_ret pe_bl)) pss_nil)
      (pss_cons (ps_expr (pe_bm PySem.F.plainAttrs_list PySem.F.slot_list_append PySem.F.type_list_append mt_append (pv 6) (pa_cons (pe_tup (pa_cons pe_int (pa_cons pe_int pa_nil))) pa_nil)))
      (pss_cons (ps_expr (pe_bm PySem.F.plainAttrs_list PySem.F.slot_list_append PySem.F.type_list_append mt_append (pe_ix (kIx (K := K) (by rfl)) (pe_ix (kIx (K := K) (by rfl)) (pv 7) pe_int (fun _ _ => rfl)) pe_int (fun _ _ => rfl)) (pa_cons (pe_tup (pa_cons pe_int (pa_cons pe_int pa_nil))) pa_nil)))
      (pss_cons (ps_expr (pe_bm0 PySem.F.plainAttrs_list PySem.F.slot_list_pop PySem.F.type_list_pop mt_pop (pv 7)))
      (pss_cons (ps_expr (pe_bm PySem.F.plainAttrs_list PySem.F.slot_list_append PySem.F.type_list_append mt_append (pe_methC0 C.Kind_bounds hg (hr.mono (by decide)) (pv 8)) (pa_cons (pe_tup (pa_cons pe_int (pa_cons pe_int pa_nil))) pa_nil)))
      (pss_cons (ps_expr (pe_bm PySem.F.plainAttrs_list PySem.F.slot_list_append PySem.F.type_list_append mt_append (pe_ix (kIx (K := K) (by rfl)) (pe_ix (kIx (K := K) (by rfl)) (pe_methC0 C.Kind_prices hg (hr.mono (by decide)) (pv 8)) pe_int (fun _ _ => rfl)) pe_int (fun _ _ => rfl)) (pa_cons (pe_tup (pa_cons pe_int (pa_cons pe_int pa_nil))) pa_nil)))
      (pss_cons (ps_if (PW.pt (pw_or (PW.pt (pw_and (pt_cmpR op_gt (pe_callB (kLen (K := K) (by rfl)) (by rfl) Z.len (by decide +kernel) (pa_cons (pv 4) pa_nil)) pe_int (nomark _)) (pw_and1 (pt_cmpR (opNeC C.Kind_ne hg (hr.mono (by decide)) (by rfl) (room_u hr)) (pe_propC C.Kind_columns (hr.mono (by decide)) (pv 8)) (pe_callB (kLen (K := K) (by rfl)) (by rfl) Z.len (by decide +kernel) (pa_cons (pv 4) pa_nil)) (nomark _))))) (pw_or1 (pt_not (pt_val (pe_callC C.is_ hg (hr.mono (by decide)) (by rfl) (pa_cons (pv 8) (pa_cons (pv 1) pa_nil)))))))) (pss_one (ps_ret pe_bl)) pss_nil)
      (pss_cons (ps_set (i := 9) sc.nd rfl (by first | exact Or.inl rfl | exact Or.inr rfl) (pe_makeKC (ks := ["prices", "bounds", "rest", "many"]) (is := [3, 2, 1, 0]) C.Kind_init (by decide) hg (hr.mono (by decide)) (by rfl) (pk_cons (pe_callTy (kTuple (K := K) (by rfl)) (by rfl) Z.tuple (by decide +kernel) (pa_cons (pe_lc (own := [("_law_slope", 13), ("_law_bends", 14)]) rfl sc.nd (pi_or (piList (K := K) (by rfl) (pv 5)) (piTup (K := K) (by rfl) (pv 5))) (blkOk_by (by kernel_rfl)) (fun _ _ _ _ _ => (pgTup (n := 2) (K := K) (by rfl) (by rfl) (pgs_cons (pg_name (i := 13) sc.nd rfl (by first | exact Or.inl rfl | exact Or.inr rfl)) (pgs_cons (pg_name (i := 14) sc.nd rfl (by first | exact Or.inl rfl | exact Or.inr rfl)) pgs_nil)))) (fun _ _ _ _ _ => pts_nil) (fun _ _ _ _ _ => (pe_tup (pa_cons (pv 13) (pa_cons (pe_callTy (kTuple (K := K) (by rfl)) (by rfl) Z.tuple (by decide +kernel) (pa_cons (pv 14) pa_nil)) pa_nil))))) pa_nil)) (pk_cons (pe_callTy (kTuple (K := K) (by rfl)) (by rfl) Z.tuple (by decide +kernel) (pa_cons (pv 4) pa_nil)) (pk_cons (pv 3) (pk_cons (pv 2) pk_nil))))))
      (pss_cons (ps_if (PW.pt (pw_or (pt_cmpR (opNeC C.Kind_ne hg (hr.mono (by decide)) (by rfl) (room_u hr)) (pe_callB (kShow (K := K) (by rfl) hg (room_u hr)) (by rfl) Z.repr (by decide +kernel) (pa_cons (pe_lst (pa_cons (pe_cmpR (opEqC C.Kind_eq hg (hr.mono (by decide)) (by rfl) (room_u hr)) (pv 9) (pv 8) (nomark _)) (pa_cons (pe_cmpR (opNeC C.Kind_ne hg (hr.mono (by decide)) (by rfl) (room_u hr)) (pv 9) (pv 8) (nomark _)) (pa_cons (pe_cmpR (opEqC C.Kind_eq hg (hr.mono (by decide)) (by rfl) (room_u hr)) (pv 8) (pe_methC C.Kind_with_many hg (hr.mono (by decide)) (pv 8) (pa_cons (pv 2) pa_nil)) (nomark _)) pa_nil)))) pa_nil)) (pe_callB (kShow (K := K) (by rfl) hg (room_u hr)) (by rfl) Z.repr (by decide +kernel) (pa_cons (pe_lst (pa_cons pe_bl (pa_cons pe_bl (pa_cons pe_bl pa_nil)))) pa_nil)) (nomark _)) (pw_or1 (pt_not (pt_val (pe_callC C.is_ hg (hr.mono (by decide)) (by rfl) (pa_cons (pv 9) (pa_cons (pv 1) pa_nil)))))))) (pss_one (ps_ret pe_bl)) pss_nil)
      (pss_cons (ps_set (i := 10) sc.nd rfl (by first | exact Or.inl rfl | exact Or.inr rfl) (pe_methKC (ks := ["many"]) (is := [0]) C.Kind_with_many (by decide) hg (hr.mono (by decide)) (pv 8) (pk_cons (pe_op opAdd (pv 2) pe_int) pk_nil)))
      (pss_cons (ps_if (PW.pt (pw_or (pt_not (pt_val (pe_callC C.is_ hg (hr.mono (by decide)) (by rfl) (pa_cons (pv 10) (pa_cons (pe_tup (pa_cons (pe_op opAdd (pv 2) pe_int) (pa_cons (pv 3) (pa_cons (pv 4) (pa_cons (pv 5) pa_nil))))) pa_nil))))) (pw_or (pt_cmpR (opEqC C.Kind_eq hg (hr.mono (by decide)) (by rfl) (room_u hr)) (pv 10) (pv 8) (nomark _)) (pw_or1 (pt_cmpR (opNeC C.Kind_ne hg (hr.mono (by decide)) (by rfl) (room_u hr)) (pe_methC C.Kind_with_many hg (hr.mono (by decide)) (pv 10) (pa_cons (pv 2) pa_nil)) (pv 8) (nomark _)))))) (pss_one (ps_ret pe_bl)) pss_nil)
      (pss_cons (ps_for PassesOwn.never rfl (pi_or (piList (K := K) (by rfl) (pe_callC C.others_ hg (hr.mono (by decide)) (by rfl) (pa_cons (pv 0) (pa_cons (pv 1) pa_nil)))) (piTup (K := K) (by rfl) (pe_callC C.others_ hg (hr.mono (by decide)) (by rfl) (pa_cons (pv 0) (pa_cons (pv 1) pa_nil))))) (pg_name (i := 11) sc.nd rfl (by first | exact Or.inl rfl | exact Or.inr rfl)) (pss_one (ps_if (pt_cmpR (opEqC C.Kind_eq hg (hr.mono (by decide)) (by rfl) (room_u hr)) (pe_makeC C.Kind_init hg (hr.mono (by decide)) (by rfl) (pa_cons (pe_ix (kIx (K := K) (by rfl)) (pv 11) pe_int (fun _ _ => rfl)) (pa_cons (pe_ix (kIx (K := K) (by rfl)) (pv 11) pe_int (fun _ _ => rfl)) (pa_cons (pe_ix (kIx (K := K) (by rfl)) (pv 11) pe_int (fun _ _ => rfl)) (pa_cons (pe_ix (kIx (K := K) (by rfl)) (pv 11) pe_int (fun _ _ => rfl)) pa_nil))))) (pv 8) (nomark _)) (pss_one (ps_ret pe_bl)) pss_nil)))
      (pss_cons (ps_set (i := 12) sc.nd rfl (by first | exact Or.inl rfl | exact Or.inr rfl) (pe_lst (pa_cons (pe_cmpR (opEqC C.Kind_eq hg (hr.mono (by decide)) (by rfl) (room_u hr)) (pv 8) pe_int (nomark _)) (pa_cons (pe_cmpR (opEqC C.Kind_eq hg (hr.mono (by decide)) (by rfl) (room_u hr)) (pv 8) pe_str (nomark _)) (pa_cons (pe_cmpR (opEqC C.Kind_eq hg (hr.mono (by decide)) (by rfl) (room_u hr)) (pv 8) (pv 1) (nomark _)) (pa_cons (pe_cmpR (opEqC C.Kind_eq hg (hr.mono (by decide)) (by rfl) (room_u hr)) (pv 8) (pe_lst (pa_cons (pv 8) pa_nil)) (nomark _)) (pa_cons (pe_cmpR (opEqC C.Kind_eq hg (hr.mono (by decide)) (by rfl) (room_u hr)) (pv 8) pe_dnewK (nomark _)) pa_nil)))))))
      (pss_cons (ps_if (pt_cmpR (opNeC C.Kind_ne hg (hr.mono (by decide)) (by rfl) (room_u hr)) (pv 12) (pe_op (opMul (K := K) (by rfl)) (pe_lst (pa_cons pe_bl pa_nil)) pe_int) (nomark _)) (pss_one (ps_ret pe_bl)) pss_nil)
      (pss_cons (ps_asg (pe_ix (kIx (K := K) (by rfl)) (pe_methC0 C.Kind_prices hg (hr.mono (by decide)) (pv 8)) pe_int (fun _ _ => rfl)) (pgTup (n := 2) (K := K) (by rfl) (by rfl) (pgs_cons (pg_name (i := 13) sc.nd rfl (by first | exact Or.inl rfl | exact Or.inr rfl)) (pgs_cons (pg_name (i := 14) sc.nd rfl (by first | exact Or.inl rfl | exact Or.inr rfl)) pgs_nil))))
      (pss_one (ps_ret (pe_and (pe_cmpR (opEqC C.Kind_eq hg (hr.mono (by decide)) (by rfl) (room_u hr)) (pe_callC C.price_at hg (hr.mono (by decide)) (by rfl) (pa_cons (pe_tup (pa_cons (pv 13) (pa_cons (pv 14) pa_nil))) (pa_cons pe_int pa_nil))) (pe_callC C.price_at hg (hr.mono (by decide)) (by rfl) (pa_cons (pe_ix (kIx (K := K) (by rfl)) (pv 5) pe_int (fun _ _ => rfl)) (pa_cons pe_int pa_nil))) (nomark _)) (pe_one (pe_cmpR (opEqC C.Kind_eq hg (hr.mono (by decide)) (by rfl) (room_u hr)) (pe_callC C.plus_prices hg (hr.mono (by decide)) (by rfl) (pa_cons (pe_tup (pa_cons (pv 13) (pa_cons (pv 14) pa_nil))) (pa_cons (pe_tup (pa_cons pe_int (pa_cons (pe_lst pa_nil) pa_nil))) pa_nil))) (pe_tup (pa_cons (pe_op opAdd (pv 13) pe_int) (pa_cons (pv 14) pa_nil))) (nomark _))))))))))))))))))))))))), ?_⟩
  intro p xs hl hp
  obtain ⟨a, rfl, hp⟩ := hp
  refine sv_seq (nx' := fun ds' => ∃ m r bs ps, okL m r bs ps ∧ ds' = [some (.dat (.adr a)), some (.dat (partsD m r bs ps)), none, none, none, none, none, none, none, none, none, none, none, none, none]) (sv_set (P := fun d => ∃ m r bs ps, d = partsD m r bs ps ∧ okL m r bs ps) (ev_call' (ea1 (ev_var rfl)) ?_) fun d ⟨m, r, bs, ps, e, ok⟩ => ⟨m, r, bs, ps, ok, by rw [e]; rfl⟩) ?_
  · rintro _ ⟨x, ex, rfl⟩
    rw [ex]
    exact ⟨rfl, ⟨a, rfl, hp⟩, fun d h => h⟩
  rintro _ ⟨m, r, bs, ps, okl, rfl⟩
  have ok := okl.k
  have l1 := ok.l1
  have l6 := ok.l6
  have lp := ok.lp
  obtain ⟨p0, pr, rfl⟩ : ∃ p0 pr, ps = p0 :: pr := by
    cases ps with
    | nil => exact absurd lp (by show ¬ (0 = bs.length); omega)
    | cons p0 pr => exact ⟨p0, pr, rfl⟩
  refine sv_seq (nx' := (· = R3 a m r bs (p0 :: pr) none none none none none none none none none)) (sv_asg (ev_var (d := partsD m r bs (p0 :: pr)) rfl) fun d' e => ⟨_, by rw [e]; exact eg_tup (egs_cons (egs_cons (egs_cons (egs_cons egs_nil)))) rfl, rfl⟩) ?_
  rintro _ rfl
  have hc : ClF K (cls.C 0) := hK ▸ Gk.Kind_cl
  have nf := Gk.Kind_nf
  have v1 : ∀ {x6 x7 x8 x9 x10 x11 x12 x13 x14 : Option Slot}, Ev cls p (tVar 1) (R3 a m r bs (p0 :: pr) x6 x7 x8 x9 x10 x11 x12 x13 x14) (· = partsD m r bs (p0 :: pr)) := ev_var rfl
  have v2 : ∀ {x6 x7 x8 x9 x10 x11 x12 x13 x14 : Option Slot}, Ev cls p (tVar 2) (R3 a m r bs (p0 :: pr) x6 x7 x8 x9 x10 x11 x12 x13 x14) (· = .int m) := ev_var rfl
  have v3 : ∀ {x6 x7 x8 x9 x10 x11 x12 x13 x14 : Option Slot}, Ev cls p (tVar 3) (R3 a m r bs (p0 :: pr) x6 x7 x8 x9 x10 x11 x12 x13 x14) (· = .int r) := ev_var rfl
  have v4 : ∀ {x6 x7 x8 x9 x10 x11 x12 x13 x14 : Option Slot}, Ev cls p (tVar 4) (R3 a m r bs (p0 :: pr) x6 x7 x8 x9 x10 x11 x12 x13 x14) (· = .lst (bs.map Lk.pairD)) := ev_var rfl
  have v5 : ∀ {x6 x7 x8 x9 x10 x11 x12 x13 x14 : Option Slot}, Ev cls p (tVar 5) (R3 a m r bs (p0 :: pr) x6 x7 x8 x9 x10 x11 x12 x13 x14) (· = .lst ((p0 :: pr).map (prD true))) := ev_var rfl
  have vk : ∀ {x6 x7 x9 x10 x11 x12 x13 x14 : Option Slot}, Ev cls p (tVar 8) (R3 a m r bs (p0 :: pr) x6 x7 (some (.dat (kindD m r bs (p0 :: pr)))) x9 x10 x11 x12 x13 x14) (· = kindD m r bs (p0 :: pr)) := ev_var rfl
  have okp0 := okl.pr p0 (List.mem_cons_self ..)
  refine sv_block (i := 6) (j := 7) (k := 8) (xs := bs.map Lk.pairD) (s0 := .int p0.1) (bs := p0.2.map bend2) (yr := pr.map (prD true)) (dd := kindD m r bs (p0 :: pr)) (noOwn_of rfl) (ef_list (k := true) v4) (by rw [List.length_map]; omega) ((evn_lc (js := [13, 14]) (xs := (p0 :: pr).map (prD true)) (f := fun d => d) (ei_row (k := true) v5) (by rw [List.length_map]; omega) (by decide) rfl fun x hx => ?_).mono fun d e => by rw [e, List.map_id']; rfl) (by rw [List.length_map]; have := okp0.few; omega) (fun d hd => ?_) (by decide) (noMut_of rfl) (n_kind (k := true) (l := true) (e := true) (ea_consE (ev_var rfl) (ea_consE (ev_var rfl) (ea_consE (ev_var rfl) (ea_consE (ev_var rfl) ea_nilE)))) ok) fun g c l tt => ?_
  · obtain ⟨q, hq, rfl⟩ := List.mem_map.mp hx
    exact ⟨_, eg_tup (xs := [.int q.1, .lst (q.2.map bend2)]) (egs_cons (egs_cons egs_nil)) rfl, rfl, (evn_t2 (evn_int (ev_var rfl)) (evn_list (k := true) (xs := q.2.map bend2) (n := 1) (ev_var rfl) nl_pairs)).mono fun d ⟨x, y, ex, ey, e⟩ => by rw [e, ex, ey]; rfl⟩
  · obtain ⟨q, _, rfl⟩ := List.mem_map.mp hd
    exact ⟨q.1, q.2, rfl⟩
  refine svf_seq (nx' := (· = R3 a m r bs (p0 :: pr) (some (.dat (.adr g))) (some (.dat (.adr c))) (some (.dat (kindD m r bs (p0 :: pr)))) none none none none none none)) (noOwn_of rfl) (noMut_of rfl) (sv_guard ((et_notE (a := true) (et_Bt (e_is vk v1 ok))).mono fun b e => e) rfl) ?_
  rintro _ rfl
  refine svf_appG (i := 6) rfl (noMut_of rfl) (by decide) (ev_t2 ev_int ev_int) ?_
  refine svf_appL (j := 7) rfl (noMut_of rfl) (ev_t2 ev_int ev_int) ?_
  have n0 : ∀ {x6 x7 x9 x10 x11 x12 x13 x14 : Option Slot}, EvN cls p (tOp (rIx K) (tMeth (cls.C 0) "prices" (spN cls 1 pre_Kind_prices F_Kind_prices) [] E0 (tVar 8) tNil) (tC (.int 0))) (R3 a m r bs (p0 :: pr) x6 x7 (some (.dat (kindD m r bs (p0 :: pr)))) x9 x10 x11 x12 x13 x14) (· = .tup [.int p0.1, .lst (p0.2.map bend2)]) := evn_ix0 (ys := pr.map (prD true)) (n_prices vk ok)
  refine sv_seq (nx' := (· = R3 a m r bs (p0 :: pr) (some (.dat (.adr g))) (some (.dat (.adr c))) (some (.dat (kindD m r bs (p0 :: pr)))) none none none none none none)) (sv_appNew (n_bounds vk ok) (by rw [List.length_map]; omega) (ev_t2 ev_int ev_int) rfl) ?_
  rintro _ rfl
  refine sv_seq (nx' := (· = R3 a m r bs (p0 :: pr) (some (.dat (.adr g))) (some (.dat (.adr c))) (some (.dat (kindD m r bs (p0 :: pr)))) none none none none none none)) (sv_appNew (evn_ix1 n0) (by rw [List.length_map]; have := okp0.few; omega) (ev_t2 ev_int ev_int) rfl) ?_
  rintro _ rfl
  refine sv_seq (nx' := (· = R3 a m r bs (p0 :: pr) (some (.dat (.adr g))) (some (.dat (.adr c))) (some (.dat (kindD m r bs (p0 :: pr)))) none none none none none none)) (sv_guard (et_orF ((et_andE (a := decide ((bs.length : Int) > 1)) (b := false) ((et_iE (f := fun i j => decide (i > j)) (ev_len (k := true) v4) ev_int).mono fun b e => by rw [e, List.length_map]) fun _ => et_neIC (i := bs.length) (e_kcols vk) ((ev_len (k := true) v4).mono fun d e => by rw [e, List.length_map])).mono fun b e => by rw [e, Bool.and_false]) ((et_notE (a := true) (et_Bt (e_is vk v1 ok))).mono fun b e => e)) rfl) ?_
  rintro _ rfl
  refine sv_seq (nx' := (· = R3 a m r bs (p0 :: pr) (some (.dat (.adr g))) (some (.dat (.adr c))) (some (.dat (kindD m r bs (p0 :: pr)))) (some (.dat (kindD m r bs (p0 :: pr)))) none none none none none)) (sv_set (k_kind (k := false) (l := false) (e := false) (m := m) (r := r) (bs := bs) (ps := p0 :: pr) (ea_consE ((ev_tupOf (k := true) (ev_lcF (js := [13, 14]) (xs := (p0 :: pr).map (prD true)) (f := fun d => match d with | .tup [s, .lst b] => .tup [s, .tup b] | d => d) (ei_row (k := true) v5) (by rw [List.length_map]; omega) (by decide) rfl fun x hx => ?_)).mono fun d e => ?_) (ea_consE (ev_tupOf (k := true) v4) (ea_consE v3 (ea_consE v2 ea_nilE)))) ok).ev fun d e => by rw [e]; rfl) ?_
  · obtain ⟨q, hq, rfl⟩ := List.mem_map.mp hx
    exact ⟨_, eg_tup (xs := [.int q.1, .lst (q.2.map bend2)]) (egs_cons (egs_cons egs_nil)) rfl, rfl, ev_t2 (ev_var rfl) (ev_tupOf (k := true) (xs := q.2.map bend2) (ev_var rfl))⟩
  · rw [e, List.map_map]
    rfl
  rintro _ rfl
  have vs : ∀ {x6 x7 x8 x10 x11 x12 x13 x14 : Option Slot}, Ev cls p (tVar 9) (R3 a m r bs (p0 :: pr) x6 x7 x8 (some (.dat (kindD m r bs (p0 :: pr)))) x10 x11 x12 x13 x14) (· = kindD m r bs (p0 :: pr)) := ev_var rfl
  have inr : ∀ {m' r' bs' ps'}, builtD (kindD m' r' bs' ps') = true ∨ ∃ m2 r2 bs2 ps2, kindD m' r' bs' ps' = kindD m2 r2 bs2 ps2 := fun {m' r' bs' ps'} => .inr ⟨m', r', bs', ps', rfl⟩
  refine sv_seq (nx' := (· = R3 a m r bs (p0 :: pr) (some (.dat (.adr g))) (some (.dat (.adr c))) (some (.dat (kindD m r bs (p0 :: pr)))) (some (.dat (kindD m r bs (p0 :: pr)))) none none none none none)) (sv_guard (et_orF (et_neSC (a := (py (.lst [.bl true, .bl false, .bl true])).shown) (ev_show (n := 2) (ev_lst3 (q_eq hc (hK ▸ nf) vs vk inr q_same) (q_neT hc vs vk) (q_eq hc (hK ▸ nf) vk (e_with vk v2 ok) inr q_same)) (by decide) rfl (by decide)) (ev_show (n := 2) (ev_lst3 ev_bl ev_bl ev_bl) (by decide) rfl (by decide))) ((et_notE (a := true) (et_Bt (e_is vs v1 ok))).mono fun b e => e)) rfl) ?_
  rintro _ rfl
  have m5 : (m + 5).natAbs < 2 ^ 200 := by
    have e100 : (2 : Nat) ^ 100 + 5 ≤ 2 ^ 200 := by decide
    exact Nat.lt_of_lt_of_le (Nat.lt_of_le_of_lt (Int.natAbs_add_le m 5) (Nat.add_lt_add_right okl.mw 5)) e100
  have ok5 : okK (m + 5) r bs (p0 :: pr) := ⟨by have := ok.m0; omega, m5, ok.rw, ok.l1, ok.l6, ok.lp, ok.bo, ok.pr⟩
  have n5 : kindD m r bs (p0 :: pr) ≠ kindD (m + 5) r bs (p0 :: pr) := fun z => by have := (kind_inj z).1; omega
  refine sv_seq (nx' := (· = R3 a m r bs (p0 :: pr) (some (.dat (.adr g))) (some (.dat (.adr c))) (some (.dat (kindD m r bs (p0 :: pr)))) (some (.dat (kindD m r bs (p0 :: pr)))) (some (.dat (kindD (m + 5) r bs (p0 :: pr)))) none none none none)) (sv_set (k_with vk (ev_addI v2 ev_int) ok5) fun d e => by rw [e]; rfl) ?_
  rintro _ rfl
  have vm : ∀ {x6 x7 x8 x9 x11 x12 x13 x14 : Option Slot}, Ev cls p (tVar 10) (R3 a m r bs (p0 :: pr) x6 x7 x8 x9 (some (.dat (kindD (m + 5) r bs (p0 :: pr)))) x11 x12 x13 x14) (· = kindD (m + 5) r bs (p0 :: pr)) := ev_var rfl
  have etf : ∀ {te : TE} {ds : Sts}, Ev cls p te ds (· = .bl false) → ET cls p (tTest te) ds (· = false) := fun h => (et_test h blP).mono fun b e => D.bl.inj e
  refine sv_seq (nx' := (· = R3 a m r bs (p0 :: pr) (some (.dat (.adr g))) (some (.dat (.adr c))) (some (.dat (kindD m r bs (p0 :: pr)))) (some (.dat (kindD m r bs (p0 :: pr)))) (some (.dat (kindD (m + 5) r bs (p0 :: pr)))) none none none none)) (sv_guard (et_orF ((et_notE (a := true) (et_Bt (e_is vm (e_parts4 (ev_addI v2 ev_int) v3 v4 v5) ok5))).mono fun b e => e) (et_orF (etf (q_eq hc (hK ▸ nf) vm vk inr (q_kind n5))) (etf (q_neT hc (e_with vm v2 ok) vk)))) rfl) ?_
  rintro _ rfl
  refine sv_seq (nx' := fun ds' => ∃ x11 : Option Slot, ds' = R3 a m r bs (p0 :: pr) (some (.dat (.adr g))) (some (.dat (.adr c))) (some (.dat (kindD m r bs (p0 :: pr)))) (some (.dat (kindD m r bs (p0 :: pr)))) (some (.dat (kindD (m + 5) r bs (p0 :: pr)))) x11 none none none) (sv_for (PI := fun xs => ∀ o ∈ xs, ∃ m' r' bs' ps', o = partsD m' r' bs' ps' ∧ okK m' r' bs' ps' ∧ kindD m' r' bs' ps' ≠ kindD m r bs (p0 :: pr)) (ei_l ((ei_list (P := fun d => ∃ os : List D, d = .lst os ∧ ∀ o ∈ os, ∃ m' r' bs' ps', o = partsD m' r' bs' ps' ∧ okK m' r' bs' ps' ∧ kindD m' r' bs' ps' ≠ kindD m r bs (p0 :: pr)) (ev_call' (ea2 (ev_var rfl) v1) ?_) fun d ⟨os, e, _⟩ => ⟨os, e⟩).mono fun xs ⟨os, e, h⟩ => by rw [D.lst.inj e]; exact h)) ?_) ?_
  · rintro _ ⟨x, y, ex, ey, rfl⟩
    rw [ex, ey]
    refine ⟨rfl, ⟨a, m, r, bs, p0 :: pr, rfl, hp, okl⟩, ?_⟩
    rintro d ⟨a', m', r', bs', ps', e, os, ed, _, ho⟩
    obtain ⟨e1, e2, e3, e4⟩ := parts_inj (List.cons.inj (List.cons.inj e).2).1
    subst e1 e2 e3 e4
    exact ⟨os, ed, ho⟩
  · intro xs hxs
    refine ⟨fun _ ds' => ∃ x11 : Option Slot, ds' = R3 a m r bs (p0 :: pr) (some (.dat (.adr g))) (some (.dat (.adr c))) (some (.dat (kindD m r bs (p0 :: pr)))) (some (.dat (kindD m r bs (p0 :: pr)))) (some (.dat (kindD (m + 5) r bs (p0 :: pr)))) x11 none none none, ⟨none, rfl⟩, ?_, fun ds1 h => h⟩
    rintro i d ds1 hd ⟨x11, rfl⟩
    obtain ⟨m', r', bs', ps', rfl, ok', ne⟩ := hxs d (List.mem_of_getElem? hd)
    refine ⟨[11], R3 a m r bs (p0 :: pr) (some (.dat (.adr g))) (some (.dat (.adr c))) (some (.dat (kindD m r bs (p0 :: pr)))) (some (.dat (kindD m r bs (p0 :: pr)))) (some (.dat (kindD (m + 5) r bs (p0 :: pr)))) (some (.dat (partsD m' r' bs' ps'))) none none none, eg_name, sv_guard (etf (q_eq hc (hK ▸ nf) (n_kind (k := true) (l := true) (e := true) (ea_consE (ev_ixI (k := false) (xs := kYs m' r' bs' ps') (ev_var rfl) ev_int rfl) (ea_consE (ev_ixI (k := false) (xs := kYs m' r' bs' ps') (ev_var rfl) ev_int rfl) (ea_consE (ev_ixI (k := false) (xs := kYs m' r' bs' ps') (ev_var rfl) ev_int rfl) (ea_consE (ev_ixI (k := false) (xs := kYs m' r' bs' ps') (ev_var rfl) ev_int rfl) ea_nilE)))) ok').ev vk inr (q_kind ne.symm))) ⟨_, rfl⟩⟩
  rintro _ ⟨x11, rfl⟩
  have vk2 : ∀ {x12 x13 x14 : Option Slot}, Ev cls p (tVar 8) (R3 a m r bs (p0 :: pr) (some (.dat (.adr g))) (some (.dat (.adr c))) (some (.dat (kindD m r bs (p0 :: pr)))) (some (.dat (kindD m r bs (p0 :: pr)))) (some (.dat (kindD (m + 5) r bs (p0 :: pr)))) x11 x12 x13 x14) (· = kindD m r bs (p0 :: pr)) := ev_var rfl
  refine sv_seq (nx' := (· = R3 a m r bs (p0 :: pr) (some (.dat (.adr g))) (some (.dat (.adr c))) (some (.dat (kindD m r bs (p0 :: pr)))) (some (.dat (kindD m r bs (p0 :: pr)))) (some (.dat (kindD (m + 5) r bs (p0 :: pr)))) x11 (some (.dat (.lst [.bl false, .bl false, .bl false, .bl false, .bl false]))) none none)) (sv_set (ev_lstE (ea_consE (q_eq hc (hK ▸ nf) vk2 ev_int (.inl rfl) (q_built rfl)) (ea_consE (q_eq hc (hK ▸ nf) vk2 ev_str (.inl rfl) (q_built rfl)) (ea_consE (q_eq hc (hK ▸ nf) vk2 v1 (.inl rfl) (q_built rfl)) (ea_consE (q_eq hc (hK ▸ nf) vk2 (ev_lst1 vk2) (.inl rfl) (q_built rfl)) (ea_consE (q_eq hc (hK ▸ nf) vk2 ev_dk (.inl rfl) (q_built rfl)) ea_nilE))))) (by show 5 ≤ 100000; decide)) fun d e => by rw [e]; rfl) ?_
  rintro _ rfl
  refine sv_seq (nx' := (· = R3 a m r bs (p0 :: pr) (some (.dat (.adr g))) (some (.dat (.adr c))) (some (.dat (kindD m r bs (p0 :: pr)))) (some (.dat (kindD m r bs (p0 :: pr)))) (some (.dat (kindD (m + 5) r bs (p0 :: pr)))) x11 (some (.dat (.lst [.bl false, .bl false, .bl false, .bl false, .bl false]))) none none)) (sv_guard (et_neDC (n := 2) (d := .lst [.bl false, .bl false, .bl false, .bl false, .bl false]) (ev_var rfl) ((ev_F (ef_rep (xs := [.bl false]) (ev_lst1 ev_bl) ev_int (by decide) (by decide) (by decide))).mono fun d ⟨xs, ex, e⟩ => by rw [e, ex]; rfl) (by decide) rfl) rfl) ?_
  rintro _ rfl
  have n1 : EvN cls p (tOp (rIx K) (tMeth (cls.C 0) "prices" (spN cls 1 pre_Kind_prices F_Kind_prices) [] E0 (tVar 8) tNil) (tC (.int 0))) (R3 a m r bs (p0 :: pr) (some (.dat (.adr g))) (some (.dat (.adr c))) (some (.dat (kindD m r bs (p0 :: pr)))) (some (.dat (kindD m r bs (p0 :: pr)))) (some (.dat (kindD (m + 5) r bs (p0 :: pr)))) x11 (some (.dat (.lst [.bl false, .bl false, .bl false, .bl false, .bl false]))) none none) (· = .tup [.int p0.1, .lst (p0.2.map bend2)]) := evn_ix0 (ys := pr.map (prD true)) (n_prices vk2 ok)
  refine sv_seq (nx' := (· = R3 a m r bs (p0 :: pr) (some (.dat (.adr g))) (some (.dat (.adr c))) (some (.dat (kindD m r bs (p0 :: pr)))) (some (.dat (kindD m r bs (p0 :: pr)))) (some (.dat (kindD (m + 5) r bs (p0 :: pr)))) x11 (some (.dat (.lst [.bl false, .bl false, .bl false, .bl false, .bl false]))) (some (.dat (.int p0.1))) (some (.dat (.lst (p0.2.map bend2)))))) (sv_asg n1.ev fun d' e => ⟨R3 a m r bs (p0 :: pr) (some (.dat (.adr g))) (some (.dat (.adr c))) (some (.dat (kindD m r bs (p0 :: pr)))) (some (.dat (kindD m r bs (p0 :: pr)))) (some (.dat (kindD (m + 5) r bs (p0 :: pr)))) x11 (some (.dat (.lst [.bl false, .bl false, .bl false, .bl false, .bl false]))) (some (.dat (.int p0.1))) (some (.dat (.lst (p0.2.map bend2)))), by subst e; exact eg_tup (xs := [.int p0.1, .lst (p0.2.map bend2)]) (egs_cons (egs_cons egs_nil)) rfl, rfl⟩) ?_
  rintro _ rfl
  have o0 := okp0.q
  refine sv_ret (ev_andT (ev_eqDC (n := 0) (d := .int (costI p0.1 p0.2 3)) (e_priceat (k := true) (s := p0.1) (bs := p0.2) (ev_t2 (ev_var rfl) (ev_var rfl)) ev_int o0 (by decide)) (e_priceat (k := true) (s := p0.1) (bs := p0.2) (ev_ixI (k := true) (xs := (p0 :: pr).map (prD true)) v5 ev_int atI_zero) ev_int o0 (by decide)) (by decide) rfl) (ev_eqDC (n := 4) (d := priceD true (p0.1 + 1) p0.2) (e_plusE (k := true) (l := true) (s1 := p0.1) (s2 := 1) (b1 := p0.2) (b2 := []) (z := p0.2) (ev_t2 (ev_var rfl) (ev_var rfl)) (ev_lt0 (s := 1) ev_int) o0 okQ1 (by rw [List.append_nil]; exact o0.isS) o0.few) (ev_t2 (ev_addI (ev_var rfl) ev_int) (ev_var rfl)) (by decide) okD_price)) fun d e => e
end K43

namespace K43
open PySem PySem.Spec PyProof.Rows L2 Lk
structure C_law (P : Program) (w : World) (K : PySem.W.Frag) (mg : Str → Option Value) (base : Heap) (cls : Cl) : Prop where
  right_ : Cal P w K mg base "_law_right" 8 ["_law_pot_here"] [] (spG cls 1 pre_right_ F_right_)
  pot_ : Cal P w K mg base "_law_pot" 1 ["_law_script", "_law_k"] [] (spPot cls)
theorem ok_law {P : Program} {w : World} {K : PySem.W.Frag} {mg : Str → Option Value} {base : Heap} {cls : Cl} {f : Addr} {fd : FuncData} (F : Fun K "law" "law" s_law f fd) (Z : Bt mg) (Gc : Gcs mg) (Gk : Gks K mg cls) (C : C_law P w K mg base cls) (hK : cls.K = K) :
    GOk P w K mg base 9 f fd ["_law_script"] (spG cls 1 pre_law F_law) := by
  have sc := sc_law
  refine gok_ev (m := 1) F sc rfl rfl fun cdv A out s H E hg hr => ⟨_, (pss_one (ps_ret (pe_callB (kAll (K := K) (by rfl) (by rfl)) (by rfl) Z.all (by decide +kernel) (pa_cons (pe_lc (own := [("_law_k", 1)]) rfl sc.nd (pi_range1 (by rfl) Z.range (pa_cons (pe_callB (kMax (by rfl)) (by rfl) Z.max (by decide +kernel) (pa_cons pe_int (pa_cons (pe_callB (kMin (by rfl)) (by rfl) Z.min (by decide +kernel) (pa_cons (pe_callB (kLen (K := K) (by rfl)) (by rfl) Z.len (by decide +kernel) (pa_cons (pv 0) pa_nil)) (pa_cons pe_int pa_nil))) pa_nil))) pa_nil)) (blkOk_by (by kernel_rfl)) (fun _ _ _ _ _ => (pg_name (i := 1) sc.nd rfl (by first | exact Or.inl rfl | exact Or.inr rfl))) (fun _ _ _ _ _ => pts_nil) (fun _ _ _ _ _ => (pe_callC C.right_ hg (hr.mono (by decide)) (by rfl) (pa_cons (pe_callC C.pot_ hg (hr.mono (by decide)) (by rfl) (pa_cons (pv 0) (pa_cons (pv 1) pa_nil))) pa_nil)))) pa_nil)))), ?_⟩
  intro p xs hl hp
  obtain ⟨hp0, ns, rfl, hl⟩ := hp
  have hpe : p = fun _ => False := funext fun a => propext ⟨hp0 a, fun z => z.elim⟩
  subst hpe
  let top : Int := if (if (2 : Int) < (ns.length : Int) then 2 else (ns.length : Int)) > 1 then (if (2 : Int) < (ns.length : Int) then 2 else (ns.length : Int)) else 1
  have ht : 1 ≤ top ∧ top ≤ 3 := by
    show 1 ≤ (if (if (2 : Int) < (ns.length : Int) then 2 else (ns.length : Int)) > 1 then (if (2 : Int) < (ns.length : Int) then 2 else (ns.length : Int)) else 1) ∧ (if (if (2 : Int) < (ns.length : Int) then 2 else (ns.length : Int)) > 1 then (if (2 : Int) < (ns.length : Int) then 2 else (ns.length : Int)) else 1) ≤ 3
    split <;> split <;> constructor <;> omega
  refine sv_ret (ev_all (bs := (irng 0 top.toNat).map fun _ => true) (Ev.mono (ev_lcF (js := [1]) (xs := irng 0 top.toNat) (f := fun _ => .bl true) (ei_rng (n := top) ((ea1 (ev_max ev_int (ev_min (ev_lenS (ev_var rfl) hK) ev_int))).mono fun xs ⟨x, ex, e⟩ => by rw [e, ex]) (by omega) (by omega)) ?_ (by decide) rfl fun x hx => ?_) fun d e => by rw [e, List.map_map]; rfl)) fun d e => ?_
  · unfold irng
    rw [List.length_map, List.length_range]
    omega
  · have key : ∃ kk : Int, x = .int kk ∧ 0 ≤ kk ∧ kk < 1000 := by
      unfold irng at hx
      obtain ⟨j, hj, rfl⟩ := List.mem_map.mp hx
      have := List.mem_range.mp hj
      exact ⟨_, rfl, by omega, by omega⟩
    obtain ⟨kk, rfl, k0, k1⟩ := key
    exact ⟨_, eg_name, rfl, ev_potCall (ns := ns) (kk := kk) ((ea2 (ev_var rfl) (ev_var rfl)).mono fun xs ⟨x, y, ex, ey, e⟩ => by rw [e, ex, ey]) k0 k1 (fun a p h => ⟨a, rfl, h⟩) (fun a d h => h) fun d e => ⟨true, e⟩⟩
  · rw [e, List.all_map]
    exact congrArg D.bl (List.all_eq_true.mpr fun x _ => rfl)
end K43

namespace K43
open PySem PySem.Spec PyProof.Rows L2 Lk
theorem all_mk {w : World} {K : PySem.W.Frag} {h : Heap} {mg : Str → Option Value} {fa : Addr} {C_Kind : Addr} (X : K.In h) (G : h.Ns mainGlobals mg) (hfa : mg "law" = some (.ref fa)) (Z : Bt mg) (Gc : Gcs mg)
    (A_Kind : ClA K "Kind" C_Kind) (n_Kind_many : NoAttr K C_Kind "_many") (n_Kind_rest : NoAttr K C_Kind "_rest") (n_Kind_bounds : NoAttr K C_Kind "_bounds") (n_Kind_prices : NoAttr K C_Kind "_prices")
    (m_Kind_many : PrA K C_Kind "many" "Kind.many" s_Kind_many)
    (m_Kind_rest : PrA K C_Kind "rest" "Kind.rest" s_Kind_rest)
    (m_Kind_columns : PrA K C_Kind "columns" "Kind.columns" s_Kind_columns)
    (m_Kind_bounds : MeA K C_Kind "bounds" "Kind.bounds" s_Kind_bounds)
    (m_Kind_eq : MeA K C_Kind "__eq__" "Kind.__eq__" s_Kind_eq)
    (m_Kind_repr : MeA K C_Kind "__repr__" "Kind.__repr__" s_Kind_repr)
    (m_Kind_prices : MeA K C_Kind "prices" "Kind.prices" s_Kind_prices)
    (m_Kind_init : MeA K C_Kind "__init__" "Kind.__init__" s_Kind_init)
    (m_Kind_with_many : MeA K C_Kind "with_many" "Kind.with_many" s_Kind_with_many)
    (d_is_integer : ∃ f fd, Df K "is_integer" s_is_integer f fd)
    (d_is_list : ∃ f fd, Df K "is_list" s_is_list f fd)
    (d_is_rising : ∃ f fd, Df K "is_rising" s_is_rising f fd)
    (d_told_price : ∃ f fd, Df K "told_price" s_told_price f fd)
    (d_cost_at : ∃ f fd, Df K "cost_at" s_cost_at f fd)
    (d_pot_ : ∃ f fd, Df K "_law_pot" s_pot_ f fd)
    (d_draw_ : ∃ f fd, Df K "_law_draw" s_draw_ f fd)
    (d_text_ : ∃ f fd, Df K "_law_text" s_text_ f fd)
    (d_is_count : ∃ f fd, Df K "is_count" s_is_count f fd)
    (d_is_bend : ∃ f fd, Df K "is_bend" s_is_bend f fd)
    (d_is_bound : ∃ f fd, Df K "is_bound" s_is_bound f fd)
    (d_pick_ : ∃ f fd, Df K "_law_pick" s_pick_ f fd)
    (d_mixed_ : ∃ f fd, Df K "_law_mixed" s_mixed_ f fd)
    (d_others_ : ∃ f fd, Df K "_law_others" s_others_ f fd)
    (d_is_price : ∃ f fd, Df K "is_price" s_is_price f fd)
    (d_are_bounds : ∃ f fd, Df K "are_bounds" s_are_bounds f fd)
    (d_price_ : ∃ f fd, Df K "_law_price" s_price_ f fd)
    (d_check_price : ∃ f fd, Df K "check_price" s_check_price f fd)
    (d_parts_ : ∃ f fd, Df K "_law_parts" s_parts_ f fd)
    (d_is_ : ∃ f fd, Df K "_law_is" s_is_ f fd)
    (d_price_at : ∃ f fd, Df K "price_at" s_price_at f fd)
    (d_plus_prices : ∃ f fd, Df K "plus_prices" s_plus_prices f fd)
    (d_right_ : ∃ f fd, Df K "_law_right" s_right_ f fd)
    (d_law : ∃ f fd, Df K "law" s_law f fd)
    : ∃ (Cs : Nat → Addr) (fd : FuncData), (∀ (s : Shared) (u : Value), BindsTo s fd ⟨[u], []⟩ [("_law_script", u)]) ∧ ∀ base : Heap, K.In base → base.Ns mainGlobals mg → GOk PySem.Challenge.pw_likestreets_k43_whole_kinds_tell_their_h w K mg base 9 fa fd ["_law_script"] (spG ⟨K, Cs⟩ 1 preLaw isTrue1) := by
  obtain ⟨f_is_integer, fd_is_integer, d_is_integer⟩ := d_is_integer
  obtain ⟨f_is_list, fd_is_list, d_is_list⟩ := d_is_list
  obtain ⟨f_is_rising, fd_is_rising, d_is_rising⟩ := d_is_rising
  obtain ⟨f_told_price, fd_told_price, d_told_price⟩ := d_told_price
  obtain ⟨f_cost_at, fd_cost_at, d_cost_at⟩ := d_cost_at
  obtain ⟨f_pot_, fd_pot_, d_pot_⟩ := d_pot_
  obtain ⟨f_draw_, fd_draw_, d_draw_⟩ := d_draw_
  obtain ⟨f_text_, fd_text_, d_text_⟩ := d_text_
  obtain ⟨f_is_count, fd_is_count, d_is_count⟩ := d_is_count
  obtain ⟨f_is_bend, fd_is_bend, d_is_bend⟩ := d_is_bend
  obtain ⟨f_is_bound, fd_is_bound, d_is_bound⟩ := d_is_bound
  obtain ⟨f_pick_, fd_pick_, d_pick_⟩ := d_pick_
  obtain ⟨f_mixed_, fd_mixed_, d_mixed_⟩ := d_mixed_
  obtain ⟨f_others_, fd_others_, d_others_⟩ := d_others_
  obtain ⟨f_is_price, fd_is_price, d_is_price⟩ := d_is_price
  obtain ⟨f_are_bounds, fd_are_bounds, d_are_bounds⟩ := d_are_bounds
  obtain ⟨f_price_, fd_price_, d_price_⟩ := d_price_
  obtain ⟨f_check_price, fd_check_price, d_check_price⟩ := d_check_price
  obtain ⟨f_parts_, fd_parts_, d_parts_⟩ := d_parts_
  obtain ⟨f_is_, fd_is_, d_is_⟩ := d_is_
  obtain ⟨f_price_at, fd_price_at, d_price_at⟩ := d_price_at
  obtain ⟨f_plus_prices, fd_plus_prices, d_plus_prices⟩ := d_plus_prices
  obtain ⟨f_right_, fd_right_, d_right_⟩ := d_right_
  obtain ⟨f_law, fd_law, d_law⟩ := d_law
  have e0 := hfa.symm.trans (PySem.W.mg_of X G d_law.a)
  cases e0
  refine ⟨(fun _ => C_Kind), fd_law, fun s u => ?_, fun base _ _ => ?_⟩
  · obtain ⟨oc, od, kV, doc, pm, an, cdv, ct, osl, rfl, lk, hcd⟩ := d_law.F.ex
    exact .of_eq rfl
  let cls : Cl := ⟨K, fun _ => C_Kind⟩
  have hK : cls.K = K := rfl
  have Gk : Gks K mg cls := ⟨PySem.W.mg_of X G A_Kind.ns, A_Kind.cl, A_Kind.nf, ⟨A_Kind.cl.cl, n_Kind_many⟩, ⟨A_Kind.cl.cl, n_Kind_rest⟩, ⟨A_Kind.cl.cl, n_Kind_bounds⟩, ⟨A_Kind.cl.cl, n_Kind_prices⟩⟩
  have g_is_integer : GOk PySem.Challenge.pw_likestreets_k43_whole_kinds_tell_their_h w K mg base 1 f_is_integer fd_is_integer ["value"] (spG cls 1 pre_is_integer F_is_integer) := ok_is_integer d_is_integer.F Z Gc Gk ⟨trivial⟩ hK
  have c_is_integer : Cal PySem.Challenge.pw_likestreets_k43_whole_kinds_tell_their_h w K mg base "is_integer" 1 ["value"] [] (spG cls 1 pre_is_integer F_is_integer) := cal_mk d_is_integer X G g_is_integer (fun _ _ _ _ _ _ us hl => match us, hl with | [_], _ => rfl) (fun q hq => nomatch hq)
  have g_is_list : GOk PySem.Challenge.pw_likestreets_k43_whole_kinds_tell_their_h w K mg base 1 f_is_list fd_is_list ["value"] (spG cls 1 pre_is_list F_is_list) := ok_is_list d_is_list.F Z Gc Gk ⟨trivial⟩ hK
  have c_is_list : Cal PySem.Challenge.pw_likestreets_k43_whole_kinds_tell_their_h w K mg base "is_list" 1 ["value"] [] (spG cls 1 pre_is_list F_is_list) := cal_mk d_is_list X G g_is_list (fun _ _ _ _ _ _ us hl => match us, hl with | [_], _ => rfl) (fun q hq => nomatch hq)
  have g_is_rising : GOk PySem.Challenge.pw_likestreets_k43_whole_kinds_tell_their_h w K mg base 1 f_is_rising fd_is_rising ["numbers"] (spG cls 1 pre_is_rising F_is_rising) := ok_is_rising d_is_rising.F Z Gc Gk ⟨trivial⟩ hK
  have c_is_rising : Cal PySem.Challenge.pw_likestreets_k43_whole_kinds_tell_their_h w K mg base "is_rising" 1 ["numbers"] [] (spG cls 1 pre_is_rising F_is_rising) := cal_mk d_is_rising X G g_is_rising (fun _ _ _ _ _ _ us hl => match us, hl with | [_], _ => rfl) (fun q hq => nomatch hq)
  have g_told_price : GOk PySem.Challenge.pw_likestreets_k43_whole_kinds_tell_their_h w K mg base 1 f_told_price fd_told_price ["price"] (spN cls 1 pre_told_price F_told_price) := ok_told_price d_told_price.F Z Gc Gk ⟨trivial⟩ hK
  have c_told_price : Cal PySem.Challenge.pw_likestreets_k43_whole_kinds_tell_their_h w K mg base "told_price" 1 ["price"] [] (spN cls 1 pre_told_price F_told_price) := cal_mk d_told_price X G g_told_price (fun _ _ _ _ _ _ us hl => match us, hl with | [_], _ => rfl) (fun q hq => nomatch hq)
  have g_cost_at : GOk PySem.Challenge.pw_likestreets_k43_whole_kinds_tell_their_h w K mg base 1 f_cost_at fd_cost_at ["price", "number"] (spG cls 2 pre_cost_at F_cost_at) := ok_cost_at d_cost_at.F Z Gc Gk ⟨trivial⟩ hK
  have c_cost_at : Cal PySem.Challenge.pw_likestreets_k43_whole_kinds_tell_their_h w K mg base "cost_at" 1 ["price", "number"] [] (spG cls 2 pre_cost_at F_cost_at) := cal_mk d_cost_at X G g_cost_at (fun _ _ _ _ _ _ us hl => match us, hl with | [_, _], _ => rfl) (fun q hq => nomatch hq)
  obtain ⟨pa_Kind_many, f_Kind_many, fd_Kind_many, hp_Kind_many, FF_Kind_many⟩ := m_Kind_many
  have c_Kind_many : Prp PySem.Challenge.pw_likestreets_k43_whole_kinds_tell_their_h w K mg base (cls.C 0) "many" 1 (spG cls 1 pre_Kind_many F_Kind_many) := ⟨pa_Kind_many, f_Kind_many, fd_Kind_many, ["self"], A_Kind.cl.cl, hp_Kind_many, ok_Kind_many FF_Kind_many Z Gc Gk ⟨trivial⟩ hK, FF_Kind_many.binds (fun _ _ _ _ _ _ us hl => match us, hl with | [_], _ => rfl)⟩
  obtain ⟨pa_Kind_rest, f_Kind_rest, fd_Kind_rest, hp_Kind_rest, FF_Kind_rest⟩ := m_Kind_rest
  have c_Kind_rest : Prp PySem.Challenge.pw_likestreets_k43_whole_kinds_tell_their_h w K mg base (cls.C 0) "rest" 1 (spG cls 1 pre_Kind_rest F_Kind_rest) := ⟨pa_Kind_rest, f_Kind_rest, fd_Kind_rest, ["self"], A_Kind.cl.cl, hp_Kind_rest, ok_Kind_rest FF_Kind_rest Z Gc Gk ⟨trivial⟩ hK, FF_Kind_rest.binds (fun _ _ _ _ _ _ us hl => match us, hl with | [_], _ => rfl)⟩
  obtain ⟨pa_Kind_columns, f_Kind_columns, fd_Kind_columns, hp_Kind_columns, FF_Kind_columns⟩ := m_Kind_columns
  have c_Kind_columns : Prp PySem.Challenge.pw_likestreets_k43_whole_kinds_tell_their_h w K mg base (cls.C 0) "columns" 1 (spG cls 1 pre_Kind_columns F_Kind_columns) := ⟨pa_Kind_columns, f_Kind_columns, fd_Kind_columns, ["self"], A_Kind.cl.cl, hp_Kind_columns, ok_Kind_columns FF_Kind_columns Z Gc Gk ⟨trivial⟩ hK, FF_Kind_columns.binds (fun _ _ _ _ _ _ us hl => match us, hl with | [_], _ => rfl)⟩
  obtain ⟨f_Kind_bounds, fd_Kind_bounds, fi_Kind_bounds, fn_Kind_bounds, FF_Kind_bounds⟩ := m_Kind_bounds
  have c_Kind_bounds : Mth PySem.Challenge.pw_likestreets_k43_whole_kinds_tell_their_h w K mg base (cls.C 0) "bounds" 1 [] ["self"] (spN cls 1 pre_Kind_bounds F_Kind_bounds) := mth_mk FF_Kind_bounds A_Kind fi_Kind_bounds fn_Kind_bounds (ok_Kind_bounds FF_Kind_bounds Z Gc Gk ⟨trivial⟩ hK) (FF_Kind_bounds.binds (fun _ _ _ _ _ _ us hl => match us, hl with | [_], _ => rfl)) (fun q hq => nomatch hq)
  obtain ⟨f_Kind_eq, fd_Kind_eq, fi_Kind_eq, fn_Kind_eq, FF_Kind_eq⟩ := m_Kind_eq
  have c_Kind_eq : Eqr PySem.Challenge.pw_likestreets_k43_whole_kinds_tell_their_h w K mg base (cls.C 0) 1 (spG cls 2 pre_Kind_eq F_Kind_eq) := ⟨f_Kind_eq, fd_Kind_eq, ["self", "other"], ok_Kind_eq FF_Kind_eq Z Gc Gk ⟨trivial⟩ hK, fi_Kind_eq, fn_Kind_eq, FF_Kind_eq.binds (fun _ _ _ _ _ _ us hl => match us, hl with | [_, _], _ => rfl)⟩
  have c_Kind_ne : Ner PySem.Challenge.pw_likestreets_k43_whole_kinds_tell_their_h w K mg base (cls.C 0) 1 (spG cls 2 pre_Kind_eq F_Kind_eq) := ⟨c_Kind_eq, A_Kind.ne, A_Kind.cl.hm⟩
  obtain ⟨f_Kind_repr, fd_Kind_repr, fi_Kind_repr, fn_Kind_repr, FF_Kind_repr⟩ := m_Kind_repr
  have c_Kind_repr : Rpr PySem.Challenge.pw_likestreets_k43_whole_kinds_tell_their_h w K mg base (cls.C 0) 1 (spG cls 1 pre_Kind_repr F_Kind_repr) := ⟨f_Kind_repr, fd_Kind_repr, ["self"], ok_Kind_repr FF_Kind_repr Z Gc Gk ⟨trivial⟩ hK, fi_Kind_repr, fn_Kind_repr, FF_Kind_repr.binds (fun _ _ _ _ _ _ us hl => match us, hl with | [_], _ => rfl)⟩
  have g_pot_ : GOk PySem.Challenge.pw_likestreets_k43_whole_kinds_tell_their_h w K mg base 1 f_pot_ fd_pot_ ["_law_script", "_law_k"] (spPot cls) := ok_pot_ d_pot_.F Z Gc Gk ⟨trivial⟩ hK
  have c_pot_ : Cal PySem.Challenge.pw_likestreets_k43_whole_kinds_tell_their_h w K mg base "_law_pot" 1 ["_law_script", "_law_k"] [] (spPot cls) := cal_mk d_pot_ X G g_pot_ (fun _ _ _ _ _ _ us hl => match us, hl with | [_, _], _ => rfl) (fun q hq => nomatch hq)
  have g_draw_ : GOk PySem.Challenge.pw_likestreets_k43_whole_kinds_tell_their_h w K mg base 1 f_draw_ fd_draw_ ["_law_pot_here", "_law_many"] (spG cls 2 pre_draw_ F_draw_) := ok_draw_ d_draw_.F Z Gc Gk ⟨trivial⟩ hK
  have c_draw_ : Cal PySem.Challenge.pw_likestreets_k43_whole_kinds_tell_their_h w K mg base "_law_draw" 1 ["_law_pot_here", "_law_many"] [] (spG cls 2 pre_draw_ F_draw_) := cal_mk d_draw_ X G g_draw_ (fun _ _ _ _ _ _ us hl => match us, hl with | [_, _], _ => rfl) (fun q hq => nomatch hq)
  have g_text_ : GOk PySem.Challenge.pw_likestreets_k43_whole_kinds_tell_their_h w K mg base 1 f_text_ fd_text_ ["_law_parts_here"] (spG cls 1 pre_text_ F_text_) := ok_text_ d_text_.F Z Gc Gk ⟨trivial⟩ hK
  have c_text_ : Cal PySem.Challenge.pw_likestreets_k43_whole_kinds_tell_their_h w K mg base "_law_text" 1 ["_law_parts_here"] [] (spG cls 1 pre_text_ F_text_) := cal_mk d_text_ X G g_text_ (fun _ _ _ _ _ _ us hl => match us, hl with | [_], _ => rfl) (fun q hq => nomatch hq)
  have g_is_count : GOk PySem.Challenge.pw_likestreets_k43_whole_kinds_tell_their_h w K mg base 2 f_is_count fd_is_count ["value"] (spG cls 1 pre_is_count F_is_count) := ok_is_count d_is_count.F Z Gc Gk ⟨c_is_integer⟩ hK
  have c_is_count : Cal PySem.Challenge.pw_likestreets_k43_whole_kinds_tell_their_h w K mg base "is_count" 2 ["value"] [] (spG cls 1 pre_is_count F_is_count) := cal_mk d_is_count X G g_is_count (fun _ _ _ _ _ _ us hl => match us, hl with | [_], _ => rfl) (fun q hq => nomatch hq)
  have g_is_bend : GOk PySem.Challenge.pw_likestreets_k43_whole_kinds_tell_their_h w K mg base 2 f_is_bend fd_is_bend ["value"] (spG cls 1 pre_is_bend F_is_bend) := ok_is_bend d_is_bend.F Z Gc Gk ⟨c_is_integer⟩ hK
  have c_is_bend : Cal PySem.Challenge.pw_likestreets_k43_whole_kinds_tell_their_h w K mg base "is_bend" 2 ["value"] [] (spG cls 1 pre_is_bend F_is_bend) := cal_mk d_is_bend X G g_is_bend (fun _ _ _ _ _ _ us hl => match us, hl with | [_], _ => rfl) (fun q hq => nomatch hq)
  have g_is_bound : GOk PySem.Challenge.pw_likestreets_k43_whole_kinds_tell_their_h w K mg base 2 f_is_bound fd_is_bound ["value"] (spG cls 1 pre_is_bound F_is_bound) := ok_is_bound d_is_bound.F Z Gc Gk ⟨c_is_integer⟩ hK
  have c_is_bound : Cal PySem.Challenge.pw_likestreets_k43_whole_kinds_tell_their_h w K mg base "is_bound" 2 ["value"] [] (spG cls 1 pre_is_bound F_is_bound) := cal_mk d_is_bound X G g_is_bound (fun _ _ _ _ _ _ us hl => match us, hl with | [_], _ => rfl) (fun q hq => nomatch hq)
  obtain ⟨f_Kind_prices, fd_Kind_prices, fi_Kind_prices, fn_Kind_prices, FF_Kind_prices⟩ := m_Kind_prices
  have c_Kind_prices : Mth PySem.Challenge.pw_likestreets_k43_whole_kinds_tell_their_h w K mg base (cls.C 0) "prices" 2 [] ["self"] (spN cls 1 pre_Kind_prices F_Kind_prices) := mth_mk FF_Kind_prices A_Kind fi_Kind_prices fn_Kind_prices (ok_Kind_prices FF_Kind_prices Z Gc Gk ⟨c_told_price⟩ hK) (FF_Kind_prices.binds (fun _ _ _ _ _ _ us hl => match us, hl with | [_], _ => rfl)) (fun q hq => nomatch hq)
  have g_pick_ : GOk PySem.Challenge.pw_likestreets_k43_whole_kinds_tell_their_h w K mg base 2 f_pick_ fd_pick_ ["_law_pot_here", "_law_some"] (spG cls 2 pre_pick_ F_pick_) := ok_pick_ d_pick_.F Z Gc Gk ⟨c_draw_⟩ hK
  have c_pick_ : Cal PySem.Challenge.pw_likestreets_k43_whole_kinds_tell_their_h w K mg base "_law_pick" 2 ["_law_pot_here", "_law_some"] [] (spG cls 2 pre_pick_ F_pick_) := cal_mk d_pick_ X G g_pick_ (fun _ _ _ _ _ _ us hl => match us, hl with | [_, _], _ => rfl) (fun q hq => nomatch hq)
  have g_mixed_ : GOk PySem.Challenge.pw_likestreets_k43_whole_kinds_tell_their_h w K mg base 2 f_mixed_ fd_mixed_ ["_law_pot_here", "_law_some"] (spG cls 2 pre_mixed_ F_mixed_) := ok_mixed_ d_mixed_.F Z Gc Gk ⟨c_draw_⟩ hK
  have c_mixed_ : Cal PySem.Challenge.pw_likestreets_k43_whole_kinds_tell_their_h w K mg base "_law_mixed" 2 ["_law_pot_here", "_law_some"] [] (spG cls 2 pre_mixed_ F_mixed_) := cal_mk d_mixed_ X G g_mixed_ (fun _ _ _ _ _ _ us hl => match us, hl with | [_, _], _ => rfl) (fun q hq => nomatch hq)
  have g_others_ : GOk PySem.Challenge.pw_likestreets_k43_whole_kinds_tell_their_h w K mg base 2 f_others_ fd_others_ ["_law_pot_here", "_law_parts_here"] (spG cls 2 pre_others_ F_others_) := ok_others_ d_others_.F Z Gc Gk ⟨c_draw_⟩ hK
  have c_others_ : Cal PySem.Challenge.pw_likestreets_k43_whole_kinds_tell_their_h w K mg base "_law_others" 2 ["_law_pot_here", "_law_parts_here"] [] (spG cls 2 pre_others_ F_others_) := cal_mk d_others_ X G g_others_ (fun _ _ _ _ _ _ us hl => match us, hl with | [_, _], _ => rfl) (fun q hq => nomatch hq)
  have g_is_price : GOk PySem.Challenge.pw_likestreets_k43_whole_kinds_tell_their_h w K mg base 3 f_is_price fd_is_price ["value"] (spG cls 1 pre_is_price F_is_price) := ok_is_price d_is_price.F Z Gc Gk ⟨c_is_rising, c_is_bend, c_is_list, c_is_integer⟩ hK
  have c_is_price : Cal PySem.Challenge.pw_likestreets_k43_whole_kinds_tell_their_h w K mg base "is_price" 3 ["value"] [] (spG cls 1 pre_is_price F_is_price) := cal_mk d_is_price X G g_is_price (fun _ _ _ _ _ _ us hl => match us, hl with | [_], _ => rfl) (fun q hq => nomatch hq)
  have g_are_bounds : GOk PySem.Challenge.pw_likestreets_k43_whole_kinds_tell_their_h w K mg base 3 f_are_bounds fd_are_bounds ["value"] (spG cls 1 pre_are_bounds F_are_bounds) := ok_are_bounds d_are_bounds.F Z Gc Gk ⟨c_is_bound, c_is_list⟩ hK
  have c_are_bounds : Cal PySem.Challenge.pw_likestreets_k43_whole_kinds_tell_their_h w K mg base "are_bounds" 3 ["value"] [] (spG cls 1 pre_are_bounds F_are_bounds) := cal_mk d_are_bounds X G g_are_bounds (fun _ _ _ _ _ _ us hl => match us, hl with | [_], _ => rfl) (fun q hq => nomatch hq)
  have g_price_ : GOk PySem.Challenge.pw_likestreets_k43_whole_kinds_tell_their_h w K mg base 3 f_price_ fd_price_ ["_law_pot_here"] (spG cls 1 pre_price_ F_price_) := ok_price_ d_price_.F Z Gc Gk ⟨c_draw_, c_mixed_, c_pick_⟩ hK
  have c_price_ : Cal PySem.Challenge.pw_likestreets_k43_whole_kinds_tell_their_h w K mg base "_law_price" 3 ["_law_pot_here"] [] (spG cls 1 pre_price_ F_price_) := cal_mk d_price_ X G g_price_ (fun _ _ _ _ _ _ us hl => match us, hl with | [_], _ => rfl) (fun q hq => nomatch hq)
  have g_check_price : GOk PySem.Challenge.pw_likestreets_k43_whole_kinds_tell_their_h w K mg base 4 f_check_price fd_check_price ["price"] (spG cls 1 pre_check_price F_check_price) := ok_check_price d_check_price.F Z Gc Gk ⟨c_is_price⟩ hK
  have c_check_price : Cal PySem.Challenge.pw_likestreets_k43_whole_kinds_tell_their_h w K mg base "check_price" 4 ["price"] [] (spG cls 1 pre_check_price F_check_price) := cal_mk d_check_price X G g_check_price (fun _ _ _ _ _ _ us hl => match us, hl with | [_], _ => rfl) (fun q hq => nomatch hq)
  obtain ⟨f_Kind_init, fd_Kind_init, fi_Kind_init, fn_Kind_init, FF_Kind_init⟩ := m_Kind_init
  have c_Kind_init : Mkr PySem.Challenge.pw_likestreets_k43_whole_kinds_tell_their_h w K mg base "Kind" (cls.C 0) 4 ["many", "rest", "bounds", "prices"] [(["prices", "bounds", "rest", "many"], [3, 2, 1, 0])] (spInitN cls 0 4 ["_many", "_rest", "_bounds", "_prices"] pre_Kind_init G_Kind_init) := mkr_mk FF_Kind_init A_Kind fi_Kind_init fn_Kind_init X G (ok_Kind_init FF_Kind_init Z Gc Gk ⟨c_told_price, c_is_price, c_is_list, c_are_bounds, c_is_integer, c_is_count⟩ hK) (fun _ _ _ _ _ _ _ us hl => match us, hl with | [_, _, _, _], _ => rfl) (fun q hq => by
    rcases List.mem_cons.mp hq with rfl | hq
    · exact fun _ _ _ _ _ _ _ ws hl => match ws, hl with | [_, _, _, _], _ => rfl
    · cases hq)
  have g_parts_ : GOk PySem.Challenge.pw_likestreets_k43_whole_kinds_tell_their_h w K mg base 4 f_parts_ fd_parts_ ["_law_pot_here"] (spG cls 1 pre_parts_ F_parts_) := ok_parts_ d_parts_.F Z Gc Gk ⟨c_price_, c_draw_, c_pick_⟩ hK
  have c_parts_ : Cal PySem.Challenge.pw_likestreets_k43_whole_kinds_tell_their_h w K mg base "_law_parts" 4 ["_law_pot_here"] [] (spG cls 1 pre_parts_ F_parts_) := cal_mk d_parts_ X G g_parts_ (fun _ _ _ _ _ _ us hl => match us, hl with | [_], _ => rfl) (fun q hq => nomatch hq)
  have g_is_ : GOk PySem.Challenge.pw_likestreets_k43_whole_kinds_tell_their_h w K mg base 4 f_is_ fd_is_ ["_law_kind", "_law_parts_here"] (spG cls 2 pre_is_ F_is_) := ok_is_ d_is_.F Z Gc Gk ⟨c_Kind_repr, c_text_, c_Kind_prices, c_Kind_bounds, c_Kind_columns, c_Kind_rest, c_Kind_many⟩ hK
  have c_is_ : Cal PySem.Challenge.pw_likestreets_k43_whole_kinds_tell_their_h w K mg base "_law_is" 4 ["_law_kind", "_law_parts_here"] [] (spG cls 2 pre_is_ F_is_) := cal_mk d_is_ X G g_is_ (fun _ _ _ _ _ _ us hl => match us, hl with | [_, _], _ => rfl) (fun q hq => nomatch hq)
  have g_price_at : GOk PySem.Challenge.pw_likestreets_k43_whole_kinds_tell_their_h w K mg base 5 f_price_at fd_price_at ["price", "number"] (spG cls 2 pre_price_at F_price_at) := ok_price_at d_price_at.F Z Gc Gk ⟨c_cost_at, c_is_integer, c_check_price⟩ hK
  have c_price_at : Cal PySem.Challenge.pw_likestreets_k43_whole_kinds_tell_their_h w K mg base "price_at" 5 ["price", "number"] [] (spG cls 2 pre_price_at F_price_at) := cal_mk d_price_at X G g_price_at (fun _ _ _ _ _ _ us hl => match us, hl with | [_, _], _ => rfl) (fun q hq => nomatch hq)
  have g_plus_prices : GOk PySem.Challenge.pw_likestreets_k43_whole_kinds_tell_their_h w K mg base 5 f_plus_prices fd_plus_prices ["price", "other"] (spBox cls 2 pre_plus_prices FB_plus_prices) := ok_plus_prices d_plus_prices.F Z Gc Gk ⟨c_check_price⟩ hK
  have c_plus_prices : Cal PySem.Challenge.pw_likestreets_k43_whole_kinds_tell_their_h w K mg base "plus_prices" 5 ["price", "other"] [] (spBox cls 2 pre_plus_prices FB_plus_prices) := cal_mk d_plus_prices X G g_plus_prices (fun _ _ _ _ _ _ us hl => match us, hl with | [_, _], _ => rfl) (fun q hq => nomatch hq)
  obtain ⟨f_Kind_with_many, fd_Kind_with_many, fi_Kind_with_many, fn_Kind_with_many, FF_Kind_with_many⟩ := m_Kind_with_many
  have c_Kind_with_many : Mth PySem.Challenge.pw_likestreets_k43_whole_kinds_tell_their_h w K mg base (cls.C 0) "with_many" 6 [(["many"], [0])] ["self", "many"] (spG cls 2 pre_Kind_with_many F_Kind_with_many) := mth_mk FF_Kind_with_many A_Kind fi_Kind_with_many fn_Kind_with_many (ok_Kind_with_many FF_Kind_with_many Z Gc Gk ⟨c_Kind_init⟩ hK) (FF_Kind_with_many.binds (fun _ _ _ _ _ _ us hl => match us, hl with | [_, _], _ => rfl)) (fun q hq => by
    rcases List.mem_cons.mp hq with rfl | hq
    · exact fun _ _ _ _ _ _ _ ws hl => match ws, hl with | [_], _ => rfl
    · cases hq)
  have g_right_ : GOk PySem.Challenge.pw_likestreets_k43_whole_kinds_tell_their_h w K mg base 8 f_right_ fd_right_ ["_law_pot_here"] (spG cls 1 pre_right_ F_right_) := ok_right_ d_right_.F Z Gc Gk ⟨c_Kind_eq, c_plus_prices, c_price_at, c_Kind_prices, c_Kind_ne, c_others_, c_Kind_init, c_Kind_with_many, c_is_, c_Kind_columns, c_Kind_bounds, c_parts_⟩ hK
  have c_right_ : Cal PySem.Challenge.pw_likestreets_k43_whole_kinds_tell_their_h w K mg base "_law_right" 8 ["_law_pot_here"] [] (spG cls 1 pre_right_ F_right_) := cal_mk d_right_ X G g_right_ (fun _ _ _ _ _ _ us hl => match us, hl with | [_], _ => rfl) (fun q hq => nomatch hq)
  exact ok_law d_law.F Z Gc Gk ⟨c_right_, c_pot_⟩ hK
end K43
open PySem PySem.W PyProof.Rows
set_option maxHeartbeats 0 in
theorem PySem.Challenge.cw_likestreets_k43_whole_kinds_tell_their_h_holds : PySem.Challenge.rw_likestreets_k43_whole_kinds_tell_their_h.Holds := by
  w_on; o_law; k_head; (case hw => w_witness2)
  k_fill
  refine Lk.walk_endC (l := PySem.Challenge.rw_likestreets_k43_whole_kinds_tell_their_h) (k := 9) (x := "_law_script") rfl rfl ⟨rfl, by decide, by decide⟩ (fun w h Y => PySem.W.kIn_of Y) ?F
  case F =>
    intro w mg fa h KX G hmg
    have Z : Lk.Bt mg := by
      refine Lk.bt_mk KX G ?bz
      intro x hx
      rcases List.mem_cons.mp hx with rfl | hx
      · k_is
      rcases List.mem_cons.mp hx with rfl | hx
      · k_is
      rcases List.mem_cons.mp hx with rfl | hx
      · k_is
      rcases List.mem_cons.mp hx with rfl | hx
      · k_is
      rcases List.mem_cons.mp hx with rfl | hx
      · k_is
      rcases List.mem_cons.mp hx with rfl | hx
      · k_is
      rcases List.mem_cons.mp hx with rfl | hx
      · k_is
      rcases List.mem_cons.mp hx with rfl | hx
      · k_is
      rcases List.mem_cons.mp hx with rfl | hx
      · k_is
      rcases List.mem_cons.mp hx with rfl | hx
      · k_is
      rcases List.mem_cons.mp hx with rfl | hx
      · k_is
      rcases List.mem_cons.mp hx with rfl | hx
      · k_is
      rcases List.mem_cons.mp hx with rfl | hx
      · k_is
      rcases List.mem_cons.mp hx with rfl | hx
      · k_is
      rcases List.mem_cons.mp hx with rfl | hx
      · k_is
      rcases List.mem_cons.mp hx with rfl | hx
      · k_is
      rcases List.mem_cons.mp hx with rfl | hx
      · k_is
      rcases List.mem_cons.mp hx with rfl | hx
      · k_is
      rcases List.mem_cons.mp hx with rfl | hx
      · k_is
      rcases List.mem_cons.mp hx with rfl | hx
      · k_is
      cases hx
    have Gc : K43.Gcs mg := by
      refine' ⟨Lk.gc_mk KX G ?g_MOST_BENDS, Lk.gc_mk KX G ?g_MOST_COLUMNS⟩
      case g_MOST_BENDS => k_is
      case g_MOST_COLUMNS => k_is
    refine' K43.all_mk KX G hmg Z Gc (Lk.ca_mk ?aKind0 ?aKind1 ?aKind2 ?aKind3 ?aKind4 ?aKind5 ?aKind6 ?aKind7 ?aKind8 ?aKind9 ?aKind10 ?aKind11 ?aKind12 ?aKind13 ?aKind14 ?aKind15 ?aKind16 ?aKind17 ?aKind18 ?aKind19 ?aKind20 ?aKind21 ?aKind22 ?aKind23 ?aKind24 ?aKind25 ?aKind26) ?nKind_many ?nKind_rest ?nKind_bounds ?nKind_prices (Lk.pr_mk ?mKind_many0 ?mKind_many1 ?mKind_many2 ?mKind_many3 ?mKind_many4 ?mKind_many5 ?mKind_many6) (Lk.pr_mk ?mKind_rest0 ?mKind_rest1 ?mKind_rest2 ?mKind_rest3 ?mKind_rest4 ?mKind_rest5 ?mKind_rest6) (Lk.pr_mk ?mKind_columns0 ?mKind_columns1 ?mKind_columns2 ?mKind_columns3 ?mKind_columns4 ?mKind_columns5 ?mKind_columns6) (Lk.me_mk ?mKind_bounds0 ?mKind_bounds1 ?mKind_bounds2 ?mKind_bounds3 ?mKind_bounds4) (Lk.me_mk ?mKind_eq0 ?mKind_eq1 ?mKind_eq2 ?mKind_eq3 ?mKind_eq4) (Lk.me_mk ?mKind_repr0 ?mKind_repr1 ?mKind_repr2 ?mKind_repr3 ?mKind_repr4) (Lk.me_mk ?mKind_prices0 ?mKind_prices1 ?mKind_prices2 ?mKind_prices3 ?mKind_prices4) (Lk.me_mk ?mKind_init0 ?mKind_init1 ?mKind_init2 ?mKind_init3 ?mKind_init4) (Lk.me_mk ?mKind_with_many0 ?mKind_with_many1 ?mKind_with_many2 ?mKind_with_many3 ?mKind_with_many4) (Lk.df_mk ?a_is_integer ?l_is_integer ?c_is_integer ?k_is_integer) (Lk.df_mk ?a_is_list ?l_is_list ?c_is_list ?k_is_list) (Lk.df_mk ?a_is_rising ?l_is_rising ?c_is_rising ?k_is_rising) (Lk.df_mk ?a_told_price ?l_told_price ?c_told_price ?k_told_price) (Lk.df_mk ?a_cost_at ?l_cost_at ?c_cost_at ?k_cost_at) (Lk.df_mk ?a_pot_ ?l_pot_ ?c_pot_ ?k_pot_) (Lk.df_mk ?a_draw_ ?l_draw_ ?c_draw_ ?k_draw_) (Lk.df_mk ?a_text_ ?l_text_ ?c_text_ ?k_text_) (Lk.df_mk ?a_is_count ?l_is_count ?c_is_count ?k_is_count) (Lk.df_mk ?a_is_bend ?l_is_bend ?c_is_bend ?k_is_bend) (Lk.df_mk ?a_is_bound ?l_is_bound ?c_is_bound ?k_is_bound) (Lk.df_mk ?a_pick_ ?l_pick_ ?c_pick_ ?k_pick_) (Lk.df_mk ?a_mixed_ ?l_mixed_ ?c_mixed_ ?k_mixed_) (Lk.df_mk ?a_others_ ?l_others_ ?c_others_ ?k_others_) (Lk.df_mk ?a_is_price ?l_is_price ?c_is_price ?k_is_price) (Lk.df_mk ?a_are_bounds ?l_are_bounds ?c_are_bounds ?k_are_bounds) (Lk.df_mk ?a_price_ ?l_price_ ?c_price_ ?k_price_) (Lk.df_mk ?a_check_price ?l_check_price ?c_check_price ?k_check_price) (Lk.df_mk ?a_parts_ ?l_parts_ ?c_parts_ ?k_parts_) (Lk.df_mk ?a_is_ ?l_is_ ?c_is_ ?k_is_) (Lk.df_mk ?a_price_at ?l_price_at ?c_price_at ?k_price_at) (Lk.df_mk ?a_plus_prices ?l_plus_prices ?c_plus_prices ?k_plus_prices) (Lk.df_mk ?a_right_ ?l_right_ ?c_right_ ?k_right_) (Lk.df_mk ?a_law ?l_law ?c_law ?k_law)
    (case aKind0 => k_is)
    (case aKind1 => k_is)
    (case aKind2 => k_is)
    (case aKind3 => k_is)
    (case aKind4 => k_is)
    (case aKind5 => k_is)
    (case aKind6 => k_is)
    (case aKind7 => k_is)
    (case aKind8 => k_is)
    (case aKind9 => kit_is)
    (case aKind10 => kit_is)
    (case aKind11 => kit_is)
    (case aKind12 => kit_is)
    (case aKind13 => kit_is)
    (case aKind14 => kit_is)
    (case aKind15 => kit_is)
    (case aKind16 => kit_is)
    (case aKind17 => k_is)
    (case aKind18 => k_is)
    (case aKind19 => k_is)
    (case aKind20 => k_is)
    (case aKind21 => k_is)
    (case aKind22 => k_is)
    (case aKind23 => k_is)
    (case aKind24 => k_is)
    (case aKind25 => k_is)
    (case aKind26 => k_is)
    (case nKind_many => (refine (show PySem.W.findIn _ _ _ = some none from ?_); k_is))
    (case nKind_rest => (refine (show PySem.W.findIn _ _ _ = some none from ?_); k_is))
    (case nKind_bounds => (refine (show PySem.W.findIn _ _ _ = some none from ?_); k_is))
    (case nKind_prices => (refine (show PySem.W.findIn _ _ _ = some none from ?_); k_is))
    (case mKind_many0 => k_is)
    (case mKind_many1 => k_is)
    (case mKind_many2 => k_is)
    (case mKind_many3 => k_is)
    (case mKind_many4 => k_is)
    (case mKind_many5 => k_is)
    (case mKind_many6 => k_is)
    (case mKind_rest0 => k_is)
    (case mKind_rest1 => k_is)
    (case mKind_rest2 => k_is)
    (case mKind_rest3 => k_is)
    (case mKind_rest4 => k_is)
    (case mKind_rest5 => k_is)
    (case mKind_rest6 => k_is)
    (case mKind_columns0 => k_is)
    (case mKind_columns1 => k_is)
    (case mKind_columns2 => k_is)
    (case mKind_columns3 => k_is)
    (case mKind_columns4 => k_is)
    (case mKind_columns5 => k_is)
    (case mKind_columns6 => k_is)
    (case mKind_bounds0 => k_is)
    (case mKind_bounds1 => k_is)
    (case mKind_bounds2 => k_is)
    (case mKind_bounds3 => k_is)
    (case mKind_bounds4 => k_is)
    (case mKind_eq0 => k_is)
    (case mKind_eq1 => k_is)
    (case mKind_eq2 => k_is)
    (case mKind_eq3 => k_is)
    (case mKind_eq4 => k_is)
    (case mKind_repr0 => k_is)
    (case mKind_repr1 => k_is)
    (case mKind_repr2 => k_is)
    (case mKind_repr3 => k_is)
    (case mKind_repr4 => k_is)
    (case mKind_prices0 => k_is)
    (case mKind_prices1 => k_is)
    (case mKind_prices2 => k_is)
    (case mKind_prices3 => k_is)
    (case mKind_prices4 => k_is)
    (case mKind_init0 => k_is)
    (case mKind_init1 => k_is)
    (case mKind_init2 => k_is)
    (case mKind_init3 => k_is)
    (case mKind_init4 => k_is)
    (case mKind_with_many0 => k_is)
    (case mKind_with_many1 => k_is)
    (case mKind_with_many2 => k_is)
    (case mKind_with_many3 => k_is)
    (case mKind_with_many4 => k_is)
    (case a_is_integer => k_is); (case l_is_integer => k_is); (case c_is_integer => k_is); (case k_is_integer => k_is)
    (case a_is_list => k_is); (case l_is_list => k_is); (case c_is_list => k_is); (case k_is_list => k_is)
    (case a_is_rising => k_is); (case l_is_rising => k_is); (case c_is_rising => k_is); (case k_is_rising => k_is)
    (case a_told_price => k_is); (case l_told_price => k_is); (case c_told_price => k_is); (case k_told_price => k_is)
    (case a_cost_at => k_is); (case l_cost_at => k_is); (case c_cost_at => k_is); (case k_cost_at => k_is)
    (case a_pot_ => k_is); (case l_pot_ => k_is); (case c_pot_ => k_is); (case k_pot_ => k_is)
    (case a_draw_ => k_is); (case l_draw_ => k_is); (case c_draw_ => k_is); (case k_draw_ => k_is)
    (case a_text_ => k_is); (case l_text_ => k_is); (case c_text_ => k_is); (case k_text_ => k_is)
    (case a_is_count => k_is); (case l_is_count => k_is); (case c_is_count => k_is); (case k_is_count => k_is)
    (case a_is_bend => k_is); (case l_is_bend => k_is); (case c_is_bend => k_is); (case k_is_bend => k_is)
    (case a_is_bound => k_is); (case l_is_bound => k_is); (case c_is_bound => k_is); (case k_is_bound => k_is)
    (case a_pick_ => k_is); (case l_pick_ => k_is); (case c_pick_ => k_is); (case k_pick_ => k_is)
    (case a_mixed_ => k_is); (case l_mixed_ => k_is); (case c_mixed_ => k_is); (case k_mixed_ => k_is)
    (case a_others_ => k_is); (case l_others_ => k_is); (case c_others_ => k_is); (case k_others_ => k_is)
    (case a_is_price => k_is); (case l_is_price => k_is); (case c_is_price => k_is); (case k_is_price => k_is)
    (case a_are_bounds => k_is); (case l_are_bounds => k_is); (case c_are_bounds => k_is); (case k_are_bounds => k_is)
    (case a_price_ => k_is); (case l_price_ => k_is); (case c_price_ => k_is); (case k_price_ => k_is)
    (case a_check_price => k_is); (case l_check_price => k_is); (case c_check_price => k_is); (case k_check_price => k_is)
    (case a_parts_ => k_is); (case l_parts_ => k_is); (case c_parts_ => k_is); (case k_parts_ => k_is)
    (case a_is_ => k_is); (case l_is_ => k_is); (case c_is_ => k_is); (case k_is_ => k_is)
    (case a_price_at => k_is); (case l_price_at => k_is); (case c_price_at => k_is); (case k_price_at => k_is)
    (case a_plus_prices => k_is); (case l_plus_prices => k_is); (case c_plus_prices => k_is); (case k_plus_prices => k_is)
    (case a_right_ => k_is); (case l_right_ => k_is); (case c_right_ => k_is); (case k_right_ => k_is)
    (case a_law => k_is); (case l_law => k_is); (case c_law => k_is); (case k_law => k_is)
